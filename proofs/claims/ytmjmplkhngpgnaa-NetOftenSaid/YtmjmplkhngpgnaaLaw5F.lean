/- The walk of NetOften. -/
import Derived.Test.YtmjmplkhngpgnaaOften
namespace Go.Proofs.Ytmjmplkhngpgnaa
open Go.RowKit
set_option linter.unusedVariables false
set_option linter.unusedSimpArgs false

set_option maxRecDepth 100000 in
set_option maxHeartbeats 8000000 in
theorem netOften_walk (lim : Int) (A : Option Addr) (n cap : Nat) (ls : List (List Int)) (w : World) (hn : ls.length = n) (hall : ∀ l ∈ ls, l.length = 30) (hwf : ∀ l ∈ ls, ∀ y ∈ l, (Lit.int .i64 y).wf = true)
    (hr : Reads w w.heap.size 30 A n (ints ls.flatten)) :
    Calls Try.prog 5 #[.int .i64 lim, .slice A n cap] w fun e w' => e = .returned (.bool true) ∧ Below w.heap.size w w' := by
  have HR := Lib.hid hr
  have HN := Lib.hid hn
  have HALL := Lib.hid hall
  have HWF := Lib.hid hwf
  have hmm := @run_makeMap Try.prog
  have hn0 := fun W => run_eql_nil_nil (P := Try.prog) W 33 Try.underlying33
  clear hr hn hall hwf
  by_cases hbig : 200 < n
  · have d1 : decide ((200 : Int) < (n : Int)) = true := by simp; omega
    have d2 : decide (200 < n) = true := by simp; omega
    go_enter Try.func5, Try.ntmps5
    go_wp2_with fail
    refine (netAlive _).mono ?_
    rintro e w1 ⟨rfl, hb1⟩
    have B1 := Lib.hid hb1
    clear hb1
    go_wp2_with fail
    go_ret
    exact ⟨rfl, B1.out⟩
  · have d1 : decide ((200 : Int) < (n : Int)) = false := by simp; omega
    have d2 : decide (200 < n) = false := by simp; omega
    by_cases hlim : lim < 1 ∨ 65536 < lim
    · have HLM := Lib.hid hlim
      by_cases hl1 : lim < 1
      · have l1 : decide (lim < 1) = true := by simpa using hl1
        clear hlim
        go_enter Try.func5, Try.ntmps5
        go_wp2_with fail
        refine (netAlive _).mono ?_
        rintro e w1 ⟨rfl, hb1⟩
        have B1 := Lib.hid hb1
        clear hb1
        go_wp2_with fail
        refine (new_bad lim HLM.out _).mono ?_
        rintro e w2 ⟨rfl, hww⟩
        obtain rfl := hww.symm
        go_wp2_with fail
        go_ret
        exact ⟨rfl, B1.out⟩
      · have l1 : decide (lim < 1) = false := by simpa using hl1
        have l2 : decide (65536 < lim) = true := by simp; omega
        clear hlim
        go_enter Try.func5, Try.ntmps5
        go_wp2_with fail
        refine (netAlive _).mono ?_
        rintro e w1 ⟨rfl, hb1⟩
        have B1 := Lib.hid hb1
        clear hb1
        go_wp2_with fail
        refine (new_bad lim HLM.out _).mono ?_
        rintro e w2 ⟨rfl, hww⟩
        obtain rfl := hww.symm
        go_wp2_with fail
        go_ret
        exact ⟨rfl, B1.out⟩
    · have l1 : decide (lim < 1) = false := by simp; omega
      have l2 : decide (65536 < lim) = false := by simp; omega
      have HLM := Lib.hid (show 1 ≤ lim ∧ lim ≤ 65536 by omega)
      clear hlim
      go_enter Try.func5, Try.ntmps5
      go_wp2_with fail
      refine (netAlive _).mono ?_
      rintro e w1 ⟨rfl, hb1⟩
      have B1 := Lib.hid hb1
      clear hb1
      go_wp2_with fail
      refine (new_ok lim HLM.out _).mono ?_
      rintro e w2 ⟨rfl, hn2, hb2⟩
      have N2 := Lib.hid (hn2.low B1.out.size)
      have B2 := Lib.hid (stepB B1.out hb2)
      clear hn2 hb2
      generalize w1.heap.size = g at N2 ⊢
      go_upto_region 9 with fail
      have I3 := Lib.hid ((MapM.made w2).step (Joins.below_alloc1 _ (.map #[] 0)))
      have O3 := Lib.hid (MapM.made (w2.alloc (.map #[] 0)))
      have hb3 : Below w2.heap.size w2 ((w2.alloc (.map #[] 0)).alloc (.map #[] 0)) := stepA (stepA (Below.refl _ _) _) _
      have N3 := Lib.hid (N2.out.step hb3)
      have B3 := Lib.hid (stepB B2.out hb3)
      have hio : w2.heap.size ≠ (w2.alloc (.map #[] 0)).heap.size := Nat.ne_of_lt (MapM.made w2).lt
      clear hb3
      have hbi : w.heap.size ≤ w2.heap.size := B2.out.size
      have hbo : w.heap.size ≤ (w2.alloc (.map #[] 0)).heap.size := Nat.le_trans hbi (Nat.le_of_lt (MapM.made w2).lt)
      have hsz : (w2.alloc (.map #[] 0)).heap.size = w2.heap.size + 1 := by first | exact Array.size_push _ | rfl
      rw [hsz] at O3 hio hbo
      clear hsz
      generalize w2.heap.size + 1 = bo at O3 hio hbo ⊢
      generalize w2.heap.size = bi at I3 hio hbi ⊢
      generalize World.alloc (World.alloc _ _) _ = W3 at N3 B3 I3 O3 ⊢
      go_wp2_with fail
      go_loopw [9, 10, 11, 12, 13] (fun i _ _ _ _ W => ∃ (k : Nat) (ms : List (List Int)) (r : Option Nat) (ni no : Nat) (fin fout : List Int → Int), k ≤ n ∧ i = .int .i64 k ∧ Net W w.heap.size g r lim ms ∧ MapM W bi ni fin ∧ MapM W bo no fout ∧ Bal fin fout ms k ∧ Below w.heap.size w W) (fun i _ _ _ _ _ => n - (intOf i).toNat)
      case atStart => exact ⟨0, [], none, 0, 0, _, _, Nat.zero_le _, rfl, N3.out, I3.out, O3.out, Bal.start, B3.out⟩
      case round =>
        obtain ⟨k, ms, r, ni, no, fin, fout, hk, rfl, hnk, hik, hok, hbal, hbk⟩ := hrel
        rename World => W
        have NK := Lib.hid hnk
        have IK := Lib.hid hik
        have OK := Lib.hid hok
        have BL := Lib.hid hbal
        have BK := Lib.hid hbk
        have hsl := hnk.small
        have HAM := Lib.hid hnk.all
        clear hnk hik hok hbal hbk
        by_cases hlt : k < n
        · obtain ⟨b, off, rfl, hbb, hcell, hlen⟩ := HR.out.flat_at HALL.out HN.out (by omega) hlt
          have HC := Lib.hid (fun X (hX : Below w.heap.size w X) j (hj : j < 30) => ((hX.cell (p := ⟨b, off + k * 30 + j, none⟩) hbb).trans (hcell j hj)))
          have HLN := Lib.hid hlen
          have HKW := Lib.hid (getD_wf HWF.out (i := k) (j := 1))
          have HAW := Lib.hid (fun j => getD_wf HWF.out (i := k) (j := j))
          have HAI := Lib.hid (show (Try.prog.info? 49).map (·.size) = some (ints (ls.getD k [])).length from by rw [ints_length, hlen]; kernel_rfl)
          have HCW := Lib.hid (fun X (hX : Below w.heap.size w X) => cells_whole (w := X) hlen (HC.out X hX))
          clear hcell hlen
          generalize ls.getD k [] = a at HC HLN HKW HCW HAI HAW
          go_wp2_with fail
          refine (nall_any _ NK.out).mono ?_
          rintro e w4 ⟨rfl, hk4, hb4⟩
          have L4 := Lib.hid hk4
          have N4 := Lib.hid (NK.out.step hb4)
          have I4 := Lib.hid (IK.out.step hb4)
          have O4 := Lib.hid (OK.out.step hb4)
          have B4 := Lib.hid (stepB BK.out hb4)
          clear hk4 hb4
          generalize W.heap.size = la at L4 ⊢
          go_wp2_with (refine wpList_load_cells rfl 49 (.tmp 54) rfl ⟨b, off + k * 30, none⟩ rfl (ints a) _ (HCW.out _ B4.out) Try.underlying49 rfl HAI.out ?_)
          refine (act_any _ N4.out HLN.out HKW.out).mono ?_
          rintro e w5 ⟨rfl, r5, hn5, ht5, _⟩
          have N5 := Lib.hid hn5
          have I5 := Lib.hid (I4.out.byNet N4.out ht5)
          have O5 := Lib.hid (O4.out.byNet N4.out ht5)
          have L5 := Lib.hid (N4.out.kept ht5 L4.out (by decide) (by decide))
          have B5 := Lib.hid (B4.out.trans (N4.out.below_of ht5))
          clear hn5 ht5
          have HQL := Lib.hid (doM_length HAM.out a)
          generalize hq0 : doM ms a = q at HQL
          have HQ := Lib.hid hq0
          clear hq0
          have HQI := Lib.hid (mc_info HQL.out)
          have Z5 := Lib.hid (Blk.new w5 31 (mc zM))
          rw [mc_zero] at Z5
          go_upto_region 14 with (refine wpList_store_mid (by rfl) 31 (.tmp 11) (.tmp 57) (by rfl) w5.heap.size 0 (mc q) (by rfl) (by rfl) (mc_there zM_length HQL.out Z5.out) HQI.out (ints_oneCell _) ?_)
          have hb6 : Below w5.heap.size w5 ((w5.alloc (.cells (mc zM) 31)).setCells w5.heap.size 0 (mc q).toList) := Below.setCells (Nat.le_refl _) _ _ _ (stepA (Below.refl _ _) _)
          have N6 := Lib.hid (N5.out.step hb6)
          have I6 := Lib.hid (I5.out.step hb6)
          have O6 := Lib.hid (O5.out.step hb6)
          have L6 := Lib.hid (L5.out.here hb6)
          have B6 := Lib.hid (stepB B5.out hb6)
          have Q6 := Lib.hid (mc_put zM_length HQL.out Z5.out)
          clear hb6
          rw [mc_zero] at N6 I6 O6 L6 B6
          generalize World.setCells _ _ _ _ = W6 at N6 I6 O6 L6 B6 Q6 ⊢
          generalize w5.heap.size = pm at Q6 ⊢
          have c0 : W6.cell? ⟨b, off + k * 30, none⟩ = some (.int .i64 (fld a 0)) := HC.out W6 B6.out 0 (by omega)
          by_cases hcd : doC lim ms a = 0
          · rw [hcd]
            have HCD := Lib.hid hcd
            clear hcd
            by_cases k0 : fld a 0 = 0
            · have e0 : (fld a 0 == 0) = true := by rw [k0]; rfl
              have HMS := Lib.hid (often_send k0 HCD.out)
              clear k0
              have HDL := Lib.hid (show (a.drop 2).length = 28 by simp [HLN.out])
              have HDW := Lib.hid (show Word28 (a.drop 2) from ⟨HDL.out, fun y hy => by
                obtain ⟨j, hj⟩ := List.getElem?_of_mem (List.mem_of_mem_drop hy)
                have := HAW.out j
                unfold fld at this
                rwa [List.getD_eq_getElem?_getD, hj] at this⟩)
              have HDI := Lib.hid (show (Try.prog.info? 31).map (·.size) = some (ints (a.drop 2)).length from by have := mc_info HDL.out; simpa [mc] using this)
              have HDC := Lib.hid (fun X (hX : Below w.heap.size w X) => cells_whole (w := X) (b := b) (off := off + k * 30 + 2) HDL.out (fun j hj => by
                have := HC.out X hX (2 + j) (by omega)
                rw [show off + k * 30 + 2 + j = off + k * 30 + (2 + j) by omega, this]
                simp [fld, List.getD, List.getElem?_drop]))
              have HDR := Lib.hid (fun X (hX : Below w.heap.size w X) => show (loadVar 31 ⟨b, off + k * 30 + 2, none⟩).run Try.prog X = .ok (.agg (mc (a.drop 2))) X from run_loadVar_cells X _ _ (ints (a.drop 2)) _ (HDC.out X hX) Try.underlying31 rfl HDI.out)
              generalize hd0 : a.drop 2 = d at HDL HDW HDI HDR HMS
              clear HDC hd0
              have hin := BL.out.fin_in d
              have t1 : IntKind.i64.wrap (fin d + 1) = fin d + 1 := IntWalk.i64_in _ (by omega)
              have BL7 := Lib.hid (BL.out.put HDW.out)
              clear hin
              go_wp2_with fail
              refine wp_region_till 10 (fun w' => (∃ n', MapM w' bi n' fin) ∧ Turn (fun k => k = bi) W6.drew w') (by kernel_rfl) ⟨⟨_, I6.out.kept rfl⟩, Turn.refl _ _⟩ (fun hHeld => ?_)
              have hbelow := Lib.hid (fun X (hX : Turn (fun k => k = bi) W6.drew X) => show Below w.heap.size w X from (Below.drew B6.out).trans (hX.below (fun k hk e => by omega) B6.out.size))
              have I7 := Lib.hid (show MapM W6.drew bi ni fin from I6.out.kept rfl)
              have O7 := Lib.hid (show MapM W6.drew bo no fout from O6.out.kept rfl)
              have N7 := Lib.hid (N6.out.step (Below.drew (Below.refl _ _)))
              rw [HMS.out] at N7
              generalize W6.drew = V at N7 I7 O7 hbelow hHeld ⊢
              have k3' : decide ((k : Int) < (n : Int)) = true := by simp; omega
              refine wpTill_take (i := 0) (v := ?_) rfl (by kernel_rfl) (by kernel_rfl) (by kernel_rfl) (by kernel_rfl) (fun _ _ _ h => h) (Or.inl ⟨by rfl, ?_⟩) (by assumption) ?_
              rotate_left
              · (intro w0 hSw; (try dsimp only at hSw); go_simp; try with_reducible rfl)
              try simp only [List.getElem_toArray, List.getElem_cons_succ, List.getElem_cons_zero, Act.put, List.setIfInBounds_toArray, List.set_cons_zero, List.set_cons_succ]
              refine wpTill_take (i := 1) (v := ?_) rfl (by kernel_rfl) (by kernel_rfl) (by kernel_rfl) (by kernel_rfl) (fun _ _ _ h => h) (Or.inl ⟨by rfl, ?_⟩) (by assumption) ?_
              rotate_left
              · (intro w0 hSw; (try dsimp only at hSw); go_simp; try with_reducible rfl)
              try simp only [List.getElem_toArray, List.getElem_cons_succ, List.getElem_cons_zero, Act.put, List.setIfInBounds_toArray, List.set_cons_zero, List.set_cons_succ]
              refine wpTill_take (i := 2) (v := ?_) rfl (by kernel_rfl) (by kernel_rfl) (by kernel_rfl) (by kernel_rfl) (fun _ _ _ h => h) (Or.inl ⟨by rfl, ?_⟩) (by assumption) ?_
              rotate_left
              · (intro w0 hSw; (try dsimp only at hSw); go_simp; try with_reducible rfl)
              try simp only [List.getElem_toArray, List.getElem_cons_succ, List.getElem_cons_zero, Act.put, List.setIfInBounds_toArray, List.set_cons_zero, List.set_cons_succ]
              refine wpTill_take (i := 3) (v := ?_) rfl (by kernel_rfl) (by kernel_rfl) (by kernel_rfl) (by kernel_rfl) (fun _ _ _ h => h) (Or.inl ⟨by rfl, ?_⟩) (by assumption) ?_
              rotate_left
              · (intro w0 hSw; (try dsimp only at hSw); go_simp; try with_reducible rfl)
              try simp only [List.getElem_toArray, List.getElem_cons_succ, List.getElem_cons_zero, Act.put, List.setIfInBounds_toArray, List.set_cons_zero, List.set_cons_succ]
              refine wpTill_take (i := 4) (v := ?_) rfl (by kernel_rfl) (by kernel_rfl) (by kernel_rfl) (by kernel_rfl) (fun _ _ _ h => h) (Or.inl ⟨by rfl, ?_⟩) (by assumption) ?_
              rotate_left
              · (intro w0 hSw; (try dsimp only at hSw); go_simp; try with_reducible rfl)
              try simp only [List.getElem_toArray, List.getElem_cons_succ, List.getElem_cons_zero, Act.put, List.setIfInBounds_toArray, List.set_cons_zero, List.set_cons_succ]
              refine wpTill_take (i := 5) (v := .agg (mc d)) rfl (by kernel_rfl) (by kernel_rfl) (by kernel_rfl) (by kernel_rfl) (fun _ _ _ h => h) (Or.inl ⟨by rfl, fun w0 hSw => exec_load (x := .tmp 72) rfl (ad := ⟨b, off + k * 30 + 2, none⟩) rfl (HDR.out _ (hbelow.out _ hSw.2))⟩) (by assumption) ?_
              try simp only [List.getElem_toArray, List.getElem_cons_succ, List.getElem_cons_zero, Act.put, List.setIfInBounds_toArray, List.set_cons_zero, List.set_cons_succ]
              refine wpTill_take (i := 6) (v := .int .i64 (fin d)) rfl (by kernel_rfl) (by kernel_rfl) (by kernel_rfl) (by kernel_rfl) (fun _ _ _ h => h) (Or.inl ⟨by rfl, fun w0 hSw => exec_lookup (m := .tmp 68) (x := .tmp 73) rfl rfl rfl (hSw.1.choose_spec.lookup HDW.out)⟩) (by assumption) ?_
              try simp only [List.getElem_toArray, List.getElem_cons_succ, List.getElem_cons_zero, Act.put, List.setIfInBounds_toArray, List.set_cons_zero, List.set_cons_succ]
              refine wpTill_take (i := 7) (v := ?_) rfl (by kernel_rfl) (by kernel_rfl) (by kernel_rfl) (by kernel_rfl) (fun _ _ _ h => h) (Or.inl ⟨by rfl, ?_⟩) (by assumption) ?_
              rotate_left
              · (intro w0 hSw; (try dsimp only at hSw); go_simp; try with_reducible rfl)
              try simp only [List.getElem_toArray, List.getElem_cons_succ, List.getElem_cons_zero, Act.put, List.setIfInBounds_toArray, List.set_cons_zero, List.set_cons_succ]
              refine wpTill_ready (rs := [8]) (by kernel_rfl) (by simp) ?_
              refine AllTill.cons rfl (fun K hK => ?_) AllTill.nil
              refine step_entry (mo := .tmp 68) (xo := .tmp 73) rfl I7.out HDW.out rfl rfl ?_
              intro X8 j8 hm8 hs8 hg8
              have I8 := Lib.hid hm8
              have S8 := Lib.hid hs8
              have T8 := Lib.hid (turn_grown hg8)
              clear hm8 hs8 hg8
              refine hK.out _ _ ⟨⟨_, I8.out⟩, T8.out⟩ (fun hHeld => ?_)
              clear hK K
              refine wpTill_take (i := 9) (v := ?_) rfl (by kernel_rfl) (by kernel_rfl) (by kernel_rfl) (by kernel_rfl) (fun _ _ _ h => h) (Or.inl ⟨by rfl, ?_⟩) (by assumption) ?_
              rotate_left
              · (intro w0 hSw; (try dsimp only at hSw); go_simp; try with_reducible rfl)
              try simp only [List.getElem_toArray, List.getElem_cons_succ, List.getElem_cons_zero, Act.put, List.setIfInBounds_toArray, List.set_cons_zero, List.set_cons_succ]
              refine wpTill_ready (rs := [10]) (by kernel_rfl) (by simp) ?_
              refine AllTill.last rfl (of_decide_eq_true (by kernel_rfl)) (fun K hK => ?_)
              refine step_entryStore (mo := .tmp 68) (so := .tmp 77) (vo := .tmp 75) rfl I8.out S8.out rfl rfl rfl ?_
              intro X9 hm9 hg9
              have I9 := Lib.hid hm9
              have T9 := Lib.hid (T8.out.grown hg9 fun k hk _ => by cases hk; rfl)
              clear hm9 hg9
              refine hK.out _ _ ?_
              clear hK K hHeld
              refine wpTill_done (by kernel_rfl) ?_ _
              have N9 := Lib.hid (N7.out.byMap I7.out T9.out)
              have O9 := Lib.hid (O7.out.turn T9.out (Ne.symm hio))
              have B9 := Lib.hid (hbelow.out _ T9.out)
              go_wp2_with fail
              go_roundw
              case rel => exact ⟨k + 1, _, r5, _, no, _, fout, by omega, by go_num, N9.out, I9.out, O9.out, BL7.out, B9.out⟩
              case measure => simp [intOf]; omega
            · have e0 : (fld a 0 == 0) = false := by rw [beq_eq_false_iff_ne]; exact k0
              by_cases k1 : fld a 0 = 1
              · have e1 : (fld a 0 == 1) = true := by rw [k1]; rfl
                have HO := Lib.hid (often_dlv k1 HCD.out)
                clear k0 k1
                have hq1 : q = dlvM ms (fld a 1) := HQ.out.symm.trans HO.out.2.1
                have HT := Lib.hid (BL.out.tell HO.out.1 (fld a 1))
                have N6' := Lib.hid (show Net W6 w.heap.size g r5 lim (dlvMs ms (fld a 1)) by have := N6.out; rwa [HO.out.2.2] at this)
                rw [← hq1] at HT
                have HQW := Lib.hid (show Word28 q by rw [hq1]; exact BL.out.all _ (Bal.dlv_mem HO.out.1 _))
                have hin := BL.out.fin_in q
                have hout := BL.out.fout_in q
                have t1 : IntKind.i64.wrap (fout q + 1) = fout q + 1 := IntWalk.i64_in _ (by omega)
                have t2 : decide (fin q < fout q + 1) = false := by have := HT.out.2; simp; omega
                clear hin hout hq1 HQ HO N6
                go_wp2_with fail
                refine wp_region_till 6 (fun w' => (∃ n', MapM w' bo n' fout) ∧ Turn (fun k => k = bo) W6.drew w') (by kernel_rfl) ⟨⟨_, O6.out.kept rfl⟩, Turn.refl _ _⟩ (fun hHeld => ?_)
                have hbelow := Lib.hid (fun X (hX : Turn (fun k => k = bo) W6.drew X) => show Below w.heap.size w X from (Below.drew B6.out).trans (hX.below (fun k hk e => by omega) B6.out.size))
                have I7 := Lib.hid (show MapM W6.drew bi ni fin from I6.out.kept rfl)
                have O7 := Lib.hid (show MapM W6.drew bo no fout from O6.out.kept rfl)
                have N7 := Lib.hid (N6'.out.step (Below.drew (Below.refl _ _)))
                have Q7 := Lib.hid Q6.out.drew
                have hpo := O7.out.ne Q7.out
                have HLQ := Lib.hid (fun X (hX : Turn (fun k => k = bo) W6.drew X) => loadM HQL.out (Q7.out.turn hX (fun e => hpo e.symm)))
                generalize W6.drew = V at N7 I7 O7 Q7 HLQ hbelow hHeld ⊢
                refine wpTill_take (i := 0) (v := ?_) rfl (by kernel_rfl) (by kernel_rfl) (by kernel_rfl) (by kernel_rfl) (fun _ _ _ h => h) (Or.inl ⟨by rfl, ?_⟩) (by assumption) ?_
                rotate_left
                · (intro w0 hSw; (try dsimp only at hSw); go_simp; try with_reducible rfl)
                try simp only [List.getElem_toArray, List.getElem_cons_succ, List.getElem_cons_zero, Act.put, List.setIfInBounds_toArray, List.set_cons_zero, List.set_cons_succ]
                refine wpTill_take (i := 1) (v := .agg (mc q)) rfl (by kernel_rfl) (by kernel_rfl) (by kernel_rfl) (by kernel_rfl) (fun _ _ _ h => h) (Or.inl ⟨by rfl, fun w0 hSw => exec_load (x := .tmp 11) rfl (ad := ⟨pm, 0, none⟩) rfl (HLQ.out _ hSw.2)⟩) (by assumption) ?_
                try simp only [List.getElem_toArray, List.getElem_cons_succ, List.getElem_cons_zero, Act.put, List.setIfInBounds_toArray, List.set_cons_zero, List.set_cons_succ]
                refine wpTill_take (i := 2) (v := .int .i64 (fout q)) rfl (by kernel_rfl) (by kernel_rfl) (by kernel_rfl) (by kernel_rfl) (fun _ _ _ h => h) (Or.inl ⟨by rfl, fun w0 hSw => exec_lookup (m := .tmp 80) (x := .tmp 81) rfl rfl rfl (hSw.1.choose_spec.lookup HQW.out)⟩) (by assumption) ?_
                try simp only [List.getElem_toArray, List.getElem_cons_succ, List.getElem_cons_zero, Act.put, List.setIfInBounds_toArray, List.set_cons_zero, List.set_cons_succ]
                refine wpTill_take (i := 3) (v := ?_) rfl (by kernel_rfl) (by kernel_rfl) (by kernel_rfl) (by kernel_rfl) (fun _ _ _ h => h) (Or.inl ⟨by rfl, ?_⟩) (by assumption) ?_
                rotate_left
                · (intro w0 hSw; (try dsimp only at hSw); go_simp; try with_reducible rfl)
                try simp only [List.getElem_toArray, List.getElem_cons_succ, List.getElem_cons_zero, Act.put, List.setIfInBounds_toArray, List.set_cons_zero, List.set_cons_succ]
                refine wpTill_ready (rs := [4]) (by kernel_rfl) (by simp) ?_
                refine AllTill.cons rfl (fun K hK => ?_) AllTill.nil
                refine step_entry (mo := .tmp 80) (xo := .tmp 81) rfl O7.out HQW.out rfl rfl ?_
                intro X8 j8 hm8 hs8 hg8
                have O8 := Lib.hid hm8
                have S8 := Lib.hid hs8
                have T8 := Lib.hid (turn_grown hg8)
                clear hm8 hs8 hg8
                refine hK.out _ _ ⟨⟨_, O8.out⟩, T8.out⟩ (fun hHeld => ?_)
                clear hK K
                refine wpTill_take (i := 5) (v := ?_) rfl (by kernel_rfl) (by kernel_rfl) (by kernel_rfl) (by kernel_rfl) (fun _ _ _ h => h) (Or.inl ⟨by rfl, ?_⟩) (by assumption) ?_
                rotate_left
                · (intro w0 hSw; (try dsimp only at hSw); go_simp; try with_reducible rfl)
                try simp only [List.getElem_toArray, List.getElem_cons_succ, List.getElem_cons_zero, Act.put, List.setIfInBounds_toArray, List.set_cons_zero, List.set_cons_succ]
                refine wpTill_ready (rs := [6]) (by kernel_rfl) (by simp) ?_
                refine AllTill.last rfl (of_decide_eq_true (by kernel_rfl)) (fun K hK => ?_)
                refine step_entryStore (mo := .tmp 80) (so := .tmp 85) (vo := .tmp 83) rfl O8.out S8.out rfl rfl rfl ?_
                intro X9 hm9 hg9
                have O9 := Lib.hid hm9
                have T9 := Lib.hid (T8.out.grown hg9 fun k hk _ => by cases hk; rfl)
                clear hm9 hg9
                refine hK.out _ _ ?_
                clear hK K hHeld
                refine wpTill_done (by kernel_rfl) ?_ _
                have N9 := Lib.hid (N7.out.byMap O7.out T9.out)
                have I9 := Lib.hid (I7.out.turn T9.out hio)
                have B9 := Lib.hid (hbelow.out _ T9.out)
                have Q9 := Lib.hid (Q7.out.turn T9.out (fun e => hpo e.symm))
                go_wp2_with fail
                refine wp_region_held_drew (S := fun w' => w' = X9.drew) (by kernel_rfl) rfl (fun hHeld => ?_)
                have N10 := Lib.hid (N9.out.step (Below.drew (Below.refl _ _)))
                have I10 := Lib.hid (show MapM X9.drew bi ni fin from I9.out.kept rfl)
                have O10 := Lib.hid (show MapM X9.drew bo _ _ from O9.out.kept rfl)
                have B10 := Lib.hid (Below.drew B9.out)
                have LQ := Lib.hid (loadM HQL.out Q9.out.drew)
                have LI := Lib.hid (I10.out.lookup HQW.out)
                have LO := Lib.hid (O10.out.lookup HQW.out)
                have t3 : (if q = q then fout q + 1 else fout q) = fout q + 1 := if_pos rfl
                rw [t3] at LO
                generalize X9.drew = V1 at N10 I10 O10 B10 LQ LI LO hHeld ⊢
                refine wpAnyH_take (i := 0) (v := ?_) rfl (by kernel_rfl) (by kernel_rfl) (by kernel_rfl) (fun _ _ _ h => h) (Or.inl ⟨by rfl, ?_⟩) (by assumption) ?_
                rotate_left
                · (intro w0 hSw; (try dsimp only at hSw); go_simp; try with_reducible rfl)
                try simp only [List.getElem_toArray, List.getElem_cons_succ, List.getElem_cons_zero, Act.put, List.setIfInBounds_toArray, List.set_cons_zero, List.set_cons_succ]
                refine wpAnyH_take (i := 3) (v := ?_) rfl (by kernel_rfl) (by kernel_rfl) (by kernel_rfl) (fun _ _ _ h => h) (Or.inl ⟨by rfl, ?_⟩) (by assumption) ?_
                rotate_left
                · (intro w0 hSw; (try dsimp only at hSw); go_simp; try with_reducible rfl)
                try simp only [List.getElem_toArray, List.getElem_cons_succ, List.getElem_cons_zero, Act.put, List.setIfInBounds_toArray, List.set_cons_zero, List.set_cons_succ]
                refine wpAnyH_take (i := 1) (v := .agg (mc q)) rfl (by kernel_rfl) (by kernel_rfl) (by kernel_rfl) (fun _ _ _ h => h) (Or.inl ⟨by rfl, fun w0 hSw => by subst hSw; exact exec_load (x := .tmp 11) rfl (ad := ⟨pm, 0, none⟩) rfl LQ.out⟩) (by assumption) ?_
                try simp only [List.getElem_toArray, List.getElem_cons_succ, List.getElem_cons_zero, Act.put, List.setIfInBounds_toArray, List.set_cons_zero, List.set_cons_succ]
                refine wpAnyH_take (i := 4) (v := .agg (mc q)) rfl (by kernel_rfl) (by kernel_rfl) (by kernel_rfl) (fun _ _ _ h => h) (Or.inl ⟨by rfl, fun w0 hSw => by subst hSw; exact exec_load (x := .tmp 11) rfl (ad := ⟨pm, 0, none⟩) rfl LQ.out⟩) (by assumption) ?_
                try simp only [List.getElem_toArray, List.getElem_cons_succ, List.getElem_cons_zero, Act.put, List.setIfInBounds_toArray, List.set_cons_zero, List.set_cons_succ]
                refine wpAnyH_take (i := 2) (v := .int .i64 (fout q + 1)) rfl (by kernel_rfl) (by kernel_rfl) (by kernel_rfl) (fun _ _ _ h => h) (Or.inl ⟨by rfl, fun w0 hSw => by subst hSw; exact exec_lookup (m := .tmp 86) (x := .tmp 87) rfl rfl rfl LO.out⟩) (by assumption) ?_
                try simp only [List.getElem_toArray, List.getElem_cons_succ, List.getElem_cons_zero, Act.put, List.setIfInBounds_toArray, List.set_cons_zero, List.set_cons_succ]
                refine wpAnyH_take (i := 5) (v := .int .i64 (fin q)) rfl (by kernel_rfl) (by kernel_rfl) (by kernel_rfl) (fun _ _ _ h => h) (Or.inl ⟨by rfl, fun w0 hSw => by subst hSw; exact exec_lookup (m := .tmp 89) (x := .tmp 90) rfl rfl rfl LI.out⟩) (by assumption) ?_
                try simp only [List.getElem_toArray, List.getElem_cons_succ, List.getElem_cons_zero, Act.put, List.setIfInBounds_toArray, List.set_cons_zero, List.set_cons_succ]
                refine wpAnyH_take (i := 6) (v := ?_) rfl (by kernel_rfl) (by kernel_rfl) (by kernel_rfl) (fun _ _ _ h => h) (Or.inl ⟨by rfl, ?_⟩) (by assumption) ?_
                rotate_left
                · (intro w0 hSw; (try dsimp only at hSw); go_simp; try with_reducible rfl)
                try simp only [List.getElem_toArray, List.getElem_cons_succ, List.getElem_cons_zero, Act.put, List.setIfInBounds_toArray, List.set_cons_zero, List.set_cons_succ]
                refine wpAnyH_done (by kernel_rfl) ?_ _
                clear hHeld
                go_wp2_with fail
                go_roundw
                case rel => exact ⟨k + 1, _, r5, ni, _, fin, _, by omega, by go_num, N10.out, I10.out, O10.out, HT.out.1, B10.out⟩
                case measure => simp [intOf]; omega
              · have e1 : (fld a 0 == 1) = false := by rw [beq_eq_false_iff_ne]; exact k1
                by_cases k3 : fld a 0 = 3
                · have e3 : (fld a 0 == 3) = true := by rw [k3]; rfl
                  have HO := Lib.hid (often_twice k3 HCD.out)
                  clear k0 k1 k3
                  have HDW := Lib.hid (BL.out.all _ (Bal.dlv_mem HO.out.1 (fld a 1)))
                  have HMS := Lib.hid HO.out.2
                  clear HO
                  generalize dlvM ms (fld a 1) = d at HDW HMS
                  have HDL := Lib.hid HDW.out.1
                  have HDI := Lib.hid (show (Try.prog.info? 31).map (·.size) = some (ints d).length from by have := mc_info HDL.out; simpa [mc] using this)
                  have N6' := Lib.hid (show Net W6 w.heap.size g r5 lim (ms ++ [d]) by have := N6.out; rwa [HMS.out] at this)
                  have BL7 := Lib.hid (BL.out.put HDW.out)
                  have hin := BL.out.fin_in d
                  have t1 : IntKind.i64.wrap (fin d + 1) = fin d + 1 := IntWalk.i64_in _ (by omega)
                  clear hin N6
                  obtain ⟨M, hM⟩ : ∃ M : Nat, M = ms.length + 1 := ⟨_, rfl⟩
                  have t2 : IntKind.i64.wrap ((ms.length : Int) + 1) = (M : Int) := by rw [IntWalk.i64_in _ (by omega)]; omega
                  have t3 : ((M : Int) == (M : Int)) = true := by simp
                  have t4 : IntKind.i64.wrap ((M : Int) - 1) = (ms.length : Int) := by rw [IntWalk.i64_in _ (by omega)]; omega
                  have t5 : decide ((ms.length : Int) < (M : Int)) = true := by simp; omega
                  have t6 : IntKind.i64.wrap (ms.length : Int) = (ms.length : Int) := IntWalk.i64_in _ (by omega)
                  have t7 : (ms.length : Int) < (ms.length : Int) + 1 := by omega
                  have hlen : (ms ++ [d]).length = M := by simp [hM]
                  have hlt2 : ms.length < M := by omega
                  go_wp2_with fail
                  refine (nall_any _ N6'.out).mono ?_
                  rintro e w7 ⟨rfl, hk7, hb7⟩
                  rw [hlen]
                  have M7 := Lib.hid (msg_cells hk7 N6'.out.all (j := ms.length) (by rw [hlen]; omega))
                  rw [show (ms ++ [d]).getD ms.length zM = d by simp [List.getD]] at M7
                  have ML := Lib.hid hk7.lt
                  have MK := Lib.hid hk7
                  have N7 := Lib.hid (N6'.out.step hb7)
                  have I7 := Lib.hid (I6.out.step hb7)
                  have O7 := Lib.hid (O6.out.step hb7)
                  have B7 := Lib.hid (stepB B6.out hb7)
                  clear hk7 hb7
                  generalize W6.heap.size = L at M7 ML MK ⊢
                  go_wp2_with fail
                  refine wp_region_till 11 (fun w' => (∃ n', MapM w' bi n' fin) ∧ Turn (fun k => k = bi) w7.drew w') (by kernel_rfl) ⟨⟨_, I7.out.kept rfl⟩, Turn.refl _ _⟩ (fun hHeld => ?_)
                  have hbelow := Lib.hid (fun X (hX : Turn (fun k => k = bi) w7.drew X) => show Below w.heap.size w X from (Below.drew B7.out).trans (hX.below (fun k hk e => by omega) B7.out.size))
                  have I8 := Lib.hid (show MapM w7.drew bi ni fin from I7.out.kept rfl)
                  have O8 := Lib.hid (show MapM w7.drew bo no fout from O7.out.kept rfl)
                  have N8 := Lib.hid (N7.out.step (Below.drew (Below.refl _ _)))
                  have MK8 := Lib.hid MK.out.drew
                  have hne := I8.out.ne MK8.out
                  have HDR := Lib.hid (fun X (hX : Turn (fun k => k = bi) w7.drew X) => show (loadVar 31 ⟨L, ms.length * 28, none⟩).run Try.prog X = .ok (.agg (mc d)) X from
                    run_loadVar_cells X _ _ (ints d) _ (by
                      have h1 := msg_cells (MK8.out.turn hX (fun e => hne e.symm)) N6'.out.all (j := ms.length) (by rw [hlen]; omega)
                      rwa [show (ms ++ [d]).getD ms.length zM = d by simp [List.getD]] at h1) Try.underlying31 rfl HDI.out)
                  generalize w7.drew = V at N8 I8 O8 MK8 HDR hbelow hHeld ⊢
                  refine wpTill_take (i := 0) (v := ?_) rfl (by kernel_rfl) (by kernel_rfl) (by kernel_rfl) (by kernel_rfl) (fun _ _ _ h => h) (Or.inl ⟨by rfl, ?_⟩) (by assumption) ?_
                  rotate_left
                  · (intro w0 hSw; (try dsimp only at hSw); go_simp; try with_reducible rfl)
                  try simp only [List.getElem_toArray, List.getElem_cons_succ, List.getElem_cons_zero, Act.put, List.setIfInBounds_toArray, List.set_cons_zero, List.set_cons_succ]
                  refine wpTill_take (i := 1) (v := ?_) rfl (by kernel_rfl) (by kernel_rfl) (by kernel_rfl) (by kernel_rfl) (fun _ _ _ h => h) (Or.inl ⟨by rfl, ?_⟩) (by assumption) ?_
                  rotate_left
                  · (intro w0 hSw; (try dsimp only at hSw); go_simp; try with_reducible rfl)
                  try simp only [List.getElem_toArray, List.getElem_cons_succ, List.getElem_cons_zero, Act.put, List.setIfInBounds_toArray, List.set_cons_zero, List.set_cons_succ]
                  refine wpTill_take (i := 2) (v := ?_) rfl (by kernel_rfl) (by kernel_rfl) (by kernel_rfl) (by kernel_rfl) (fun _ _ _ h => h) (Or.inl ⟨by rfl, ?_⟩) (by assumption) ?_
                  rotate_left
                  · (intro w0 hSw; (try dsimp only at hSw); go_simp; try with_reducible rfl)
                  try simp only [List.getElem_toArray, List.getElem_cons_succ, List.getElem_cons_zero, Act.put, List.setIfInBounds_toArray, List.set_cons_zero, List.set_cons_succ]
                  refine wpTill_take (i := 3) (v := ?_) rfl (by kernel_rfl) (by kernel_rfl) (by kernel_rfl) (by kernel_rfl) (fun _ _ _ h => h) (Or.inl ⟨by rfl, ?_⟩) (by assumption) ?_
                  rotate_left
                  · (intro w0 hSw; (try dsimp only at hSw); go_simp; try with_reducible rfl)
                  try simp only [List.getElem_toArray, List.getElem_cons_succ, List.getElem_cons_zero, Act.put, List.setIfInBounds_toArray, List.set_cons_zero, List.set_cons_succ]
                  refine wpTill_take (i := 4) (v := ?_) rfl (by kernel_rfl) (by kernel_rfl) (by kernel_rfl) (by kernel_rfl) (fun _ _ _ h => h) (Or.inl ⟨by rfl, ?_⟩) (by assumption) ?_
                  rotate_left
                  · (intro w0 hSw; (try dsimp only at hSw); go_simp; try with_reducible rfl)
                  try simp only [List.getElem_toArray, List.getElem_cons_succ, List.getElem_cons_zero, Act.put, List.setIfInBounds_toArray, List.set_cons_zero, List.set_cons_succ]
                  refine wpTill_take (i := 5) (v := ?_) rfl (by kernel_rfl) (by kernel_rfl) (by kernel_rfl) (by kernel_rfl) (fun _ _ _ h => h) (Or.inl ⟨by rfl, ?_⟩) (by assumption) ?_
                  rotate_left
                  · (intro w0 hSw; (try dsimp only at hSw); go_simp; try with_reducible rfl)
                  try simp only [List.getElem_toArray, List.getElem_cons_succ, List.getElem_cons_zero, Act.put, List.setIfInBounds_toArray, List.set_cons_zero, List.set_cons_succ]
                  refine wpTill_take (i := 6) (v := .agg (mc d)) rfl (by kernel_rfl) (by kernel_rfl) (by kernel_rfl) (by kernel_rfl) (fun _ _ _ h => h) (Or.inl ⟨by rfl, fun w0 hSw => exec_load (x := .tmp 108) rfl (ad := ⟨L, ms.length * 28, none⟩) rfl (HDR.out _ hSw.2)⟩) (by assumption) ?_
                  try simp only [List.getElem_toArray, List.getElem_cons_succ, List.getElem_cons_zero, Act.put, List.setIfInBounds_toArray, List.set_cons_zero, List.set_cons_succ]
                  refine wpTill_take (i := 7) (v := .int .i64 (fin d)) rfl (by kernel_rfl) (by kernel_rfl) (by kernel_rfl) (by kernel_rfl) (fun _ _ _ h => h) (Or.inl ⟨by rfl, fun w0 hSw => exec_lookup (m := .tmp 103) (x := .tmp 109) rfl rfl rfl (hSw.1.choose_spec.lookup HDW.out)⟩) (by assumption) ?_
                  try simp only [List.getElem_toArray, List.getElem_cons_succ, List.getElem_cons_zero, Act.put, List.setIfInBounds_toArray, List.set_cons_zero, List.set_cons_succ]
                  refine wpTill_take (i := 8) (v := ?_) rfl (by kernel_rfl) (by kernel_rfl) (by kernel_rfl) (by kernel_rfl) (fun _ _ _ h => h) (Or.inl ⟨by rfl, ?_⟩) (by assumption) ?_
                  rotate_left
                  · (intro w0 hSw; (try dsimp only at hSw); go_simp; try with_reducible rfl)
                  try simp only [List.getElem_toArray, List.getElem_cons_succ, List.getElem_cons_zero, Act.put, List.setIfInBounds_toArray, List.set_cons_zero, List.set_cons_succ]
                  refine wpTill_ready (rs := [9]) (by kernel_rfl) (by simp) ?_
                  refine AllTill.cons rfl (fun K hK => ?_) AllTill.nil
                  refine step_entry (mo := .tmp 103) (xo := .tmp 109) rfl I8.out HDW.out rfl rfl ?_
                  intro X8 j8 hm8 hs8 hg8
                  have I9 := Lib.hid hm8
                  have S9 := Lib.hid hs8
                  have T9 := Lib.hid (turn_grown hg8)
                  clear hm8 hs8 hg8
                  refine hK.out _ _ ⟨⟨_, I9.out⟩, T9.out⟩ (fun hHeld => ?_)
                  clear hK K
                  refine wpTill_take (i := 10) (v := ?_) rfl (by kernel_rfl) (by kernel_rfl) (by kernel_rfl) (by kernel_rfl) (fun _ _ _ h => h) (Or.inl ⟨by rfl, ?_⟩) (by assumption) ?_
                  rotate_left
                  · (intro w0 hSw; (try dsimp only at hSw); go_simp; try with_reducible rfl)
                  try simp only [List.getElem_toArray, List.getElem_cons_succ, List.getElem_cons_zero, Act.put, List.setIfInBounds_toArray, List.set_cons_zero, List.set_cons_succ]
                  refine wpTill_ready (rs := [11]) (by kernel_rfl) (by simp) ?_
                  refine AllTill.last rfl (of_decide_eq_true (by kernel_rfl)) (fun K hK => ?_)
                  refine step_entryStore (mo := .tmp 103) (so := .tmp 113) (vo := .tmp 111) rfl I9.out S9.out rfl rfl rfl ?_
                  intro X9 hm9 hg9
                  have I10 := Lib.hid hm9
                  have T10 := Lib.hid (T9.out.grown hg9 fun k hk _ => by cases hk; rfl)
                  clear hm9 hg9
                  refine hK.out _ _ ?_
                  clear hK K hHeld
                  refine wpTill_done (by kernel_rfl) ?_ _
                  have N10 := Lib.hid (N8.out.byMap I8.out T10.out)
                  have O10 := Lib.hid (O8.out.turn T10.out (Ne.symm hio))
                  have B10 := Lib.hid (hbelow.out _ T10.out)
                  go_wp2_with fail
                  go_roundw
                  case rel => exact ⟨k + 1, _, r5, _, no, _, fout, by omega, by go_num, N10.out, I10.out, O10.out, BL7.out, B10.out⟩
                  case measure => simp [intOf]; omega
                · have e3 : (fld a 0 == 3) = false := by rw [beq_eq_false_iff_ne]; exact k3
                  have BL7 := Lib.hid (BL.out.less (often_rest (lim := lim) k0 k1 k3))
                  clear k0 k1 k3
                  go_wp2_with fail
                  go_roundw
                  case rel => exact ⟨k + 1, _, r5, ni, no, fin, fout, by omega, by go_num, N6.out, I6.out, O6.out, BL7.out, B6.out⟩
                  case measure => simp [intOf]; omega
          · have e1 : (doC lim ms a == 0) = false := by rw [beq_eq_false_iff_ne]; exact hcd
            have hsame := Lib.hid (often_bad hcd)
            clear hcd
            generalize doC lim ms a = cd at e1 ⊢
            have N7 := Lib.hid (show Net W6 w.heap.size g r5 lim ms by have := N6.out; rwa [hsame.out] at this)
            clear N6 hsame
            go_wp2_with fail
            go_roundw
            case rel => exact ⟨k + 1, ms, r5, ni, no, fin, fout, by omega, by go_num, N7.out, I6.out, O6.out, BL.out.less (List.Sublist.refl _), B6.out⟩
            case measure => simp [intOf]; omega
        · obtain rfl : k = n := by omega
          go_wp2_with fail
          go_ret
          exact ⟨rfl, BK.out⟩
end Go.Proofs.Ytmjmplkhngpgnaa
