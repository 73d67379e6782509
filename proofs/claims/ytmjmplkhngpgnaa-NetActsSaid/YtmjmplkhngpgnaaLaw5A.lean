/- The walk of NetActs. -/
import Derived.Test.YtmjmplkhngpgnaaLaw5R
import Derived.Deep.RegionHeld
namespace Go.Proofs.Ytmjmplkhngpgnaa
open Go.RowKit
set_option linter.unusedVariables false
set_option linter.unusedSimpArgs false

theorem Net.byRef {w w' : World} {B g h B' : Nat} {r : Option Nat} {lim lim' : Int} {ms ms' : List (List Int)} {v : Value} (N : Net w B g r lim ms) (R : RNet w B' h lim' ms' v) (ht : Turn (fun k => k = h) w w') : Net w' B g r lim ms :=
  N.turn ht (fun e => by obtain ⟨u, ps, hw, _⟩ := N; exact heap_ne hw.box R.box (by decide) e)
    (fun k hk e => by obtain ⟨u, ps, hw, rfl⟩ := N; obtain ⟨cur, hh, _⟩ := own_heap hw.row k hk; exact heap_ne hh R.box (by decide) e)
    (fun k cs hk e => heap_ne hk R.box (by decide) e)
theorem RNet.byNet {w w' : World} {B g h B' : Nat} {r : Option Nat} {lim lim' : Int} {ms ms' : List (List Int)} {v : Value} (R : RNet w B' h lim' ms' v) (N : Net w B g r lim ms) (ht : Turn (NS g r) w w') : RNet w' B' h lim' ms' v :=
  R.turn ht (N.keeps R.box (by decide) (by decide)) (fun k cs hk => N.keeps hk (by decide) (by decide))
theorem below_ref {w W W' : World} {B' h : Nat} {lim' : Int} {ms' : List (List Int)} {v : Value} (hb : Below w.heap.size w W) (R : RNet W B' h lim' ms' v) (hB : w.heap.size ≤ B') (ht : Turn (fun k => k = h) W W') : Below w.heap.size w W' :=
  hb.trans (ht.below (fun k hk e => by have := R.geB; omega) hb.size)
theorem RNet.low {w : World} {B B' h : Nat} {lim : Int} {ms : List (List Int)} {v : Value} (R : RNet w B h lim ms v) (hb : B' ≤ B) : RNet w B' h lim ms v := ⟨R.box, own_less R.row hb, R.all, Nat.le_trans hb R.geB, R.small⟩

set_option maxRecDepth 100000 in
set_option maxHeartbeats 8000000 in
theorem netActs_walk (lim : Int) (A : Option Addr) (n cap : Nat) (ls : List (List Int)) (w : World) (hn : ls.length = n) (hall : ∀ l ∈ ls, l.length = 30) (hwf : ∀ l ∈ ls, ∀ y ∈ l, (Lit.int .i64 y).wf = true)
    (hr : Reads w w.heap.size 30 A n (ints ls.flatten)) :
    Calls Try.prog 4 #[.int .i64 lim, .slice A n cap] w fun e w' => e = .returned (.bool true) ∧ Below w.heap.size w w' := by
  have HR := Lib.hid hr
  have HN := Lib.hid hn
  have HALL := Lib.hid hall
  have HWF := Lib.hid hwf
  have hn0 := fun W => run_eql_nil_nil (P := Try.prog) W 33 Try.underlying33
  clear hr hn hall hwf
  by_cases hbig : 200 < n
  · have d1 : decide ((200 : Int) < (n : Int)) = true := by simp; omega
    have d2 : decide (200 < n) = true := by simp; omega
    go_enter Try.func4, Try.ntmps4
    go_wp2_with fail
    refine (netAlive _).mono ?_
    rintro e w1 ⟨rfl, hb1⟩
    have B1 := Lib.hid hb1
    clear hb1
    go_wp2_with fail
    go_ret
    exact ⟨rfl, B1.out⟩
  · have d1 : decide ((200 : Int) < (n : Int)) = false := by simp; omega
    have d2 : decide (200 < n) = false := by simp; omega
    by_cases hlim : lim < 1 ∨ 65536 < lim
    · have HLM := Lib.hid hlim
      by_cases hl1 : lim < 1
      · have l1 : decide (lim < 1) = true := by simpa using hl1
        clear hlim
        go_enter Try.func4, Try.ntmps4
        go_wp2_with fail
        refine (netAlive _).mono ?_
        rintro e w1 ⟨rfl, hb1⟩
        have B1 := Lib.hid hb1
        clear hb1
        go_wp2_with fail
        refine (new_bad lim HLM.out _).mono ?_
        rintro e w2 ⟨rfl, hww⟩
        obtain rfl := hww.symm
        go_wp2_with fail
        refine (code_errno 2 (by decide) _).mono ?_
        rintro e w3 ⟨rfl, rfl⟩
        go_wp2_with fail
        go_ret
        exact ⟨rfl, B1.out⟩
      · have l1 : decide (lim < 1) = false := by simpa using hl1
        have l2 : decide (65536 < lim) = true := by simp; omega
        clear hlim
        go_enter Try.func4, Try.ntmps4
        go_wp2_with fail
        refine (netAlive _).mono ?_
        rintro e w1 ⟨rfl, hb1⟩
        have B1 := Lib.hid hb1
        clear hb1
        go_wp2_with fail
        refine (new_bad lim HLM.out _).mono ?_
        rintro e w2 ⟨rfl, hww⟩
        obtain rfl := hww.symm
        go_wp2_with fail
        refine (code_errno 2 (by decide) _).mono ?_
        rintro e w3 ⟨rfl, rfl⟩
        go_wp2_with fail
        go_ret
        exact ⟨rfl, B1.out⟩
    · have l1 : decide (lim < 1) = false := by simp; omega
      have l2 : decide (65536 < lim) = false := by simp; omega
      have HLM := Lib.hid (show 1 ≤ lim ∧ lim ≤ 65536 by omega)
      clear hlim
      go_enter Try.func4, Try.ntmps4
      go_wp2_with fail
      refine (netAlive _).mono ?_
      rintro e w1 ⟨rfl, hb1⟩
      have B1 := Lib.hid hb1
      clear hb1
      go_wp2_with fail
      refine (new_ok lim HLM.out _).mono ?_
      rintro e w2 ⟨rfl, hn2, hb2⟩
      have N2 := Lib.hid (hn2.low B1.out.size)
      have B2 := Lib.hid (stepB B1.out hb2)
      clear hn2 hb2
      generalize w1.heap.size = g at N2 ⊢
      go_upto_region 11 with fail
      have hb3 := Joins.below_alloc1 w2 (.cells #[.int .i64 lim, .slice none 0 0] 47)
      have N3 := Lib.hid (N2.out.step hb3)
      have B3 := Lib.hid (stepB B2.out hb3)
      have R3 := Lib.hid (show RNet (w2.alloc (.cells #[.int .i64 lim, .slice none 0 0] 47)) w.heap.size w2.heap.size lim [] (.slice none 0 0) from ⟨Blk.new _ _ _, World.ownsRow_nil _ _ _ _, by simp, B2.out.size, by simp⟩)
      clear hb3
      generalize w2.heap.size = h at R3 ⊢
      generalize World.alloc _ _ = W3 at N3 B3 R3 ⊢
      go_wp2_with fail
      go_loopw [8, 9, 10, 11, 12, 13] (fun i _ _ _ _ _ W => ∃ (k : Nat) (ms : List (List Int)) (r : Option Nat) (v : Value), k ≤ n ∧ i = .int .i64 k ∧ Net W w.heap.size g r lim ms ∧ RNet W w.heap.size h lim ms v ∧ Below w.heap.size w W) (fun i _ _ _ _ _ _ => n - (intOf i).toNat)
      case atStart => exact ⟨0, [], none, _, Nat.zero_le _, rfl, N3.out, R3.out, B3.out⟩
      case round =>
        obtain ⟨k, ms, r, v, hk, rfl, hnk, hrk, hbk⟩ := hrel
        obtain ⟨Av, cv, rfl, _⟩ := hrk.slice
        rename World => W
        have NK := Lib.hid hnk
        have RK := Lib.hid hrk
        have BK := Lib.hid hbk
        have hsl := hnk.small
        have HAM := Lib.hid hnk.all
        clear hnk hrk hbk
        have kv : W.cell? ⟨h, 1, none⟩ = some (.slice Av ms.length cv) := RK.out.box.cell 1
        by_cases hlt : k < n
        · obtain ⟨b, off, rfl, hbb, hcell, hlen⟩ := HR.out.flat_at HALL.out HN.out (by omega) hlt
          have HC := Lib.hid (fun X (hX : Below w.heap.size w X) j (hj : j < 30) => ((hX.cell (p := ⟨b, off + k * 30 + j, none⟩) hbb).trans (hcell j hj)))
          have HLN := Lib.hid hlen
          have HKW := Lib.hid (getD_wf HWF.out (i := k) (j := 1))
          have HAI := Lib.hid (show (Try.prog.info? 49).map (·.size) = some (ints (ls.getD k [])).length from by rw [ints_length, hlen]; kernel_rfl)
          have HCW := Lib.hid (fun X (hX : Below w.heap.size w X) => cells_whole (w := X) hlen (HC.out X hX))
          clear hcell hlen
          generalize ls.getD k [] = a at HC HLN HKW HCW HAI
          have c0 : W.cell? ⟨b, off + k * 30, none⟩ = some (.int .i64 (fld a 0)) := HC.out W BK.out 0 (by omega)
          by_cases k4 : fld a 0 = 4
          · have e4 : (fld a 0 == 4) = true := by rw [k4]; rfl
            go_wp2_with fail
            refine (ntake_any _ NK.out).mono ?_
            rintro e w4 ⟨rfl, hk4, hn4, ht4⟩
            have L4 := Lib.hid hk4
            have N4 := Lib.hid hn4
            have R4 := Lib.hid (RK.out.byNet NK.out ht4)
            have B4 := Lib.hid (BK.out.trans (NK.out.below_of ht4))
            have V4 := Lib.hid (Reads.of_own R4.out.row)
            clear hk4 hn4 ht4
            go_wp2_with fail
            refine (msgs_any _ _ _ _ _ _ _ _ ms ms _ (by omega) rfl rfl HAM.out HAM.out (reads_msgs L4.out HAM.out rfl) V4.out).mono ?_
            rintro e w5 ⟨rfl, q5, rfl⟩
            rw [decide_eq_true rfl]
            have hb5 : Below w4.heap.size w4 (w4.drewN q5) := below_drewN (Below.refl _ _) q5
            have N5 := Lib.hid (N4.out.step hb5)
            have R5 := Lib.hid (R4.out.step hb5)
            have B5 := Lib.hid (stepB B4.out hb5)
            clear hb5
            generalize w4.drewN q5 = W5 at N5 R5 B5 ⊢
            obtain ⟨hr6, ht6⟩ := R5.out.set (ms' := []) (v' := .slice none 0 0) (Turn.refl _ _) (World.ownsRow_nil _ _ _ _) (by simp) (by simp)
            have R6 := Lib.hid hr6
            have N6 := Lib.hid (N5.out.byRef R5.out ht6)
            have B6 := Lib.hid (below_ref B5.out R5.out (Nat.le_refl _) ht6)
            have k5 := R5.out.box.cell 1
            have f5 := R5.out.box.frozen 1
            clear hr6 ht6
            go_wp2_with fail
            go_roundw
            case rel => exact ⟨k + 1, [], none, _, by omega, by go_num, N6.out, R6.out, B6.out⟩
            case measure => simp [intOf]; omega
          · have e4 : (fld a 0 == 4) = false := by rw [beq_eq_false_iff_ne]; exact k4
            clear k4
            go_wp2_with (refine wpList_load_cells rfl 49 (.tmp 74) rfl ⟨b, off + k * 30, none⟩ rfl (ints a) _ (HCW.out _ BK.out) Try.underlying49 rfl HAI.out ?_)
            refine (act_any _ NK.out HLN.out HKW.out).mono ?_
            rintro e w4 ⟨rfl, r4, hn4, ht4, _⟩
            have N4 := Lib.hid hn4
            have R4 := Lib.hid (RK.out.byNet NK.out ht4)
            have B4 := Lib.hid (BK.out.trans (NK.out.below_of ht4))
            clear hn4 ht4
            have HQL := Lib.hid (doM_length HAM.out a)
            generalize hq0 : doM ms a = q at HQL
            have HQ := Lib.hid hq0
            clear hq0
            have HQI := Lib.hid (mc_info HQL.out)
            have Z4 := Lib.hid (Blk.new w4 31 (mc zM))
            rw [mc_zero] at Z4
            go_upto_region 20 with (refine wpList_store_mid (by rfl) 31 (.tmp 10) (.tmp 77) (by rfl) w4.heap.size 0 (mc q) (by rfl) (by rfl) (mc_there zM_length HQL.out Z4.out) HQI.out (ints_oneCell _) ?_)
            have hb5 : Below w4.heap.size w4 ((w4.alloc (.cells (mc zM) 31)).setCells w4.heap.size 0 (mc q).toList) := Below.setCells (Nat.le_refl _) _ _ _ (stepA (Below.refl _ _) _)
            have N5 := Lib.hid (N4.out.step hb5)
            have R5 := Lib.hid (R4.out.step hb5)
            have B5 := Lib.hid (stepB B4.out hb5)
            have Q5 := Lib.hid (mc_put zM_length HQL.out Z4.out)
            clear hb5
            rw [mc_zero] at N5 R5 B5
            generalize World.setCells _ _ _ _ = W5 at N5 R5 B5 Q5 ⊢
            go_wp2_with (refine wpList_load_cells rfl 49 (.tmp 83) rfl ⟨b, off + k * 30, none⟩ rfl (ints a) _ (HCW.out _ B5.out) Try.underlying49 rfl HAI.out ?_)
            refine (do_any _ R5.out HLN.out HKW.out HLM.out.2).mono ?_
            rintro e w6 ⟨rfl, v6, hr6, ht6⟩
            rw [HQ.out]
            have N6 := Lib.hid (N5.out.byRef R5.out ht6)
            have R6 := Lib.hid hr6
            have B6 := Lib.hid (below_ref B5.out R5.out (Nat.le_refl _) ht6)
            have Q6 := Lib.hid (Q5.out.turn ht6 (fun e => heap_ne Q5.out R5.out.box (by decide) e))
            have hne6 : w4.heap.size ≠ w6.heap.size := by have := Q6.out.lt; omega
            clear hr6 ht6
            have Z6 := Lib.hid (Blk.new w6 31 (mc zM))
            rw [mc_zero] at Z6
            go_upto_region 21 with (refine wpList_store_mid (by rfl) 31 (.tmp 12) (.tmp 86) (by rfl) w6.heap.size 0 (mc q) (by rfl) (by rfl) (mc_there zM_length HQL.out Z6.out) HQI.out (ints_oneCell _) ?_)
            have hb7 : Below w6.heap.size w6 ((w6.alloc (.cells (mc zM) 31)).setCells w6.heap.size 0 (mc q).toList) := Below.setCells (Nat.le_refl _) _ _ _ (stepA (Below.refl _ _) _)
            have N7 := Lib.hid (N6.out.step hb7)
            have R7 := Lib.hid (R6.out.step hb7)
            have B7 := Lib.hid (stepB B6.out hb7)
            have Q7 := Lib.hid (Q6.out.here hb7)
            have P7 := Lib.hid (mc_put zM_length HQL.out Z6.out)
            clear hb7
            rw [mc_zero] at N7 R7 B7 Q7
            generalize World.setCells _ _ _ _ = W7 at N7 R7 B7 Q7 P7 ⊢
            obtain ⟨A7, c7, hv7, _⟩ := R7.out.slice
            subst hv7
            have he : ∀ W, (binOp .neq 31 (.agg (mc q)) (.agg (mc q))).run Try.prog W = .ok (.bool false) W := fun W => by rw [neq_msg HQL.out HQL.out]; simp
            have hgm := guard_msg
            have HS7 := Lib.hid N7.out.small
            have HA7 := Lib.hid N7.out.all
            clear kv c0
            generalize doC lim ms a = cd
            generalize doMs lim ms a = ms' at N7 R7 HS7 HA7
            go_wp2_with fail
            have N8 := Lib.hid (N7.out.step (Below.drew (Below.refl _ _)))
            have R8 := Lib.hid (R7.out.step (Below.drew (Below.refl _ _)))
            have B8 := Lib.hid (Below.drew B7.out)
            have Q8 := Lib.hid Q7.out.drew
            have P8 := Lib.hid P7.out.drew
            refine wp_region_held_drew (S := fun w' => w'.cell? ⟨h, 1, none⟩ = some (.slice A7 ms'.length c7) ∧ Below W7.drew.heap.size W7.drew w') (by kernel_rfl) ?_ (fun hHeld => ?_)
            · exact ⟨R8.out.box.cell 1, Below.refl _ _⟩
            have HS := Lib.hid (fun X (hX : Below W7.drew.heap.size W7.drew X) => (show X.cell? ⟨h, 1, none⟩ = some (.slice A7 ms'.length c7) ∧ Below W7.drew.heap.size W7.drew X from ⟨(R8.out.step hX).box.cell 1, hX⟩))
            generalize W7.drew = V at N8 R8 B8 Q8 P8 hHeld HS ⊢
            refine wpAnyH_take (i := 0) (v := .agg (mc q)) rfl (by kernel_rfl) (by kernel_rfl) (by kernel_rfl) (fun _ _ _ h => h) (Or.inl ⟨by rfl, fun w0 hSw => exec_load (x := .tmp 10) rfl (ad := ⟨w4.heap.size, 0, none⟩) rfl (loadM HQL.out (Q8.out.here hSw.2))⟩) (by assumption) ?_
            try simp only [List.getElem_toArray, List.getElem_cons_succ, List.getElem_cons_zero, Act.put, List.setIfInBounds_toArray, List.set_cons_zero, List.set_cons_succ]
            refine wpAnyH_take (i := 1) (v := .agg (mc q)) rfl (by kernel_rfl) (by kernel_rfl) (by kernel_rfl) (fun _ _ _ h => h) (Or.inl ⟨by rfl, fun w0 hSw => exec_load (x := .tmp 12) rfl (ad := ⟨w6.heap.size, 0, none⟩) rfl (loadM HQL.out (P8.out.here hSw.2))⟩) (by assumption) ?_
            try simp only [List.getElem_toArray, List.getElem_cons_succ, List.getElem_cons_zero, Act.put, List.setIfInBounds_toArray, List.set_cons_zero, List.set_cons_succ]
            refine wpAnyH_take (i := 2) (v := ?_) rfl (by kernel_rfl) (by kernel_rfl) (by kernel_rfl) (fun _ _ _ h => h) (Or.inl ⟨by rfl, ?_⟩) (by assumption) ?_
            rotate_left
            · (intro w0 hSw; (try dsimp only at hSw); go_simp; try with_reducible rfl)
            try simp only [List.getElem_toArray, List.getElem_cons_succ, List.getElem_cons_zero, Act.put, List.setIfInBounds_toArray, List.set_cons_zero, List.set_cons_succ]
            refine wpAnyH_take (i := 3) (v := ?_) rfl (by kernel_rfl) (by kernel_rfl) (by kernel_rfl) (fun _ _ _ h => h) (Or.inl ⟨by rfl, ?_⟩) (by assumption) ?_
            rotate_left
            · (intro w0 hSw; (try dsimp only at hSw); go_simp; try with_reducible rfl)
            try simp only [List.getElem_toArray, List.getElem_cons_succ, List.getElem_cons_zero, Act.put, List.setIfInBounds_toArray, List.set_cons_zero, List.set_cons_succ]
            go_simp
            refine wpAnyH_take (i := 4) (v := ?_) rfl (by kernel_rfl) (by kernel_rfl) (by kernel_rfl) (fun _ _ _ h => h) (Or.inl ⟨by rfl, ?_⟩) (by assumption) ?_
            rotate_left
            · (intro w0 hSw; (try dsimp only at hSw); go_simp; try with_reducible rfl)
            try simp only [List.getElem_toArray, List.getElem_cons_succ, List.getElem_cons_zero, Act.put, List.setIfInBounds_toArray, List.set_cons_zero, List.set_cons_succ]
            refine wpAnyH_take (i := 5) (v := ?_) rfl (by kernel_rfl) (by kernel_rfl) (by kernel_rfl) (fun _ _ _ h => h) (Or.inl ⟨by rfl, ?_⟩) (by assumption) ?_
            rotate_left
            · (intro w0 hSw; (try dsimp only at hSw); go_simp; try with_reducible rfl)
            try simp only [List.getElem_toArray, List.getElem_cons_succ, List.getElem_cons_zero, Act.put, List.setIfInBounds_toArray, List.set_cons_zero, List.set_cons_succ]
            refine wpAnyH_take (i := 6) (v := ?_) rfl (by kernel_rfl) (by kernel_rfl) (by kernel_rfl) (fun _ _ _ h => h) (Or.inl ⟨by rfl, ?_⟩) (by assumption) ?_
            rotate_left
            · (intro w0 hSw; (try dsimp only at hSw); go_simp; try with_reducible rfl)
            try simp only [List.getElem_toArray, List.getElem_cons_succ, List.getElem_cons_zero, Act.put, List.setIfInBounds_toArray, List.set_cons_zero, List.set_cons_succ]
            refine wpAnyH_take (i := 7) (v := ?_) rfl (by kernel_rfl) (by kernel_rfl) (by kernel_rfl) (fun _ _ _ h => h) (Or.inl ⟨by rfl, ?_⟩) (by assumption) ?_
            rotate_left
            · (intro w0 hSw; (try dsimp only at hSw); go_simp; try with_reducible rfl)
            try simp only [List.getElem_toArray, List.getElem_cons_succ, List.getElem_cons_zero, Act.put, List.setIfInBounds_toArray, List.set_cons_zero, List.set_cons_succ]
            go_simp
            refine wpAnyH_take (i := 8) (v := ?_) rfl (by kernel_rfl) (by kernel_rfl) (by kernel_rfl) (fun _ _ _ h => h) (Or.inl ⟨by rfl, ?_⟩) (by assumption) ?_
            rotate_left
            · (intro w0 hSw; (try dsimp only at hSw); go_simp; try with_reducible rfl)
            try simp only [List.getElem_toArray, List.getElem_cons_succ, List.getElem_cons_zero, Act.put, List.setIfInBounds_toArray, List.set_cons_zero, List.set_cons_succ]
            refine wpAnyH_take (i := 9) (v := ?_) rfl (by kernel_rfl) (by kernel_rfl) (by kernel_rfl) (fun _ _ _ h => h) (Or.inl ⟨by rfl, ?_⟩) (by assumption) ?_
            rotate_left
            · (intro w0 hSw; (try dsimp only at hSw); go_simp; try with_reducible rfl)
            try simp only [List.getElem_toArray, List.getElem_cons_succ, List.getElem_cons_zero, Act.put, List.setIfInBounds_toArray, List.set_cons_zero, List.set_cons_succ]
            refine wpAnyH_take (i := 11) (v := ?_) rfl (by kernel_rfl) (by kernel_rfl) (by kernel_rfl) (fun _ _ _ h => h) (Or.inl ⟨by rfl, ?_⟩) (by assumption) ?_
            rotate_left
            · (intro w0 hSw; (try dsimp only at hSw); go_simp; try with_reducible rfl)
            try simp only [List.getElem_toArray, List.getElem_cons_succ, List.getElem_cons_zero, Act.put, List.setIfInBounds_toArray, List.set_cons_zero, List.set_cons_succ]
            refine wpAnyH_take (i := 12) (v := ?_) rfl (by kernel_rfl) (by kernel_rfl) (by kernel_rfl) (fun _ _ _ h => h) (Or.inl ⟨by rfl, ?_⟩) (by assumption) ?_
            rotate_left
            · (intro w0 hSw; (try dsimp only at hSw); go_simp; try with_reducible rfl)
            try simp only [List.getElem_toArray, List.getElem_cons_succ, List.getElem_cons_zero, Act.put, List.setIfInBounds_toArray, List.set_cons_zero, List.set_cons_succ]
            go_simp
            refine wpAnyH_take (i := 13) (v := ?_) rfl (by kernel_rfl) (by kernel_rfl) (by kernel_rfl) (fun _ _ _ h => h) (Or.inl ⟨by rfl, ?_⟩) (by assumption) ?_
            rotate_left
            · (intro w0 hSw; (try dsimp only at hSw); go_simp; try with_reducible rfl)
            try simp only [List.getElem_toArray, List.getElem_cons_succ, List.getElem_cons_zero, Act.put, List.setIfInBounds_toArray, List.set_cons_zero, List.set_cons_succ]
            refine wpAnyH_take (i := 14) (v := ?_) rfl (by kernel_rfl) (by kernel_rfl) (by kernel_rfl) (fun _ _ _ h => h) (Or.inl ⟨by rfl, ?_⟩) (by assumption) ?_
            rotate_left
            · (intro w0 hSw; (try dsimp only at hSw); go_simp; try with_reducible rfl)
            try simp only [List.getElem_toArray, List.getElem_cons_succ, List.getElem_cons_zero, Act.put, List.setIfInBounds_toArray, List.set_cons_zero, List.set_cons_succ]
            refine wpAnyH_take (i := 15) (v := ?_) rfl (by kernel_rfl) (by kernel_rfl) (by kernel_rfl) (fun _ _ _ h => h) (Or.inl ⟨by rfl, ?_⟩) (by assumption) ?_
            rotate_left
            · (intro w0 hSw; (try dsimp only at hSw); go_simp; try with_reducible rfl)
            try simp only [List.getElem_toArray, List.getElem_cons_succ, List.getElem_cons_zero, Act.put, List.setIfInBounds_toArray, List.set_cons_zero, List.set_cons_succ]
            go_simp
            refine wpAnyH_ready (rs := [10]) (by kernel_rfl) (by simp) ?_
            refine AllReadyH.cons rfl (fun K hK => ?_) AllReadyH.nil
            go_simp
            refine (len_any _ (N8.out.step hHeld.2)).mono ?_
            rintro e x1 ⟨rfl, hww⟩
            obtain rfl := hww.symm
            try go_simp
            refine hK.out _ _ hHeld (fun hHeld => ?_)
            clear hK K
            refine wpAnyH_take (i := 16) (v := ?_) rfl (by kernel_rfl) (by kernel_rfl) (by kernel_rfl) (fun _ _ _ h => h) (Or.inl ⟨by rfl, ?_⟩) (by assumption) ?_
            rotate_left
            · (intro w0 hSw; (try dsimp only at hSw); go_simp; try with_reducible rfl)
            try simp only [List.getElem_toArray, List.getElem_cons_succ, List.getElem_cons_zero, Act.put, List.setIfInBounds_toArray, List.set_cons_zero, List.set_cons_succ]
            refine wpAnyH_take (i := 17) (v := ?_) rfl (by kernel_rfl) (by kernel_rfl) (by kernel_rfl) (fun _ _ _ h => h) (Or.inl ⟨by rfl, ?_⟩) (by assumption) ?_
            rotate_left
            · (intro w0 hSw; (try dsimp only at hSw); go_simp; try with_reducible rfl)
            try simp only [List.getElem_toArray, List.getElem_cons_succ, List.getElem_cons_zero, Act.put, List.setIfInBounds_toArray, List.set_cons_zero, List.set_cons_succ]
            refine wpAnyH_take (i := 18) (v := ?_) rfl (by kernel_rfl) (by kernel_rfl) (by kernel_rfl) (fun _ _ _ h => h) (Or.inl ⟨by rfl, ?_⟩) (by assumption) ?_
            rotate_left
            · (intro w0 hSw; (try dsimp only at hSw); go_simp; try with_reducible rfl)
            try simp only [List.getElem_toArray, List.getElem_cons_succ, List.getElem_cons_zero, Act.put, List.setIfInBounds_toArray, List.set_cons_zero, List.set_cons_succ]
            refine wpAnyH_take (i := 19) (v := ?_) rfl (by kernel_rfl) (by kernel_rfl) (by kernel_rfl) (fun _ _ _ h => h) (Or.inl ⟨by rfl, ?_⟩) (by assumption) ?_
            rotate_left
            · (intro w0 hSw; (try dsimp only at hSw); go_simp; try with_reducible rfl)
            try simp only [List.getElem_toArray, List.getElem_cons_succ, List.getElem_cons_zero, Act.put, List.setIfInBounds_toArray, List.set_cons_zero, List.set_cons_succ]
            go_simp
            refine wpAnyH_take (i := 21) (v := ?_) rfl (by kernel_rfl) (by kernel_rfl) (by kernel_rfl) (fun _ _ _ h => h) (Or.inl ⟨by rfl, ?_⟩) (by assumption) ?_
            rotate_left
            · (intro w0 hSw; (try dsimp only at hSw); go_simp; try with_reducible rfl)
            try simp only [List.getElem_toArray, List.getElem_cons_succ, List.getElem_cons_zero, Act.put, List.setIfInBounds_toArray, List.set_cons_zero, List.set_cons_succ]
            refine wpAnyH_take (i := 22) (v := ?_) rfl (by kernel_rfl) (by kernel_rfl) (by kernel_rfl) (fun _ _ _ h => h) (Or.inl ⟨by rfl, ?_⟩) (by assumption) ?_
            rotate_left
            · (intro w0 hSw; (try dsimp only at hSw); go_simp; try with_reducible rfl)
            try simp only [List.getElem_toArray, List.getElem_cons_succ, List.getElem_cons_zero, Act.put, List.setIfInBounds_toArray, List.set_cons_zero, List.set_cons_succ]
            refine wpAnyH_take (i := 23) (v := ?_) rfl (by kernel_rfl) (by kernel_rfl) (by kernel_rfl) (fun _ _ _ h => h) (Or.inl ⟨by rfl, ?_⟩) (by assumption) ?_
            rotate_left
            · (intro w0 hSw; (try dsimp only at hSw); go_simp; try with_reducible rfl)
            try simp only [List.getElem_toArray, List.getElem_cons_succ, List.getElem_cons_zero, Act.put, List.setIfInBounds_toArray, List.set_cons_zero, List.set_cons_succ]
            refine wpAnyH_take (i := 24) (v := ?_) rfl (by kernel_rfl) (by kernel_rfl) (by kernel_rfl) (fun _ _ _ h => h) (Or.inl ⟨by rfl, ?_⟩) (by assumption) ?_
            rotate_left
            · (intro w0 hSw; (try dsimp only at hSw); go_simp; try with_reducible rfl)
            try simp only [List.getElem_toArray, List.getElem_cons_succ, List.getElem_cons_zero, Act.put, List.setIfInBounds_toArray, List.set_cons_zero, List.set_cons_succ]
            go_simp
            refine wpAnyH_ready (rs := [20]) (by kernel_rfl) (by simp) ?_
            refine AllReadyH.cons rfl (fun K hK => ?_) AllReadyH.nil
            go_simp
            refine (nall_any _ (N8.out.step hHeld.2)).mono ?_
            rintro e x2 ⟨rfl, hk2, hb2⟩
            try go_simp
            have K2 := Lib.hid hk2
            have hx2 := HS.out _ (stepB hHeld.2 hb2)
            clear hk2 hb2 hHeld
            refine hK.out _ _ hx2 (fun hHeld => ?_)
            clear hK K hx2
            refine wpAnyH_ready (rs := [25]) (by kernel_rfl) (by simp) ?_
            refine AllReadyH.cons rfl (fun K hK => ?_) AllReadyH.nil
            go_simp
            refine (msgs_any _ _ _ _ _ _ _ _ ms' ms' _ (by have := HS7.out; omega) rfl rfl HA7.out HA7.out (reads_msgs K2.out HA7.out rfl) (Reads.of_own (R8.out.step hHeld.2).row)).mono ?_
            rintro e x3 ⟨rfl, q3, rfl⟩
            rw [decide_eq_true rfl]
            try go_simp
            have hx3 := HS.out _ (below_drewN hHeld.2 q3)
            clear hHeld
            refine hK.out _ _ hx3 (fun hHeld => ?_)
            clear hK K hx3
            refine wpAnyH_take (i := 26) (v := ?_) rfl (by kernel_rfl) (by kernel_rfl) (by kernel_rfl) (fun _ _ _ h => h) (Or.inl ⟨by rfl, ?_⟩) (by assumption) ?_
            rotate_left
            · (intro w0 hSw; (try dsimp only at hSw); go_simp; try with_reducible rfl)
            try simp only [List.getElem_toArray, List.getElem_cons_succ, List.getElem_cons_zero, Act.put, List.setIfInBounds_toArray, List.set_cons_zero, List.set_cons_succ]
            refine wpAnyH_take (i := 27) (v := ?_) rfl (by kernel_rfl) (by kernel_rfl) (by kernel_rfl) (fun _ _ _ h => h) (Or.inl ⟨by rfl, ?_⟩) (by assumption) ?_
            rotate_left
            · (intro w0 hSw; (try dsimp only at hSw); go_simp; try with_reducible rfl)
            try simp only [List.getElem_toArray, List.getElem_cons_succ, List.getElem_cons_zero, Act.put, List.setIfInBounds_toArray, List.set_cons_zero, List.set_cons_succ]
            refine wpAnyH_done (by kernel_rfl) ?_ _
            have N9 := Lib.hid (N8.out.step hHeld.2)
            have R9 := Lib.hid (R8.out.step hHeld.2)
            have B9 := Lib.hid (stepB B8.out hHeld.2)
            clear hHeld
            go_wp2_with fail
            go_roundw
            case rel => exact ⟨k + 1, ms', r4, _, by omega, by go_num, N9.out, R9.out, B9.out⟩
            case measure => simp [intOf]; omega
        · obtain rfl : k = n := by omega
          go_wp2_with fail
          have N8 := Lib.hid (NK.out.step (Below.drew (Below.refl _ _)))
          have B8 := Lib.hid (Below.drew BK.out)
          have R8 := Lib.hid (RK.out.step (Below.drew (Below.refl _ _)))
          refine wp_region_held_drew (S := fun w' => w'.cell? ⟨h, 1, none⟩ = some (.slice Av ms.length cv) ∧ w' = W.drew) (by kernel_rfl) ?_ (fun hHeld => ?_)
          · exact ⟨R8.out.box.cell 1, rfl⟩
          clear kv
          generalize W.drew = V at N8 B8 R8 hHeld ⊢
          refine wpAnyH_take (i := 0) (v := ?_) rfl (by kernel_rfl) (by kernel_rfl) (by kernel_rfl) (fun _ _ _ h => h) (Or.inl ⟨by rfl, ?_⟩) (by assumption) ?_
          rotate_left
          · (intro w0 hSw; (try dsimp only at hSw); go_simp; try with_reducible rfl)
          try simp only [List.getElem_toArray, List.getElem_cons_succ, List.getElem_cons_zero, Act.put, List.setIfInBounds_toArray, List.set_cons_zero, List.set_cons_succ]
          refine wpAnyH_take (i := 2) (v := ?_) rfl (by kernel_rfl) (by kernel_rfl) (by kernel_rfl) (fun _ _ _ h => h) (Or.inl ⟨by rfl, ?_⟩) (by assumption) ?_
          rotate_left
          · (intro w0 hSw; (try dsimp only at hSw); go_simp; try with_reducible rfl)
          try simp only [List.getElem_toArray, List.getElem_cons_succ, List.getElem_cons_zero, Act.put, List.setIfInBounds_toArray, List.set_cons_zero, List.set_cons_succ]
          refine wpAnyH_take (i := 3) (v := ?_) rfl (by kernel_rfl) (by kernel_rfl) (by kernel_rfl) (fun _ _ _ h => h) (Or.inl ⟨by rfl, ?_⟩) (by assumption) ?_
          rotate_left
          · (intro w0 hSw; (try dsimp only at hSw); go_simp; try with_reducible rfl)
          try simp only [List.getElem_toArray, List.getElem_cons_succ, List.getElem_cons_zero, Act.put, List.setIfInBounds_toArray, List.set_cons_zero, List.set_cons_succ]
          refine wpAnyH_take (i := 4) (v := ?_) rfl (by kernel_rfl) (by kernel_rfl) (by kernel_rfl) (fun _ _ _ h => h) (Or.inl ⟨by rfl, ?_⟩) (by assumption) ?_
          rotate_left
          · (intro w0 hSw; (try dsimp only at hSw); go_simp; try with_reducible rfl)
          try simp only [List.getElem_toArray, List.getElem_cons_succ, List.getElem_cons_zero, Act.put, List.setIfInBounds_toArray, List.set_cons_zero, List.set_cons_succ]
          refine wpAnyH_take (i := 5) (v := ?_) rfl (by kernel_rfl) (by kernel_rfl) (by kernel_rfl) (fun _ _ _ h => h) (Or.inl ⟨by rfl, ?_⟩) (by assumption) ?_
          rotate_left
          · (intro w0 hSw; (try dsimp only at hSw); go_simp; try with_reducible rfl)
          try simp only [List.getElem_toArray, List.getElem_cons_succ, List.getElem_cons_zero, Act.put, List.setIfInBounds_toArray, List.set_cons_zero, List.set_cons_succ]
          refine wpAnyH_take (i := 6) (v := ?_) rfl (by kernel_rfl) (by kernel_rfl) (by kernel_rfl) (fun _ _ _ h => h) (Or.inl ⟨by rfl, ?_⟩) (by assumption) ?_
          rotate_left
          · (intro w0 hSw; (try dsimp only at hSw); go_simp; try with_reducible rfl)
          try simp only [List.getElem_toArray, List.getElem_cons_succ, List.getElem_cons_zero, Act.put, List.setIfInBounds_toArray, List.set_cons_zero, List.set_cons_succ]
          go_simp
          refine wpAnyH_ready (rs := [1]) (by kernel_rfl) (by simp) ?_
          refine AllReadyH.cons rfl (fun K hK => ?_) AllReadyH.nil
          go_simp
          refine (len_any _ N8.out).mono ?_
          rintro e x1 ⟨rfl, hww⟩
          obtain rfl := hww.symm
          try go_simp
          refine hK.out _ _ hHeld (fun hHeld => ?_)
          clear hK K
          refine wpAnyH_take (i := 7) (v := ?_) rfl (by kernel_rfl) (by kernel_rfl) (by kernel_rfl) (fun _ _ _ h => h) (Or.inl ⟨by rfl, ?_⟩) (by assumption) ?_
          rotate_left
          · (intro w0 hSw; (try dsimp only at hSw); go_simp; try with_reducible rfl)
          try simp only [List.getElem_toArray, List.getElem_cons_succ, List.getElem_cons_zero, Act.put, List.setIfInBounds_toArray, List.set_cons_zero, List.set_cons_succ]
          refine wpAnyH_take (i := 8) (v := ?_) rfl (by kernel_rfl) (by kernel_rfl) (by kernel_rfl) (fun _ _ _ h => h) (Or.inl ⟨by rfl, ?_⟩) (by assumption) ?_
          rotate_left
          · (intro w0 hSw; (try dsimp only at hSw); go_simp; try with_reducible rfl)
          try simp only [List.getElem_toArray, List.getElem_cons_succ, List.getElem_cons_zero, Act.put, List.setIfInBounds_toArray, List.set_cons_zero, List.set_cons_succ]
          refine wpAnyH_done (by kernel_rfl) ?_ _
          clear hHeld
          go_wp2_with fail
          go_ret
          exact ⟨by first | rfl | simp, B8.out⟩
end Go.Proofs.Ytmjmplkhngpgnaa
