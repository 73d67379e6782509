/- The walk of NetLimit. -/
import Derived.Test.YtmjmplkhngpgnaaNetL
import Derived.Test.YtmjmplkhngpgnaaFlats
namespace Go.Proofs.Ytmjmplkhngpgnaa
open Go.RowKit
set_option linter.unusedVariables false
set_option linter.unusedSimpArgs false

/-- When an act is refused for want of room. -/
theorem doC_full (lim : Int) (ms : List (List Int)) (a : List Int) (h1 : 1 ≤ lim) (h2 : (ms.length : Int) ≤ lim) : doC lim ms a = 6 ↔ (ms.length : Int) = lim ∧ (fld a 0 = 0 ∧ mayB (a.drop 2) = true ∨ fld a 0 = 3) := by
  unfold doC sendC twC pickC addC
  by_cases k0 : fld a 0 = 0
  · rw [if_pos k0]
    cases hm : mayB (a.drop 2)
    · rw [if_neg (by decide)]
      constructor
      · intro h; omega
      · intro h; rcases h.2 with h | h
        · cases h.2
        · omega
    · rw [if_pos rfl]
      by_cases hf : lim ≤ ms.length
      · rw [if_pos hf]; exact ⟨fun _ => ⟨by omega, .inl ⟨k0, rfl⟩⟩, fun _ => rfl⟩
      · rw [if_neg hf]; exact ⟨fun h => by omega, fun h => by omega⟩
  · rw [if_neg k0]
    by_cases k4 : fld a 0 = 4
    · rw [if_pos k4]; exact ⟨fun h => by omega, fun h => by omega⟩
    · rw [if_neg k4]
      by_cases k3 : fld a 0 = 3
      · rw [if_pos k3]
        by_cases h0 : ms.length = 0
        · rw [if_pos h0]; exact ⟨fun h => by omega, fun h => by omega⟩
        · rw [if_neg h0]
          by_cases hf : lim ≤ ms.length
          · rw [if_pos hf]; exact ⟨fun _ => ⟨by omega, .inr k3⟩, fun _ => rfl⟩
          · rw [if_neg hf]; exact ⟨fun h => by omega, fun h => by omega⟩
      · rw [if_neg k3]
        constructor
        · intro h; split at h
          · split at h <;> omega
          · omega
        · intro h; rcases h.2 with h | h <;> omega
theorem getD_wf {ls : List (List Int)} (hw : ∀ l ∈ ls, ∀ y ∈ l, (Lit.int .i64 y).wf = true) {i j : Nat} : (Lit.int .i64 (fld (ls.getD i []) j)).wf = true := by
  unfold fld
  rw [List.getD_eq_getElem?_getD]
  cases h : (ls.getD i [])[j]? with
  | none => rfl
  | some y =>
    by_cases hi : i < ls.length
    · have e : ls.getD i [] = ls[i] := by simp [List.getD, hi]
      rw [e] at h
      exact hw _ (List.getElem_mem hi) _ (List.mem_of_getElem? h)
    · rw [show ls.getD i [] = [] by simp [List.getD, hi]] at h; simp at h

set_option maxRecDepth 100000 in
set_option maxHeartbeats 8000000 in
theorem netLimit_walk (a0 : Int) (hlo : 0 ≤ a0) (hhi : a0 ≤ 255) (A : Option Addr) (n cap : Nat) (ls : List (List Int)) (w : World) (hn : ls.length = n) (hall : ∀ l ∈ ls, l.length = 30) (hwf : ∀ l ∈ ls, ∀ y ∈ l, (Lit.int .i64 y).wf = true)
    (hr : Reads w w.heap.size 30 A n (ints ls.flatten)) :
    Calls Try.prog 8 #[.int .u8 a0, .slice A n cap] w fun e w' => e = .returned (.bool true) ∧ Below w.heap.size w w' := by
  have HR := Lib.hid hr
  have HN := Lib.hid hn
  have HALL := Lib.hid hall
  have HWF := Lib.hid hwf
  have hn0 := fun W => run_eql_nil_nil (P := Try.prog) W 33 Try.underlying33
  clear hr hn hall hwf
  by_cases hbig : 100 < n
  · have d1 : decide ((100 : Int) < (n : Int)) = true := by simp; omega
    have d2 : decide (100 < n) = true := by simp; omega
    go_enter Try.func8, Try.ntmps8
    go_wp2_with fail
    refine (netAlive _).mono ?_
    rintro e w1 ⟨rfl, hb1⟩
    have B1 := Lib.hid hb1
    clear hb1
    go_wp2_with fail
    go_ret
    exact ⟨rfl, B1.out⟩
  · have d1 : decide ((100 : Int) < (n : Int)) = false := by simp; omega
    have d2 : decide (100 < n) = false := by simp; omega
    have t1 : IntKind.i64.wrap a0 = a0 := IntWalk.i64_in _ (by omega)
    have t2 : a0.tmod 20 = a0 % 20 := Int.tmod_eq_emod_of_nonneg hlo
    have t3 : IntKind.i64.wrap (a0 % 20) = a0 % 20 := IntWalk.i64_in _ (by omega)
    have t4 : IntKind.i64.wrap (1 + a0 % 20) = 1 + a0 % 20 := IntWalk.i64_in _ (by omega)
    have HM := Lib.hid (show 1 ≤ 1 + a0 % 20 ∧ 1 + a0 % 20 ≤ 20 by omega)
    go_enter Try.func8, Try.ntmps8
    go_wp2_with fail
    refine (netAlive _).mono ?_
    rintro e w1 ⟨rfl, hb1⟩
    have B1 := Lib.hid hb1
    clear hb1
    go_wp2_with fail
    refine (new_ok (1 + a0 % 20) (by omega) _).mono ?_
    rintro e w2 ⟨rfl, hn2, hb2⟩
    have N2 := Lib.hid hn2
    have B2 := Lib.hid (stepB B1.out hb2)
    have hw1 : w.heap.size ≤ w1.heap.size := B1.out.size
    clear hn2 hb2
    generalize 1 + a0 % 20 = M at N2 HM ⊢
    go_wp2_with fail
    go_loopw [8, 9, 10, 11] (fun i _ _ _ W => ∃ (k : Nat) (ms : List (List Int)) (r : Option Nat), k ≤ n ∧ i = .int .i64 k ∧ Net W w1.heap.size w1.heap.size r M ms ∧ Below w.heap.size w W) (fun i _ _ _ _ => n - (intOf i).toNat)
    case atStart => exact ⟨0, [], none, Nat.zero_le _, rfl, N2.out, B2.out⟩
    case round =>
      obtain ⟨k, ms, r, hk, rfl, hnk, hbk⟩ := hrel
      rename World => W
      have NK := Lib.hid hnk
      have BK := Lib.hid hbk
      clear hnk hbk
      by_cases hlt : k < n
      · obtain ⟨b, off, rfl, hbb, hcell, hlen⟩ := HR.out.flat_at HALL.out HN.out (by omega) hlt
        have HC := Lib.hid (fun X (hX : Below w.heap.size w X) j (hj : j < 30) => ((hX.cell (p := ⟨b, off + k * 30 + j, none⟩) hbb).trans (hcell j hj)))
        have HLN := Lib.hid hlen
        have HKW := Lib.hid (getD_wf HWF.out (i := k) (j := 1))
        have HCW := Lib.hid (cells_whole hlen (HC.out W BK.out))
        have HAI := Lib.hid (show (Try.prog.info? 49).map (·.size) = some (ints (ls.getD k [])).length from by rw [ints_length, hlen]; kernel_rfl)
        have hbb' : b < w.heap.size := hbb
        clear hcell hlen
        generalize ls.getD k [] = a at HC HLN HKW HCW HAI
        go_wp2_with fail
        refine (len_any _ NK.out).mono ?_
        rintro e w3 ⟨rfl, hww⟩
        obtain rfl := hww.symm
        go_wp2_with (refine wpList_load_cells rfl 49 (.tmp 44) rfl ⟨b, off + k * 30, none⟩ rfl (ints a) _ HCW.out Try.underlying49 rfl HAI.out ?_)
        refine (act_any _ NK.out HLN.out HKW.out).mono ?_
        rintro e w4 ⟨rfl, r4, hn4, ht4, _⟩
        have HQL := Lib.hid (doM_length NK.out.all a)
        generalize doM ms a = q at HQL
        have HQI := Lib.hid (mc_info HQL.out)
        have N4 := Lib.hid hn4
        have B4 := Lib.hid (BK.out.trans ((NK.out.below_of ht4).mono hw1))
        clear hn4 ht4
        have Z4 := Lib.hid (Blk.new w4 31 (mc zM))
        rw [mc_zero] at Z4
        go_upto_region 14 with (refine wpList_store_mid (by rfl) 31 (.tmp 10) (.tmp 47) (by rfl) w4.heap.size 0 (mc q) (by rfl) (by rfl) (mc_there zM_length HQL.out Z4.out) HQI.out (ints_oneCell _) ?_)
        have hb5 : Below w4.heap.size w4 ((w4.alloc (.cells (mc zM) 31)).setCells w4.heap.size 0 (mc q).toList) := Below.setCells (Nat.le_refl _) _ _ _ (stepA (Below.refl _ _) _)
        have N5 := Lib.hid (N4.out.step hb5)
        have B5 := Lib.hid (stepB B4.out hb5)
        clear hb5
        rw [mc_zero] at N5 B5
        generalize World.setCells _ _ _ _ = W5 at N5 B5 ⊢
        have c0 : W5.cell? ⟨b, off + k * 30, none⟩ = some (.int .i64 (fld a 0)) := HC.out W5 B5.out 0 (by omega)
        have HF := Lib.hid (doC_full M ms a HM.out.1 NK.out.small.1)
        have HS5 := Lib.hid N5.out.small
        have g1 : decide (M < ((doMs M ms a).length : Int)) = false := by have := HS5.out; simp; omega
        have hki : (k : Int) < (n : Int) := by omega
        generalize doC M ms a = cd at HF ⊢
        by_cases hwas : (ms.length : Int) = M
        · have e53 : ((ms.length : Int) == M) = true := by rw [beq_iff_eq]; exact hwas
          have HW := Lib.hid hwas
          clear hwas
          by_cases k0 : fld a 0 = 0
          · have e60 : (fld a 0 == 0) = true := by rw [k0]; rfl
            have e75 : (fld a 0 == 3) = false := by rw [k0]; rfl
            have HDL := Lib.hid (show (a.drop 2).length = 28 by simp [HLN.out])
            have HDW := Lib.hid (cells_whole (w := W5) (b := b) (off := off + k * 30 + 2) HDL.out (fun j hj => by
              have := HC.out W5 B5.out (2 + j) (by omega)
              rw [show off + k * 30 + 2 + j = off + k * 30 + (2 + j) by omega, this]
              simp [fld, List.getD, List.getElem?_drop]))
            have HDI := Lib.hid (show (Try.prog.info? 31).map (·.size) = some (ints (a.drop 2)).length from by have := mc_info HDL.out; simpa [mc] using this)
            have HK0 := Lib.hid k0
            clear k0
            cases hm : mayB (a.drop 2)
            · have e50 : (cd == 6) = false := by rw [beq_eq_false_iff_ne]; intro e; have := HF.out.1 e; have h1 := HK0.out; rcases this.2 with h | h; { rw [hm] at h; cases h.2 }; omega
              have HM5 := Lib.hid hm
              clear hm
              go_wp2_with (refine wpList_load_cells_g (by rfl) 31 (.tmp 65) rfl ⟨b, off + k * 30 + 2, none⟩ rfl (ints (a.drop 2)) _ HDW.out Try.underlying31 rfl HDI.out ?_)
              refine (refOk_any (a.drop 2) HDL.out _).mono ?_
              rintro e W6 ⟨rfl, hb6⟩
              rw [HM5.out]
              have N6 := Lib.hid (N5.out.step hb6)
              have B6 := Lib.hid (stepB B5.out hb6)
              have c0 : W6.cell? ⟨b, off + k * 30, none⟩ = some (.int .i64 (fld a 0)) := HC.out W6 B6.out 0 (by omega)
              clear hb6
              go_wp2_with fail
              refine (len_any _ N6.out).mono ?_
              rintro e w6 ⟨rfl, hww⟩
              obtain rfl := hww.symm
              go_wp2_with fail
              go_roundw
              case rel => exact ⟨k + 1, _, r4, by omega, by go_num, N6.out, B6.out⟩
              case measure => simp [intOf]; omega
            · have e50 : (cd == 6) = true := by rw [beq_iff_eq]; exact HF.out.2 ⟨HW.out, .inl ⟨HK0.out, hm⟩⟩
              have HM5 := Lib.hid hm
              clear hm
              go_wp2_with (refine wpList_load_cells_g (by rfl) 31 (.tmp 65) rfl ⟨b, off + k * 30 + 2, none⟩ rfl (ints (a.drop 2)) _ HDW.out Try.underlying31 rfl HDI.out ?_)
              refine (refOk_any (a.drop 2) HDL.out _).mono ?_
              rintro e W6 ⟨rfl, hb6⟩
              rw [HM5.out]
              have N6 := Lib.hid (N5.out.step hb6)
              have B6 := Lib.hid (stepB B5.out hb6)
              have c0 : W6.cell? ⟨b, off + k * 30, none⟩ = some (.int .i64 (fld a 0)) := HC.out W6 B6.out 0 (by omega)
              clear hb6
              go_wp2_with fail
              refine (len_any _ N6.out).mono ?_
              rintro e w6 ⟨rfl, hww⟩
              obtain rfl := hww.symm
              go_wp2_with fail
              go_roundw
              case rel => exact ⟨k + 1, _, r4, by omega, by go_num, N6.out, B6.out⟩
              case measure => simp [intOf]; omega
          · have e60 : (fld a 0 == 0) = false := by rw [beq_eq_false_iff_ne]; exact k0
            by_cases k3 : fld a 0 = 3
            · have e75 : (fld a 0 == 3) = true := by rw [k3]; rfl
              have e50 : (cd == 6) = true := by rw [beq_iff_eq]; exact HF.out.2 ⟨HW.out, .inr k3⟩
              clear k0 k3
              go_wp2_with fail
              refine (len_any _ N5.out).mono ?_
              rintro e w6 ⟨rfl, hww⟩
              obtain rfl := hww.symm
              go_wp2_with fail
              go_roundw
              case rel => exact ⟨k + 1, _, r4, by omega, by go_num, N5.out, B5.out⟩
              case measure => simp [intOf]; omega
            · have e75 : (fld a 0 == 3) = false := by rw [beq_eq_false_iff_ne]; exact k3
              have e50 : (cd == 6) = false := by rw [beq_eq_false_iff_ne]; intro e; have := HF.out.1 e; rcases this.2 with h | h; { exact k0 h.1 }; exact k3 h
              clear k0 k3
              go_wp2_with fail
              refine (len_any _ N5.out).mono ?_
              rintro e w6 ⟨rfl, hww⟩
              obtain rfl := hww.symm
              go_wp2_with fail
              go_roundw
              case rel => exact ⟨k + 1, _, r4, by omega, by go_num, N5.out, B5.out⟩
              case measure => simp [intOf]; omega
        · have e53 : ((ms.length : Int) == M) = false := by rw [beq_eq_false_iff_ne]; exact hwas
          have e50 : (cd == 6) = false := by rw [beq_eq_false_iff_ne]; intro e; exact hwas (HF.out.1 e).1
          clear hwas
          go_wp2_with fail
          refine (len_any _ N5.out).mono ?_
          rintro e w6 ⟨rfl, hww⟩
          obtain rfl := hww.symm
          go_wp2_with fail
          go_roundw
          case rel => exact ⟨k + 1, _, r4, by omega, by go_num, N5.out, B5.out⟩
          case measure => simp [intOf]; omega
      · obtain rfl : k = n := by omega
        go_wp2_with fail
        go_ret
        exact ⟨rfl, BK.out⟩
end Go.Proofs.Ytmjmplkhngpgnaa
