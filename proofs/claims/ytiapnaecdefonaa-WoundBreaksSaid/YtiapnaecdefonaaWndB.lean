/- The contract of wounds: who is wounded, by whom, in a map. -/
import Derived.Test.YtiapnaecdefonaaEdgA
import Derived.Test.YtiapnaecdefonaaWndA
import Derived.Test.YtiapnaecdefonaaWndM
import Derived.Deep.DeepCutAuto
namespace Go.Proofs.Ytiapnaecdefonaa
open Go.RowKit
set_option linter.unusedVariables false
set_option linter.unusedSimpArgs false

def woundV (t b : Int) : Value := .agg #[.int .i64 t, .int .i64 b]
def woundF (E : Egs) (t : Int) : Option Value := (byL E t).map (woundV t)
theorem byL_other {E : Egs} {a t j : Int} (h : j ≠ t) : byL (E ++ [(a, t)]) j = byL E j := by
  rw [byL_snoc]
  unfold byStep
  split
  · rename_i h1; rw [h1, if_neg (fun e => h e.1.symm)]
  · rename_i n h1; rw [h1, if_neg (fun e => h e.1.symm)]
theorem woundF_set {E : Egs} {a t : Int} (h : byL (E ++ [(a, t)]) t = some a) (j : Int) : (if j = t then some (.agg #[.int .i64 t, .int .i64 a]) else woundF E j) = woundF (E ++ [(a, t)]) j := by
  by_cases e : j = t
  · subst e; rw [if_pos rfl]; unfold woundF; rw [h]; rfl
  · rw [if_neg e]; unfold woundF; rw [byL_other e]
theorem woundF_keep {E : Egs} {a t : Int} (h : byL (E ++ [(a, t)]) t = byL E t) (j : Int) : woundF E j = woundF (E ++ [(a, t)]) j := by
  by_cases e : j = t
  · subst e; unfold woundF; rw [h]
  · unfold woundF; rw [byL_other e]
section
variable {w : World} {n : Nat} {A : Option Addr} {ls : List (List Int)}
set_option maxRecDepth 100000 in
set_option maxHeartbeats 8000000 in
theorem wounds_any {c : Nat} (w : World) (h : EdgM w w.heap.size A n ls) (hn : n ≤ 1000) :
    Calls Try.prog 28 #[.slice A n c] w fun e w' => e = .returned (.map (some w.heap.size)) ∧ MapV w' w.heap.size n (woundF (eds ls)) ∧ Below w.heap.size w w' := by
  have HH := Lib.hid h
  have HI := Lib.hid info_edge4
  have hmm := @run_makeMap Try.prog
  clear h
  go_enter Try.func28, Try.ntmps28
  go_wp2_with fail
  go_loopw [10] (fun s10 wr => ∃ (k : Nat), s10 = .int .i64 k ∧ k ≤ n ∧ MapV wr w.heap.size k (woundF (eds (ls.take k))) ∧ Below w.heap.size w wr) (fun s10 _ => n - (RowKit.intOf s10).toNat)
  case atStart => exact ⟨0, rfl, Nat.zero_le _, (mapV_made w).to fun j => rfl, Joins.below_alloc1 _ _⟩
  case round =>
    obtain ⟨k, rfl, hk, hmap, hb⟩ := hrel
    rename World => W
    have HM := Lib.hid hmap
    have HB := Lib.hid hb
    have HS := Lib.hid hb.size
    clear hmap hb
    by_cases hlt : k < n
    · obtain ⟨b, off, a, s, t, u, rfl, hbl, ⟨hl, e⟩, hc, wa, wt⟩ := (HH.out.below HB.out).at_ hlt
      have HE := Lib.hid (eds_take ls hl e)
      have HC := Lib.hid hc
      have WT := Lib.hid wt
      clear hc wa wt e
      have BE := Lib.hid (Blk.new W 41 #[.int .i64 a, .int .i64 s, .int .i64 t, .int .i64 u])
      by_cases hat : t ≤ a
      · have d1 : decide (t ≤ a) = true := by simpa using hat
        have KP := Lib.hid (show byL (eds (ls.take k) ++ [(a, t)]) t = byL (eds (ls.take k)) t from by
          rw [byL_snoc]; unfold byStep
          split
          · rename_i h1; rw [h1, if_neg (by omega)]
          · rename_i n1 h1; rw [h1, if_neg (by omega)])
        clear hat
        go_wp2_with (refine wpList_load_cells rfl 41 (.tmp 12) rfl ⟨b, off + k * 4, none⟩ rfl [.int .i64 a, .int .i64 s, .int .i64 t, .int .i64 u] _ HC.out Try.underlying41 rfl HI.out ?_)
        go_roundw
        case rel =>
          refine ⟨k + 1, by go_num, by omega, ((HM.out.alloc _).more (Nat.le_succ _)).to fun j => ?_, HB.out.alloc HS.out _⟩
          rw [HE.out]; exact woundF_keep KP.out j
        case measure => simp [RowKit.intOf]; omega
      · have d1 : decide (t ≤ a) = false := by simpa using hat
        have hat' : a < t := by omega
        cases hby : byL (eds (ls.take k)) t with
        | none =>
          have VX := Lib.hid (show (woundF (eds (ls.take k)) t).getD (.agg #[.int .i64 0, .int .i64 0]) = .agg #[.int .i64 0, .int .i64 0] from by unfold woundF; rw [hby]; rfl)
          have IR := Lib.hid (show (!decide ((0 : Int) = 0 ∧ (0 : Int) = 0)) = false from by rfl)
          have KP := Lib.hid (show byL (eds (ls.take k) ++ [(a, t)]) t = some a from by rw [byL_snoc, hby]; simp [byStep, hat'])
          clear hby hat hat'
          go_upto_region 7 with (first
            | (refine wpList_load_cells rfl 41 (.tmp 12) rfl ⟨b, off + k * 4, none⟩ rfl [.int .i64 a, .int .i64 s, .int .i64 t, .int .i64 u] _ HC.out Try.underlying41 rfl HI.out ?_)
            | (at_lookup; refine wpList_lookV _ rfl _ _ 55 rfl 33 Try.underlying55 _ (zeroWound _) rfl (HM.out.alloc _) t rfl WT.out _ VX.out ?_))
          have BE2 := Lib.hid (BE.out.alloc (.cells #[.int .i64 0, .int .i64 0] 33))
          have BW := Lib.hid (Blk.new (W.alloc (.cells #[.int .i64 a, .int .i64 s, .int .i64 t, .int .i64 u] 41)) 33 #[.int .i64 0, .int .i64 0])
          rw [show (W.alloc (.cells #[.int .i64 a, .int .i64 s, .int .i64 t, .int .i64 u] 41)).heap.size = W.heap.size + 1 by simp] at BW
          have HM2 := Lib.hid ((HM.out.alloc (.cells #[.int .i64 a, .int .i64 s, .int .i64 t, .int .i64 u] 41)).alloc (.cells #[.int .i64 0, .int .i64 0] 33))
          have HB2 := Lib.hid ((HB.out.alloc HS.out (.cells #[.int .i64 a, .int .i64 s, .int .i64 t, .int .i64 u] 41)).alloc (by have := HS.out; simp; omega) (.cells #[.int .i64 0, .int .i64 0] 33))
          generalize (W.alloc (.cells #[.int .i64 a, .int .i64 s, .int .i64 t, .int .i64 u] 41)).alloc (.cells #[.int .i64 0, .int .i64 0] 33) = V at BE2 BW HM2 HB2 ⊢
          clear BE VX HC
          go_wp2_with (first
            | (refine wpList_load_cells rfl 33 (.tmp 6) rfl ⟨W.heap.size + 1, 0, none⟩ rfl [.int .i64 0, .int .i64 0] _ (cells_two (BW.out.cell 0) (BW.out.cell 1)) Try.underlying33 rfl (by kernel_rfl) ?_)
            | (go_at_call 32; refine (isOne_any 0 0 false IR.out _).mono ?_; rintro e V2 ⟨rfl, hb2⟩; have k0 : V2.cell? ⟨W.heap.size, 0, none⟩ = some (.int .i64 a) := (BE2.out.here hb2).cell 0; have k2 : V2.cell? ⟨W.heap.size, 2, none⟩ = some (.int .i64 t) := (BE2.out.here hb2).cell 2; have k1 : V2.cell? ⟨W.heap.size + 1, 1, none⟩ = some (.int .i64 0) := (BW.out.here hb2).cell 1; have HM3 := Lib.hid (HM2.out.here hb2); have HB3 := Lib.hid (HB2.out.trans (hb2.mono HB2.out.size)); clear hb2)
            | (at_mapUpdate; refine wpList_putV _ rfl _ _ _ 55 rfl 33 Try.underlying55 rfl HM3.out (by simp only [maxLen]; omega) t rfl WT.out (.agg #[.int .i64 t, .int .i64 a]) rfl ?_; intro wz hmz hgz hsz; have MZ := Lib.hid hmz; have GZ := Lib.hid hgz; clear hmz hgz hsz))
          go_roundw
          case rel =>
            refine ⟨k + 1, by go_num, by omega, MZ.out.to fun j => ?_, HB3.out.grown GZ.out HB3.out.size (fun j hj => by cases hj; exact Nat.le_refl _)⟩
            rw [HE.out]; exact woundF_set KP.out j
          case measure => simp [RowKit.intOf]; omega
        | some n1 =>
          by_cases hn1 : a < n1
          · have VX := Lib.hid (show (woundF (eds (ls.take k)) t).getD (.agg #[.int .i64 0, .int .i64 0]) = .agg #[.int .i64 t, .int .i64 n1] from by unfold woundF; rw [hby]; rfl)
            have IR := Lib.hid (show (!decide ((t : Int) = 0 ∧ (n1 : Int) = 0)) = true from by have := (byL_some hby).1; simp; omega)
            have d2 : decide (a < n1) = true := by simpa using hn1
            have KP := Lib.hid (show byL (eds (ls.take k) ++ [(a, t)]) t = some a from by rw [byL_snoc, hby]; simp [byStep, hat', hn1])
            clear hby hat hat' hn1
            go_upto_region 7 with (first
              | (refine wpList_load_cells rfl 41 (.tmp 12) rfl ⟨b, off + k * 4, none⟩ rfl [.int .i64 a, .int .i64 s, .int .i64 t, .int .i64 u] _ HC.out Try.underlying41 rfl HI.out ?_)
              | (at_lookup; refine wpList_lookV _ rfl _ _ 55 rfl 33 Try.underlying55 _ (zeroWound _) rfl (HM.out.alloc _) t rfl WT.out _ VX.out ?_))
            have BE2 := Lib.hid (BE.out.alloc (.cells #[.int .i64 t, .int .i64 n1] 33))
            have BW := Lib.hid (Blk.new (W.alloc (.cells #[.int .i64 a, .int .i64 s, .int .i64 t, .int .i64 u] 41)) 33 #[.int .i64 t, .int .i64 n1])
            rw [show (W.alloc (.cells #[.int .i64 a, .int .i64 s, .int .i64 t, .int .i64 u] 41)).heap.size = W.heap.size + 1 by simp] at BW
            have HM2 := Lib.hid ((HM.out.alloc (.cells #[.int .i64 a, .int .i64 s, .int .i64 t, .int .i64 u] 41)).alloc (.cells #[.int .i64 t, .int .i64 n1] 33))
            have HB2 := Lib.hid ((HB.out.alloc HS.out (.cells #[.int .i64 a, .int .i64 s, .int .i64 t, .int .i64 u] 41)).alloc (by have := HS.out; simp; omega) (.cells #[.int .i64 t, .int .i64 n1] 33))
            generalize (W.alloc (.cells #[.int .i64 a, .int .i64 s, .int .i64 t, .int .i64 u] 41)).alloc (.cells #[.int .i64 t, .int .i64 n1] 33) = V at BE2 BW HM2 HB2 ⊢
            clear BE VX HC
            go_wp2_with (first
              | (refine wpList_load_cells rfl 33 (.tmp 6) rfl ⟨W.heap.size + 1, 0, none⟩ rfl [.int .i64 t, .int .i64 n1] _ (cells_two (BW.out.cell 0) (BW.out.cell 1)) Try.underlying33 rfl (by kernel_rfl) ?_)
              | (go_at_call 32; refine (isOne_any t n1 true IR.out _).mono ?_; rintro e V2 ⟨rfl, hb2⟩; have k0 : V2.cell? ⟨W.heap.size, 0, none⟩ = some (.int .i64 a) := (BE2.out.here hb2).cell 0; have k2 : V2.cell? ⟨W.heap.size, 2, none⟩ = some (.int .i64 t) := (BE2.out.here hb2).cell 2; have k1 : V2.cell? ⟨W.heap.size + 1, 1, none⟩ = some (.int .i64 n1) := (BW.out.here hb2).cell 1; have HM3 := Lib.hid (HM2.out.here hb2); have HB3 := Lib.hid (HB2.out.trans (hb2.mono HB2.out.size)); clear hb2)
              | (at_mapUpdate; refine wpList_putV _ rfl _ _ _ 55 rfl 33 Try.underlying55 rfl HM3.out (by simp only [maxLen]; omega) t rfl WT.out (.agg #[.int .i64 t, .int .i64 a]) rfl ?_; intro wz hmz hgz hsz; have MZ := Lib.hid hmz; have GZ := Lib.hid hgz; clear hmz hgz hsz))
            go_roundw
            case rel =>
              refine ⟨k + 1, by go_num, by omega, MZ.out.to fun j => ?_, HB3.out.grown GZ.out HB3.out.size (fun j hj => by cases hj; exact Nat.le_refl _)⟩
              rw [HE.out]; exact woundF_set KP.out j
            case measure => simp [RowKit.intOf]; omega
          · have VX := Lib.hid (show (woundF (eds (ls.take k)) t).getD (.agg #[.int .i64 0, .int .i64 0]) = .agg #[.int .i64 t, .int .i64 n1] from by unfold woundF; rw [hby]; rfl)
            have IR := Lib.hid (show (!decide ((t : Int) = 0 ∧ (n1 : Int) = 0)) = true from by have := (byL_some hby).1; simp; omega)
            have d2 : decide (a < n1) = false := by simpa using hn1
            have KP := Lib.hid (show byL (eds (ls.take k) ++ [(a, t)]) t = byL (eds (ls.take k)) t from by rw [byL_snoc, hby]; simp [byStep, hat', hn1])
            clear hby hat hat' hn1
            go_upto_region 7 with (first
              | (refine wpList_load_cells rfl 41 (.tmp 12) rfl ⟨b, off + k * 4, none⟩ rfl [.int .i64 a, .int .i64 s, .int .i64 t, .int .i64 u] _ HC.out Try.underlying41 rfl HI.out ?_)
              | (at_lookup; refine wpList_lookV _ rfl _ _ 55 rfl 33 Try.underlying55 _ (zeroWound _) rfl (HM.out.alloc _) t rfl WT.out _ VX.out ?_))
            have BE2 := Lib.hid (BE.out.alloc (.cells #[.int .i64 t, .int .i64 n1] 33))
            have BW := Lib.hid (Blk.new (W.alloc (.cells #[.int .i64 a, .int .i64 s, .int .i64 t, .int .i64 u] 41)) 33 #[.int .i64 t, .int .i64 n1])
            rw [show (W.alloc (.cells #[.int .i64 a, .int .i64 s, .int .i64 t, .int .i64 u] 41)).heap.size = W.heap.size + 1 by simp] at BW
            have HM2 := Lib.hid ((HM.out.alloc (.cells #[.int .i64 a, .int .i64 s, .int .i64 t, .int .i64 u] 41)).alloc (.cells #[.int .i64 t, .int .i64 n1] 33))
            have HB2 := Lib.hid ((HB.out.alloc HS.out (.cells #[.int .i64 a, .int .i64 s, .int .i64 t, .int .i64 u] 41)).alloc (by have := HS.out; simp; omega) (.cells #[.int .i64 t, .int .i64 n1] 33))
            generalize (W.alloc (.cells #[.int .i64 a, .int .i64 s, .int .i64 t, .int .i64 u] 41)).alloc (.cells #[.int .i64 t, .int .i64 n1] 33) = V at BE2 BW HM2 HB2 ⊢
            clear BE VX HC
            go_wp2_with (first
              | (refine wpList_load_cells rfl 33 (.tmp 6) rfl ⟨W.heap.size + 1, 0, none⟩ rfl [.int .i64 t, .int .i64 n1] _ (cells_two (BW.out.cell 0) (BW.out.cell 1)) Try.underlying33 rfl (by kernel_rfl) ?_)
              | (go_at_call 32; refine (isOne_any t n1 true IR.out _).mono ?_; rintro e V2 ⟨rfl, hb2⟩; have k0 : V2.cell? ⟨W.heap.size, 0, none⟩ = some (.int .i64 a) := (BE2.out.here hb2).cell 0; have k2 : V2.cell? ⟨W.heap.size, 2, none⟩ = some (.int .i64 t) := (BE2.out.here hb2).cell 2; have k1 : V2.cell? ⟨W.heap.size + 1, 1, none⟩ = some (.int .i64 n1) := (BW.out.here hb2).cell 1; have HM3 := Lib.hid (HM2.out.here hb2); have HB3 := Lib.hid (HB2.out.trans (hb2.mono HB2.out.size)); clear hb2))
            go_roundw
            case rel =>
              refine ⟨k + 1, by go_num, by omega, (HM3.out.more (Nat.le_succ _)).to fun j => ?_, HB3.out⟩
              rw [HE.out]; exact woundF_keep KP.out j
            case measure => simp [RowKit.intOf]; omega
    · obtain rfl : k = n := by omega
      rw [List.take_of_length_le (by have := HH.out.count; omega)] at HM
      go_wp2_with fail
      go_ret
      exact ⟨rfl, HM.out, HB.out⟩
end
end Go.Proofs.Ytiapnaecdefonaa
