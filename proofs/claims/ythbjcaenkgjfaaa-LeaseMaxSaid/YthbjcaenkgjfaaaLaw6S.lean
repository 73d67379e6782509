/- The walk of LeaseSpan. -/
import Derived.Test.YthbjcaenkgjfaaaLaw6N
namespace Go.Proofs.Ythbjcaenkgjfaaa
open Go.RowKit
set_option linter.unusedVariables false
set_option linter.unusedSimpArgs false

theorem ren_nil (k now : Int) (h : 0 ≤ now) : renL k now [] = [(k, now)] := by
  unfold renL putL atL
  simp only [Option.getD_none]
  rw [show max 0 now = now by omega]
theorem ren_one (k s now : Int) (h : s ≤ now) : renL k now [(k, s)] = [(k, now)] := by
  unfold renL putL atL
  rw [if_pos rfl, if_neg (by simp), if_pos rfl]
  simp only [Option.getD_some]
  rw [show max s now = now by omega]
theorem due_one {k s now n : Int} (hn : isT now = true) (h : n ≤ now - s) : dueIds n now [(k, s)] = [k] := by
  unfold dueIds dueL
  rw [hn]
  simp [h]
theorem due_no {k s now n : Int} (h : ¬ n ≤ now - s) : dueIds n now [(k, s)] = [] := by
  unfold dueIds dueL
  split
  · simp [h]
  · rfl
theorem due_nil (n now : Int) : dueIds n now [] = [] := by unfold dueIds dueL; split <;> rfl
theorem del_one (k s : Int) : delL k [(k, s)] = [] := by unfold delL; simp

set_option maxRecDepth 100000 in
set_option maxHeartbeats 16000000 in
theorem leaseSpan_walk (sp a b d : Int) (hs : 0 ≤ sp ∧ sp < 65536) (ha : 0 ≤ a ∧ a < 4294967296) (hb : 0 ≤ b ∧ b < 4294967296) (hd : 0 ≤ d ∧ d < 4294967296) (w : World) :
    Calls Try.prog 4 #[.int .u16 sp, .int .u32 a, .int .u32 b, .int .u32 d] w fun e w' => e = .returned (.bool true) ∧ Below w.heap.size w w' := by
  have hnn := fun W => run_neq_nil_nil (P := Try.prog) W 26 Try.underlying26
  have h1 := Int.tmod_lt_of_pos sp (show (0 : Int) < 1000 by omega)
  have h2 : 0 ≤ sp.tmod 1000 := Int.tmod_nonneg _ hs.1
  generalize hr : sp.tmod 1000 = r at h1 h2
  have v1 : IntKind.i64.wrap sp = sp := IntWalk.i64_in _ (by omega)
  have v2 : IntKind.i64.wrap r = r := IntWalk.i64_in _ (by omega)
  have v3 : IntKind.i64.wrap (1 + r) = 1 + r := IntWalk.i64_in _ (by omega)
  go_enter Try.func4, Try.ntmps4
  go_wp2_with fail
  refine (leaseAlive _).mono ?_
  rintro e w0 ⟨rfl, hb0⟩
  have B0 := Lib.hid hb0
  clear hb0
  go_wp2_with fail
  generalize hn : 1 + r = n
  have hn1 : 1 ≤ n ∧ n ≤ 1000 := by omega
  clear v3 v2 v1 h1 h2 hr hn
  refine (newL_ok n hn1 _).mono ?_
  rintro e w1 ⟨rfl, hl1, hb1⟩
  have L1 := Lib.hid hl1
  have B1 := Lib.hid (stepB B0.out hb1)
  have hsz := B0.out.size
  clear hl1 hb1
  have u1 : IntKind.i64.wrap a = a := IntWalk.i64_in _ (by omega)
  have u2 : IntKind.i64.wrap b = b := IntWalk.i64_in _ (by omega)
  have u3 : IntKind.i64.wrap d = d := IntWalk.i64_in _ (by omega)
  have u4 : IntKind.i64.wrap (1 + d) = 1 + d := IntWalk.i64_in _ (by omega)
  have u5 : IntKind.i64.wrap (a + n) = a + n := IntWalk.i64_in _ (by omega)
  have u6 : IntKind.i64.wrap (a + n - 1) = a + n - 1 := IntWalk.i64_in _ (by omega)
  have u7 : IntKind.i64.wrap (a + n + b) = a + n + b := IntWalk.i64_in _ (by omega)
  have u8 : IntKind.i64.wrap (a + 5000) = a + 5000 := IntWalk.i64_in _ (by omega)
  have u9 : IntKind.i64.wrap (a + 5000 + b) = a + 5000 + b := IntWalk.i64_in _ (by omega)
  go_wp2_with fail
  refine (renew_ok (1 + d) a (by omega) (isT_iff.2 (by omega)) _ L1.out (by decide)).mono ?_
  rintro e w2 ⟨rfl, hl2, ht2⟩
  rw [ren_nil _ _ ha.1] at hl2
  have L2 := Lib.hid hl2
  have B2 := Lib.hid (B1.out.trans (ht2.below (B := w.heap.size) (fun k hk e => by omega) B1.out.size))
  clear hl2 ht2
  go_wp2_with fail
  refine (due_s (a + n - 1) _ L2.out (by omega)).mono ?_
  rw [due_no (by omega)]
  rintro e w3 ⟨A3, c3, rfl, hr3, hb3⟩
  have L3 := Lib.hid (L2.out.step hb3)
  have B3 := Lib.hid (stepB B2.out hb3)
  clear hr3 hb3
  go_wp2_with fail
  refine (due_s (a + n + b) _ L3.out (by omega)).mono ?_
  rw [due_one (isT_iff.2 (by omega)) (by omega)]
  rintro e w4 ⟨A4, c4, rfl, hr4, hb4⟩
  have R4 := Lib.hid hr4
  have L4 := Lib.hid (L3.out.step hb4)
  have B4 := Lib.hid (stepB B3.out hb4)
  clear hr4 hb4
  go_wp2_with fail
  refine (ints_same _ _ 1 _ _ _ _ [1 + d] _ (by omega) (R4.out.alloc (Nat.le_refl _) _) (reads_newInt w4 _ (1 + d))).mono ?_
  rintro e w5 ⟨rfl, q, rfl⟩
  have L5 := Lib.hid (L4.out.step (w' := (w4.alloc (.cells #[.int .i64 (1 + d)] 3)).drewN q) (below_drewN (Joins.below_alloc1 w4 _) q))
  have B5 := Lib.hid (stepB B4.out (W' := (w4.alloc (.cells #[.int .i64 (1 + d)] 3)).drewN q) (below_drewN (Joins.below_alloc1 w4 _) q))
  generalize (w4.alloc (.cells #[.int .i64 (1 + d)] 3)).drewN q = V5 at L5 B5 ⊢
  go_wp2_with fail
  refine (renew_ok (1 + d) (a + n + b) (by omega) (isT_iff.2 (by omega)) _ L5.out (by decide)).mono ?_
  rintro e w6 ⟨rfl, hl6, ht6⟩
  rw [ren_one _ _ _ (by omega)] at hl6
  have L6 := Lib.hid hl6
  have B6 := Lib.hid (B5.out.trans (ht6.below (B := w.heap.size) (fun k hk e => by omega) B5.out.size))
  clear hl6 ht6
  go_wp2_with fail
  refine (due_s (a + n + b) _ L6.out (by omega)).mono ?_
  rw [due_no (by omega)]
  rintro e w7 ⟨A7, c7, rfl, hr7, hb7⟩
  have L7 := Lib.hid (L6.out.step hb7)
  have B7 := Lib.hid (stepB B6.out hb7)
  clear hr7 hb7
  go_wp2_with fail
  refine (endL_ok (s := a + n + b) (1 + d) (WalkArith.wf_i64 (by omega)) (by unfold atL; rw [if_pos rfl]) _ L7.out).mono ?_
  rintro e w8 ⟨rfl, hl8, ht8⟩
  rw [del_one] at hl8
  have L8 := Lib.hid hl8
  have B8 := Lib.hid (B7.out.trans (ht8.below (B := w.heap.size) (fun k hk e => by omega) B7.out.size))
  clear hl8 ht8
  go_wp2_with fail
  refine (all_s _ L8.out (by omega)).mono ?_
  rw [show (List.map (fun x : IP => x.1) []).length = 0 from rfl]
  rintro e w9 ⟨A9, c9, rfl, hr9, hb9⟩
  have L9 := Lib.hid (L8.out.step hb9)
  have B9 := Lib.hid (stepB B8.out hb9)
  clear hr9 hb9
  go_wp2_with fail
  refine (due_s (a + 5000 + b) _ L9.out (by omega)).mono ?_
  rw [due_nil]
  rintro e w10 ⟨A10, c10, rfl, hr10, hb10⟩
  have B10 := Lib.hid (stepB B9.out hb10)
  clear hr10 hb10
  go_wp2_with fail
  go_ret
  exact ⟨rfl, B10.out⟩
end Go.Proofs.Ythbjcaenkgjfaaa
