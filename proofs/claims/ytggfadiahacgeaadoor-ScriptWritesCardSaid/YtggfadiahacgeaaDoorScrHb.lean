/- The document's One, more cases. -/
import Derived.Test.YtggfadiahacgeaaDoorScrH
namespace Go.Proofs.YtggfadiahacgeaaDoor
open Go.RowKit
set_option linter.unusedVariables false
set_option linter.unusedSimpArgs false
set_option maxRecDepth 100000 in
set_option maxHeartbeats 2000000 in
theorem one_1y (a b c d e : Int) (hb : 0 ≤ b ∧ b ≤ 255) (hc : 0 ≤ c ∧ c ≤ 255) (hd : 0 ≤ d ∧ d ≤ 255) (he : 0 ≤ e ∧ e ≤ 255) (ha : a = 1) (hcl : b < 1) (hs : b + c + d + e = 0) (w : World) :
    Calls Tryd.prog 13 #[.int .i64 a, .int .i64 b, .int .i64 c, .int .i64 d, .int .i64 e] w fun x w' => x = .returned (.agg (ints (oneE a b c d e)).toArray) ∧ Below w.heap.size w w' := by
  have HV : oneE a b c d e = [1, 0, 0, 0, 0, 0] := by unfold oneE; rw [if_pos (show (a = 1 ∧ b + c + d + e = 0) by omega)]
  rw [HV]
  clear HV
  have w1 : IntKind.i64.wrap (b + c) = b + c := IntWalk.i64_in _ (by omega)
  have w2 : IntKind.i64.wrap (b + c + d) = b + c + d := IntWalk.i64_in _ (by omega)
  have w3 : IntKind.i64.wrap (b + c + d + e) = b + c + d + e := IntWalk.i64_in _ (by omega)
  have w4 : IntKind.i64.wrap (c + d) = c + d := IntWalk.i64_in _ (by omega)
  have w5 : IntKind.i64.wrap (c + d + e) = c + d + e := IntWalk.i64_in _ (by omega)
  have w6 : IntKind.i64.wrap (65536 * b) = 65536 * b := IntWalk.i64_in _ (by omega)
  have w7 : IntKind.i64.wrap (256 * c) = 256 * c := IntWalk.i64_in _ (by omega)
  have w8 : IntKind.i64.wrap (65536 * b + 256 * c) = 65536 * b + 256 * c := IntWalk.i64_in _ (by omega)
  have w9 : IntKind.i64.wrap (65536 * b + 256 * c + d) = 65536 * b + 256 * c + d := IntWalk.i64_in _ (by omega)
  have f0 : (a == 1) = true := by simp; omega
  have f1 : (a == 2) = false := by simp; omega
  have f2 : (a == 3) = false := by simp; omega
  have f3 : (a == 4) = false := by simp; omega
  have f4 : (a == 5) = false := by simp; omega
  have f5 : (a == 6) = false := by simp; omega
  have f6 : decide (7 ≤ a) = false := decide_eq_false (by omega)
  have f7 : decide (a ≤ 9) = true := decide_eq_true (by omega)
  have f8 : decide (1 ≤ b) = false := decide_eq_false (by omega)
  have f9 : decide (b ≤ 8) = true := decide_eq_true (by omega)
  have f10 : (b + c + d + e == 0) = true := by simp; omega
  clear hb hc hd he
  clear ha hs hcl
  go_enter Tryd.func13, Tryd.ntmps13
  go_wp2_with fail
  refine bodyPost_ret (v := .agg (ints [1, 0, 0, 0, 0, 0]).toArray) (by simp [results, Tryd.results13, go_sem, ints, zE]) rfl ⟨rfl, ?_⟩
  repeat (first | exact Below.refl _ _ | refine Below.setCell ?_ (by simp) _ | refine Below.alloc ?_ (by simp <;> omega) _)
set_option maxRecDepth 100000 in
set_option maxHeartbeats 2000000 in
theorem one_1n_lo (a b c d e : Int) (hb : 0 ≤ b ∧ b ≤ 255) (hc : 0 ≤ c ∧ c ≤ 255) (hd : 0 ≤ d ∧ d ≤ 255) (he : 0 ≤ e ∧ e ≤ 255) (ha : a = 1) (hcl : b < 1) (hs : ¬ b + c + d + e = 0) (w : World) :
    Calls Tryd.prog 13 #[.int .i64 a, .int .i64 b, .int .i64 c, .int .i64 d, .int .i64 e] w fun x w' => x = .returned (.agg (ints (oneE a b c d e)).toArray) ∧ Below w.heap.size w w' := by
  have HV : oneE a b c d e = zE := by unfold oneE; rw [if_neg (show ¬ (a = 1 ∧ b + c + d + e = 0) by omega), if_neg (show ¬ (((a = 2 ∨ a = 4 ∨ a = 5 ∨ a = 6) ∧ (1 ≤ b ∧ b ≤ 8)) ∧ c + d + e = 0) by omega), if_neg (show ¬ (((a = 3 ∧ (1 ≤ b ∧ b ≤ 8)) ∧ rowB c d = true) ∧ (1 ≤ e ∧ e ≤ 4)) by omega), if_neg (show ¬ ((7 ≤ a ∧ a ≤ 9) ∧ e = 0) by omega)]
  rw [HV]
  clear HV
  have w1 : IntKind.i64.wrap (b + c) = b + c := IntWalk.i64_in _ (by omega)
  have w2 : IntKind.i64.wrap (b + c + d) = b + c + d := IntWalk.i64_in _ (by omega)
  have w3 : IntKind.i64.wrap (b + c + d + e) = b + c + d + e := IntWalk.i64_in _ (by omega)
  have w4 : IntKind.i64.wrap (c + d) = c + d := IntWalk.i64_in _ (by omega)
  have w5 : IntKind.i64.wrap (c + d + e) = c + d + e := IntWalk.i64_in _ (by omega)
  have w6 : IntKind.i64.wrap (65536 * b) = 65536 * b := IntWalk.i64_in _ (by omega)
  have w7 : IntKind.i64.wrap (256 * c) = 256 * c := IntWalk.i64_in _ (by omega)
  have w8 : IntKind.i64.wrap (65536 * b + 256 * c) = 65536 * b + 256 * c := IntWalk.i64_in _ (by omega)
  have w9 : IntKind.i64.wrap (65536 * b + 256 * c + d) = 65536 * b + 256 * c + d := IntWalk.i64_in _ (by omega)
  have f0 : (a == 1) = true := by simp; omega
  have f1 : (a == 2) = false := by simp; omega
  have f2 : (a == 3) = false := by simp; omega
  have f3 : (a == 4) = false := by simp; omega
  have f4 : (a == 5) = false := by simp; omega
  have f5 : (a == 6) = false := by simp; omega
  have f6 : decide (7 ≤ a) = false := decide_eq_false (by omega)
  have f7 : decide (a ≤ 9) = true := decide_eq_true (by omega)
  have f8 : decide (1 ≤ b) = false := decide_eq_false (by omega)
  have f9 : decide (b ≤ 8) = true := decide_eq_true (by omega)
  have f10 : (b + c + d + e == 0) = false := by simp; omega
  clear hb hc hd he
  clear ha hs hcl
  go_enter Tryd.func13, Tryd.ntmps13
  go_wp2_with fail
  refine bodyPost_ret (v := .agg (ints zE).toArray) (by simp [results, Tryd.results13, go_sem, ints, zE]) rfl ⟨rfl, ?_⟩
  repeat (first | exact Below.refl _ _ | refine Below.setCell ?_ (by simp) _ | refine Below.alloc ?_ (by simp <;> omega) _)
set_option maxRecDepth 100000 in
set_option maxHeartbeats 2000000 in
theorem one_1n_hi (a b c d e : Int) (hb : 0 ≤ b ∧ b ≤ 255) (hc : 0 ≤ c ∧ c ≤ 255) (hd : 0 ≤ d ∧ d ≤ 255) (he : 0 ≤ e ∧ e ≤ 255) (ha : a = 1) (hcl : 8 < b) (hs : ¬ b + c + d + e = 0) (w : World) :
    Calls Tryd.prog 13 #[.int .i64 a, .int .i64 b, .int .i64 c, .int .i64 d, .int .i64 e] w fun x w' => x = .returned (.agg (ints (oneE a b c d e)).toArray) ∧ Below w.heap.size w w' := by
  have HV : oneE a b c d e = zE := by unfold oneE; rw [if_neg (show ¬ (a = 1 ∧ b + c + d + e = 0) by omega), if_neg (show ¬ (((a = 2 ∨ a = 4 ∨ a = 5 ∨ a = 6) ∧ (1 ≤ b ∧ b ≤ 8)) ∧ c + d + e = 0) by omega), if_neg (show ¬ (((a = 3 ∧ (1 ≤ b ∧ b ≤ 8)) ∧ rowB c d = true) ∧ (1 ≤ e ∧ e ≤ 4)) by omega), if_neg (show ¬ ((7 ≤ a ∧ a ≤ 9) ∧ e = 0) by omega)]
  rw [HV]
  clear HV
  have w1 : IntKind.i64.wrap (b + c) = b + c := IntWalk.i64_in _ (by omega)
  have w2 : IntKind.i64.wrap (b + c + d) = b + c + d := IntWalk.i64_in _ (by omega)
  have w3 : IntKind.i64.wrap (b + c + d + e) = b + c + d + e := IntWalk.i64_in _ (by omega)
  have w4 : IntKind.i64.wrap (c + d) = c + d := IntWalk.i64_in _ (by omega)
  have w5 : IntKind.i64.wrap (c + d + e) = c + d + e := IntWalk.i64_in _ (by omega)
  have w6 : IntKind.i64.wrap (65536 * b) = 65536 * b := IntWalk.i64_in _ (by omega)
  have w7 : IntKind.i64.wrap (256 * c) = 256 * c := IntWalk.i64_in _ (by omega)
  have w8 : IntKind.i64.wrap (65536 * b + 256 * c) = 65536 * b + 256 * c := IntWalk.i64_in _ (by omega)
  have w9 : IntKind.i64.wrap (65536 * b + 256 * c + d) = 65536 * b + 256 * c + d := IntWalk.i64_in _ (by omega)
  have f0 : (a == 1) = true := by simp; omega
  have f1 : (a == 2) = false := by simp; omega
  have f2 : (a == 3) = false := by simp; omega
  have f3 : (a == 4) = false := by simp; omega
  have f4 : (a == 5) = false := by simp; omega
  have f5 : (a == 6) = false := by simp; omega
  have f6 : decide (7 ≤ a) = false := decide_eq_false (by omega)
  have f7 : decide (a ≤ 9) = true := decide_eq_true (by omega)
  have f8 : decide (1 ≤ b) = true := decide_eq_true (by omega)
  have f9 : decide (b ≤ 8) = false := decide_eq_false (by omega)
  have f10 : (b + c + d + e == 0) = false := by simp; omega
  clear hb hc hd he
  clear ha hs hcl
  go_enter Tryd.func13, Tryd.ntmps13
  go_wp2_with fail
  refine bodyPost_ret (v := .agg (ints zE).toArray) (by simp [results, Tryd.results13, go_sem, ints, zE]) rfl ⟨rfl, ?_⟩
  repeat (first | exact Below.refl _ _ | refine Below.setCell ?_ (by simp) _ | refine Below.alloc ?_ (by simp <;> omega) _)
set_option maxRecDepth 100000 in
set_option maxHeartbeats 2000000 in
theorem one_1n_in (a b c d e : Int) (hb : 0 ≤ b ∧ b ≤ 255) (hc : 0 ≤ c ∧ c ≤ 255) (hd : 0 ≤ d ∧ d ≤ 255) (he : 0 ≤ e ∧ e ≤ 255) (ha : a = 1) (hcl : 1 ≤ b ∧ b ≤ 8) (hs : ¬ b + c + d + e = 0) (w : World) :
    Calls Tryd.prog 13 #[.int .i64 a, .int .i64 b, .int .i64 c, .int .i64 d, .int .i64 e] w fun x w' => x = .returned (.agg (ints (oneE a b c d e)).toArray) ∧ Below w.heap.size w w' := by
  have HV : oneE a b c d e = zE := by unfold oneE; rw [if_neg (show ¬ (a = 1 ∧ b + c + d + e = 0) by omega), if_neg (show ¬ (((a = 2 ∨ a = 4 ∨ a = 5 ∨ a = 6) ∧ (1 ≤ b ∧ b ≤ 8)) ∧ c + d + e = 0) by omega), if_neg (show ¬ (((a = 3 ∧ (1 ≤ b ∧ b ≤ 8)) ∧ rowB c d = true) ∧ (1 ≤ e ∧ e ≤ 4)) by omega), if_neg (show ¬ ((7 ≤ a ∧ a ≤ 9) ∧ e = 0) by omega)]
  rw [HV]
  clear HV
  have w1 : IntKind.i64.wrap (b + c) = b + c := IntWalk.i64_in _ (by omega)
  have w2 : IntKind.i64.wrap (b + c + d) = b + c + d := IntWalk.i64_in _ (by omega)
  have w3 : IntKind.i64.wrap (b + c + d + e) = b + c + d + e := IntWalk.i64_in _ (by omega)
  have w4 : IntKind.i64.wrap (c + d) = c + d := IntWalk.i64_in _ (by omega)
  have w5 : IntKind.i64.wrap (c + d + e) = c + d + e := IntWalk.i64_in _ (by omega)
  have w6 : IntKind.i64.wrap (65536 * b) = 65536 * b := IntWalk.i64_in _ (by omega)
  have w7 : IntKind.i64.wrap (256 * c) = 256 * c := IntWalk.i64_in _ (by omega)
  have w8 : IntKind.i64.wrap (65536 * b + 256 * c) = 65536 * b + 256 * c := IntWalk.i64_in _ (by omega)
  have w9 : IntKind.i64.wrap (65536 * b + 256 * c + d) = 65536 * b + 256 * c + d := IntWalk.i64_in _ (by omega)
  have f0 : (a == 1) = true := by simp; omega
  have f1 : (a == 2) = false := by simp; omega
  have f2 : (a == 3) = false := by simp; omega
  have f3 : (a == 4) = false := by simp; omega
  have f4 : (a == 5) = false := by simp; omega
  have f5 : (a == 6) = false := by simp; omega
  have f6 : decide (7 ≤ a) = false := decide_eq_false (by omega)
  have f7 : decide (a ≤ 9) = true := decide_eq_true (by omega)
  have f8 : decide (1 ≤ b) = true := decide_eq_true (by omega)
  have f9 : decide (b ≤ 8) = true := decide_eq_true (by omega)
  have f10 : (b + c + d + e == 0) = false := by simp; omega
  clear hb hc hd he
  clear ha hs hcl
  go_enter Tryd.func13, Tryd.ntmps13
  go_wp2_with fail
  refine bodyPost_ret (v := .agg (ints zE).toArray) (by simp [results, Tryd.results13, go_sem, ints, zE]) rfl ⟨rfl, ?_⟩
  repeat (first | exact Below.refl _ _ | refine Below.setCell ?_ (by simp) _ | refine Below.alloc ?_ (by simp <;> omega) _)
set_option maxRecDepth 100000 in
set_option maxHeartbeats 2000000 in
theorem one_2y (a b c d e : Int) (hb : 0 ≤ b ∧ b ≤ 255) (hc : 0 ≤ c ∧ c ≤ 255) (hd : 0 ≤ d ∧ d ≤ 255) (he : 0 ≤ e ∧ e ≤ 255) (ha : a = 2) (hcl : 1 ≤ b ∧ b ≤ 8) (hs : c + d + e = 0) (w : World) :
    Calls Tryd.prog 13 #[.int .i64 a, .int .i64 b, .int .i64 c, .int .i64 d, .int .i64 e] w fun x w' => x = .returned (.agg (ints (oneE a b c d e)).toArray) ∧ Below w.heap.size w w' := by
  have HV : oneE a b c d e = [a, b, 0, 0, 0, 0] := by unfold oneE; rw [if_neg (show ¬ (a = 1 ∧ b + c + d + e = 0) by omega), if_pos (show (((a = 2 ∨ a = 4 ∨ a = 5 ∨ a = 6) ∧ (1 ≤ b ∧ b ≤ 8)) ∧ c + d + e = 0) by omega)]
  rw [HV]
  clear HV
  have w1 : IntKind.i64.wrap (b + c) = b + c := IntWalk.i64_in _ (by omega)
  have w2 : IntKind.i64.wrap (b + c + d) = b + c + d := IntWalk.i64_in _ (by omega)
  have w3 : IntKind.i64.wrap (b + c + d + e) = b + c + d + e := IntWalk.i64_in _ (by omega)
  have w4 : IntKind.i64.wrap (c + d) = c + d := IntWalk.i64_in _ (by omega)
  have w5 : IntKind.i64.wrap (c + d + e) = c + d + e := IntWalk.i64_in _ (by omega)
  have w6 : IntKind.i64.wrap (65536 * b) = 65536 * b := IntWalk.i64_in _ (by omega)
  have w7 : IntKind.i64.wrap (256 * c) = 256 * c := IntWalk.i64_in _ (by omega)
  have w8 : IntKind.i64.wrap (65536 * b + 256 * c) = 65536 * b + 256 * c := IntWalk.i64_in _ (by omega)
  have w9 : IntKind.i64.wrap (65536 * b + 256 * c + d) = 65536 * b + 256 * c + d := IntWalk.i64_in _ (by omega)
  have f0 : (a == 1) = false := by simp; omega
  have f1 : (a == 2) = true := by simp; omega
  have f2 : (a == 3) = false := by simp; omega
  have f3 : (a == 4) = false := by simp; omega
  have f4 : (a == 5) = false := by simp; omega
  have f5 : (a == 6) = false := by simp; omega
  have f6 : decide (7 ≤ a) = false := decide_eq_false (by omega)
  have f7 : decide (a ≤ 9) = true := decide_eq_true (by omega)
  have f8 : decide (1 ≤ b) = true := decide_eq_true (by omega)
  have f9 : decide (b ≤ 8) = true := decide_eq_true (by omega)
  have f10 : (c + d + e == 0) = true := by simp; omega
  clear hb hc hd he
  clear ha hs hcl
  go_enter Tryd.func13, Tryd.ntmps13
  go_wp2_with fail
  refine bodyPost_ret (v := .agg (ints [a, b, 0, 0, 0, 0]).toArray) (by simp [results, Tryd.results13, go_sem, ints, zE]) rfl ⟨rfl, ?_⟩
  repeat (first | exact Below.refl _ _ | refine Below.setCell ?_ (by simp) _ | refine Below.alloc ?_ (by simp <;> omega) _)
set_option maxRecDepth 100000 in
set_option maxHeartbeats 2000000 in
theorem one_2n (a b c d e : Int) (hb : 0 ≤ b ∧ b ≤ 255) (hc : 0 ≤ c ∧ c ≤ 255) (hd : 0 ≤ d ∧ d ≤ 255) (he : 0 ≤ e ∧ e ≤ 255) (ha : a = 2) (hcl : 1 ≤ b ∧ b ≤ 8) (hs : ¬ c + d + e = 0) (w : World) :
    Calls Tryd.prog 13 #[.int .i64 a, .int .i64 b, .int .i64 c, .int .i64 d, .int .i64 e] w fun x w' => x = .returned (.agg (ints (oneE a b c d e)).toArray) ∧ Below w.heap.size w w' := by
  have HV : oneE a b c d e = zE := by unfold oneE; rw [if_neg (show ¬ (a = 1 ∧ b + c + d + e = 0) by omega), if_neg (show ¬ (((a = 2 ∨ a = 4 ∨ a = 5 ∨ a = 6) ∧ (1 ≤ b ∧ b ≤ 8)) ∧ c + d + e = 0) by omega), if_neg (show ¬ (((a = 3 ∧ (1 ≤ b ∧ b ≤ 8)) ∧ rowB c d = true) ∧ (1 ≤ e ∧ e ≤ 4)) by omega), if_neg (show ¬ ((7 ≤ a ∧ a ≤ 9) ∧ e = 0) by omega)]
  rw [HV]
  clear HV
  have w1 : IntKind.i64.wrap (b + c) = b + c := IntWalk.i64_in _ (by omega)
  have w2 : IntKind.i64.wrap (b + c + d) = b + c + d := IntWalk.i64_in _ (by omega)
  have w3 : IntKind.i64.wrap (b + c + d + e) = b + c + d + e := IntWalk.i64_in _ (by omega)
  have w4 : IntKind.i64.wrap (c + d) = c + d := IntWalk.i64_in _ (by omega)
  have w5 : IntKind.i64.wrap (c + d + e) = c + d + e := IntWalk.i64_in _ (by omega)
  have w6 : IntKind.i64.wrap (65536 * b) = 65536 * b := IntWalk.i64_in _ (by omega)
  have w7 : IntKind.i64.wrap (256 * c) = 256 * c := IntWalk.i64_in _ (by omega)
  have w8 : IntKind.i64.wrap (65536 * b + 256 * c) = 65536 * b + 256 * c := IntWalk.i64_in _ (by omega)
  have w9 : IntKind.i64.wrap (65536 * b + 256 * c + d) = 65536 * b + 256 * c + d := IntWalk.i64_in _ (by omega)
  have f0 : (a == 1) = false := by simp; omega
  have f1 : (a == 2) = true := by simp; omega
  have f2 : (a == 3) = false := by simp; omega
  have f3 : (a == 4) = false := by simp; omega
  have f4 : (a == 5) = false := by simp; omega
  have f5 : (a == 6) = false := by simp; omega
  have f6 : decide (7 ≤ a) = false := decide_eq_false (by omega)
  have f7 : decide (a ≤ 9) = true := decide_eq_true (by omega)
  have f8 : decide (1 ≤ b) = true := decide_eq_true (by omega)
  have f9 : decide (b ≤ 8) = true := decide_eq_true (by omega)
  have f10 : (c + d + e == 0) = false := by simp; omega
  clear hb hc hd he
  clear ha hs hcl
  go_enter Tryd.func13, Tryd.ntmps13
  go_wp2_with fail
  refine bodyPost_ret (v := .agg (ints zE).toArray) (by simp [results, Tryd.results13, go_sem, ints, zE]) rfl ⟨rfl, ?_⟩
  repeat (first | exact Below.refl _ _ | refine Below.setCell ?_ (by simp) _ | refine Below.alloc ?_ (by simp <;> omega) _)
set_option maxRecDepth 100000 in
set_option maxHeartbeats 2000000 in
theorem one_2x_lo (a b c d e : Int) (hb : 0 ≤ b ∧ b ≤ 255) (hc : 0 ≤ c ∧ c ≤ 255) (hd : 0 ≤ d ∧ d ≤ 255) (he : 0 ≤ e ∧ e ≤ 255) (ha : a = 2) (hcl : b < 1)  (w : World) :
    Calls Tryd.prog 13 #[.int .i64 a, .int .i64 b, .int .i64 c, .int .i64 d, .int .i64 e] w fun x w' => x = .returned (.agg (ints (oneE a b c d e)).toArray) ∧ Below w.heap.size w w' := by
  have HV : oneE a b c d e = zE := by unfold oneE; rw [if_neg (show ¬ (a = 1 ∧ b + c + d + e = 0) by omega), if_neg (show ¬ (((a = 2 ∨ a = 4 ∨ a = 5 ∨ a = 6) ∧ (1 ≤ b ∧ b ≤ 8)) ∧ c + d + e = 0) by omega), if_neg (show ¬ (((a = 3 ∧ (1 ≤ b ∧ b ≤ 8)) ∧ rowB c d = true) ∧ (1 ≤ e ∧ e ≤ 4)) by omega), if_neg (show ¬ ((7 ≤ a ∧ a ≤ 9) ∧ e = 0) by omega)]
  rw [HV]
  clear HV
  have w1 : IntKind.i64.wrap (b + c) = b + c := IntWalk.i64_in _ (by omega)
  have w2 : IntKind.i64.wrap (b + c + d) = b + c + d := IntWalk.i64_in _ (by omega)
  have w3 : IntKind.i64.wrap (b + c + d + e) = b + c + d + e := IntWalk.i64_in _ (by omega)
  have w4 : IntKind.i64.wrap (c + d) = c + d := IntWalk.i64_in _ (by omega)
  have w5 : IntKind.i64.wrap (c + d + e) = c + d + e := IntWalk.i64_in _ (by omega)
  have w6 : IntKind.i64.wrap (65536 * b) = 65536 * b := IntWalk.i64_in _ (by omega)
  have w7 : IntKind.i64.wrap (256 * c) = 256 * c := IntWalk.i64_in _ (by omega)
  have w8 : IntKind.i64.wrap (65536 * b + 256 * c) = 65536 * b + 256 * c := IntWalk.i64_in _ (by omega)
  have w9 : IntKind.i64.wrap (65536 * b + 256 * c + d) = 65536 * b + 256 * c + d := IntWalk.i64_in _ (by omega)
  have f0 : (a == 1) = false := by simp; omega
  have f1 : (a == 2) = true := by simp; omega
  have f2 : (a == 3) = false := by simp; omega
  have f3 : (a == 4) = false := by simp; omega
  have f4 : (a == 5) = false := by simp; omega
  have f5 : (a == 6) = false := by simp; omega
  have f6 : decide (7 ≤ a) = false := decide_eq_false (by omega)
  have f7 : decide (a ≤ 9) = true := decide_eq_true (by omega)
  have f8 : decide (1 ≤ b) = false := decide_eq_false (by omega)
  have f9 : decide (b ≤ 8) = true := decide_eq_true (by omega)
  clear hb hc hd he
  clear ha hcl
  go_enter Tryd.func13, Tryd.ntmps13
  go_wp2_with fail
  refine bodyPost_ret (v := .agg (ints zE).toArray) (by simp [results, Tryd.results13, go_sem, ints, zE]) rfl ⟨rfl, ?_⟩
  repeat (first | exact Below.refl _ _ | refine Below.setCell ?_ (by simp) _ | refine Below.alloc ?_ (by simp <;> omega) _)
set_option maxRecDepth 100000 in
set_option maxHeartbeats 2000000 in
theorem one_2x_hi (a b c d e : Int) (hb : 0 ≤ b ∧ b ≤ 255) (hc : 0 ≤ c ∧ c ≤ 255) (hd : 0 ≤ d ∧ d ≤ 255) (he : 0 ≤ e ∧ e ≤ 255) (ha : a = 2) (hcl : 8 < b)  (w : World) :
    Calls Tryd.prog 13 #[.int .i64 a, .int .i64 b, .int .i64 c, .int .i64 d, .int .i64 e] w fun x w' => x = .returned (.agg (ints (oneE a b c d e)).toArray) ∧ Below w.heap.size w w' := by
  have HV : oneE a b c d e = zE := by unfold oneE; rw [if_neg (show ¬ (a = 1 ∧ b + c + d + e = 0) by omega), if_neg (show ¬ (((a = 2 ∨ a = 4 ∨ a = 5 ∨ a = 6) ∧ (1 ≤ b ∧ b ≤ 8)) ∧ c + d + e = 0) by omega), if_neg (show ¬ (((a = 3 ∧ (1 ≤ b ∧ b ≤ 8)) ∧ rowB c d = true) ∧ (1 ≤ e ∧ e ≤ 4)) by omega), if_neg (show ¬ ((7 ≤ a ∧ a ≤ 9) ∧ e = 0) by omega)]
  rw [HV]
  clear HV
  have w1 : IntKind.i64.wrap (b + c) = b + c := IntWalk.i64_in _ (by omega)
  have w2 : IntKind.i64.wrap (b + c + d) = b + c + d := IntWalk.i64_in _ (by omega)
  have w3 : IntKind.i64.wrap (b + c + d + e) = b + c + d + e := IntWalk.i64_in _ (by omega)
  have w4 : IntKind.i64.wrap (c + d) = c + d := IntWalk.i64_in _ (by omega)
  have w5 : IntKind.i64.wrap (c + d + e) = c + d + e := IntWalk.i64_in _ (by omega)
  have w6 : IntKind.i64.wrap (65536 * b) = 65536 * b := IntWalk.i64_in _ (by omega)
  have w7 : IntKind.i64.wrap (256 * c) = 256 * c := IntWalk.i64_in _ (by omega)
  have w8 : IntKind.i64.wrap (65536 * b + 256 * c) = 65536 * b + 256 * c := IntWalk.i64_in _ (by omega)
  have w9 : IntKind.i64.wrap (65536 * b + 256 * c + d) = 65536 * b + 256 * c + d := IntWalk.i64_in _ (by omega)
  have f0 : (a == 1) = false := by simp; omega
  have f1 : (a == 2) = true := by simp; omega
  have f2 : (a == 3) = false := by simp; omega
  have f3 : (a == 4) = false := by simp; omega
  have f4 : (a == 5) = false := by simp; omega
  have f5 : (a == 6) = false := by simp; omega
  have f6 : decide (7 ≤ a) = false := decide_eq_false (by omega)
  have f7 : decide (a ≤ 9) = true := decide_eq_true (by omega)
  have f8 : decide (1 ≤ b) = true := decide_eq_true (by omega)
  have f9 : decide (b ≤ 8) = false := decide_eq_false (by omega)
  clear hb hc hd he
  clear ha hcl
  go_enter Tryd.func13, Tryd.ntmps13
  go_wp2_with fail
  refine bodyPost_ret (v := .agg (ints zE).toArray) (by simp [results, Tryd.results13, go_sem, ints, zE]) rfl ⟨rfl, ?_⟩
  repeat (first | exact Below.refl _ _ | refine Below.setCell ?_ (by simp) _ | refine Below.alloc ?_ (by simp <;> omega) _)
set_option maxRecDepth 100000 in
set_option maxHeartbeats 2000000 in
theorem one_4y (a b c d e : Int) (hb : 0 ≤ b ∧ b ≤ 255) (hc : 0 ≤ c ∧ c ≤ 255) (hd : 0 ≤ d ∧ d ≤ 255) (he : 0 ≤ e ∧ e ≤ 255) (ha : a = 4) (hcl : 1 ≤ b ∧ b ≤ 8) (hs : c + d + e = 0) (w : World) :
    Calls Tryd.prog 13 #[.int .i64 a, .int .i64 b, .int .i64 c, .int .i64 d, .int .i64 e] w fun x w' => x = .returned (.agg (ints (oneE a b c d e)).toArray) ∧ Below w.heap.size w w' := by
  have HV : oneE a b c d e = [a, b, 0, 0, 0, 0] := by unfold oneE; rw [if_neg (show ¬ (a = 1 ∧ b + c + d + e = 0) by omega), if_pos (show (((a = 2 ∨ a = 4 ∨ a = 5 ∨ a = 6) ∧ (1 ≤ b ∧ b ≤ 8)) ∧ c + d + e = 0) by omega)]
  rw [HV]
  clear HV
  have w1 : IntKind.i64.wrap (b + c) = b + c := IntWalk.i64_in _ (by omega)
  have w2 : IntKind.i64.wrap (b + c + d) = b + c + d := IntWalk.i64_in _ (by omega)
  have w3 : IntKind.i64.wrap (b + c + d + e) = b + c + d + e := IntWalk.i64_in _ (by omega)
  have w4 : IntKind.i64.wrap (c + d) = c + d := IntWalk.i64_in _ (by omega)
  have w5 : IntKind.i64.wrap (c + d + e) = c + d + e := IntWalk.i64_in _ (by omega)
  have w6 : IntKind.i64.wrap (65536 * b) = 65536 * b := IntWalk.i64_in _ (by omega)
  have w7 : IntKind.i64.wrap (256 * c) = 256 * c := IntWalk.i64_in _ (by omega)
  have w8 : IntKind.i64.wrap (65536 * b + 256 * c) = 65536 * b + 256 * c := IntWalk.i64_in _ (by omega)
  have w9 : IntKind.i64.wrap (65536 * b + 256 * c + d) = 65536 * b + 256 * c + d := IntWalk.i64_in _ (by omega)
  have f0 : (a == 1) = false := by simp; omega
  have f1 : (a == 2) = false := by simp; omega
  have f2 : (a == 3) = false := by simp; omega
  have f3 : (a == 4) = true := by simp; omega
  have f4 : (a == 5) = false := by simp; omega
  have f5 : (a == 6) = false := by simp; omega
  have f6 : decide (7 ≤ a) = false := decide_eq_false (by omega)
  have f7 : decide (a ≤ 9) = true := decide_eq_true (by omega)
  have f8 : decide (1 ≤ b) = true := decide_eq_true (by omega)
  have f9 : decide (b ≤ 8) = true := decide_eq_true (by omega)
  have f10 : (c + d + e == 0) = true := by simp; omega
  clear hb hc hd he
  clear ha hs hcl
  go_enter Tryd.func13, Tryd.ntmps13
  go_wp2_with fail
  refine bodyPost_ret (v := .agg (ints [a, b, 0, 0, 0, 0]).toArray) (by simp [results, Tryd.results13, go_sem, ints, zE]) rfl ⟨rfl, ?_⟩
  repeat (first | exact Below.refl _ _ | refine Below.setCell ?_ (by simp) _ | refine Below.alloc ?_ (by simp <;> omega) _)
set_option maxRecDepth 100000 in
set_option maxHeartbeats 2000000 in
theorem one_4n (a b c d e : Int) (hb : 0 ≤ b ∧ b ≤ 255) (hc : 0 ≤ c ∧ c ≤ 255) (hd : 0 ≤ d ∧ d ≤ 255) (he : 0 ≤ e ∧ e ≤ 255) (ha : a = 4) (hcl : 1 ≤ b ∧ b ≤ 8) (hs : ¬ c + d + e = 0) (w : World) :
    Calls Tryd.prog 13 #[.int .i64 a, .int .i64 b, .int .i64 c, .int .i64 d, .int .i64 e] w fun x w' => x = .returned (.agg (ints (oneE a b c d e)).toArray) ∧ Below w.heap.size w w' := by
  have HV : oneE a b c d e = zE := by unfold oneE; rw [if_neg (show ¬ (a = 1 ∧ b + c + d + e = 0) by omega), if_neg (show ¬ (((a = 2 ∨ a = 4 ∨ a = 5 ∨ a = 6) ∧ (1 ≤ b ∧ b ≤ 8)) ∧ c + d + e = 0) by omega), if_neg (show ¬ (((a = 3 ∧ (1 ≤ b ∧ b ≤ 8)) ∧ rowB c d = true) ∧ (1 ≤ e ∧ e ≤ 4)) by omega), if_neg (show ¬ ((7 ≤ a ∧ a ≤ 9) ∧ e = 0) by omega)]
  rw [HV]
  clear HV
  have w1 : IntKind.i64.wrap (b + c) = b + c := IntWalk.i64_in _ (by omega)
  have w2 : IntKind.i64.wrap (b + c + d) = b + c + d := IntWalk.i64_in _ (by omega)
  have w3 : IntKind.i64.wrap (b + c + d + e) = b + c + d + e := IntWalk.i64_in _ (by omega)
  have w4 : IntKind.i64.wrap (c + d) = c + d := IntWalk.i64_in _ (by omega)
  have w5 : IntKind.i64.wrap (c + d + e) = c + d + e := IntWalk.i64_in _ (by omega)
  have w6 : IntKind.i64.wrap (65536 * b) = 65536 * b := IntWalk.i64_in _ (by omega)
  have w7 : IntKind.i64.wrap (256 * c) = 256 * c := IntWalk.i64_in _ (by omega)
  have w8 : IntKind.i64.wrap (65536 * b + 256 * c) = 65536 * b + 256 * c := IntWalk.i64_in _ (by omega)
  have w9 : IntKind.i64.wrap (65536 * b + 256 * c + d) = 65536 * b + 256 * c + d := IntWalk.i64_in _ (by omega)
  have f0 : (a == 1) = false := by simp; omega
  have f1 : (a == 2) = false := by simp; omega
  have f2 : (a == 3) = false := by simp; omega
  have f3 : (a == 4) = true := by simp; omega
  have f4 : (a == 5) = false := by simp; omega
  have f5 : (a == 6) = false := by simp; omega
  have f6 : decide (7 ≤ a) = false := decide_eq_false (by omega)
  have f7 : decide (a ≤ 9) = true := decide_eq_true (by omega)
  have f8 : decide (1 ≤ b) = true := decide_eq_true (by omega)
  have f9 : decide (b ≤ 8) = true := decide_eq_true (by omega)
  have f10 : (c + d + e == 0) = false := by simp; omega
  clear hb hc hd he
  clear ha hs hcl
  go_enter Tryd.func13, Tryd.ntmps13
  go_wp2_with fail
  refine bodyPost_ret (v := .agg (ints zE).toArray) (by simp [results, Tryd.results13, go_sem, ints, zE]) rfl ⟨rfl, ?_⟩
  repeat (first | exact Below.refl _ _ | refine Below.setCell ?_ (by simp) _ | refine Below.alloc ?_ (by simp <;> omega) _)
set_option maxRecDepth 100000 in
set_option maxHeartbeats 2000000 in
theorem one_4x_lo (a b c d e : Int) (hb : 0 ≤ b ∧ b ≤ 255) (hc : 0 ≤ c ∧ c ≤ 255) (hd : 0 ≤ d ∧ d ≤ 255) (he : 0 ≤ e ∧ e ≤ 255) (ha : a = 4) (hcl : b < 1)  (w : World) :
    Calls Tryd.prog 13 #[.int .i64 a, .int .i64 b, .int .i64 c, .int .i64 d, .int .i64 e] w fun x w' => x = .returned (.agg (ints (oneE a b c d e)).toArray) ∧ Below w.heap.size w w' := by
  have HV : oneE a b c d e = zE := by unfold oneE; rw [if_neg (show ¬ (a = 1 ∧ b + c + d + e = 0) by omega), if_neg (show ¬ (((a = 2 ∨ a = 4 ∨ a = 5 ∨ a = 6) ∧ (1 ≤ b ∧ b ≤ 8)) ∧ c + d + e = 0) by omega), if_neg (show ¬ (((a = 3 ∧ (1 ≤ b ∧ b ≤ 8)) ∧ rowB c d = true) ∧ (1 ≤ e ∧ e ≤ 4)) by omega), if_neg (show ¬ ((7 ≤ a ∧ a ≤ 9) ∧ e = 0) by omega)]
  rw [HV]
  clear HV
  have w1 : IntKind.i64.wrap (b + c) = b + c := IntWalk.i64_in _ (by omega)
  have w2 : IntKind.i64.wrap (b + c + d) = b + c + d := IntWalk.i64_in _ (by omega)
  have w3 : IntKind.i64.wrap (b + c + d + e) = b + c + d + e := IntWalk.i64_in _ (by omega)
  have w4 : IntKind.i64.wrap (c + d) = c + d := IntWalk.i64_in _ (by omega)
  have w5 : IntKind.i64.wrap (c + d + e) = c + d + e := IntWalk.i64_in _ (by omega)
  have w6 : IntKind.i64.wrap (65536 * b) = 65536 * b := IntWalk.i64_in _ (by omega)
  have w7 : IntKind.i64.wrap (256 * c) = 256 * c := IntWalk.i64_in _ (by omega)
  have w8 : IntKind.i64.wrap (65536 * b + 256 * c) = 65536 * b + 256 * c := IntWalk.i64_in _ (by omega)
  have w9 : IntKind.i64.wrap (65536 * b + 256 * c + d) = 65536 * b + 256 * c + d := IntWalk.i64_in _ (by omega)
  have f0 : (a == 1) = false := by simp; omega
  have f1 : (a == 2) = false := by simp; omega
  have f2 : (a == 3) = false := by simp; omega
  have f3 : (a == 4) = true := by simp; omega
  have f4 : (a == 5) = false := by simp; omega
  have f5 : (a == 6) = false := by simp; omega
  have f6 : decide (7 ≤ a) = false := decide_eq_false (by omega)
  have f7 : decide (a ≤ 9) = true := decide_eq_true (by omega)
  have f8 : decide (1 ≤ b) = false := decide_eq_false (by omega)
  have f9 : decide (b ≤ 8) = true := decide_eq_true (by omega)
  clear hb hc hd he
  clear ha hcl
  go_enter Tryd.func13, Tryd.ntmps13
  go_wp2_with fail
  refine bodyPost_ret (v := .agg (ints zE).toArray) (by simp [results, Tryd.results13, go_sem, ints, zE]) rfl ⟨rfl, ?_⟩
  repeat (first | exact Below.refl _ _ | refine Below.setCell ?_ (by simp) _ | refine Below.alloc ?_ (by simp <;> omega) _)
set_option maxRecDepth 100000 in
set_option maxHeartbeats 2000000 in
theorem one_4x_hi (a b c d e : Int) (hb : 0 ≤ b ∧ b ≤ 255) (hc : 0 ≤ c ∧ c ≤ 255) (hd : 0 ≤ d ∧ d ≤ 255) (he : 0 ≤ e ∧ e ≤ 255) (ha : a = 4) (hcl : 8 < b)  (w : World) :
    Calls Tryd.prog 13 #[.int .i64 a, .int .i64 b, .int .i64 c, .int .i64 d, .int .i64 e] w fun x w' => x = .returned (.agg (ints (oneE a b c d e)).toArray) ∧ Below w.heap.size w w' := by
  have HV : oneE a b c d e = zE := by unfold oneE; rw [if_neg (show ¬ (a = 1 ∧ b + c + d + e = 0) by omega), if_neg (show ¬ (((a = 2 ∨ a = 4 ∨ a = 5 ∨ a = 6) ∧ (1 ≤ b ∧ b ≤ 8)) ∧ c + d + e = 0) by omega), if_neg (show ¬ (((a = 3 ∧ (1 ≤ b ∧ b ≤ 8)) ∧ rowB c d = true) ∧ (1 ≤ e ∧ e ≤ 4)) by omega), if_neg (show ¬ ((7 ≤ a ∧ a ≤ 9) ∧ e = 0) by omega)]
  rw [HV]
  clear HV
  have w1 : IntKind.i64.wrap (b + c) = b + c := IntWalk.i64_in _ (by omega)
  have w2 : IntKind.i64.wrap (b + c + d) = b + c + d := IntWalk.i64_in _ (by omega)
  have w3 : IntKind.i64.wrap (b + c + d + e) = b + c + d + e := IntWalk.i64_in _ (by omega)
  have w4 : IntKind.i64.wrap (c + d) = c + d := IntWalk.i64_in _ (by omega)
  have w5 : IntKind.i64.wrap (c + d + e) = c + d + e := IntWalk.i64_in _ (by omega)
  have w6 : IntKind.i64.wrap (65536 * b) = 65536 * b := IntWalk.i64_in _ (by omega)
  have w7 : IntKind.i64.wrap (256 * c) = 256 * c := IntWalk.i64_in _ (by omega)
  have w8 : IntKind.i64.wrap (65536 * b + 256 * c) = 65536 * b + 256 * c := IntWalk.i64_in _ (by omega)
  have w9 : IntKind.i64.wrap (65536 * b + 256 * c + d) = 65536 * b + 256 * c + d := IntWalk.i64_in _ (by omega)
  have f0 : (a == 1) = false := by simp; omega
  have f1 : (a == 2) = false := by simp; omega
  have f2 : (a == 3) = false := by simp; omega
  have f3 : (a == 4) = true := by simp; omega
  have f4 : (a == 5) = false := by simp; omega
  have f5 : (a == 6) = false := by simp; omega
  have f6 : decide (7 ≤ a) = false := decide_eq_false (by omega)
  have f7 : decide (a ≤ 9) = true := decide_eq_true (by omega)
  have f8 : decide (1 ≤ b) = true := decide_eq_true (by omega)
  have f9 : decide (b ≤ 8) = false := decide_eq_false (by omega)
  clear hb hc hd he
  clear ha hcl
  go_enter Tryd.func13, Tryd.ntmps13
  go_wp2_with fail
  refine bodyPost_ret (v := .agg (ints zE).toArray) (by simp [results, Tryd.results13, go_sem, ints, zE]) rfl ⟨rfl, ?_⟩
  repeat (first | exact Below.refl _ _ | refine Below.setCell ?_ (by simp) _ | refine Below.alloc ?_ (by simp <;> omega) _)
set_option maxRecDepth 100000 in
set_option maxHeartbeats 2000000 in
theorem one_5y (a b c d e : Int) (hb : 0 ≤ b ∧ b ≤ 255) (hc : 0 ≤ c ∧ c ≤ 255) (hd : 0 ≤ d ∧ d ≤ 255) (he : 0 ≤ e ∧ e ≤ 255) (ha : a = 5) (hcl : 1 ≤ b ∧ b ≤ 8) (hs : c + d + e = 0) (w : World) :
    Calls Tryd.prog 13 #[.int .i64 a, .int .i64 b, .int .i64 c, .int .i64 d, .int .i64 e] w fun x w' => x = .returned (.agg (ints (oneE a b c d e)).toArray) ∧ Below w.heap.size w w' := by
  have HV : oneE a b c d e = [a, b, 0, 0, 0, 0] := by unfold oneE; rw [if_neg (show ¬ (a = 1 ∧ b + c + d + e = 0) by omega), if_pos (show (((a = 2 ∨ a = 4 ∨ a = 5 ∨ a = 6) ∧ (1 ≤ b ∧ b ≤ 8)) ∧ c + d + e = 0) by omega)]
  rw [HV]
  clear HV
  have w1 : IntKind.i64.wrap (b + c) = b + c := IntWalk.i64_in _ (by omega)
  have w2 : IntKind.i64.wrap (b + c + d) = b + c + d := IntWalk.i64_in _ (by omega)
  have w3 : IntKind.i64.wrap (b + c + d + e) = b + c + d + e := IntWalk.i64_in _ (by omega)
  have w4 : IntKind.i64.wrap (c + d) = c + d := IntWalk.i64_in _ (by omega)
  have w5 : IntKind.i64.wrap (c + d + e) = c + d + e := IntWalk.i64_in _ (by omega)
  have w6 : IntKind.i64.wrap (65536 * b) = 65536 * b := IntWalk.i64_in _ (by omega)
  have w7 : IntKind.i64.wrap (256 * c) = 256 * c := IntWalk.i64_in _ (by omega)
  have w8 : IntKind.i64.wrap (65536 * b + 256 * c) = 65536 * b + 256 * c := IntWalk.i64_in _ (by omega)
  have w9 : IntKind.i64.wrap (65536 * b + 256 * c + d) = 65536 * b + 256 * c + d := IntWalk.i64_in _ (by omega)
  have f0 : (a == 1) = false := by simp; omega
  have f1 : (a == 2) = false := by simp; omega
  have f2 : (a == 3) = false := by simp; omega
  have f3 : (a == 4) = false := by simp; omega
  have f4 : (a == 5) = true := by simp; omega
  have f5 : (a == 6) = false := by simp; omega
  have f6 : decide (7 ≤ a) = false := decide_eq_false (by omega)
  have f7 : decide (a ≤ 9) = true := decide_eq_true (by omega)
  have f8 : decide (1 ≤ b) = true := decide_eq_true (by omega)
  have f9 : decide (b ≤ 8) = true := decide_eq_true (by omega)
  have f10 : (c + d + e == 0) = true := by simp; omega
  clear hb hc hd he
  clear ha hs hcl
  go_enter Tryd.func13, Tryd.ntmps13
  go_wp2_with fail
  refine bodyPost_ret (v := .agg (ints [a, b, 0, 0, 0, 0]).toArray) (by simp [results, Tryd.results13, go_sem, ints, zE]) rfl ⟨rfl, ?_⟩
  repeat (first | exact Below.refl _ _ | refine Below.setCell ?_ (by simp) _ | refine Below.alloc ?_ (by simp <;> omega) _)
set_option maxRecDepth 100000 in
set_option maxHeartbeats 2000000 in
theorem one_5n (a b c d e : Int) (hb : 0 ≤ b ∧ b ≤ 255) (hc : 0 ≤ c ∧ c ≤ 255) (hd : 0 ≤ d ∧ d ≤ 255) (he : 0 ≤ e ∧ e ≤ 255) (ha : a = 5) (hcl : 1 ≤ b ∧ b ≤ 8) (hs : ¬ c + d + e = 0) (w : World) :
    Calls Tryd.prog 13 #[.int .i64 a, .int .i64 b, .int .i64 c, .int .i64 d, .int .i64 e] w fun x w' => x = .returned (.agg (ints (oneE a b c d e)).toArray) ∧ Below w.heap.size w w' := by
  have HV : oneE a b c d e = zE := by unfold oneE; rw [if_neg (show ¬ (a = 1 ∧ b + c + d + e = 0) by omega), if_neg (show ¬ (((a = 2 ∨ a = 4 ∨ a = 5 ∨ a = 6) ∧ (1 ≤ b ∧ b ≤ 8)) ∧ c + d + e = 0) by omega), if_neg (show ¬ (((a = 3 ∧ (1 ≤ b ∧ b ≤ 8)) ∧ rowB c d = true) ∧ (1 ≤ e ∧ e ≤ 4)) by omega), if_neg (show ¬ ((7 ≤ a ∧ a ≤ 9) ∧ e = 0) by omega)]
  rw [HV]
  clear HV
  have w1 : IntKind.i64.wrap (b + c) = b + c := IntWalk.i64_in _ (by omega)
  have w2 : IntKind.i64.wrap (b + c + d) = b + c + d := IntWalk.i64_in _ (by omega)
  have w3 : IntKind.i64.wrap (b + c + d + e) = b + c + d + e := IntWalk.i64_in _ (by omega)
  have w4 : IntKind.i64.wrap (c + d) = c + d := IntWalk.i64_in _ (by omega)
  have w5 : IntKind.i64.wrap (c + d + e) = c + d + e := IntWalk.i64_in _ (by omega)
  have w6 : IntKind.i64.wrap (65536 * b) = 65536 * b := IntWalk.i64_in _ (by omega)
  have w7 : IntKind.i64.wrap (256 * c) = 256 * c := IntWalk.i64_in _ (by omega)
  have w8 : IntKind.i64.wrap (65536 * b + 256 * c) = 65536 * b + 256 * c := IntWalk.i64_in _ (by omega)
  have w9 : IntKind.i64.wrap (65536 * b + 256 * c + d) = 65536 * b + 256 * c + d := IntWalk.i64_in _ (by omega)
  have f0 : (a == 1) = false := by simp; omega
  have f1 : (a == 2) = false := by simp; omega
  have f2 : (a == 3) = false := by simp; omega
  have f3 : (a == 4) = false := by simp; omega
  have f4 : (a == 5) = true := by simp; omega
  have f5 : (a == 6) = false := by simp; omega
  have f6 : decide (7 ≤ a) = false := decide_eq_false (by omega)
  have f7 : decide (a ≤ 9) = true := decide_eq_true (by omega)
  have f8 : decide (1 ≤ b) = true := decide_eq_true (by omega)
  have f9 : decide (b ≤ 8) = true := decide_eq_true (by omega)
  have f10 : (c + d + e == 0) = false := by simp; omega
  clear hb hc hd he
  clear ha hs hcl
  go_enter Tryd.func13, Tryd.ntmps13
  go_wp2_with fail
  refine bodyPost_ret (v := .agg (ints zE).toArray) (by simp [results, Tryd.results13, go_sem, ints, zE]) rfl ⟨rfl, ?_⟩
  repeat (first | exact Below.refl _ _ | refine Below.setCell ?_ (by simp) _ | refine Below.alloc ?_ (by simp <;> omega) _)
set_option maxRecDepth 100000 in
set_option maxHeartbeats 2000000 in
theorem one_5x_lo (a b c d e : Int) (hb : 0 ≤ b ∧ b ≤ 255) (hc : 0 ≤ c ∧ c ≤ 255) (hd : 0 ≤ d ∧ d ≤ 255) (he : 0 ≤ e ∧ e ≤ 255) (ha : a = 5) (hcl : b < 1)  (w : World) :
    Calls Tryd.prog 13 #[.int .i64 a, .int .i64 b, .int .i64 c, .int .i64 d, .int .i64 e] w fun x w' => x = .returned (.agg (ints (oneE a b c d e)).toArray) ∧ Below w.heap.size w w' := by
  have HV : oneE a b c d e = zE := by unfold oneE; rw [if_neg (show ¬ (a = 1 ∧ b + c + d + e = 0) by omega), if_neg (show ¬ (((a = 2 ∨ a = 4 ∨ a = 5 ∨ a = 6) ∧ (1 ≤ b ∧ b ≤ 8)) ∧ c + d + e = 0) by omega), if_neg (show ¬ (((a = 3 ∧ (1 ≤ b ∧ b ≤ 8)) ∧ rowB c d = true) ∧ (1 ≤ e ∧ e ≤ 4)) by omega), if_neg (show ¬ ((7 ≤ a ∧ a ≤ 9) ∧ e = 0) by omega)]
  rw [HV]
  clear HV
  have w1 : IntKind.i64.wrap (b + c) = b + c := IntWalk.i64_in _ (by omega)
  have w2 : IntKind.i64.wrap (b + c + d) = b + c + d := IntWalk.i64_in _ (by omega)
  have w3 : IntKind.i64.wrap (b + c + d + e) = b + c + d + e := IntWalk.i64_in _ (by omega)
  have w4 : IntKind.i64.wrap (c + d) = c + d := IntWalk.i64_in _ (by omega)
  have w5 : IntKind.i64.wrap (c + d + e) = c + d + e := IntWalk.i64_in _ (by omega)
  have w6 : IntKind.i64.wrap (65536 * b) = 65536 * b := IntWalk.i64_in _ (by omega)
  have w7 : IntKind.i64.wrap (256 * c) = 256 * c := IntWalk.i64_in _ (by omega)
  have w8 : IntKind.i64.wrap (65536 * b + 256 * c) = 65536 * b + 256 * c := IntWalk.i64_in _ (by omega)
  have w9 : IntKind.i64.wrap (65536 * b + 256 * c + d) = 65536 * b + 256 * c + d := IntWalk.i64_in _ (by omega)
  have f0 : (a == 1) = false := by simp; omega
  have f1 : (a == 2) = false := by simp; omega
  have f2 : (a == 3) = false := by simp; omega
  have f3 : (a == 4) = false := by simp; omega
  have f4 : (a == 5) = true := by simp; omega
  have f5 : (a == 6) = false := by simp; omega
  have f6 : decide (7 ≤ a) = false := decide_eq_false (by omega)
  have f7 : decide (a ≤ 9) = true := decide_eq_true (by omega)
  have f8 : decide (1 ≤ b) = false := decide_eq_false (by omega)
  have f9 : decide (b ≤ 8) = true := decide_eq_true (by omega)
  clear hb hc hd he
  clear ha hcl
  go_enter Tryd.func13, Tryd.ntmps13
  go_wp2_with fail
  refine bodyPost_ret (v := .agg (ints zE).toArray) (by simp [results, Tryd.results13, go_sem, ints, zE]) rfl ⟨rfl, ?_⟩
  repeat (first | exact Below.refl _ _ | refine Below.setCell ?_ (by simp) _ | refine Below.alloc ?_ (by simp <;> omega) _)
set_option maxRecDepth 100000 in
set_option maxHeartbeats 2000000 in
theorem one_5x_hi (a b c d e : Int) (hb : 0 ≤ b ∧ b ≤ 255) (hc : 0 ≤ c ∧ c ≤ 255) (hd : 0 ≤ d ∧ d ≤ 255) (he : 0 ≤ e ∧ e ≤ 255) (ha : a = 5) (hcl : 8 < b)  (w : World) :
    Calls Tryd.prog 13 #[.int .i64 a, .int .i64 b, .int .i64 c, .int .i64 d, .int .i64 e] w fun x w' => x = .returned (.agg (ints (oneE a b c d e)).toArray) ∧ Below w.heap.size w w' := by
  have HV : oneE a b c d e = zE := by unfold oneE; rw [if_neg (show ¬ (a = 1 ∧ b + c + d + e = 0) by omega), if_neg (show ¬ (((a = 2 ∨ a = 4 ∨ a = 5 ∨ a = 6) ∧ (1 ≤ b ∧ b ≤ 8)) ∧ c + d + e = 0) by omega), if_neg (show ¬ (((a = 3 ∧ (1 ≤ b ∧ b ≤ 8)) ∧ rowB c d = true) ∧ (1 ≤ e ∧ e ≤ 4)) by omega), if_neg (show ¬ ((7 ≤ a ∧ a ≤ 9) ∧ e = 0) by omega)]
  rw [HV]
  clear HV
  have w1 : IntKind.i64.wrap (b + c) = b + c := IntWalk.i64_in _ (by omega)
  have w2 : IntKind.i64.wrap (b + c + d) = b + c + d := IntWalk.i64_in _ (by omega)
  have w3 : IntKind.i64.wrap (b + c + d + e) = b + c + d + e := IntWalk.i64_in _ (by omega)
  have w4 : IntKind.i64.wrap (c + d) = c + d := IntWalk.i64_in _ (by omega)
  have w5 : IntKind.i64.wrap (c + d + e) = c + d + e := IntWalk.i64_in _ (by omega)
  have w6 : IntKind.i64.wrap (65536 * b) = 65536 * b := IntWalk.i64_in _ (by omega)
  have w7 : IntKind.i64.wrap (256 * c) = 256 * c := IntWalk.i64_in _ (by omega)
  have w8 : IntKind.i64.wrap (65536 * b + 256 * c) = 65536 * b + 256 * c := IntWalk.i64_in _ (by omega)
  have w9 : IntKind.i64.wrap (65536 * b + 256 * c + d) = 65536 * b + 256 * c + d := IntWalk.i64_in _ (by omega)
  have f0 : (a == 1) = false := by simp; omega
  have f1 : (a == 2) = false := by simp; omega
  have f2 : (a == 3) = false := by simp; omega
  have f3 : (a == 4) = false := by simp; omega
  have f4 : (a == 5) = true := by simp; omega
  have f5 : (a == 6) = false := by simp; omega
  have f6 : decide (7 ≤ a) = false := decide_eq_false (by omega)
  have f7 : decide (a ≤ 9) = true := decide_eq_true (by omega)
  have f8 : decide (1 ≤ b) = true := decide_eq_true (by omega)
  have f9 : decide (b ≤ 8) = false := decide_eq_false (by omega)
  clear hb hc hd he
  clear ha hcl
  go_enter Tryd.func13, Tryd.ntmps13
  go_wp2_with fail
  refine bodyPost_ret (v := .agg (ints zE).toArray) (by simp [results, Tryd.results13, go_sem, ints, zE]) rfl ⟨rfl, ?_⟩
  repeat (first | exact Below.refl _ _ | refine Below.setCell ?_ (by simp) _ | refine Below.alloc ?_ (by simp <;> omega) _)
set_option maxRecDepth 100000 in
set_option maxHeartbeats 2000000 in
theorem one_6y (a b c d e : Int) (hb : 0 ≤ b ∧ b ≤ 255) (hc : 0 ≤ c ∧ c ≤ 255) (hd : 0 ≤ d ∧ d ≤ 255) (he : 0 ≤ e ∧ e ≤ 255) (ha : a = 6) (hcl : 1 ≤ b ∧ b ≤ 8) (hs : c + d + e = 0) (w : World) :
    Calls Tryd.prog 13 #[.int .i64 a, .int .i64 b, .int .i64 c, .int .i64 d, .int .i64 e] w fun x w' => x = .returned (.agg (ints (oneE a b c d e)).toArray) ∧ Below w.heap.size w w' := by
  have HV : oneE a b c d e = [a, b, 0, 0, 0, 0] := by unfold oneE; rw [if_neg (show ¬ (a = 1 ∧ b + c + d + e = 0) by omega), if_pos (show (((a = 2 ∨ a = 4 ∨ a = 5 ∨ a = 6) ∧ (1 ≤ b ∧ b ≤ 8)) ∧ c + d + e = 0) by omega)]
  rw [HV]
  clear HV
  have w1 : IntKind.i64.wrap (b + c) = b + c := IntWalk.i64_in _ (by omega)
  have w2 : IntKind.i64.wrap (b + c + d) = b + c + d := IntWalk.i64_in _ (by omega)
  have w3 : IntKind.i64.wrap (b + c + d + e) = b + c + d + e := IntWalk.i64_in _ (by omega)
  have w4 : IntKind.i64.wrap (c + d) = c + d := IntWalk.i64_in _ (by omega)
  have w5 : IntKind.i64.wrap (c + d + e) = c + d + e := IntWalk.i64_in _ (by omega)
  have w6 : IntKind.i64.wrap (65536 * b) = 65536 * b := IntWalk.i64_in _ (by omega)
  have w7 : IntKind.i64.wrap (256 * c) = 256 * c := IntWalk.i64_in _ (by omega)
  have w8 : IntKind.i64.wrap (65536 * b + 256 * c) = 65536 * b + 256 * c := IntWalk.i64_in _ (by omega)
  have w9 : IntKind.i64.wrap (65536 * b + 256 * c + d) = 65536 * b + 256 * c + d := IntWalk.i64_in _ (by omega)
  have f0 : (a == 1) = false := by simp; omega
  have f1 : (a == 2) = false := by simp; omega
  have f2 : (a == 3) = false := by simp; omega
  have f3 : (a == 4) = false := by simp; omega
  have f4 : (a == 5) = false := by simp; omega
  have f5 : (a == 6) = true := by simp; omega
  have f6 : decide (7 ≤ a) = false := decide_eq_false (by omega)
  have f7 : decide (a ≤ 9) = true := decide_eq_true (by omega)
  have f8 : decide (1 ≤ b) = true := decide_eq_true (by omega)
  have f9 : decide (b ≤ 8) = true := decide_eq_true (by omega)
  have f10 : (c + d + e == 0) = true := by simp; omega
  clear hb hc hd he
  clear ha hs hcl
  go_enter Tryd.func13, Tryd.ntmps13
  go_wp2_with fail
  refine bodyPost_ret (v := .agg (ints [a, b, 0, 0, 0, 0]).toArray) (by simp [results, Tryd.results13, go_sem, ints, zE]) rfl ⟨rfl, ?_⟩
  repeat (first | exact Below.refl _ _ | refine Below.setCell ?_ (by simp) _ | refine Below.alloc ?_ (by simp <;> omega) _)
end Go.Proofs.YtggfadiahacgeaaDoor
