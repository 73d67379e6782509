/- The document's One. -/
import Derived.Test.YtggfadiahacgeaaDoorScrD
namespace Go.Proofs.YtggfadiahacgeaaDoor
open Go.RowKit
set_option linter.unusedVariables false
set_option linter.unusedSimpArgs false

set_option maxRecDepth 100000 in
set_option maxHeartbeats 1000000 in
theorem rowR_any (t r : Int) (w : World) :
    Calls Tryd.prog 22 #[resV t r] w fun e w' => e = .returned (.bool (rowB t r)) ∧ Below w.heap.size w w' := by
  have HQ : Hid ((decide (0 < t) && (decide (t < 251) && (decide (-1 < r) && decide (r < 251)))) = rowB t r) := by
    show _ = _
    unfold rowB; rw [Bool.eq_iff_iff]; simp; omega
  cases h1 : decide (0 < t) <;> cases h2 : decide (t < 251) <;> cases h3 : decide (-1 < r) <;> cases h4 : decide (r < 251)
  all_goals
    go_enter Tryd.func22, Tryd.ntmps22
    go_wp2
    go_ret
    exact ⟨ret_bool (by rw [← HQ.out, h1, h2, h3, h4]; rfl), Joins.below_alloc1 _ _⟩
theorem info_ent9 (a b c d e f : Value) : (Tryd.prog.info? 33).map (·.size) = some (#[a, b, c, d, e, f] : Array Value).size := by kernel_rfl
theorem ent9_load {w : World} {k : Nat} {a b c d e f : Value} (h : Blk w k 33 #[a, b, c, d, e, f]) : (loadVar 33 ⟨k, 0, none⟩).run Tryd.prog w = .ok (.agg #[a, b, c, d, e, f]) w :=
  run_loadVar_row w k _ 33 _ (0, 0) _ h Tryd.underlying33 rfl (info_ent9 a b c d e f)
theorem info_res3 (u v : Value) : (Tryd.prog.info? 27).map (·.size) = some (#[u, v] : Array Value).size := by kernel_rfl
theorem row_b (t r : Int) (b : Bool) (hb : rowB t r = b) (w : World) : Calls Tryd.prog 22 #[resV t r] w fun e w' => e = .returned (.bool b) ∧ Below w.heap.size w w' := by rw [← hb]; exact rowR_any t r w
set_option maxRecDepth 100000 in
set_option maxHeartbeats 2000000 in
theorem one_3r (a b c d e : Int) (hb : 0 ≤ b ∧ b ≤ 255) (hc : 0 ≤ c ∧ c ≤ 255) (hd : 0 ≤ d ∧ d ≤ 255) (he : 0 ≤ e ∧ e ≤ 255) (ha : a = 3) (hcl : 1 ≤ b ∧ b ≤ 8) (hr : rowB c d = false) (w : World) :
    Calls Tryd.prog 13 #[.int .i64 a, .int .i64 b, .int .i64 c, .int .i64 d, .int .i64 e] w fun x w' => x = .returned (.agg (ints (oneE a b c d e)).toArray) ∧ Below w.heap.size w w' := by
  have HV : oneE a b c d e = zE := by unfold oneE; rw [if_neg (show ¬ (a = 1 ∧ b + c + d + e = 0) by omega), if_neg (show ¬ (((a = 2 ∨ a = 4 ∨ a = 5 ∨ a = 6) ∧ (1 ≤ b ∧ b ≤ 8)) ∧ c + d + e = 0) by omega), if_neg (show ¬ (((a = 3 ∧ (1 ≤ b ∧ b ≤ 8)) ∧ rowB c d = true) ∧ (1 ≤ e ∧ e ≤ 4)) by (rw [hr]; rintro ⟨⟨_, h⟩, _⟩; cases h)), if_neg (show ¬ ((7 ≤ a ∧ a ≤ 9) ∧ e = 0) by omega)]
  rw [HV]
  clear HV
  have w1 : IntKind.i64.wrap (b + c) = b + c := IntWalk.i64_in _ (by omega)
  have w2 : IntKind.i64.wrap (b + c + d) = b + c + d := IntWalk.i64_in _ (by omega)
  have w3 : IntKind.i64.wrap (b + c + d + e) = b + c + d + e := IntWalk.i64_in _ (by omega)
  have w4 : IntKind.i64.wrap (c + d) = c + d := IntWalk.i64_in _ (by omega)
  have w5 : IntKind.i64.wrap (c + d + e) = c + d + e := IntWalk.i64_in _ (by omega)
  have w6 : IntKind.i64.wrap (65536 * b) = 65536 * b := IntWalk.i64_in _ (by omega)
  have w7 : IntKind.i64.wrap (256 * c) = 256 * c := IntWalk.i64_in _ (by omega)
  have w8 : IntKind.i64.wrap (65536 * b + 256 * c) = 65536 * b + 256 * c := IntWalk.i64_in _ (by omega)
  have w9 : IntKind.i64.wrap (65536 * b + 256 * c + d) = 65536 * b + 256 * c + d := IntWalk.i64_in _ (by omega)
  have f0 : (a == 1) = false := by simp; omega
  have f1 : (a == 2) = false := by simp; omega
  have f2 : (a == 3) = true := by simp; omega
  have f3 : (a == 4) = false := by simp; omega
  have f4 : (a == 5) = false := by simp; omega
  have f5 : (a == 6) = false := by simp; omega
  have f6 : decide (7 ≤ a) = false := decide_eq_false (by omega)
  have f7 : decide (a ≤ 9) = true := decide_eq_true (by omega)
  have f8 : decide (1 ≤ b) = true := decide_eq_true (by omega)
  have f9 : decide (b ≤ 8) = true := decide_eq_true (by omega)
  have HR := Lib.hid hr
  have TKL := True.intro
  clear hb hc hd he
  clear ha hcl hr
  go_enter Tryd.func13, Tryd.ntmps13
  go_wp2_with (first
    | (go_at_call 22; refine (row_b c d _ HR.out _).mono ?_; rintro x1 w1 ⟨rfl, hbe⟩; have XR := Lib.hid ((((Blk.new w 33 (ints zE).toArray).alloc (.cells #[.int .i64 c, .int .i64 d] 27)).here hbe)); have XT := Lib.hid (((Blk.new_at (w := w.alloc (.cells (ints zE).toArray 33)) (n := w.heap.size + 1) (by simp) 27 #[.int .i64 c, .int .i64 d]).here hbe)); have B1 := Lib.hid (stepB ((Joins.below_alloc1 w (.cells (ints zE).toArray 33)).alloc (by simp) (.cells #[.int .i64 c, .int .i64 d] 27)) hbe); clear hbe)
    | (have _t := TKL; refine wpList_load_row_g (by rfl) 27 (.tmp 12) (by rfl) (w.heap.size + 1) (by rfl) _ _ (0, 0) _ XT.out Tryd.underlying27 rfl (info_res3 _ _) ?_; clear _t TKL)
    | (refine wpList_store_mid (by rfl) 33 (.tmp 10) (.tmp 103) (by rfl) w.heap.size 0 (ints zE).toArray (by rfl) (by rfl) (XR.out.there (Nat.le_refl 6)) (info_ent9 _ _ _ _ _ _) (ints_oneCell zE) ?_))
  exact bodyPost_ret (v := .agg (ints zE).toArray) (results_cell_e rfl rfl (ent9_load (XR.out.put (ints zE).toArray rfl))) rfl ⟨rfl, Below.setCells (Nat.le_refl _) _ _ _ B1.out⟩
set_option maxRecDepth 100000 in
set_option maxHeartbeats 2000000 in
theorem one_3l (a b c d e : Int) (hb : 0 ≤ b ∧ b ≤ 255) (hc : 0 ≤ c ∧ c ≤ 255) (hd : 0 ≤ d ∧ d ≤ 255) (he : 0 ≤ e ∧ e ≤ 255) (ha : a = 3) (hcl : 1 ≤ b ∧ b ≤ 8) (hr : rowB c d = true) (h3 : e < 1) (w : World) :
    Calls Tryd.prog 13 #[.int .i64 a, .int .i64 b, .int .i64 c, .int .i64 d, .int .i64 e] w fun x w' => x = .returned (.agg (ints (oneE a b c d e)).toArray) ∧ Below w.heap.size w w' := by
  have HV : oneE a b c d e = zE := by unfold oneE; rw [if_neg (show ¬ (a = 1 ∧ b + c + d + e = 0) by omega), if_neg (show ¬ (((a = 2 ∨ a = 4 ∨ a = 5 ∨ a = 6) ∧ (1 ≤ b ∧ b ≤ 8)) ∧ c + d + e = 0) by omega), if_neg (show ¬ (((a = 3 ∧ (1 ≤ b ∧ b ≤ 8)) ∧ rowB c d = true) ∧ (1 ≤ e ∧ e ≤ 4)) by omega), if_neg (show ¬ ((7 ≤ a ∧ a ≤ 9) ∧ e = 0) by omega)]
  rw [HV]
  clear HV
  have w1 : IntKind.i64.wrap (b + c) = b + c := IntWalk.i64_in _ (by omega)
  have w2 : IntKind.i64.wrap (b + c + d) = b + c + d := IntWalk.i64_in _ (by omega)
  have w3 : IntKind.i64.wrap (b + c + d + e) = b + c + d + e := IntWalk.i64_in _ (by omega)
  have w4 : IntKind.i64.wrap (c + d) = c + d := IntWalk.i64_in _ (by omega)
  have w5 : IntKind.i64.wrap (c + d + e) = c + d + e := IntWalk.i64_in _ (by omega)
  have w6 : IntKind.i64.wrap (65536 * b) = 65536 * b := IntWalk.i64_in _ (by omega)
  have w7 : IntKind.i64.wrap (256 * c) = 256 * c := IntWalk.i64_in _ (by omega)
  have w8 : IntKind.i64.wrap (65536 * b + 256 * c) = 65536 * b + 256 * c := IntWalk.i64_in _ (by omega)
  have w9 : IntKind.i64.wrap (65536 * b + 256 * c + d) = 65536 * b + 256 * c + d := IntWalk.i64_in _ (by omega)
  have f0 : (a == 1) = false := by simp; omega
  have f1 : (a == 2) = false := by simp; omega
  have f2 : (a == 3) = true := by simp; omega
  have f3 : (a == 4) = false := by simp; omega
  have f4 : (a == 5) = false := by simp; omega
  have f5 : (a == 6) = false := by simp; omega
  have f6 : decide (7 ≤ a) = false := decide_eq_false (by omega)
  have f7 : decide (a ≤ 9) = true := decide_eq_true (by omega)
  have f8 : decide (1 ≤ b) = true := decide_eq_true (by omega)
  have f9 : decide (b ≤ 8) = true := decide_eq_true (by omega)
  have f10 : decide (1 ≤ e) = false := decide_eq_false (by omega)
  have f11 : decide (e ≤ 4) = true := decide_eq_true (by omega)
  have HR := Lib.hid hr
  have TKL := True.intro
  clear hb hc hd he
  clear ha hcl hr h3
  go_enter Tryd.func13, Tryd.ntmps13
  go_wp2_with (first
    | (go_at_call 22; refine (row_b c d _ HR.out _).mono ?_; rintro x1 w1 ⟨rfl, hbe⟩; have XR := Lib.hid ((((Blk.new w 33 (ints zE).toArray).alloc (.cells #[.int .i64 c, .int .i64 d] 27)).here hbe)); have XT := Lib.hid (((Blk.new_at (w := w.alloc (.cells (ints zE).toArray 33)) (n := w.heap.size + 1) (by simp) 27 #[.int .i64 c, .int .i64 d]).here hbe)); have B1 := Lib.hid (stepB ((Joins.below_alloc1 w (.cells (ints zE).toArray 33)).alloc (by simp) (.cells #[.int .i64 c, .int .i64 d] 27)) hbe); clear hbe)
    | (have _t := TKL; refine wpList_load_row_g (by rfl) 27 (.tmp 12) (by rfl) (w.heap.size + 1) (by rfl) _ _ (0, 0) _ XT.out Tryd.underlying27 rfl (info_res3 _ _) ?_; clear _t TKL)
    | (refine wpList_store_mid (by rfl) 33 (.tmp 10) (.tmp 103) (by rfl) w.heap.size 0 (ints zE).toArray (by rfl) (by rfl) (XR.out.there (Nat.le_refl 6)) (info_ent9 _ _ _ _ _ _) (ints_oneCell zE) ?_))
  exact bodyPost_ret (v := .agg (ints zE).toArray) (results_cell_e rfl rfl (ent9_load (XR.out.put (ints zE).toArray rfl))) rfl ⟨rfl, Below.setCells (Nat.le_refl _) _ _ _ B1.out⟩
set_option maxRecDepth 100000 in
set_option maxHeartbeats 2000000 in
theorem one_3h (a b c d e : Int) (hb : 0 ≤ b ∧ b ≤ 255) (hc : 0 ≤ c ∧ c ≤ 255) (hd : 0 ≤ d ∧ d ≤ 255) (he : 0 ≤ e ∧ e ≤ 255) (ha : a = 3) (hcl : 1 ≤ b ∧ b ≤ 8) (hr : rowB c d = true) (h3 : 4 < e) (w : World) :
    Calls Tryd.prog 13 #[.int .i64 a, .int .i64 b, .int .i64 c, .int .i64 d, .int .i64 e] w fun x w' => x = .returned (.agg (ints (oneE a b c d e)).toArray) ∧ Below w.heap.size w w' := by
  have HV : oneE a b c d e = zE := by unfold oneE; rw [if_neg (show ¬ (a = 1 ∧ b + c + d + e = 0) by omega), if_neg (show ¬ (((a = 2 ∨ a = 4 ∨ a = 5 ∨ a = 6) ∧ (1 ≤ b ∧ b ≤ 8)) ∧ c + d + e = 0) by omega), if_neg (show ¬ (((a = 3 ∧ (1 ≤ b ∧ b ≤ 8)) ∧ rowB c d = true) ∧ (1 ≤ e ∧ e ≤ 4)) by omega), if_neg (show ¬ ((7 ≤ a ∧ a ≤ 9) ∧ e = 0) by omega)]
  rw [HV]
  clear HV
  have w1 : IntKind.i64.wrap (b + c) = b + c := IntWalk.i64_in _ (by omega)
  have w2 : IntKind.i64.wrap (b + c + d) = b + c + d := IntWalk.i64_in _ (by omega)
  have w3 : IntKind.i64.wrap (b + c + d + e) = b + c + d + e := IntWalk.i64_in _ (by omega)
  have w4 : IntKind.i64.wrap (c + d) = c + d := IntWalk.i64_in _ (by omega)
  have w5 : IntKind.i64.wrap (c + d + e) = c + d + e := IntWalk.i64_in _ (by omega)
  have w6 : IntKind.i64.wrap (65536 * b) = 65536 * b := IntWalk.i64_in _ (by omega)
  have w7 : IntKind.i64.wrap (256 * c) = 256 * c := IntWalk.i64_in _ (by omega)
  have w8 : IntKind.i64.wrap (65536 * b + 256 * c) = 65536 * b + 256 * c := IntWalk.i64_in _ (by omega)
  have w9 : IntKind.i64.wrap (65536 * b + 256 * c + d) = 65536 * b + 256 * c + d := IntWalk.i64_in _ (by omega)
  have f0 : (a == 1) = false := by simp; omega
  have f1 : (a == 2) = false := by simp; omega
  have f2 : (a == 3) = true := by simp; omega
  have f3 : (a == 4) = false := by simp; omega
  have f4 : (a == 5) = false := by simp; omega
  have f5 : (a == 6) = false := by simp; omega
  have f6 : decide (7 ≤ a) = false := decide_eq_false (by omega)
  have f7 : decide (a ≤ 9) = true := decide_eq_true (by omega)
  have f8 : decide (1 ≤ b) = true := decide_eq_true (by omega)
  have f9 : decide (b ≤ 8) = true := decide_eq_true (by omega)
  have f10 : decide (1 ≤ e) = true := decide_eq_true (by omega)
  have f11 : decide (e ≤ 4) = false := decide_eq_false (by omega)
  have HR := Lib.hid hr
  have TKL := True.intro
  clear hb hc hd he
  clear ha hcl hr h3
  go_enter Tryd.func13, Tryd.ntmps13
  go_wp2_with (first
    | (go_at_call 22; refine (row_b c d _ HR.out _).mono ?_; rintro x1 w1 ⟨rfl, hbe⟩; have XR := Lib.hid ((((Blk.new w 33 (ints zE).toArray).alloc (.cells #[.int .i64 c, .int .i64 d] 27)).here hbe)); have XT := Lib.hid (((Blk.new_at (w := w.alloc (.cells (ints zE).toArray 33)) (n := w.heap.size + 1) (by simp) 27 #[.int .i64 c, .int .i64 d]).here hbe)); have B1 := Lib.hid (stepB ((Joins.below_alloc1 w (.cells (ints zE).toArray 33)).alloc (by simp) (.cells #[.int .i64 c, .int .i64 d] 27)) hbe); clear hbe)
    | (have _t := TKL; refine wpList_load_row_g (by rfl) 27 (.tmp 12) (by rfl) (w.heap.size + 1) (by rfl) _ _ (0, 0) _ XT.out Tryd.underlying27 rfl (info_res3 _ _) ?_; clear _t TKL)
    | (refine wpList_store_mid (by rfl) 33 (.tmp 10) (.tmp 103) (by rfl) w.heap.size 0 (ints zE).toArray (by rfl) (by rfl) (XR.out.there (Nat.le_refl 6)) (info_ent9 _ _ _ _ _ _) (ints_oneCell zE) ?_))
  exact bodyPost_ret (v := .agg (ints zE).toArray) (results_cell_e rfl rfl (ent9_load (XR.out.put (ints zE).toArray rfl))) rfl ⟨rfl, Below.setCells (Nat.le_refl _) _ _ _ B1.out⟩
set_option maxRecDepth 100000 in
set_option maxHeartbeats 2000000 in
theorem one_3y (a b c d e : Int) (hb : 0 ≤ b ∧ b ≤ 255) (hc : 0 ≤ c ∧ c ≤ 255) (hd : 0 ≤ d ∧ d ≤ 255) (he : 0 ≤ e ∧ e ≤ 255) (ha : a = 3) (hcl : 1 ≤ b ∧ b ≤ 8) (hr : rowB c d = true) (h3 : 1 ≤ e ∧ e ≤ 4) (w : World) :
    Calls Tryd.prog 13 #[.int .i64 a, .int .i64 b, .int .i64 c, .int .i64 d, .int .i64 e] w fun x w' => x = .returned (.agg (ints (oneE a b c d e)).toArray) ∧ Below w.heap.size w w' := by
  have HV : oneE a b c d e = [3, b, c, d, e, 0] := by unfold oneE; rw [if_neg (show ¬ (a = 1 ∧ b + c + d + e = 0) by omega), if_neg (show ¬ (((a = 2 ∨ a = 4 ∨ a = 5 ∨ a = 6) ∧ (1 ≤ b ∧ b ≤ 8)) ∧ c + d + e = 0) by omega), if_pos (show (((a = 3 ∧ (1 ≤ b ∧ b ≤ 8)) ∧ rowB c d = true) ∧ (1 ≤ e ∧ e ≤ 4)) from ⟨⟨⟨by omega, by omega⟩, hr⟩, by omega⟩)]
  rw [HV]
  clear HV
  have w1 : IntKind.i64.wrap (b + c) = b + c := IntWalk.i64_in _ (by omega)
  have w2 : IntKind.i64.wrap (b + c + d) = b + c + d := IntWalk.i64_in _ (by omega)
  have w3 : IntKind.i64.wrap (b + c + d + e) = b + c + d + e := IntWalk.i64_in _ (by omega)
  have w4 : IntKind.i64.wrap (c + d) = c + d := IntWalk.i64_in _ (by omega)
  have w5 : IntKind.i64.wrap (c + d + e) = c + d + e := IntWalk.i64_in _ (by omega)
  have w6 : IntKind.i64.wrap (65536 * b) = 65536 * b := IntWalk.i64_in _ (by omega)
  have w7 : IntKind.i64.wrap (256 * c) = 256 * c := IntWalk.i64_in _ (by omega)
  have w8 : IntKind.i64.wrap (65536 * b + 256 * c) = 65536 * b + 256 * c := IntWalk.i64_in _ (by omega)
  have w9 : IntKind.i64.wrap (65536 * b + 256 * c + d) = 65536 * b + 256 * c + d := IntWalk.i64_in _ (by omega)
  have f0 : (a == 1) = false := by simp; omega
  have f1 : (a == 2) = false := by simp; omega
  have f2 : (a == 3) = true := by simp; omega
  have f3 : (a == 4) = false := by simp; omega
  have f4 : (a == 5) = false := by simp; omega
  have f5 : (a == 6) = false := by simp; omega
  have f6 : decide (7 ≤ a) = false := decide_eq_false (by omega)
  have f7 : decide (a ≤ 9) = true := decide_eq_true (by omega)
  have f8 : decide (1 ≤ b) = true := decide_eq_true (by omega)
  have f9 : decide (b ≤ 8) = true := decide_eq_true (by omega)
  have f10 : decide (1 ≤ e) = true := decide_eq_true (by omega)
  have f11 : decide (e ≤ 4) = true := decide_eq_true (by omega)
  have HR := Lib.hid hr
  have TKL := True.intro
  clear hb hc hd he
  clear ha hcl hr h3
  go_enter Tryd.func13, Tryd.ntmps13
  go_wp2_with (first
    | (go_at_call 22; refine (row_b c d _ HR.out _).mono ?_; rintro x1 w1 ⟨rfl, hbe⟩; have XR := Lib.hid ((((Blk.new w 33 (ints zE).toArray).alloc (.cells #[.int .i64 c, .int .i64 d] 27)).here hbe)); have XT := Lib.hid (((Blk.new_at (w := w.alloc (.cells (ints zE).toArray 33)) (n := w.heap.size + 1) (by simp) 27 #[.int .i64 c, .int .i64 d]).here hbe)); have B1 := Lib.hid (stepB ((Joins.below_alloc1 w (.cells (ints zE).toArray 33)).alloc (by simp) (.cells #[.int .i64 c, .int .i64 d] 27)) hbe); clear hbe)
    | (have _t := TKL; refine wpList_load_row_g (by rfl) 27 (.tmp 12) (by rfl) (w.heap.size + 1) (by rfl) _ _ (0, 0) _ XT.out Tryd.underlying27 rfl (info_res3 _ _) ?_; clear _t TKL)
    | (refine wpList_store_mid (by rfl) 33 (.tmp 10) (.tmp 83) (by rfl) w.heap.size 0 (ints [3, b, c, d, e, 0]).toArray (by rfl) (by rfl) (XR.out.there (Nat.le_refl 6)) (info_ent9 _ _ _ _ _ _) (ints_oneCell [3, b, c, d, e, 0]) ?_))
  exact bodyPost_ret (v := .agg (ints [3, b, c, d, e, 0]).toArray) (results_cell_e rfl rfl (ent9_load (XR.out.put (ints [3, b, c, d, e, 0]).toArray rfl))) rfl ⟨rfl, Below.setCells (Nat.le_refl _) _ _ _ B1.out⟩
end Go.Proofs.YtggfadiahacgeaaDoor
