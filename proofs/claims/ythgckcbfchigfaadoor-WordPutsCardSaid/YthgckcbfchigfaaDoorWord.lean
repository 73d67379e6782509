/- The contracts of package word's small functions, and of the document's. -/
import Derived.Test.YthgckcbfchigfaaDoorBytes
import Derived.Test.YthgckcbfchigfaaDoorErrN
import Derived.RegionTactic
import Derived.Outline
import Derived.Deep.RegionWith
namespace Go.Proofs.YthgckcbfchigfaaDoor
open Go.RowKit
set_option linter.unusedVariables false
set_option linter.unusedSimpArgs false

/-- May a width be? -/
def mayW (x : Int) : Bool := decide (1 ≤ x ∧ x ≤ 4)
theorem mayW_iff {x : Int} : mayW x = true ↔ 1 ≤ x ∧ x ≤ 4 := by unfold mayW; simp
theorem mayW_no {x : Int} (h : mayW x = false) : x < 1 ∨ 4 < x := by unfold mayW at h; simp at h; omega

set_option maxRecDepth 100000 in
set_option maxHeartbeats 1000000 in
theorem mayBe_any (x : Int) (w : World) : Calls Tryd.prog 19 #[.int .i64 x] w fun e w' => e = .returned (.bool (mayW x)) ∧ w = w' := by
  have HR : ∀ b : Bool, mayW x = b → Hid (b = mayW x) := fun b h => h.symm
  cases h1 : decide (1 ≤ x) <;> cases h2 : decide (x ≤ 4)
  all_goals
    have HQ := HR _ (by unfold mayW; simp only [Bool.decide_and, h1, h2]; rfl)
    clear HR
    go_enter Tryd.func19, Tryd.ntmps19
    go_wp2
    go_ret
    exact ⟨ret_bool HQ.out, rfl⟩
theorem mayBe_yes {x : Int} (h : mayW x = true) (w : World) : Calls Tryd.prog 19 #[.int .i64 x] w fun e w' => e = .returned (.bool true) ∧ w = w' :=
  (mayBe_any x w).mono fun _ _ ⟨he, hw⟩ => ⟨by rw [he, h], hw⟩
theorem mayBe_no {x : Int} (h : mayW x = false) (w : World) : Calls Tryd.prog 19 #[.int .i64 x] w fun e w' => e = .returned (.bool false) ∧ w = w' :=
  (mayBe_any x w).mono fun _ _ ⟨he, hw⟩ => ⟨by rw [he, h], hw⟩

set_option maxRecDepth 100000 in
set_option maxHeartbeats 1000000 in
theorem fits_any (x : Int) (wd : Nat) (h1 : 1 ≤ wd) (h4 : wd ≤ 4) (w : World) : Calls Tryd.prog 20 #[.int .i64 x, .int .i64 wd] w fun e w' => e = .returned (.bool (fitsB wd x)) ∧ w = w' := by
  rw [← fitsB_shr]
  have hc : wd = 1 ∨ wd = 2 ∨ wd = 3 ∨ wd = 4 := by omega
  rcases hc with rfl | rfl | rfl | rfl
  all_goals
    go_enter Tryd.func20, Tryd.ntmps20
    go_wp2
    go_ret
    refine ⟨ret_bool ?_, rfl⟩
    rw [Int.fdiv_eq_ediv_of_nonneg _ (by omega)]
    rfl

set_option maxRecDepth 100000 in
set_option maxHeartbeats 1000000 in
theorem power_any (wd : Nat) (h4 : wd ≤ 4) (w : World) : Calls Tryd.prog 21 #[.int .i64 wd] w fun e w' => e = .returned (.int .i64 (pw wd)) ∧ w = w' := by
  go_enter Tryd.func21, Tryd.ntmps21
  go_wp2
  go_loop [3, 4] (fun n i => ∃ k : Nat, k ≤ wd ∧ i = .int .i64 k ∧ n = .int .i64 (pw k)) (fun _ i => wd - (intOf i).toNat)
  case atStart => exact ⟨0, Nat.zero_le _, rfl, rfl⟩
  case round =>
    obtain ⟨k, hk, rfl, rfl⟩ := hrel
    have hp := pw_le (k := k) (by omega)
    by_cases hlt : k < wd
    · have HS := Lib.hid (show (pw (k + 1) : Int) = 256 * (pw k : Int) by rw [pw]; push_cast; rfl)
      go_wp2
      go_round
      case rel => exact ⟨k + 1, by omega, by go_num, by rw [HS.out]⟩
      case measure => simp [intOf]; omega
    · obtain rfl : k = wd := by omega
      go_wp2
      go_ret
      exact ⟨rfl, rfl⟩

theorem power_same (wd : Nat) (h4 : wd ≤ 4) (w : World) : Calls Tryd.prog 21 #[.int .i64 wd] w fun e w' => e = .returned (.int .i64 (pw wd)) ∧ w' = w :=
  (power_any wd h4 w).mono fun _ _ ⟨h, hw⟩ => ⟨h, hw.symm⟩

/-- Block r is a reader's. -/
abbrev RdAt (w : World) (r : Nat) (A : Option Addr) (n cap : Nat) (at_ : Int) : Prop := Blk w r 58 #[.slice A n cap, .int .i64 at_]

set_option maxRecDepth 100000 in
set_option maxHeartbeats 1000000 in
theorem left_any (r n cap k : Nat) (A : Option Addr) (hk : k ≤ n) (hn : n ≤ 9223372036854775807) (w : World) (h : RdAt w r A n cap k) :
    Calls Tryd.prog 17 #[.pointer (some ⟨r, 0, none⟩)] w fun e w' => e = .returned (.int .i64 ((n - k : Nat) : Int)) ∧ ∃ q, w' = w.drewN q := by
  have h0 := h.cell 0
  have h1 := h.cell 1
  have hw : IntKind.i64.wrap ((n : Int) - k) = ((n - k : Nat) : Int) := by rw [IntWalk.i64_in _ (by omega)]; omega
  clear h
  go_enter Tryd.func17, Tryd.ntmps17
  go_wp2_with fail
  go_quiet (fail)
  go_wp2_with fail
  go_ret
  exact ⟨rfl, _, rfl⟩
set_option maxRecDepth 100000 in
set_option maxHeartbeats 1000000 in
theorem rdAt_any (r n cap : Nat) (k : Int) (A : Option Addr) (w : World) (h : RdAt w r A n cap k) :
    Calls Tryd.prog 16 #[.pointer (some ⟨r, 0, none⟩)] w fun e w' => e = .returned (.int .i64 k) ∧ w = w' := by
  have h0 := h.cell 0
  have h1 := h.cell 1
  clear h
  go_enter Tryd.func16, Tryd.ntmps16
  go_wp2
  go_ret
  exact ⟨rfl, rfl⟩
set_option maxRecDepth 100000 in
set_option maxHeartbeats 1000000 in
theorem left_nil (w : World) : Calls Tryd.prog 17 #[.pointer none] w fun e w' => e = .returned (.int .i64 0) ∧ w = w' := by
  go_enter Tryd.func17, Tryd.ntmps17
  go_wp2
  go_ret
  exact ⟨rfl, rfl⟩
set_option maxRecDepth 100000 in
set_option maxHeartbeats 1000000 in
theorem at0_nil (w : World) : Calls Tryd.prog 16 #[.pointer none] w fun e w' => e = .returned (.int .i64 0) ∧ w = w' := by
  go_enter Tryd.func16, Tryd.ntmps16
  go_wp2
  go_ret
  exact ⟨rfl, rfl⟩
set_option maxRecDepth 100000 in
set_option maxHeartbeats 1000000 in
theorem take_nil (x : Value) (w : World) : Calls Tryd.prog 14 #[.pointer none, x] w fun e w' => e = .returned (.tuple #[.int .i64 0, errno 1]) ∧ w = w' := by
  go_enter Tryd.func14, Tryd.ntmps14
  go_wp2
  go_ret2
  exact ⟨rfl, rfl⟩
set_option maxRecDepth 100000 in
set_option maxHeartbeats 1000000 in
theorem all_nil (x : Value) (w : World) : Calls Tryd.prog 18 #[.pointer none, x] w fun e w' => e = .returned (.tuple #[.slice none 0 0, errno 1]) ∧ Below w.heap.size w w' := by
  go_enter Tryd.func18, Tryd.ntmps18
  go_wp2
  refine bodyPost_ret (v := .tuple #[.slice none 0 0, errno 1]) (by simp [results, Tryd.results18, go_sem]) rfl ⟨rfl, ?_⟩
  repeat (first | exact Below.refl _ _ | refine Below.setCell ?_ (by simp) _ | refine Below.alloc ?_ (by simp <;> omega) _)
set_option maxRecDepth 100000 in
set_option maxHeartbeats 1000000 in
theorem take_arg (r : Nat) (x : Int) (h : mayW x = false) (w : World) : Calls Tryd.prog 14 #[.pointer (some ⟨r, 0, none⟩), .int .i64 x] w fun e w' => e = .returned (.tuple #[.int .i64 0, errno 1]) ∧ w = w' := by
  have H := Lib.hid h
  clear h
  go_enter Tryd.func14, Tryd.ntmps14
  go_wp2_with (go_at_call 19; refine (mayBe_no H.out _).mono ?_; rintro e w' ⟨rfl, rfl⟩)
  go_ret2
  exact ⟨rfl, rfl⟩
end Go.Proofs.YthgckcbfchigfaaDoor
