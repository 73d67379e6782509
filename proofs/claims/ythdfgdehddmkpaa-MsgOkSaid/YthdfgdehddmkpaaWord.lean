/- The contracts of package word's small functions, and of the document's. -/
import Derived.Test.YthdfgdehddmkpaaBytes
import Derived.Test.YthdfgdehddmkpaaErrN
import Derived.RegionTactic
import Derived.Outline
import Derived.Deep.RegionWith
namespace Go.Proofs.Ythdfgdehddmkpaa
open Go.RowKit
set_option linter.unusedVariables false
set_option linter.unusedSimpArgs false

/-- May a width be? -/
def mayW (x : Int) : Bool := decide (1 ≤ x ∧ x ≤ 4)
theorem mayW_iff {x : Int} : mayW x = true ↔ 1 ≤ x ∧ x ≤ 4 := by unfold mayW; simp
theorem mayW_no {x : Int} (h : mayW x = false) : x < 1 ∨ 4 < x := by unfold mayW at h; simp at h; omega

set_option maxRecDepth 100000 in
set_option maxHeartbeats 1000000 in
theorem mayBe_any (x : Int) (w : World) : Calls Try.prog 39 #[.int .i64 x] w fun e w' => e = .returned (.bool (mayW x)) ∧ w = w' := by
  have HR : ∀ b : Bool, mayW x = b → Hid (b = mayW x) := fun b h => h.symm
  cases h1 : decide (1 ≤ x) <;> cases h2 : decide (x ≤ 4)
  all_goals
    have HQ := HR _ (by unfold mayW; simp only [Bool.decide_and, h1, h2]; rfl)
    clear HR
    go_enter Try.func39, Try.ntmps39
    go_wp2
    go_ret
    exact ⟨ret_bool HQ.out, rfl⟩
theorem mayBe_yes {x : Int} (h : mayW x = true) (w : World) : Calls Try.prog 39 #[.int .i64 x] w fun e w' => e = .returned (.bool true) ∧ w = w' :=
  (mayBe_any x w).mono fun _ _ ⟨he, hw⟩ => ⟨by rw [he, h], hw⟩
theorem mayBe_no {x : Int} (h : mayW x = false) (w : World) : Calls Try.prog 39 #[.int .i64 x] w fun e w' => e = .returned (.bool false) ∧ w = w' :=
  (mayBe_any x w).mono fun _ _ ⟨he, hw⟩ => ⟨by rw [he, h], hw⟩

set_option maxRecDepth 100000 in
set_option maxHeartbeats 1000000 in
theorem fits_any (x : Int) (wd : Nat) (h1 : 1 ≤ wd) (h4 : wd ≤ 4) (w : World) : Calls Try.prog 41 #[.int .i64 x, .int .i64 wd] w fun e w' => e = .returned (.bool (fitsB wd x)) ∧ w = w' := by
  rw [← fitsB_shr]
  have hc : wd = 1 ∨ wd = 2 ∨ wd = 3 ∨ wd = 4 := by omega
  rcases hc with rfl | rfl | rfl | rfl
  all_goals
    go_enter Try.func41, Try.ntmps41
    go_wp2
    go_ret
    refine ⟨ret_bool ?_, rfl⟩
    rw [Int.fdiv_eq_ediv_of_nonneg _ (by omega)]
    rfl



/-- Block r is a reader's. -/
abbrev RdAt (w : World) (r : Nat) (A : Option Addr) (n cap : Nat) (at_ : Int) : Prop := Blk w r 80 #[.slice A n cap, .int .i64 at_]

set_option maxRecDepth 100000 in
set_option maxHeartbeats 1000000 in
theorem left_any (r n cap k : Nat) (A : Option Addr) (hk : k ≤ n) (hn : n ≤ 9223372036854775807) (w : World) (h : RdAt w r A n cap k) :
    Calls Try.prog 40 #[.pointer (some ⟨r, 0, none⟩)] w fun e w' => e = .returned (.int .i64 ((n - k : Nat) : Int)) ∧ ∃ q, w' = w.drewN q := by
  have h0 := h.cell 0
  have h1 := h.cell 1
  have hw : IntKind.i64.wrap ((n : Int) - k) = ((n - k : Nat) : Int) := by rw [IntWalk.i64_in _ (by omega)]; omega
  clear h
  go_enter Try.func40, Try.ntmps40
  go_wp2_with fail
  go_quiet (fail)
  go_wp2_with fail
  go_ret
  exact ⟨rfl, _, rfl⟩
set_option maxRecDepth 100000 in
set_option maxHeartbeats 1000000 in
theorem left_nil (w : World) : Calls Try.prog 40 #[.pointer none] w fun e w' => e = .returned (.int .i64 0) ∧ w = w' := by
  go_enter Try.func40, Try.ntmps40
  go_wp2
  go_ret
  exact ⟨rfl, rfl⟩
set_option maxRecDepth 100000 in
set_option maxHeartbeats 1000000 in
theorem take_nil (x : Value) (w : World) : Calls Try.prog 26 #[.pointer none, x] w fun e w' => e = .returned (.tuple #[.int .i64 0, errno 1]) ∧ w = w' := by
  go_enter Try.func26, Try.ntmps26
  go_wp2
  go_ret2
  exact ⟨rfl, rfl⟩
set_option maxRecDepth 100000 in
set_option maxHeartbeats 1000000 in
theorem take_arg (r : Nat) (x : Int) (h : mayW x = false) (w : World) : Calls Try.prog 26 #[.pointer (some ⟨r, 0, none⟩), .int .i64 x] w fun e w' => e = .returned (.tuple #[.int .i64 0, errno 1]) ∧ w = w' := by
  have H := Lib.hid h
  clear h
  go_enter Try.func26, Try.ntmps26
  go_wp2_with (go_at_call 39; refine (mayBe_no H.out _).mono ?_; rintro e w' ⟨rfl, rfl⟩)
  go_ret2
  exact ⟨rfl, rfl⟩
end Go.Proofs.Ythdfgdehddmkpaa
