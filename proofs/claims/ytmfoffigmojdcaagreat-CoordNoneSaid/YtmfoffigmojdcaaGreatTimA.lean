/- A time; the document's Time. -/
import Derived.Test.YtmfoffigmojdcaaGreatHeld
import Derived.BigQuiet
import Derived.IntWalk
namespace Go.Proofs.YtmfoffigmojdcaaGreat
open Go.RowKit
set_option linter.unusedVariables false
set_option linter.unusedSimpArgs false

def isT (x : Int) : Bool := decide (0 ≤ x ∧ x ≤ 1099511627776)
theorem isT_iff {x : Int} : isT x = true ↔ 0 ≤ x ∧ x ≤ 1099511627776 := by unfold isT; simp

set_option maxRecDepth 100000 in
set_option maxHeartbeats 1000000 in
theorem refTime_any (x : Int) (w : World) : Calls Tryz.prog 114 #[.int .i64 x] w fun e w' => e = .returned (.bool (isT x)) ∧ w = w' := by
  by_cases h1 : 0 ≤ x
  · have d1 : decide (0 ≤ x) = true := by simpa using h1
    have e : isT x = decide (x ≤ 1099511627776) := by unfold isT; simp [h1]
    go_enter Tryz.func114, Tryz.ntmps114
    go_wp2_with fail
    go_ret
    exact ⟨by first | rfl | (rw [e]; rfl), rfl⟩
  · have d1 : decide (0 ≤ x) = false := by simpa using h1
    have e : isT x = false := by unfold isT; simp [h1]
    go_enter Tryz.func114, Tryz.ntmps114
    go_wp2_with fail
    go_ret
    exact ⟨by first | rfl | (rw [e]; rfl), rfl⟩
end Go.Proofs.YtmfoffigmojdcaaGreat
