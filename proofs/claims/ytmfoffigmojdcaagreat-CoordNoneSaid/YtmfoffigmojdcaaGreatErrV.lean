/- Numbers of errors as errors, and what a law's Code tells of them. -/
import Derived.Test.YtmfoffigmojdcaaGreatErr
namespace Go.Proofs.YtmfoffigmojdcaaGreat
open Go.RowKit
set_option linter.unusedVariables false
set_option linter.unusedSimpArgs false

/-- An error's number as an error. -/
def errV (c : Int) : Value := if c = 0 then .nilIface else errno c
theorem errV_pos {c : Int} (h : c ≠ 0) : errV c = errno c := if_neg h
theorem errV_zero : errV 0 = .nilIface := rfl
theorem code_errV (c : Int) (h : c = 0 ∨ codeB c = true) (w : World) : Calls Tryz.prog 13 #[errV c] w fun e w' => e = .returned (.int .i64 c) ∧ w = w' := by
  by_cases h0 : c = 0
  · subst h0; exact code_nil w
  · rw [errV_pos h0]; exact code_errno c (h.resolve_left h0) w
end Go.Proofs.YtmfoffigmojdcaaGreat
