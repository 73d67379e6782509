/- GraphEither: both cases. -/
import Derived.Test.YtfaciajnopkjlaaLaw10F
namespace Go.Proofs.Ytfaciajnopkjlaa
open Go.RowKit
set_option linter.unusedVariables false
set_option linter.unusedSimpArgs false

set_option maxRecDepth 100000 in
set_option maxHeartbeats 8000000 in
theorem graphEither_walk (a0 : Option Addr) (len0 cap0 : Nat) (l0 : List (List Int)) (W : World) (h : EdgM W W.heap.size a0 len0 l0) :
    Calls Try.prog 6 #[.slice a0 len0 cap0] W fun e w' => e = .returned (.bool true) ∧ Below W.heap.size W w' := by
  by_cases h60 : 60 < len0
  · have d1 : decide ((60 : Int) < (len0 : Int)) = true := by simp; omega
    go_enter Try.func6, Try.ntmps6
    go_wp2_with (go_at_call 8; refine (alive10_any _).mono ?_; rintro e w1 ⟨rfl, hb1⟩; have B1 := Lib.hid hb1; clear hb1)
    go_ret
    exact ⟨rfl, B1.out⟩
  · by_cases hfull : (ordF (eds l0) (nds (eds l0))).length = (nds (eds l0)).length
    · exact eitherFull_walk a0 len0 cap0 l0 W h (by omega) hfull
    · exact eitherNot_walk a0 len0 cap0 l0 W h (by omega) hfull
end Go.Proofs.Ytfaciajnopkjlaa
