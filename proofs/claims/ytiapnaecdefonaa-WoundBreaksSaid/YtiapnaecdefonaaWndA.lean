/- A wound as a whole; whether it is one. -/
import Derived.Test.YtiapnaecdefonaaBase
namespace Go.Proofs.Ytiapnaecdefonaa
open Go.RowKit
set_option linter.unusedVariables false
set_option linter.unusedSimpArgs false

theorem flat_wound : flatB Try.prog 6 33 = some (true, 2) := by kernel_rfl
theorem neq_wound (a b a' b' : Int) (W : World) : (binOp .neq 33 (.agg #[.int .i64 a, .int .i64 b]) (.agg #[.int .i64 a', .int .i64 b'])).run Try.prog W = .ok (.bool (!decide (a = a' ∧ b = b'))) W := neq_two flat_wound (by omega) a b a' b' W
theorem eql_wound (a b a' b' : Int) (W : World) : (binOp .eql 33 (.agg #[.int .i64 a, .int .i64 b]) (.agg #[.int .i64 a', .int .i64 b'])).run Try.prog W = .ok (.bool (decide (a = a' ∧ b = b'))) W := eql_two flat_wound (by omega) a b a' b' W
theorem zeroWound (W : World) : (zeroValue 33).run Try.prog W = .ok (.agg #[.int .i64 0, .int .i64 0]) W := by kernel_rfl
theorem cells_two {X : World} {b o : Nat} {x y : Int} (h0 : X.cell? ⟨b, o, none⟩ = some (.int .i64 x)) (h1 : X.cell? ⟨b, o + 1, none⟩ = some (.int .i64 y)) : ∀ j v, [Value.int .i64 x, .int .i64 y][j]? = some v → X.cell? ((⟨b, o, none⟩ : Addr).add j) = some v := by
  intro j v hj
  have h2 : (⟨b, o, none⟩ : Addr).add j = ⟨b, o + j, none⟩ := by unfold Addr.add; split <;> simp_all
  rw [h2]
  rcases j with _ | _ | j
  · simp at hj; subst hj; exact h0
  · simp at hj; subst hj; exact h1
  · simp at hj
set_option maxRecDepth 100000 in
set_option maxHeartbeats 2000000 in
theorem isOne_any (a b : Int) (r : Bool) (hr : (!decide (a = 0 ∧ b = 0)) = r) (w : World) :
    Calls Try.prog 32 #[.agg #[.int .i64 a, .int .i64 b]] w fun e w' => e = .returned (.bool r) ∧ Below w.heap.size w w' := by
  have hn := fun W => (neq_wound a b 0 0 W).trans (by rw [hr])
  clear hr
  go_enter Try.func32, Try.ntmps32
  go_wp2_with fail
  go_ret
  exact ⟨rfl, Joins.below_alloc1 _ _⟩
end Go.Proofs.Ytiapnaecdefonaa
