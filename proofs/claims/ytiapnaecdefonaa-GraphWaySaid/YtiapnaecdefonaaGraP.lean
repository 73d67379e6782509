/- The document's Order. -/
import Derived.Test.YtiapnaecdefonaaGraL
import Derived.Test.YtiapnaecdefonaaGraH
namespace Go.Proofs.Ytiapnaecdefonaa
open Go.RowKit
set_option linter.unusedVariables false
set_option linter.unusedSimpArgs false

theorem pick_at {E : Egs} {N o : List Int} {j : Nat} (hj : j < N.length) (h : ∀ y ∈ N.take j, isFree E o y = false) (hx : isFree E o N[j] = true) : pick E N o = some N[j] := by
  unfold pick
  refine List.find?_eq_some_iff_getElem.2 ⟨hx, j, hj, rfl, fun i hi => ?_⟩
  have := h N[i] (List.mem_take_iff_getElem.2 ⟨i, by omega, rfl⟩)
  rw [this]; rfl
theorem pick_end {E : Egs} {N o : List Int} (h : ∀ y ∈ N, isFree E o y = false) : pick E N o = none := by
  unfold pick
  exact List.find?_eq_none.2 fun y hy => by rw [h y hy]; simp
theorem take_more {N : List Int} {j : Nat} (hj : j < N.length) {p : Int → Prop} (h : ∀ y ∈ N.take j, p y) (hx : p N[j]) : ∀ y ∈ N.take (j + 1), p y := by
  intro y hy
  rw [List.take_add_one, List.getElem?_eq_getElem hj] at hy
  rcases List.mem_append.1 hy with hy | hy
  · exact h y hy
  · simp at hy; rw [hy]; exact hx
section
variable {w : World} {n : Nat} {A : Option Addr} {ls : List (List Int)}
end
end Go.Proofs.Ytiapnaecdefonaa
