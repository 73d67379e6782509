/- Rows of rows in memory: what a slice of slices of integers holds. -/
import Derived.Test.YtiapnaecdefonaaGraP
import Derived.Test.YtiapnaecdefonaaGraW
namespace Go.Proofs.Ytiapnaecdefonaa
open Go.RowKit
set_option linter.unusedVariables false
set_option linter.unusedSimpArgs false

/-- Rows, each in a block of its own call's, none of them one that S names. -/
def RowsM (w : World) (base : Nat) (S : Nat → Prop) (xs : List Value) (ps : List (List Int)) : Prop :=
  xs.length = ps.length ∧ ∀ i (h : i < ps.length), ∃ v, xs[i]? = some v ∧ w.ownsRow base 3 1 v ps[i].length (i64s ps[i]) ∧ ∀ q, v.ownBlock = some q → ¬ S q
section
variable {w w' : World} {base base' : Nat} {S S' : Nat → Prop} {xs : List Value} {ps : List (List Int)}
theorem rowsM_nil (w : World) (base : Nat) (S : Nat → Prop) : RowsM w base S [] [] := ⟨rfl, fun i h => by simp at h⟩
theorem own_small {v : Value} {n : Nat} {l : List Value} (h : w.ownsRow base 3 1 v n l) : ∀ q, v.ownBlock = some q → q < w.heap.size := fun q hq => by
  obtain ⟨cur, hh, _⟩ := own_heap h q hq
  exact own_lt hh
theorem RowsM.turn (h : RowsM w base S xs ps) (ht : Turn S w w') : RowsM w' base S xs ps :=
  ⟨h.1, fun i hi => by
    obtain ⟨v, h1, h2, h3⟩ := h.2 i hi
    exact ⟨v, h1, own_turn h2 ht h3, h3⟩⟩
theorem RowsM.to (h : RowsM w base S xs ps) (hS : ∀ q, q < w.heap.size → S' q → S q) : RowsM w base S' xs ps :=
  ⟨h.1, fun i hi => by
    obtain ⟨v, h1, h2, h3⟩ := h.2 i hi
    exact ⟨v, h1, h2, fun q hq hs => h3 q hq (hS q (own_small h2 q hq) hs)⟩⟩
theorem RowsM.below (h : RowsM w base S xs ps) (hb : Below w.heap.size w w') : RowsM w' base S xs ps :=
  ⟨h.1, fun i hi => by
    obtain ⟨v, h1, h2, h3⟩ := h.2 i hi
    exact ⟨v, h1, own_turn h2 (Turn.of_below hb (S := fun _ => False)) (fun _ _ => id), h3⟩⟩
theorem RowsM.less (h : RowsM w base S xs ps) (hb : base' ≤ base) : RowsM w base' S xs ps :=
  ⟨h.1, fun i hi => by
    obtain ⟨v, h1, h2, h3⟩ := h.2 i hi
    exact ⟨v, h1, own_less h2 hb, h3⟩⟩
theorem RowsM.drew (h : RowsM w base S xs ps) : RowsM w.drew base S xs ps :=
  ⟨h.1, fun i hi => by
    obtain ⟨v, h1, h2, h3⟩ := h.2 i hi
    exact ⟨v, h1, World.ownsRow.drew h2, h3⟩⟩
theorem RowsM.snoc (h : RowsM w base S xs ps) {v : Value} {p : List Int} (hv : w.ownsRow base 3 1 v p.length (i64s p)) (hn : ∀ q, v.ownBlock = some q → ¬ S q) : RowsM w base S (xs ++ [v]) (ps ++ [p]) :=
  ⟨by simp [h.1], fun i hi => by
    by_cases hlt : i < ps.length
    · obtain ⟨u, h1, h2, h3⟩ := h.2 i hlt
      refine ⟨u, by rw [List.getElem?_append_left (by rw [h.1]; exact hlt)]; exact h1, ?_, h3⟩
      rw [List.getElem_append_left hlt]; exact h2
    · have e : i = ps.length := by simp at hi; omega
      subst e
      refine ⟨v, by rw [← h.1]; simp, ?_, hn⟩
      simpa using hv⟩
theorem RowsM.at_ (h : RowsM w base S xs ps) {i : Nat} (hi : i < ps.length) : ∃ A c, xs[i]? = some (.slice A ps[i].length c) ∧ Reads w w.heap.size 1 A ps[i].length (i64s ps[i]) ∧ ∀ q, (Value.slice A ps[i].length c).ownBlock = some q → ¬ S q := by
  obtain ⟨v, h1, h2, h3⟩ := h.2 i hi
  obtain ⟨A, c, rfl, hr, _⟩ := own_slice h2
  exact ⟨A, c, h1, hr, h3⟩
end
end Go.Proofs.Ytiapnaecdefonaa
