/- Plain lists: the order, whole. -/
import Derived.Test.YtiapnaecdefonaaGraM
namespace Go.Proofs.Ytiapnaecdefonaa
set_option linter.unusedVariables false
set_option linter.unusedSimpArgs false

theorem ord_all {E : Egs} {N out : List Int} (ho : Ord E N out) (hl : out.length = N.length) : ∀ y ∈ N, y ∈ out := by
  intro y hy
  apply Classical.byContradiction
  intro hno
  have : (y :: out).length ≤ N.length := nodup_len (List.nodup_cons.2 ⟨hno, ho.nodup⟩) fun z hz => by
    rcases List.mem_cons.1 hz with rfl | hz
    · exact hy
    · exact ho.sub z hz
  simp at this; omega
theorem ordF_ord (E : Egs) : Ord E (nds E) (ordF E (nds E)) := ord_ordN (nds_ris E) _
theorem ordF_len (E : Egs) : (ordF E (nds E)).length ≤ (nds E).length := ordN_len (nds_ris E) _
theorem ordF_end (E : Egs) : (ordF E (nds E)).length = (nds E).length ∨ pick E (nds E) (ordF E (nds E)) = none := by
  by_cases hf : (ordF E (nds E)).length = (nds E).length
  · exact .inl hf
  · right
    have key : ∀ k, (ordN E (nds E) k).length = k ∨ pick E (nds E) (ordN E (nds E) k) = none := by
      intro k
      induction k with
      | zero => exact .inl rfl
      | succ k ih =>
        rcases ih with ih | ih
        · cases hp : pick E (nds E) (ordN E (nds E) k) with
          | none => right; rw [ordN_stuck hp 1]; exact hp
          | some x => left; rw [ordN_succ hp, List.length_append, ih]; rfl
        · right; rw [ordN_stuck ih 1]; exact ih
    rcases key (nds E).length with h | h
    · exact absurd h hf
    · exact h
theorem full_iff (E : Egs) : (ordF E (nds E)).length = (nds E).length ↔ ∀ x, ¬ Rp (nxt E) x x :=
  ord_full_iff (F := nxt E) (fun a b => nxt_mem) (nds_ris E) (fun a b h => nds_of (nxt_mem.2 h)) (ordF_ord E) (ordF_end E)
/-- Of each edge, the places of both ends. -/
theorem edge_places {E : Egs} (hfull : (ordF E (nds E)).length = (nds E).length) {a t : Int} (h : (a, t) ∈ E) : ∃ i j, j < i ∧ i < (ordF E (nds E)).length ∧ gd (ordF E (nds E)) i = t ∧ gd (ordF E (nds E)) j = a := by
  have ho := ordF_ord E
  have ht := ord_all ho hfull t (nds_of (nxt_mem.2 h)).2
  obtain ⟨i, hi, e⟩ := List.mem_iff_getElem.1 ht
  obtain ⟨j, hj, e2⟩ := ho.before h (i := i) (by rw [List.getElem?_eq_getElem hi, e])
  refine ⟨i, j, hj, hi, by rw [gd_get hi, e], ?_⟩
  obtain ⟨hj2, e3⟩ := List.getElem?_eq_some_iff.1 e2
  rw [gd_get hj2, e3]
end Go.Proofs.Ytiapnaecdefonaa
