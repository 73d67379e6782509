/- Plain lists: who is wounded, and by whom; what is left; the oldest. -/
import Derived.Test.YtiapnaecdefonaaGraM
namespace Go.Proofs.Ytiapnaecdefonaa
set_option linter.unusedVariables false
set_option linter.unusedSimpArgs false

/-- By whom t is wounded, one edge more. -/
def byStep (t : Int) (o : Option Int) (e : Int × Int) : Option Int := match o with
  | none => if e.2 = t ∧ e.1 < t then some e.1 else none
  | some n => if e.2 = t ∧ e.1 < t ∧ e.1 < n then some e.1 else some n
def byL (E : Egs) (t : Int) : Option Int := E.foldl (byStep t) none
theorem byL_snoc (E : Egs) (e : Int × Int) (t : Int) : byL (E ++ [e]) t = byStep t (byL E t) e := by unfold byL; rw [List.foldl_append]; rfl
theorem byL_nil (t : Int) : byL [] t = none := rfl
theorem fold_spec (t : Int) : ∀ (E : Egs) (o : Option Int),
    (∀ b, E.foldl (byStep t) o = some b → o = some b ∨ (b < t ∧ (b, t) ∈ E)) ∧ (∀ n, o = some n → ∃ b, E.foldl (byStep t) o = some b ∧ b ≤ n) ∧ (∀ a, (a, t) ∈ E → a < t → ∃ b, E.foldl (byStep t) o = some b ∧ b ≤ a)
  | [], o => ⟨fun b h => .inl h, fun n h => ⟨n, h, Int.le_refl _⟩, fun a h => by simp at h⟩
  | (x, y) :: E, o => by
    obtain ⟨h1, h2, h3⟩ := fold_spec t E (byStep t o (x, y))
    refine ⟨fun b hb => ?_, fun n hn => ?_, fun a ha hlt => ?_⟩
    · rcases h1 b hb with h | ⟨h, hm⟩
      · unfold byStep at h
        split at h
        · split at h
          · rename_i hc; cases h
            right; obtain ⟨rfl, hc2⟩ := hc; exact ⟨hc2, by simp⟩
          · cases h
        · split at h
          · rename_i hc; cases h
            right; obtain ⟨rfl, hc2, _⟩ := hc; exact ⟨hc2, by simp⟩
          · cases h; left; rfl
      · exact .inr ⟨h, List.mem_cons_of_mem _ hm⟩
    · subst hn
      by_cases hc : y = t ∧ x < t ∧ x < n
      · obtain ⟨b, hb, hle⟩ := h2 x (by simp only [byStep]; rw [if_pos hc])
        exact ⟨b, hb, by omega⟩
      · exact h2 n (by simp only [byStep]; rw [if_neg hc])
    · rcases List.mem_cons.1 ha with he | ha
      · cases he
        cases o with
        | none => exact h2 x (by simp [byStep, hlt])
        | some n =>
          by_cases hc : x < n
          · exact h2 x (by simp [byStep, hlt, hc])
          · obtain ⟨b, hb, hle⟩ := h2 n (by simp [byStep, hc])
            exact ⟨b, hb, by omega⟩
      · exact h3 a ha hlt
theorem byL_some {E : Egs} {t b : Int} (h : byL E t = some b) : b < t ∧ (b, t) ∈ E := ((fold_spec t E none).1 b h).resolve_left (by simp)
theorem byL_least {E : Egs} {t b : Int} (h : byL E t = some b) {a : Int} (ha : (a, t) ∈ E) : b ≤ a := by
  have h1 := (byL_some h).1
  by_cases hlt : a < t
  · obtain ⟨b', hb', hle⟩ := (fold_spec t E none).2.2 a ha hlt
    have : byL E t = some b' := hb'
    rw [h] at this; cases this; exact hle
  · omega
theorem byL_there {E : Egs} {t a : Int} (ha : (a, t) ∈ E) (hlt : a < t) : ∃ b, byL E t = some b ∧ b ≤ a := (fold_spec t E none).2.2 a ha hlt
theorem byL_none {E : Egs} {t : Int} (h : byL E t = none) {a : Int} (ha : (a, t) ∈ E) : t ≤ a := by
  apply Classical.byContradiction
  intro hn
  obtain ⟨b, hb, _⟩ := byL_there ha (by omega)
  rw [h] at hb; cases hb
theorem byL_more {E D : Egs} {t b : Int} (h : byL E t = some b) : ∃ b', byL (E ++ D) t = some b' ∧ b' ≤ b := by
  obtain ⟨h1, h2⟩ := byL_some h
  exact byL_there (List.mem_append_left _ h2) h1
theorem byL_nds {E : Egs} {t b : Int} (h : byL E t = some b) : t ∈ nds E := nds_mem.2 ⟨(b, t), (byL_some h).2, .inr rfl⟩
/-- All that are wounded. -/
def hurtL (E : Egs) : List Int := (nds E).filter fun t => (byL E t).isSome
theorem hurt_ris (E : Egs) : Ris (hurtL E) := (nds_ris E).filter _
theorem hurt_mem {E : Egs} {t : Int} : t ∈ hurtL E ↔ (byL E t).isSome = true := by
  unfold hurtL
  rw [List.mem_filter]
  refine ⟨fun h => by simpa using h.2, fun h => ⟨?_, by simpa using h⟩⟩
  obtain ⟨b, hb⟩ := Option.isSome_iff_exists.1 h
  exact byL_nds hb
def rowW (E : Egs) (t : Int) : List Int := [t, (byL E t).getD 0]
def woundsL (E : Egs) (K : List Int) : List (List Int) := K.map (rowW E)
theorem woundsL_len (E : Egs) (K : List Int) : (woundsL E K).length = K.length := by simp [woundsL]
theorem woundsL_snoc (E : Egs) (K : List Int) (t : Int) : woundsL E (K ++ [t]) = woundsL E K ++ [rowW E t] := by simp [woundsL]
theorem hurt_len (E : Egs) : (hurtL E).length ≤ 2 * E.length := Nat.le_trans (List.length_filter_le _ _) (nds_len E)
/-- The least number. -/
def oldL (o : Int) (E : Egs) : Int := E.foldl (fun o e => min (min o e.1) e.2) o
theorem oldL_snoc (o : Int) (E : Egs) (e : Int × Int) : oldL o (E ++ [e]) = min (min (oldL o E) e.1) e.2 := by unfold oldL; rw [List.foldl_append]; rfl
theorem oldL_spec : ∀ (E : Egs) (o : Int), (oldL o E ≤ o) ∧ (∀ e ∈ E, oldL o E ≤ e.1 ∧ oldL o E ≤ e.2)
  | [], o => ⟨Int.le_refl _, by simp⟩
  | (x, y) :: E, o => by
    obtain ⟨h1, h2⟩ := oldL_spec E (min (min o x) y)
    have e : oldL o ((x, y) :: E) = oldL (min (min o x) y) E := rfl
    rw [e]
    refine ⟨by omega, fun p hp => ?_⟩
    rcases List.mem_cons.1 hp with rfl | hp
    · dsimp only; omega
    · exact h2 p hp
end Go.Proofs.Ytiapnaecdefonaa
