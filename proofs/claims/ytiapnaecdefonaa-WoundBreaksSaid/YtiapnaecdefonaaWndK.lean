/- Plain lists: what is left goes down; on each way back of three numbers or more somebody is wounded. -/
import Derived.Test.YtiapnaecdefonaaWndG
import Derived.Test.YtiapnaecdefonaaGraW
import Derived.Test.YtiapnaecdefonaaOrdF
namespace Go.Proofs.Ytiapnaecdefonaa
open Go.RowKit
set_option linter.unusedVariables false
set_option linter.unusedSimpArgs false

theorem hurt_step {E : Egs} {a t : Int} (h : t ∈ nxt E a) (hlt : a < t) : (byL E t).isSome = true := by
  obtain ⟨b, hb, _⟩ := byL_there (nxt_mem.1 h) hlt
  rw [hb]; rfl
theorem path_hurt {E : Egs} {fr x : Int} {p : List Int} (h : PathTo (nxt E) fr x p) : (∃ t ∈ p, (byL E t).isSome = true) ∨ x < fr ∨ (x = fr ∧ fr ∈ nxt E fr) := by
  induction h with
  | @one x hx =>
    by_cases hlt : fr < x
    · exact .inl ⟨x, by simp, hurt_step hx hlt⟩
    · by_cases e : x = fr
      · subst e; exact .inr (.inr ⟨rfl, hx⟩)
      · exact .inr (.inl (by omega))
  | @more c x p hp hx ih =>
    rcases ih with ⟨t, ht, hh⟩ | ih
    · exact .inl ⟨t, by simp [ht], hh⟩
    · by_cases hlt : c < x
      · exact .inl ⟨x, by simp, hurt_step hx hlt⟩
      · by_cases e : x = fr
        · rcases ih with ih | ⟨rfl, ih⟩
          · omega
          · exact .inr (.inr ⟨e, ih⟩)
        · rcases ih with ih | ⟨rfl, ih⟩
          · exact .inr (.inl (by omega))
          · exact .inr (.inl (by omega))
theorem fold_self {fr : Int} : ∀ (l : List Int) (s : St), ((s.ahead fr).isSome = true → s.paths fr = [fr, fr]) → (((l.foldl (visit fr fr) s).ahead fr).isSome = true → (l.foldl (visit fr fr) s).paths fr = [fr, fr])
  | [], s, h => h
  | n :: l, s, h => by
    refine fold_self l (visit fr fr s n) fun hs => ?_
    by_cases hm : (s.ahead n).isSome = true
    · rw [visit_old hm] at hs ⊢; exact h hs
    · have hm' : (s.ahead n).isSome = false := by simpa using hm
      rw [visit_paths hm']
      by_cases e : fr = n
      · rw [if_pos e]; simp [Pof, e]
      · rw [if_neg e]
        rw [visit_ahead hm', if_neg e] at hs
        exact h hs
theorem way_self {F : Int → List Int} {fr : Int} {i : Nat} (hi : (bst F fr i).row.length ≤ i) (h : fr ∈ F fr) : wayL (bst F fr i) fr = [fr, fr] := by
  have e : bst F fr 1 = (F fr).foldl (visit fr fr) (bst F fr 0) := bst_succ (i := 0) rfl
  have hs : ((bst F fr 1).ahead fr).isSome = true := by rw [e]; exact fold_some _ _ _ _ _ h
  have hp : (bst F fr 1).paths fr = [fr, fr] := by rw [e] at hs ⊢; exact fold_self (F fr) (bst F fr 0) (fun h => by simp [bst] at h) hs
  exact way_found (j := 1) hi hs hp (.refl _)
theorem way_hurt {E : Egs} {x : Int} {i : Nat} (hi : (bst (nxt E) x i).row.length ≤ i) (h3 : 3 ≤ (wayL (bst (nxt E) x i) x).length) : ∃ J, J < (wayL (bst (nxt E) x i) x).length ∧ ∃ m, m < (hurtL E).length ∧ gd (hurtL E) m = gd (wayL (bst (nxt E) x i) x) J := by
  have key : ∃ t ∈ wayL (bst (nxt E) x i) x, (byL E t).isSome = true := by
    have hs : ((bst (nxt E) x i).ahead x).isSome = true := by
      cases hx : ((bst (nxt E) x i).ahead x).isSome with
      | true => rfl
      | false => rw [way_none hx] at h3; simp at h3
    have hw : wayL (bst (nxt E) x i) x = (bst (nxt E) x i).paths x := by unfold wayL; rw [if_pos hs]
    rcases path_hurt ((binv (nxt E) x i).path x hs) with h | h | ⟨_, h⟩
    · rw [hw]; exact h
    · omega
    · rw [way_self hi h] at h3; simp at h3
  obtain ⟨t, ht, hh⟩ := key
  obtain ⟨J, hJ, e⟩ := List.mem_iff_getElem.1 ht
  obtain ⟨m, hm, e2⟩ := List.mem_iff_getElem.1 (hurt_mem.2 hh)
  exact ⟨J, hJ, m, hm, by rw [gd_get hm, gd_get hJ, e, e2]⟩
theorem way_len {E : Egs} {x : Int} {i : Nat} {U : List Int} (hU : ∀ x y, y ∈ nxt E x → y ∈ U) : (wayL (bst (nxt E) x i) x).length ≤ U.length + 1 := by
  unfold wayL
  split
  · rename_i h
    exact Nat.le_trans ((plen (nxt E) x i).2 x h) (bst_len hU i)
  · simp
/-- What is left, but for those who wait for themselves. -/
def plainL (ls : List (List Int)) : List (List Int) := ls.filter fun l => decide (fld l 0 ≠ fld l 2)
theorem plain_len (ls : List (List Int)) (k : Nat) : (plainL (ls.take k)).length ≤ k := Nat.le_trans (List.length_filter_le _ _) (by rw [List.length_take]; omega)
theorem plain_yes {ls : List (List Int)} {k : Nat} (hk : k < ls.length) {l : List Int} (e : ls[k] = l) (h : fld l 0 ≠ fld l 2) : plainL (ls.take (k + 1)) = plainL (ls.take k) ++ [l] := by
  unfold plainL
  rw [List.take_add_one, List.getElem?_eq_getElem hk, e, List.filter_append]
  simp [h]
theorem plain_no {ls : List (List Int)} {k : Nat} (hk : k < ls.length) {l : List Int} (e : ls[k] = l) (h : fld l 0 = fld l 2) : plainL (ls.take (k + 1)) = plainL (ls.take k) := by
  unfold plainL
  rw [List.take_add_one, List.getElem?_eq_getElem hk, e, List.filter_append]
  simp [h]
theorem plain_edg {w w' : World} {B n : Nat} {A A' : Option Addr} {ls : List (List Int)} (h : EdgM w B A n ls) (hr : Reads w' w'.heap.size 4 A' (plainL ls).length (ints (plainL ls).flatten)) : EdgM w' w'.heap.size A' (plainL ls).length (plainL ls) :=
  ⟨hr, fun l hl => h.four l (List.mem_filter.1 hl).1, rfl, fun l hl => h.wf l (List.mem_filter.1 hl).1⟩
theorem rest_down {ls : List (List Int)} {l : List Int} (h : l ∈ restL (eds ls) ls) : fld l 2 ≤ fld l 0 := by
  obtain ⟨h1, h2⟩ := List.mem_filter.1 h
  have h3 : byL (eds ls) (fld l 2) = none := by
    unfold leftE at h2
    simp at h2
    exact h2.2
  exact byL_none h3 (List.mem_map.2 ⟨l, h1, rfl⟩)
theorem plain_down {ls : List (List Int)} {a t : Int} (h : (a, t) ∈ eds (plainL (restL (eds ls) ls))) : t < a := by
  obtain ⟨l, hl, e⟩ := List.mem_map.1 h
  obtain ⟨h1, h2⟩ := List.mem_filter.1 hl
  have h3 := rest_down h1
  simp at h2
  cases e
  omega
theorem plain_order (ls : List (List Int)) : (ordF (eds (plainL (restL (eds ls) ls))) (nds (eds (plainL (restL (eds ls) ls))))).length = (nds (eds (plainL (restL (eds ls) ls)))).length := by
  refine (full_iff _).2 fun x hx => ?_
  have down : ∀ b, Rt (nxt (eds (plainL (restL (eds ls) ls)))) x b → b ≤ x := by
    intro b hb
    induction hb with
    | refl => exact Int.le_refl _
    | tail _ hc ih => have := plain_down (nxt_mem.1 hc); omega
  obtain ⟨d, h1, h2⟩ := hx
  have := down d h1
  have := plain_down (nxt_mem.1 h2)
  omega
end Go.Proofs.Ytiapnaecdefonaa
