/- Plain lists: how many edges go to a number yet. -/
import Derived.Test.YtiapnaecdefonaaGraM
namespace Go.Proofs.Ytiapnaecdefonaa
set_option linter.unusedVariables false
set_option linter.unusedSimpArgs false

theorem dg_more (E : Egs) (e : Int × Int) (x : Int) : dg (E ++ [e]) [] x = dg E [] x + if e.2 = x then 1 else 0 := by
  unfold dg
  rw [List.filter_append, List.length_append]
  congr 1
  by_cases h : e.2 = x <;> simp [h]
theorem dg_snoc {E : Egs} {out : List Int} {x0 : Int} (h : x0 ∉ out) (x : Int) : dg E out x = dg E (out ++ [x0]) x + (nxt E x0).count x := by
  have h1 : (nxt E x0).count x = (outs E x0).count x := (srt_perm _).count_eq x
  rw [h1]
  clear h1
  unfold dg outs
  induction E with
  | nil => rfl
  | cons e E ih =>
    rw [List.filter_cons, List.filter_cons, List.filter_cons]
    by_cases a : e.2 = x
    · by_cases b : e.1 ∈ out
      · have c : e.1 ≠ x0 := fun e2 => h (e2 ▸ b)
        simp [a, b, c]
        simpa using ih
      · by_cases c : e.1 = x0
        · simp [a, b, c, h]
          simp at ih; omega
        · simp [a, b, c]
          simp at ih; omega
    · by_cases c : e.1 = x0
      · simp [a, c]
        simpa using ih
      · simp [a, c]
        simpa using ih
theorem count_drop {l : List Int} {j : Nat} (hj : j < l.length) (x : Int) : (l.drop j).count x = (l.drop (j + 1)).count x + if x = l[j] then 1 else 0 := by
  rw [← List.getElem_cons_drop hj, List.count_cons]
  congr 1
  by_cases h : x = l[j]
  · simp [h]
  · simp [h, Ne.symm h]
/-- The heap in the order's loop: the free ones, in part. -/
structure HeapO (E : Egs) (N out : List Int) (g : Int → Nat) (H : List Int) : Prop where
  hp : HP H H.length
  nodup : H.Nodup
  mem : ∀ x, x ∈ H ↔ x ∈ N ∧ x ∉ out ∧ g x = 0
section
variable {E : Egs} {N out H H' : List Int} {g : Int → Nat} {x0 t : Int}
theorem HeapO.len (h : HeapO E N out g H) : H.length ≤ N.length := nodup_len h.nodup fun x hx => ((h.mem x).1 hx).1
theorem HeapO.to {g' : Int → Nat} (h : HeapO E N out g H) (e : ∀ x, g x = g' x) : HeapO E N out g' H := ⟨h.hp, h.nodup, fun x => by rw [h.mem, e]⟩
/-- The least one is the one that is picked. -/
theorem HeapO.pick (h : HeapO E N out (dg E out) H) (hN : Ris N) (h0 : 0 < H.length) (hx : gd H 0 = x0) : pick E N out = some x0 ∧ x0 ∉ out := by
  have hm : x0 ∈ H := by rw [← hx, gd_get h0]; exact List.getElem_mem h0
  obtain ⟨h1, h2, h3⟩ := (h.mem x0).1 hm
  refine ⟨pick_of hN h1 (by simp [isFree, h2, h3]) fun y hy hf => ?_, h2⟩
  have hyH : y ∈ H := (h.mem y).2 ⟨hy, by simpa [isFree] using hf⟩
  obtain ⟨i, hi, e⟩ := List.mem_iff_getElem.1 hyH
  have := h.hp.min i hi
  rw [hx, gd_get hi, e] at this
  exact this
theorem HeapO.none (h : HeapO E N out (dg E out) []) : Ytiapnaecdefonaa.pick E N out = none := by
  unfold Ytiapnaecdefonaa.pick
  rw [List.find?_eq_none]
  intro x hx hf
  have := (h.mem x).2 ⟨hx, by simpa [isFree] using hf⟩
  cases this
/-- The least one is out. -/
theorem HeapO.popped (h : HeapO E N out (dg E out) H) (hp : (H' ++ [x0]).Perm H) (hh : HP H' H'.length) (hx0 : x0 ∉ out) : HeapO E N (out ++ [x0]) (fun x => dg E (out ++ [x0]) x + (nxt E x0).count x) H' := by
  have hnd : (H' ++ [x0]).Nodup := (hp.nodup_iff).2 h.nodup
  obtain ⟨d1, _, d3⟩ := List.nodup_append.1 hnd
  refine ⟨hh, d1, fun x => ?_⟩
  have h1 : x ∈ H' ↔ x ∈ H ∧ x ≠ x0 := by
    rw [← hp.mem_iff, List.mem_append, List.mem_singleton]
    constructor
    · intro hx; exact ⟨.inl hx, fun e => d3 x hx x0 (by simp) e⟩
    · rintro ⟨hx | hx, hne⟩
      · exact hx
      · exact absurd hx hne
  rw [h1, h.mem, ← dg_snoc hx0, List.mem_append, List.mem_singleton]
  constructor
  · rintro ⟨⟨a, b, c⟩, d⟩; exact ⟨a, fun e => e.elim b d, c⟩
  · rintro ⟨a, b, c⟩; exact ⟨⟨a, fun e => b (.inl e), c⟩, fun e => b (.inr e)⟩
theorem HeapO.push {g' : Int → Nat} (h : HeapO E N out g H) (ht : 0 < g t) (hg : ∀ x, g' x = if x = t then 0 else g x) (htN : t ∈ N) (hto : t ∉ out) (hp : H'.Perm (H ++ [t])) (hh : HP H' H'.length) : HeapO E N out g' H' := by
  have hnot : t ∉ H := fun hm => by have := ((h.mem t).1 hm).2.2; omega
  refine ⟨hh, (hp.nodup_iff).2 (List.nodup_append.2 ⟨h.nodup, by simp, fun a ha b hb e => ?_⟩), fun x => ?_⟩
  · simp at hb; subst hb; subst e; exact hnot ha
  · rw [hp.mem_iff, List.mem_append, List.mem_singleton, h.mem, hg]
    by_cases e : x = t
    · subst e; simp [htN, hto]
    · rw [if_neg e]
      constructor
      · rintro (h1 | h1)
        · exact h1
        · exact absurd h1 e
      · exact .inl
theorem HeapO.stay {g' : Int → Nat} (h : HeapO E N out g H) (ht : 0 < g t) (hg : ∀ x, x ≠ t → g' x = g x) (ht' : g' t ≠ 0) : HeapO E N out g' H := by
  refine ⟨h.hp, h.nodup, fun x => ?_⟩
  rw [h.mem]
  by_cases e : x = t
  · subst e
    constructor
    · rintro ⟨_, _, c⟩; omega
    · rintro ⟨_, _, c⟩; exact absurd c ht'
  · rw [hg x e]
end
end Go.Proofs.Ytiapnaecdefonaa
