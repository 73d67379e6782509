/- Who is lost, in plain lists; something done, at a place of a slice. -/
import Derived.Test.YtjjkopbdejbnlaaLaw16V
namespace Go.Proofs.Ytjjkopbdejbnlaa
open Go.RowKit
set_option linter.unusedVariables false
set_option linter.unusedSimpArgs false

theorem ofL_ne {t : Int} (h0 : 0 < t) : ∀ {L : List Cl}, (∃ c ∈ L, c.tx = t) → ofL t L ≠ 0
  | [], h => by obtain ⟨c, hc, _⟩ := h; cases hc
  | a :: r, h => by
    obtain ⟨c, hc, he⟩ := h
    unfold ofL
    split
    · omega
    · rename_i hn
      rcases List.mem_cons.1 hc with rfl | hc
      · exact absurd ⟨h0, he⟩ hn
      · rw [if_neg (ofL_ne h0 ⟨c, hc, he⟩)]
        have := ofL_nonneg t r
        omega
theorem isLost_iff {now span : Int} {c : Cl} : isLost now span c = true ↔ c.dead = true ∧ 0 < c.tx ∧ span ≤ now - c.since := by unfold isLost; simp [and_assoc]
/-- Who is lost: by whose it is. -/
theorem lost_iff {now span y : Int} {L : List Cl} : y ∈ lostR now span L ↔ (isT now = true ∧ 0 ≤ span) ∧ ∃ i, i < L.length ∧ isLost now span (clAt L i) = true ∧ (clAt L i).tx = y := by
  rw [lostR_mem]
  unfold lostIds
  by_cases hg : isT now = true ∧ 0 ≤ span
  · rw [if_pos hg]
    unfold lostL
    rw [List.mem_map]
    constructor
    · rintro ⟨c, hc, rfl⟩
      obtain ⟨h1, h2⟩ := List.mem_filter.1 hc
      obtain ⟨i, hi, e⟩ := mem_clAt h1
      exact ⟨hg, i, hi, by rw [e]; exact h2, by rw [e]⟩
    · rintro ⟨_, i, hi, h1, rfl⟩
      exact ⟨_, List.mem_filter.2 ⟨clAt_mem hi, h1⟩, rfl⟩
  · rw [if_neg hg]
    constructor
    · intro h; cases h
    · rintro ⟨h, _⟩; exact absurd h hg
theorem lost_later {now span now' span' y : Int} {L : List Cl} (h : y ∈ lostR now span L) (h1 : now ≤ now') (h2 : span' ≤ span) (ht : isT now' = true) (hs : 0 ≤ span') : y ∈ lostR now' span' L := by
  obtain ⟨_, i, hi, hl, e⟩ := lost_iff.1 h
  refine lost_iff.2 ⟨⟨ht, hs⟩, i, hi, ?_, e⟩
  obtain ⟨a, b, c⟩ := isLost_iff.1 hl
  exact isLost_iff.2 ⟨a, b, by omega⟩
/-- Whose is lost has it, and is dead. -/
theorem lost_whose {now span y : Int} {L : List Cl} (ho : ClOk L) (h : y ∈ lostR now span L) : ofL y L ≠ 0 ∧ (∀ n, L.length = n → aliveL n L (ofL y L) = false) ∧ 0 < y := by
  obtain ⟨_, i, hi, hl, e⟩ := lost_iff.1 h
  obtain ⟨a, b, c⟩ := isLost_iff.1 hl
  rw [e] at b
  have hne := ofL_ne b ⟨_, clAt_mem hi, e⟩
  refine ⟨hne, fun n hn => ?_, b⟩
  obtain ⟨hk, _, hx⟩ := ofL_get hne
  have := ofL_nonneg y L
  have := ofL_le y L
  rw [← clAt_get hk] at hx
  have ei := ho.one _ _ hk hi (hx.trans e.symm) (by rw [hx]; exact b)
  unfold aliveL
  rw [if_neg (by omega), ei, a]; rfl
/-- Whose transaction ended is lost no more; all others as they were. -/
theorem end_lost {now span t : Int} {L : List Cl} (ho : ClOk L) (h : t ∈ lostR now span L) (y : Int) : y ∈ lostR now span (endL L t).1 ↔ y ∈ lostR now span L ∧ y ≠ t := by
  obtain ⟨hne, _, ht⟩ := lost_whose ho h
  obtain ⟨hk, _, hx⟩ := ofL_get hne
  rw [← clAt_get hk] at hx
  have e1 : (endL L t).1 = L.set (ofL t L - 1).toNat { clAt L (ofL t L - 1).toNat with tx := 0 } := by unfold endL; rw [if_neg hne]
  rw [e1, lost_iff, lost_iff]
  generalize (ofL t L - 1).toNat = k at hk hx ⊢
  constructor
  · rintro ⟨hg, i, hi, hl, e⟩
    rw [List.length_set] at hi
    rw [clAt_set hk] at hl e
    by_cases ek : k = i
    · rw [if_pos ek] at hl
      have := (isLost_iff.1 hl).2.1
      simp at this
    · rw [if_neg ek] at hl e
      refine ⟨⟨hg, i, hi, hl, e⟩, fun ey => ek ?_⟩
      exact ho.one _ _ hk hi (by rw [hx, e, ey]) (by rw [hx]; exact ht)
  · rintro ⟨⟨hg, i, hi, hl, e⟩, hy⟩
    have ek : k ≠ i := fun ek => hy (by rw [← e, ← ek]; exact hx)
    exact ⟨hg, i, by rw [List.length_set]; exact hi, by rw [clAt_set hk, if_neg ek]; exact hl, by rw [clAt_set hk, if_neg ek]; exact e⟩
theorem ris_drop_mem {l : List Int} (h : Ris l) {k : Nat} (hk : k < l.length) (y : Int) : y ∈ l.drop (k + 1) ↔ y ∈ l.drop k ∧ y ≠ l[k] := by
  have hc : l.drop k = l[k] :: l.drop (k + 1) := List.drop_eq_getElem_cons hk
  have h2 : Ris (l.drop k) := h.sublist (List.drop_sublist _ _)
  rw [hc] at h2 ⊢
  have h3 := (List.pairwise_cons.1 h2).1
  constructor
  · intro hy
    exact ⟨List.mem_cons_of_mem _ hy, fun e => by have := h3 y hy; omega⟩
  · rintro ⟨hy, hne⟩
    rcases List.mem_cons.1 hy with e | hy
    · exact absurd e hne
    · exact hy
theorem end_step {now span : Int} {L : List Cl} {l : List Int} {k : Nat} (ho : ClOk L) (hl : Ris l) (h : lostR now span L = l.drop k) (hk : k < l.length) : (endL L l[k]).2 = 0 ∧ lostR now span (endL L l[k]).1 = l.drop (k + 1) := by
  have hm : l[k] ∈ lostR now span L := by rw [h, List.drop_eq_getElem_cons hk]; exact List.mem_cons_self
  refine ⟨by unfold endL; rw [if_neg (lost_whose ho hm).1], ?_⟩
  refine ris_ext (lostR_ris (ho.end_ _)) (hl.sublist (List.drop_sublist _ _)) fun y => ?_
  rw [end_lost ho hm y, h, ris_drop_mem hl hk y]
theorem ClOk.act {L : List Cl} (h : ClOk L) (K I T N : Int) : ClOk (actL L K I T N).1 := by
  unfold actL
  split
  · exact h.begin_ I T
  · split
    · exact h.end_ T
    · exact h.crash I N
theorem four_cells {X : World} {b o : Nat} {x y z u : Int} (h0 : X.cell? ⟨b, o, none⟩ = some (.int .i64 x)) (h1 : X.cell? ⟨b, o + 1, none⟩ = some (.int .i64 y)) (h2 : X.cell? ⟨b, o + 2, none⟩ = some (.int .i64 z)) (h3 : X.cell? ⟨b, o + 3, none⟩ = some (.int .i64 u)) :
    ∀ j v, [Value.int .i64 x, .int .i64 y, .int .i64 z, .int .i64 u][j]? = some v → X.cell? ((⟨b, o, none⟩ : Addr).add j) = some v := by
  intro j v hj
  rcases j with _ | _ | _ | _ | j
  · simp at hj; subst hj; exact h0
  · simp at hj; subst hj; exact h1
  · simp at hj; subst hj; exact h2
  · simp at hj; subst hj; exact h3
  · simp at hj
/-- Something done, of a slice of such. -/
theorem act_at {w : World} {B n : Nat} {A : Option Addr} {ls : List (List Int)} (h : Reads w B 4 A n (ints ls.flatten)) (hall : ∀ l ∈ ls, l.length = 4) (hn : ls.length = n) {i : Nat} (hi : i < n) :
    ∃ b off K I T N, A = some ⟨b, off, none⟩ ∧ b < B ∧ ∀ j v, [Value.int .i64 K, .int .i64 I, .int .i64 T, .int .i64 N][j]? = some v → w.cell? ((⟨b, off + i * 4, none⟩ : Addr).add j) = some v := by
  obtain ⟨b, off, e, hb, hc, _⟩ := h.flat_at hall hn (by omega) hi
  exact ⟨b, off, _, _, _, _, e, hb, four_cells (show w.cell? ⟨b, off + i * 4, none⟩ = _ from hc 0 (by omega)) (hc 1 (by omega)) (hc 2 (by omega)) (hc 3 (by omega))⟩
end Go.Proofs.Ytjjkopbdejbnlaa
