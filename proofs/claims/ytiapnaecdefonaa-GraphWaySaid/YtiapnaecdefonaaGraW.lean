/- Plain lists: the document's way, by all rows of one length. -/
import Derived.Test.YtiapnaecdefonaaGraM
namespace Go.Proofs.Ytiapnaecdefonaa
set_option linter.unusedVariables false
set_option linter.unusedSimpArgs false

section
variable {F : Int → List Int} {fr c n : Int} {s : St}
theorem visit_twice (fr c : Int) (s : St) (n : Int) : visit fr c (visit fr c s n) n = visit fr c s n := visit_old (visit_some fr c s n)
theorem fold_dedup (fr c : Int) : ∀ (l : List Int) (s : St), (dedup l).foldl (visit fr c) s = l.foldl (visit fr c) s
  | [], s => rfl
  | [a], s => rfl
  | a :: b :: r, s => by
    unfold dedup
    split
    · rename_i h
      subst h
      rw [fold_dedup fr c (a :: r) s, List.foldl_cons, List.foldl_cons, List.foldl_cons, visit_twice]
    · rw [List.foldl_cons, fold_dedup fr c (b :: r)]; rfl
theorem filter_dedup {N l : List Int} (hN : Ris N) (hl : l.Pairwise (· ≤ ·)) (hs : ∀ x ∈ l, x ∈ N) : N.filter (fun x => decide (x ∈ l)) = dedup l :=
  ris_ext (hN.filter _) (dedup_ris hl) fun x => by
    rw [dedup_mem, List.mem_filter]
    simp only [decide_eq_true_eq]
    exact ⟨fun h => h.2, fun h => ⟨hs x h, h⟩⟩
/-- All of N that c leads to, the first k of N. -/
def wk (F : Int → List Int) (N : List Int) (fr c : Int) (s : St) (k : Nat) : St := ((N.take k).filter fun x => decide (x ∈ F c)).foldl (visit fr c) s
theorem wk_zero (N : List Int) : wk F N fr c s 0 = s := by simp [wk]
theorem wk_yes {N : List Int} {k : Nat} (hk : k < N.length) (h : gd N k ∈ F c) : wk F N fr c s (k + 1) = visit fr c (wk F N fr c s k) (gd N k) := by
  unfold wk
  rw [List.take_add_one, List.getElem?_eq_getElem hk, ← gd_get hk, List.filter_append, List.foldl_append]
  simp [h]
theorem wk_no {N : List Int} {k : Nat} (hk : k < N.length) (h : gd N k ∉ F c) : wk F N fr c s (k + 1) = wk F N fr c s k := by
  unfold wk
  rw [List.take_add_one, List.getElem?_eq_getElem hk, ← gd_get hk, List.filter_append, List.foldl_append]
  simp [h]
theorem wk_all {N : List Int} (hN : Ris N) (hF : (F c).Pairwise (· ≤ ·)) (hs : ∀ x ∈ F c, x ∈ N) : wk F N fr c s N.length = (F c).foldl (visit fr c) s := by
  unfold wk
  rw [List.take_length, filter_dedup hN hF hs, fold_dedup]
theorem grew_wk (F : Int → List Int) (N : List Int) (fr c : Int) (s : St) (k : Nat) : Grew s (wk F N fr c s k) := grew_fold fr c _ s
theorem grew_wk_all {N : List Int} (k : Nat) : Grew (wk F N fr c s k) (wk F N fr c s N.length) := by
  unfold wk
  rw [List.take_length]
  conv => rhs; rw [← List.take_append_drop k N]
  rw [List.filter_append, List.foldl_append]
  exact grew_fold fr c _ _
theorem BInv.wk {N : List Int} (h : BInv F fr s) (hc : c ∈ s.row) (k : Nat) : BInv F fr (wk F N fr c s k) :=
  BInv.fold _ _ h hc fun x hx => by simpa using (List.mem_filter.1 hx).2
/-- A row of c's. -/
structure RowOk (F : Int → List Int) (fr : Int) (s : St) (c : Int) (r : List Int) : Prop where
  pos : 0 < r.length
  last : gd r (r.length - 1) = c
  short : r.length ≤ s.row.length
  way : r = Pof fr s c ∨ ∀ y ∈ F c, (s.ahead y).isSome = true
theorem RowOk.grew {s' : St} {r : List Int} (h : RowOk F fr s c r) (hg : Grew s s') (hc : c = fr ∨ (s.ahead c).isSome = true) : RowOk F fr s' c r := by
  refine ⟨h.pos, h.last, Nat.le_trans h.short hg.len, h.way.imp (fun e => ?_) fun hy y hm => by rw [(hg.ahead y (hy y hm)).1]; exact hy y hm⟩
  rw [e]
  unfold Pof
  split
  · rfl
  · rename_i hne
    exact ((hg.ahead c (hc.resolve_left hne)).2).symm
theorem RowOk.start : RowOk F fr (bst F fr 0) fr [fr] := ⟨by simp, rfl, Nat.le_refl _, .inl (by simp [Pof])⟩
theorem path_last {x : Int} {p : List Int} (h : PathTo F fr x p) : 0 < p.length ∧ gd p (p.length - 1) = x := by
  cases h with
  | one hx => exact ⟨by simp, rfl⟩
  | more hp hx => exact ⟨by simp, by simp [gd, List.getD]⟩
/-- Each that was met has a row. -/
theorem RowOk.met {i : Nat} (hi : 0 < i) {x : Int} (hx : ((bst F fr i).ahead x).isSome = true) : RowOk F fr (bst F fr i) x ((bst F fr i).paths x) := by
  obtain ⟨p1, p2⟩ := path_last ((binv F fr i).path x hx)
  refine ⟨p1, p2, (plen F fr i).2 x hx, ?_⟩
  by_cases hxf : x = fr
  · right
    subst hxf
    obtain ⟨met, e, _, _⟩ := (binv F x i).row
    exact bst_closed F x (j := 0) hi (by rw [e]; rfl)
  · left
    unfold Pof
    rw [if_neg hxf]
/-- The row that a step makes is the way to whom it leads. -/
theorem RowOk.longer {r : List Int} (h : RowOk F fr s c r) (hn : n ∈ F c) (hm : (s.ahead n).isSome = false) : (visit fr c s n).paths n = r ++ [n] := by
  rw [visit_paths hm, if_pos rfl]
  rcases h.way with e | e
  · rw [e]
  · rw [e n hn] at hm; cases hm
/-- What was found first is what is found. -/
theorem way_found {i j : Nat} (hi : (bst F fr i).row.length ≤ i) {s : St} {to : Int} {p : List Int} (hs : (s.ahead to).isSome = true) (hp : s.paths to = p) (hg : Grew s (bst F fr j)) : wayL (bst F fr i) to = p := by
  have key : ((bst F fr i).ahead to).isSome = true ∧ (bst F fr i).paths to = p := by
    obtain ⟨h1, h2⟩ := hg.ahead to hs
    have h3 : ((bst F fr j).ahead to).isSome = true := by rw [h1]; exact hs
    rcases Nat.le_total i j with hij | hij
    · obtain ⟨k, rfl⟩ := Nat.exists_eq_add_of_le hij
      rw [bst_same hi k] at h2 h3
      exact ⟨h3, h2.trans hp⟩
    · obtain ⟨h4, h5⟩ := (grew_le F fr hij).ahead to h3
      exact ⟨by rw [h4]; exact h3, h5.trans (h2.trans hp)⟩
  unfold wayL
  rw [if_pos key.1]
  exact key.2
/-- The rows of one length: those of the row's members from a place on. -/
def RowsOk (F : Int → List Int) (fr : Int) (s : St) (lo : Nat) (ps : List (List Int)) : Prop := ∀ i (h : i < ps.length), ∃ c, s.row[lo + i]? = some c ∧ RowOk F fr s c ps[i]
def MoreOk (s : St) (hi : Nat) (ps : List (List Int)) : Prop := ∀ j (h : j < ps.length), ∃ c, s.row[hi + j]? = some c ∧ (s.ahead c).isSome = true ∧ ps[j] = s.paths c
theorem RowsOk.start : RowsOk F fr (bst F fr 0) 0 [[fr]] := fun i h => by
  simp at h
  subst h
  exact ⟨fr, rfl, RowOk.start⟩
theorem RowsOk.grew {s' : St} {lo : Nat} {ps : List (List Int)} (h : RowsOk F fr s lo ps) (hb : BInv F fr s) (hg : Grew s s') : RowsOk F fr s' lo ps := fun i hi => by
  obtain ⟨c, h1, h2⟩ := h i hi
  exact ⟨c, hg.get h1, h2.grew hg (hb.mem.1 (List.mem_of_getElem? h1))⟩
theorem MoreOk.nil (s : St) (hi : Nat) : MoreOk s hi [] := fun j h => by simp at h
theorem MoreOk.grew {s' : St} {hi : Nat} {ps : List (List Int)} (h : MoreOk s hi ps) (hg : Grew s s') : MoreOk s' hi ps := fun j hj => by
  obtain ⟨c, h1, h2, h3⟩ := h j hj
  obtain ⟨g1, g2⟩ := hg.ahead c h2
  exact ⟨c, hg.get h1, by rw [g1]; exact h2, by rw [g2]; exact h3⟩
theorem MoreOk.snoc {hi : Nat} {ps : List (List Int)} {r : List Int} (h : MoreOk s hi ps) (hl : s.row.length = hi + ps.length) (hr : RowOk F fr s c r) (hn : n ∈ F c) (hm : (s.ahead n).isSome = false) : MoreOk (visit fr c s n) hi (ps ++ [r ++ [n]]) := fun j hj => by
  by_cases hlt : j < ps.length
  · obtain ⟨d, h1, h2, h3⟩ := (h.grew (grew_visit fr c s n)) j hlt
    exact ⟨d, h1, h2, by rw [List.getElem_append_left hlt]; exact h3⟩
  · have e : j = ps.length := by simp at hj; omega
    subst e
    refine ⟨n, by rw [visit_row hm, ← hl]; simp, visit_some fr c s n, ?_⟩
    rw [hr.longer hn hm]
    simp
theorem MoreOk.rows {hi i : Nat} {ps : List (List Int)} (h : MoreOk (bst F fr i) hi ps) (h0 : 0 < i) : RowsOk F fr (bst F fr i) hi ps := fun j hj => by
  obtain ⟨c, h1, h2, h3⟩ := h j hj
  refine ⟨c, h1, ?_⟩
  rw [h3]
  exact RowOk.met h0 h2
theorem BInv.met_iff {m : List Int} (h : BInv F fr s) (e : s.row = fr :: m) (x : Int) : x ∈ m ↔ (s.ahead x).isSome = true := by
  obtain ⟨met, e2, _, h3⟩ := h.row
  rw [e] at e2
  injection e2 with _ e2
  rw [e2]; exact h3 x
theorem BInv.met_nodup {m : List Int} (h : BInv F fr s) (e : s.row = fr :: m) : m.Nodup := by
  obtain ⟨met, e2, h2, _⟩ := h.row
  rw [e] at e2
  injection e2 with _ e2
  rw [e2]; exact h2
/-- Where all rows have come to their end, and to was never met, there is no way. -/
theorem way_none {i : Nat} {to : Int} (h : ((bst F fr i).ahead to).isSome = false) : wayL (bst F fr i) to = [] := by
  unfold wayL
  rw [if_neg (by rw [h]; simp)]
end
end Go.Proofs.Ytiapnaecdefonaa
