/- Plain lists: what is reached, breadth first; the least of the shortest ways; a walk that leaves each number when all that can be seen from there were seen, twice, for the circles; a heap; the order. -/
import Derived.Test.YtmfoffigmojdcaaGreatBase
namespace Go.Proofs.YtmfoffigmojdcaaGreat
set_option linter.unusedVariables false
set_option linter.unusedSimpArgs false

/-! ### lists of numbers -/
theorem nodup_len : ∀ {l m : List Int}, l.Nodup → (∀ x ∈ l, x ∈ m) → l.length ≤ m.length
  | [], m, _, _ => Nat.zero_le _
  | x :: l, m, h, hs => by
    have hx := hs x (by simp)
    obtain ⟨hn, hd⟩ := List.nodup_cons.1 h
    have h1 := nodup_len (m := m.erase x) hd fun y hy => (List.mem_erase_of_ne (fun e : y = x => hn (by rw [← e]; exact hy))).2 (hs y (by simp [hy]))
    rw [List.length_erase_of_mem hx] at h1
    have h2 : 0 < m.length := List.length_pos_of_mem hx
    simp only [List.length_cons]; omega
abbrev Ris (l : List Int) : Prop := l.Pairwise (· < ·)
theorem ris_nodup {l : List Int} (h : Ris l) : l.Nodup := h.imp fun {a b} hab e => by omega
theorem ris_ext : ∀ {l m : List Int}, Ris l → Ris m → (∀ x, x ∈ l ↔ x ∈ m) → l = m
  | [], [], _, _, _ => rfl
  | [], y :: m, _, _, h => by have := (h y).2 (by simp); simp at this
  | x :: l, [], _, _, h => by have := (h x).1 (by simp); simp at this
  | x :: l, y :: m, h1, h2, h => by
    obtain ⟨a1, a2⟩ := List.pairwise_cons.1 h1
    obtain ⟨b1, b2⟩ := List.pairwise_cons.1 h2
    have e : x = y := by
      have hx := (h x).1 (by simp)
      have hy := (h y).2 (by simp)
      rcases List.mem_cons.1 hx with e | hx
      · exact e
      · rcases List.mem_cons.1 hy with e | hy
        · exact e.symm
        · have := b1 x hx; have := a1 y hy; omega
    subst e
    have : l = m := ris_ext a2 b2 fun z => by
      constructor
      · intro hz
        have h3 := (h z).1 (by simp [hz])
        rcases List.mem_cons.1 h3 with rfl | h3
        · have := a1 z hz; omega
        · exact h3
      · intro hz
        have h3 := (h z).2 (by simp [hz])
        rcases List.mem_cons.1 h3 with rfl | h3
        · have := b1 z hz; omega
        · exact h3
    rw [this]

/-! ### what leads where -/
inductive Rt (F : Int → List Int) (a : Int) : Int → Prop
  | refl : Rt F a a
  | tail {b c : Int} : Rt F a b → c ∈ F b → Rt F a c
/-- Reached: by one edge or more. -/
def Rp (F : Int → List Int) (a c : Int) : Prop := ∃ b, Rt F a b ∧ c ∈ F b
section
variable {F G : Int → List Int} {a b c : Int}
theorem Rt.trans (h : Rt F a b) (h' : Rt F b c) : Rt F a c := by
  induction h' with
  | refl => exact h
  | tail _ hc ih => exact ih.tail hc
theorem Rt.one (h : b ∈ F a) : Rt F a b := Rt.refl.tail h
theorem Rt.head (h : b ∈ F a) (h' : Rt F b c) : Rt F a c := (Rt.one h).trans h'
theorem Rp.rt (h : Rp F a c) : Rt F a c := by obtain ⟨b, h1, h2⟩ := h; exact h1.tail h2
theorem Rp.of (h : Rt F a b) (hne : a ≠ b) : Rp F a b := by
  cases h with
  | refl => exact absurd rfl hne
  | tail h1 h2 => exact ⟨_, h1, h2⟩
theorem Rp.one (h : b ∈ F a) : Rp F a b := ⟨a, .refl, h⟩
theorem Rp.trans (h : Rp F a b) (h' : Rt F b c) : Rp F a c := by
  cases h' with
  | refl => exact h
  | tail h1 h2 => exact ⟨_, h.rt.trans h1, h2⟩
theorem Rp.left (h : Rt F a b) (h' : Rp F b c) : Rp F a c := by obtain ⟨d, h1, h2⟩ := h'; exact ⟨d, h.trans h1, h2⟩
theorem Rp.head (h : Rp F a c) : ∃ b, b ∈ F a ∧ Rt F b c := by
  obtain ⟨b, h1, h2⟩ := h
  induction h1 generalizing c with
  | refl => exact ⟨c, h2, .refl⟩
  | tail h3 h4 ih => obtain ⟨d, h5, h6⟩ := ih h4; exact ⟨d, h5, h6.tail h2⟩
theorem Rt.mono (hF : ∀ x y, y ∈ F x → y ∈ G x) (h : Rt F a b) : Rt G a b := by
  induction h with
  | refl => exact .refl
  | tail _ hc ih => exact ih.tail (hF _ _ hc)
theorem Rp.mono (hF : ∀ x y, y ∈ F x → y ∈ G x) (h : Rp F a b) : Rp G a b := by
  obtain ⟨d, h1, h2⟩ := h; exact ⟨d, h1.mono hF, hF _ _ h2⟩
theorem Rt.back (hF : ∀ x y, y ∈ F x → x ∈ G y) (h : Rt F a b) : Rt G b a := by
  induction h with
  | refl => exact .refl
  | tail _ hc ih => exact Rt.head (hF _ _ hc) ih
theorem Rp.back (hF : ∀ x y, y ∈ F x → x ∈ G y) (h : Rp F a b) : Rp G b a := by
  obtain ⟨d, h1, h2⟩ := h; exact (Rp.one (hF _ _ h2)).trans (h1.back hF)
end

/-! ### breadth first -/
structure St where
  row : List Int
  ahead : Int → Option Int
  paths : Int → List Int
def Pof (fr : Int) (s : St) (c : Int) : List Int := if c = fr then [fr] else s.paths c
def visit (fr c : Int) (s : St) (n : Int) : St :=
  if (s.ahead n).isSome then s else ⟨s.row ++ [n], fun k => if k = n then some c else s.ahead k, fun k => if k = n then Pof fr s c ++ [n] else s.paths k⟩
def bst (F : Int → List Int) (fr : Int) : Nat → St
  | 0 => ⟨[fr], fun _ => none, fun _ => []⟩
  | i + 1 => match (bst F fr i).row[i]? with
    | some c => (F c).foldl (visit fr c) (bst F fr i)
    | none => bst F fr i
/-- A way: it begins with fr, ends with x. -/
inductive PathTo (F : Int → List Int) (fr : Int) : Int → List Int → Prop
  | one {x : Int} : x ∈ F fr → PathTo F fr x [fr, x]
  | more {c x : Int} {p : List Int} : PathTo F fr c p → x ∈ F c → PathTo F fr x (p ++ [x])
structure BInv (F : Int → List Int) (fr : Int) (s : St) : Prop where
  row : ∃ met, s.row = fr :: met ∧ met.Nodup ∧ ∀ x, x ∈ met ↔ (s.ahead x).isSome = true
  pred : ∀ x c, s.ahead x = some c → c ∈ s.row ∧ x ∈ F c ∧ (c = fr ∨ (s.ahead c).isSome = true) ∧ s.paths x = Pof fr s c ++ [x]
  path : ∀ x, (s.ahead x).isSome = true → PathTo F fr x (s.paths x)
section
variable {F : Int → List Int} {fr : Int} {s : St} {c n : Int}
theorem BInv.start : BInv F fr (bst F fr 0) := ⟨⟨[], rfl, List.nodup_nil, fun x => by simp [bst]⟩, fun x c h => by simp [bst] at h, fun x h => by simp [bst] at h⟩
theorem BInv.mem (h : BInv F fr s) {x : Int} : x ∈ s.row ↔ x = fr ∨ (s.ahead x).isSome = true := by
  obtain ⟨met, e, _, hm⟩ := h.row
  rw [e, List.mem_cons, hm]
theorem visit_old (hs : (s.ahead n).isSome = true) : visit fr c s n = s := by unfold visit; rw [if_pos hs]
theorem visit_row (hs : (s.ahead n).isSome = false) : (visit fr c s n).row = s.row ++ [n] := by unfold visit; rw [if_neg (by simp [hs])]
theorem visit_ahead (hs : (s.ahead n).isSome = false) (k : Int) : (visit fr c s n).ahead k = if k = n then some c else s.ahead k := by unfold visit; rw [if_neg (by simp [hs])]
theorem visit_paths (hs : (s.ahead n).isSome = false) (k : Int) : (visit fr c s n).paths k = if k = n then Pof fr s c ++ [n] else s.paths k := by unfold visit; rw [if_neg (by simp [hs])]
theorem BInv.visit (h : BInv F fr s) (hc : c ∈ s.row) (hn : n ∈ F c) : BInv F fr (visit fr c s n) := by
  cases hs : (s.ahead n).isSome with
  | true => rw [visit_old hs]; exact h
  | false =>
    have hcn : c = fr ∨ c ≠ n ∧ (s.ahead c).isSome = true := by
      rcases h.mem.1 hc with e | e
      · exact .inl e
      · exact .inr ⟨fun e2 => (by rw [e2, hs] at e; cases e), e⟩
    have hP : ∀ d, d = fr ∨ (s.ahead d).isSome = true → Pof fr (YtmfoffigmojdcaaGreat.visit fr c s n) d = Pof fr s d := by
      intro d hd
      unfold Pof
      split
      · rfl
      · rename_i hdf
        rw [visit_paths hs, if_neg]
        intro e
        rcases hd with hd | hd
        · exact hdf hd
        · rw [e, hs] at hd; cases hd
    refine ⟨?_, ?_, ?_⟩
    · obtain ⟨met, e, hnd, hm⟩ := h.row
      refine ⟨met ++ [n], by rw [visit_row hs, e]; rfl, ?_, fun x => ?_⟩
      · refine List.nodup_append.2 ⟨hnd, by simp, fun a ha b hb => ?_⟩
        simp at hb; subst hb
        intro e2; subst e2
        rw [hm, hs] at ha; cases ha
      · rw [visit_ahead hs, List.mem_append, hm, List.mem_singleton]
        by_cases hx : x = n
        · simp [hx]
        · simp [hx]
    · intro x d hx
      rw [visit_ahead hs] at hx
      split at hx
      · rename_i e
        cases hx; subst e
        refine ⟨by rw [visit_row hs]; simp [hc], hn, ?_, ?_⟩
        · rcases hcn with e | ⟨e, e2⟩
          · exact .inl e
          · right; rw [visit_ahead hs, if_neg e]; exact e2
        · rw [visit_paths hs, if_pos rfl, hP]
          rcases hcn with e | ⟨e, e2⟩
          · exact .inl e
          · exact .inr e2
      · rename_i e
        obtain ⟨h1, h2, h3, h4⟩ := h.pred x d hx
        refine ⟨by rw [visit_row hs]; simp [h1], h2, ?_, ?_⟩
        · rcases h3 with h3 | h3
          · exact .inl h3
          · right; rw [visit_ahead hs]; split
            · rfl
            · exact h3
        · rw [visit_paths hs, if_neg e, hP d h3, h4]
    · intro x hx
      rw [visit_ahead hs] at hx
      rw [visit_paths hs]
      split
      · rename_i e
        subst e
        unfold Pof
        split
        · rename_i e2; subst e2; exact .one hn
        · rename_i e2
          rcases hcn with e3 | ⟨_, e3⟩
          · exact absurd e3 e2
          · exact .more (h.path c e3) hn
      · rename_i e
        rw [if_neg e] at hx
        exact h.path x hx
/-- What a fold of visits leaves as it was, and what it makes. -/
structure Grew (s s' : St) : Prop where
  row : ∃ t, s'.row = s.row ++ t
  ahead : ∀ x, (s.ahead x).isSome = true → s'.ahead x = s.ahead x ∧ s'.paths x = s.paths x
theorem Grew.refl (s : St) : Grew s s := ⟨⟨[], by simp⟩, fun x _ => ⟨rfl, rfl⟩⟩
theorem Grew.trans {s s' s'' : St} (h : Grew s s') (h' : Grew s' s'') : Grew s s'' := by
  obtain ⟨⟨t, e⟩, h1⟩ := h
  obtain ⟨⟨t', e'⟩, h2⟩ := h'
  refine ⟨⟨t ++ t', by rw [e', e, List.append_assoc]⟩, fun x hx => ?_⟩
  obtain ⟨a, b⟩ := h1 x hx
  obtain ⟨a', b'⟩ := h2 x (by rw [a]; exact hx)
  exact ⟨a'.trans a, b'.trans b⟩
theorem grew_visit (fr c : Int) (s : St) (n : Int) : Grew s (visit fr c s n) := by
  cases hs : (s.ahead n).isSome with
  | true => rw [visit_old hs]; exact .refl s
  | false =>
    refine ⟨⟨[n], visit_row hs⟩, fun x hx => ?_⟩
    have hne : x ≠ n := fun e => by rw [e, hs] at hx; cases hx
    rw [visit_ahead hs, visit_paths hs, if_neg hne, if_neg hne]
    exact ⟨rfl, rfl⟩
theorem visit_some (fr c : Int) (s : St) (n : Int) : ((visit fr c s n).ahead n).isSome = true := by
  cases hs : (s.ahead n).isSome with
  | true => rw [visit_old hs]; exact hs
  | false => rw [visit_ahead hs, if_pos rfl]; rfl
theorem grew_fold (fr c : Int) : ∀ (l : List Int) (s : St), Grew s (l.foldl (visit fr c) s)
  | [], s => .refl s
  | n :: l, s => (grew_visit fr c s n).trans (grew_fold fr c l _)
theorem fold_some (fr c : Int) : ∀ (l : List Int) (s : St), ∀ x ∈ l, ((l.foldl (visit fr c) s).ahead x).isSome = true
  | n :: l, s, x, hx => by
    rw [List.foldl_cons]
    rcases List.mem_cons.1 hx with rfl | hx
    · have h1 := visit_some fr c s x
      rw [((grew_fold fr c l _).ahead x h1).1]; exact h1
    · exact fold_some fr c l _ x hx
theorem Grew.mem {s s' : St} (h : Grew s s') {x : Int} (hx : x ∈ s.row) : x ∈ s'.row := by obtain ⟨t, e⟩ := h.row; rw [e]; simp [hx]
theorem Grew.get {s s' : St} (h : Grew s s') {i : Nat} {c : Int} (hx : s.row[i]? = some c) : s'.row[i]? = some c := by
  obtain ⟨t, e⟩ := h.row
  rw [e, List.getElem?_append_left (List.getElem?_eq_some_iff.1 hx).1]; exact hx
theorem Grew.len {s s' : St} (h : Grew s s') : s.row.length ≤ s'.row.length := by obtain ⟨t, e⟩ := h.row; rw [e]; simp
theorem BInv.fold : ∀ (l : List Int) (s : St), BInv F fr s → c ∈ s.row → (∀ x ∈ l, x ∈ F c) → BInv F fr (l.foldl (YtmfoffigmojdcaaGreat.visit fr c) s)
  | [], s, h, _, _ => h
  | n :: l, s, h, hc, hl => BInv.fold l _ (h.visit hc (hl n (by simp))) ((grew_visit fr c s n).mem hc) fun x hx => hl x (by simp [hx])
theorem bst_succ {i : Nat} {c : Int} (h : (bst F fr i).row[i]? = some c) : bst F fr (i + 1) = (F c).foldl (visit fr c) (bst F fr i) := by
  rw [bst, h]
theorem bst_stuck {i : Nat} (h : (bst F fr i).row[i]? = none) : bst F fr (i + 1) = bst F fr i := by rw [bst, h]
theorem grew_succ (F : Int → List Int) (fr : Int) (i : Nat) : Grew (bst F fr i) (bst F fr (i + 1)) := by
  cases h : (bst F fr i).row[i]? with
  | none => rw [bst_stuck h]; exact .refl _
  | some c => rw [bst_succ h]; exact grew_fold _ _ _ _
theorem grew_bst (F : Int → List Int) (fr : Int) (i : Nat) : ∀ k, Grew (bst F fr i) (bst F fr (i + k))
  | 0 => .refl _
  | k + 1 => (grew_bst F fr i k).trans (grew_succ F fr (i + k))
theorem grew_le (F : Int → List Int) (fr : Int) {i j : Nat} (h : i ≤ j) : Grew (bst F fr i) (bst F fr j) := by
  obtain ⟨k, rfl⟩ := Nat.exists_eq_add_of_le h; exact grew_bst F fr i k
theorem binv (F : Int → List Int) (fr : Int) : ∀ i, BInv F fr (bst F fr i)
  | 0 => BInv.start
  | i + 1 => by
    cases h : (bst F fr i).row[i]? with
    | none => rw [bst_stuck h]; exact binv F fr i
    | some c => rw [bst_succ h]; exact BInv.fold _ _ (binv F fr i) (List.mem_of_getElem? h) fun x hx => hx
theorem bst_closed (F : Int → List Int) (fr : Int) {i j : Nat} {c : Int} (hj : j < i) (hc : (bst F fr i).row[j]? = some c) : ∀ y ∈ F c, ((bst F fr i).ahead y).isSome = true := by
  intro y hy
  have hg := grew_le F fr (show j + 1 ≤ i by omega)
  have hg0 := grew_le F fr (show j ≤ i by omega)
  have h0 : (bst F fr j).row[j]? = some c := by
    cases h : (bst F fr j).row[j]? with
    | some d => have := hg0.get h; rw [hc] at this; rw [← this]
    | none =>
      exfalso
      have hst : ∀ k, bst F fr (j + k) = bst F fr j := by
        intro k
        induction k with
        | zero => rfl
        | succ k ih =>
          rw [← Nat.add_assoc, bst_stuck, ih]
          rw [ih]
          rw [List.getElem?_eq_none_iff] at h ⊢; omega
      have := hst (i - j)
      rw [show j + (i - j) = i by omega] at this
      rw [this, h] at hc; cases hc
  have h1 : ((bst F fr (j + 1)).ahead y).isSome = true := by rw [bst_succ h0]; exact fold_some _ _ _ _ y hy
  rw [(hg.ahead y h1).1]; exact h1
theorem PathTo.rp {x : Int} {p : List Int} (h : PathTo F fr x p) : Rp F fr x := by
  induction h with
  | one hx => exact Rp.one hx
  | more _ hx ih => exact ih.trans (Rt.one hx)
/-- In the end just what is reached was met. -/
theorem bst_reach {i : Nat} (hi : (bst F fr i).row.length ≤ i) (x : Int) : ((bst F fr i).ahead x).isSome = true ↔ Rp F fr x := by
  have hb := binv F fr i
  constructor
  · intro h; exact (hb.path x h).rp
  · rintro ⟨b, h1, h2⟩
    have hcl : ∀ c ∈ (bst F fr i).row, ∀ y ∈ F c, ((bst F fr i).ahead y).isSome = true := fun c hc => by
      obtain ⟨j, hj, e⟩ := List.mem_iff_getElem.1 hc
      exact bst_closed F fr (show j < i by omega) (by rw [List.getElem?_eq_getElem hj, e])
    have hb2 : b ∈ (bst F fr i).row := by
      clear h2
      induction h1 with
      | refl => exact hb.mem.2 (.inl rfl)
      | tail h3 h4 ih => exact hb.mem.2 (.inr (hcl _ ih _ h4))
    exact hcl _ hb2 _ h2
theorem bst_same {i : Nat} (hi : (bst F fr i).row.length ≤ i) : ∀ k, bst F fr (i + k) = bst F fr i
  | 0 => rfl
  | k + 1 => by
    rw [← Nat.add_assoc, bst_stuck, bst_same hi k]
    rw [bst_same hi k, List.getElem?_eq_none_iff]; omega
theorem bst_eq {i j : Nat} (hi : (bst F fr i).row.length ≤ i) (hj : (bst F fr j).row.length ≤ j) : bst F fr i = bst F fr j := by
  rcases Nat.le_total i j with h | h
  · obtain ⟨k, rfl⟩ := Nat.exists_eq_add_of_le h; exact (bst_same hi k).symm
  · obtain ⟨k, rfl⟩ := Nat.exists_eq_add_of_le h; exact bst_same hj k
/-- There are never more than there are numbers to lead to. -/
theorem bst_len {U : List Int} (hU : ∀ x y, y ∈ F x → y ∈ U) (i : Nat) : (bst F fr i).row.length ≤ U.length + 1 := by
  have hb := binv F fr i
  obtain ⟨met, e, hnd, hm⟩ := hb.row
  rw [e]
  have := nodup_len (m := U) hnd fun x hx => by
    obtain ⟨c, hc⟩ := Option.isSome_iff_exists.1 ((hm x).1 hx)
    exact hU _ _ (hb.pred x c hc).2.1
  simp; omega
end

/-- Of a walk's order: whoever reaches x is on a circle with (or is) one that is left with x, or behind it. -/
def Kos (F : Int → List Int) (L : List Int) : Prop :=
  ∀ u ∈ L, ∀ x, Rt F u x → ∃ A z B, L = A ++ z :: B ∧ Rt F u z ∧ Rt F z u ∧ (x ∈ A ∨ x = z)
theorem Kos.mem {F : Int → List Int} {L : List Int} (h : Kos F L) {u x : Int} (hu : u ∈ L) (hx : Rt F u x) : x ∈ L := by
  obtain ⟨A, z, B, e, _, _, h1⟩ := h u hu x hx
  rw [e]
  rcases h1 with h1 | h1
  · simp [h1]
  · simp [h1]
theorem kos_nil (F : Int → List Int) : Kos F [] := fun u hu => by cases hu
structure Ws where
  seen : Int → Prop
  left : List Int
  way : List (Int × List Int)
/-- What one walk makes, where those of S were seen ahead. -/
structure WOut (F : Int → List Int) (S : Int → Prop) (fr : Int) (left : List Int) : Prop where
  nodup : left.Nodup
  off : ∀ x ∈ left, ¬ S x
  has : fr ∈ left
  rt : ∀ x ∈ left, Rt F fr x
  shut : ∀ x ∈ left, ∀ y ∈ F x, S y ∨ y ∈ left
  kos : ∀ old : List Int, (∀ x, S x ↔ x ∈ old) → Kos F old → Kos F (old ++ left)
structure WInv (F : Int → List Int) (S : Int → Prop) (fr : Int) (s : Ws) : Prop where
  nodup : (s.left ++ s.way.map (·.1)).Nodup
  off : ∀ x ∈ s.left ++ s.way.map (·.1), ¬ S x
  seen : ∀ x, s.seen x ↔ S x ∨ x ∈ s.left ++ s.way.map (·.1)
  has : fr ∈ s.left ++ s.way.map (·.1)
  rt : ∀ x ∈ s.left ++ s.way.map (·.1), Rt F fr x
  chain : (s.way.map (·.1)).Pairwise fun n m => Rt F m n
  black : ∀ x ∈ s.left, ∀ y ∈ F x, s.seen y
  gray : ∀ p ∈ s.way, (∀ y ∈ F p.1, s.seen y ∨ y ∈ p.2) ∧ ∀ y ∈ p.2, y ∈ F p.1
  kos : ∀ old : List Int, (∀ x, S x ↔ x ∈ old) → Kos F old → ∀ u ∈ old ++ s.left, (∃ y ∈ s.way.map (·.1), Rt F u y ∧ Rt F y u) ∨
    ∀ x, Rt F u x → ∃ A z B, old ++ s.left = A ++ z :: B ∧ Rt F u z ∧ Rt F z u ∧ (x ∈ A ∨ x = z)
section
variable {F : Int → List Int} {S : Int → Prop} {fr : Int} {s : Ws}
theorem kos_more {L M : List Int} {u : Int} (h : ∀ x, Rt F u x → ∃ A z B, L = A ++ z :: B ∧ Rt F u z ∧ Rt F z u ∧ (x ∈ A ∨ x = z)) :
    ∀ x, Rt F u x → ∃ A z B, L ++ M = A ++ z :: B ∧ Rt F u z ∧ Rt F z u ∧ (x ∈ A ∨ x = z) := fun x hx => by
  obtain ⟨A, z, B, e, h1⟩ := h x hx
  exact ⟨A, z, B ++ M, by rw [e]; simp, h1⟩
theorem WInv.start (hS : ¬ S fr) : WInv F S fr ⟨fun x => S x ∨ x = fr, [], [(fr, F fr)]⟩ where
  nodup := by simp
  off := by simpa using hS
  seen := by intro x; simp
  has := by simp
  rt := by simp; exact .refl
  chain := by simp
  black := by simp
  gray := by
    intro p hp
    simp at hp; subst hp
    exact ⟨fun y hy => .inr hy, fun y hy => hy⟩
  kos := fun old ho hk u hu => by
    simp at hu
    right
    simpa using hk u hu
theorem WInv.done (h : WInv F S fr s) (hw : s.way = []) : WOut F S fr s.left where
  nodup := by have := h.nodup; rw [hw] at this; simpa using this
  off := by have := h.off; rw [hw] at this; simpa using this
  has := by have := h.has; rw [hw] at this; simpa using this
  rt := by have := h.rt; rw [hw] at this; simpa using this
  shut := fun x hx y hy => by
    have := (h.seen y).1 (h.black x hx y hy)
    rw [hw] at this; simpa using this
  kos := fun old ho hk u hu => by
    rcases h.kos old ho hk u hu with ⟨y, hy, _⟩ | h1
    · rw [hw] at hy; cases hy
    · exact h1
theorem mem_mid {a : Int} {A B : List Int} {t x : Int} : x ∈ A ++ t :: B ↔ x = t ∨ x ∈ A ++ B := by
  simp only [List.mem_append, List.mem_cons]
  constructor
  · rintro (h | h | h)
    · exact .inr (.inl h)
    · exact .inl h
    · exact .inr (.inr h)
  · rintro (h | h | h)
    · exact .inr (.inl h)
    · exact .inl h
    · exact .inr (.inr h)
/-- One that was not seen yet is seen. -/
theorem WInv.push {n t : Int} {rest a r : List Int} {W : List (Int × List Int)} (h : WInv F S fr s) (hw : s.way = (n, rest) :: W) (hr : rest = a ++ t :: r) (ha : ∀ y ∈ a, s.seen y) (ht : ¬ s.seen t) :
    WInv F S fr ⟨fun x => s.seen x ∨ x = t, s.left, (t, F t) :: (n, r) :: W⟩ := by
  obtain ⟨g1, g2⟩ := h.gray (n, rest) (by rw [hw]; simp)
  have htn : t ∈ F n := g2 t (by rw [hr]; simp)
  have hm : s.way.map (·.1) = n :: W.map (·.1) := by rw [hw]; rfl
  have hnew : ∀ x, x ∈ s.left ++ t :: n :: W.map (·.1) ↔ x = t ∨ x ∈ s.left ++ s.way.map (·.1) := fun x => by rw [hm]; exact mem_mid (a := 0)
  have hts : ¬ S t ∧ t ∉ s.left ++ s.way.map (·.1) := by
    constructor
    · intro e; exact ht ((h.seen t).2 (.inl e))
    · intro e; exact ht ((h.seen t).2 (.inr e))
  refine ⟨?_, ?_, ?_, ?_, ?_, ?_, ?_, ?_, ?_⟩
  · show (s.left ++ t :: n :: W.map (·.1)).Nodup
    have h0 := h.nodup
    rw [hm] at h0
    have h2 := hts.2
    rw [hm] at h2
    obtain ⟨n1, n2, n3⟩ := List.nodup_append.1 h0
    refine List.nodup_append.2 ⟨n1, List.nodup_cons.2 ⟨fun e => h2 (by simp only [List.mem_append]; exact .inr e), n2⟩, fun x hx y hy e => ?_⟩
    rcases List.mem_cons.1 hy with e2 | hy
    · exact h2 (by rw [← e2, ← e]; simp [hx])
    · exact n3 x hx y hy e
  · intro x hx
    rcases (hnew x).1 hx with rfl | hx
    · exact hts.1
    · exact h.off x hx
  · intro x
    show (s.seen x ∨ x = t) ↔ S x ∨ x ∈ s.left ++ t :: n :: W.map (·.1)
    rw [hnew, h.seen]
    constructor
    · rintro ((h1 | h1) | h1)
      · exact .inl h1
      · exact .inr (.inr h1)
      · exact .inr (.inl h1)
    · rintro (h1 | h1 | h1)
      · exact .inl (.inl h1)
      · exact .inr h1
      · exact .inl (.inr h1)
  · exact (hnew fr).2 (.inr h.has)
  · intro x hx
    rcases (hnew x).1 hx with rfl | hx
    · exact (h.rt n (by rw [hm]; simp)).tail htn
    · exact h.rt x hx
  · show (t :: n :: W.map (·.1)).Pairwise _
    have hc := h.chain
    rw [hm] at hc
    refine List.pairwise_cons.2 ⟨fun m hmm => ?_, hc⟩
    rcases List.mem_cons.1 hmm with rfl | hmm
    · exact Rt.one htn
    · exact ((List.pairwise_cons.1 hc).1 m hmm).tail htn
  · intro x hx y hy; exact .inl (h.black x hx y hy)
  · intro p hp
    rcases List.mem_cons.1 hp with rfl | hp
    · exact ⟨fun y hy => .inr hy, fun y hy => hy⟩
    · rcases List.mem_cons.1 hp with rfl | hp
      · refine ⟨fun y hy => ?_, fun y hy => g2 y (by rw [hr]; simp [hy])⟩
        rcases g1 y hy with h1 | h1
        · exact .inl (.inl h1)
        · rw [hr] at h1
          rcases List.mem_append.1 h1 with h1 | h1
          · exact .inl (.inl (ha y h1))
          · rcases List.mem_cons.1 h1 with h1 | h1
            · exact .inl (.inr h1)
            · exact .inr h1
      · obtain ⟨q1, q2⟩ := h.gray p (by rw [hw]; simp [hp])
        exact ⟨fun y hy => (q1 y hy).imp .inl id, q2⟩
  · intro old ho hk u hu
    rcases h.kos old ho hk u hu with ⟨y, hy, h1⟩ | h1
    · left
      refine ⟨y, ?_, h1⟩
      show y ∈ t :: n :: W.map (·.1)
      rw [hm] at hy
      exact List.mem_cons_of_mem _ hy
    · exact .inr h1
/-- All that can be seen from there were seen: it is left. -/
theorem WInv.pop {n : Int} {rest : List Int} {W : List (Int × List Int)} (h : WInv F S fr s) (hw : s.way = (n, rest) :: W) (ha : ∀ y ∈ rest, s.seen y) :
    WInv F S fr ⟨s.seen, s.left ++ [n], W⟩ := by
  obtain ⟨g1, g2⟩ := h.gray (n, rest) (by rw [hw]; simp)
  have hm : s.way.map (·.1) = n :: W.map (·.1) := by rw [hw]; rfl
  have hall : s.left ++ [n] ++ W.map (·.1) = s.left ++ s.way.map (·.1) := by rw [hm]; simp
  have hsn : ∀ y ∈ F n, s.seen y := fun y hy => (g1 y hy).elim id (ha y)
  have hc := h.chain
  rw [hm] at hc
  obtain ⟨c1, c2⟩ := List.pairwise_cons.1 hc
  refine ⟨?_, ?_, ?_, ?_, ?_, c2, ?_, fun p hp => h.gray p (by rw [hw]; simp [hp]), ?_⟩
  · show (s.left ++ [n] ++ W.map (·.1)).Nodup; rw [hall]; exact h.nodup
  · show ∀ x ∈ s.left ++ [n] ++ W.map (·.1), _; rw [hall]; exact h.off
  · show ∀ x, s.seen x ↔ S x ∨ x ∈ s.left ++ [n] ++ W.map (·.1); rw [hall]; exact h.seen
  · show fr ∈ s.left ++ [n] ++ W.map (·.1); rw [hall]; exact h.has
  · show ∀ x ∈ s.left ++ [n] ++ W.map (·.1), _; rw [hall]; exact h.rt
  · intro x hx y hy
    rcases List.mem_append.1 hx with hx | hx
    · exact h.black x hx y hy
    · simp at hx; subst hx; exact hsn y hy
  · intro old ho hk
    show ∀ u ∈ old ++ (s.left ++ [n]), (∃ y ∈ W.map (·.1), Rt F u y ∧ Rt F y u) ∨ ∀ x, Rt F u x → ∃ A z B, old ++ (s.left ++ [n]) = A ++ z :: B ∧ Rt F u z ∧ Rt F z u ∧ (x ∈ A ∨ x = z)
    rw [← List.append_assoc]
    have hK := h.kos old ho hk
    rw [hm] at hK
    -- n itself
    have hn : (∃ y ∈ W.map (·.1), Rt F n y ∧ Rt F y n) ∨ ∀ x, Rt F n x → x ∈ old ++ s.left ++ [n] := by
      by_cases hg : ∃ y ∈ W.map (·.1), Rt F n y ∧ Rt F y n
      · exact .inl hg
      · right
        intro x hx
        have hseen : ∀ q, Rt F n q → s.seen q → q ∈ old ++ s.left ++ [n] := by
          intro q hq hs
          rcases (h.seen q).1 hs with h1 | h1
          · have := (ho q).1 h1; simp [this]
          · rw [hm] at h1
            rcases List.mem_append.1 h1 with h1 | h1
            · simp [h1]
            · rcases List.mem_cons.1 h1 with h1 | h1
              · simp [h1]
              · exact absurd ⟨q, h1, hq, c1 q h1⟩ hg
        induction hx with
        | refl => simp
        | tail h1 h2 ih =>
          rename_i b c
          rcases List.mem_append.1 ih with hb | hb
          · rcases hK b hb with ⟨y, hy, h3, h4⟩ | h3
            · rcases List.mem_cons.1 hy with e | hy
              · subst e
                -- b leads to n, and n to b: what follows b was seen
                have hs : s.seen c := by
                  rcases List.mem_append.1 hb with hb | hb
                  · exact (h.seen c).2 (.inl ((ho c).2 (hk.mem hb (Rt.one h2))))
                  · exact h.black b hb c h2
                exact hseen c (h1.tail h2) hs
              · exact absurd ⟨y, hy, h1.trans h3, c1 y hy⟩ hg
            · obtain ⟨A, z, B, e, _, _, h5⟩ := h3 c (Rt.one h2)
              rw [e]
              rcases h5 with h5 | h5 <;> simp [h5]
          · simp at hb; subst hb
            exact hseen c (h1.tail h2) (hsn c h2)
    intro u hu
    have hend : Rt F n u → (∀ x, Rt F n x → x ∈ old ++ s.left ++ [n]) → Rt F u n → ∀ x, Rt F u x → ∃ A z B, old ++ s.left ++ [n] = A ++ z :: B ∧ Rt F u z ∧ Rt F z u ∧ (x ∈ A ∨ x = z) := by
      intro h1 h2 h3 x hx
      refine ⟨old ++ s.left, n, [], rfl, h3, h1, ?_⟩
      have := h2 x (h1.trans hx)
      rcases List.mem_append.1 this with h4 | h4
      · exact .inl h4
      · simp at h4; exact .inr h4
    rcases List.mem_append.1 hu with hu | hu
    · rcases hK u hu with ⟨y, hy, h3, h4⟩ | h3
      · rcases List.mem_cons.1 hy with e | hy
        · subst e
          rcases hn with ⟨y', hy', h5, h6⟩ | h5
          · exact .inl ⟨y', hy', h3.trans h5, h6.trans h4⟩
          · exact .inr (hend h4 h5 h3)
        · exact .inl ⟨y, hy, h3, h4⟩
      · exact .inr (kos_more h3)
    · simp at hu; subst hu
      rcases hn with h5 | h5
      · exact .inl h5
      · exact .inr (hend .refl h5 .refl)
end

/-! ### the second pass -/
/-- On one circle, or the same. -/
def Tog (F : Int → List Int) (u n : Int) : Prop := Rt F u n ∧ Rt F n u
theorem Tog.symm {F : Int → List Int} {u n : Int} (h : Tog F u n) : Tog F n u := ⟨h.2, h.1⟩
theorem Tog.trans {F : Int → List Int} {u n m : Int} (h : Tog F u n) (h' : Tog F n m) : Tog F u m := ⟨h.1.trans h'.1, h'.2.trans h.2⟩
theorem Tog.refl (F : Int → List Int) (n : Int) : Tog F n n := ⟨.refl, .refl⟩
section
variable {F B : Int → List Int} {L A P : List Int} {n : Int} {T : Int → Prop} {lot : List Int}
theorem split_behind {A B A1 B1 : List Int} {n z : Int} (hd : (A ++ n :: B).Nodup) (h1 : A ++ n :: B = A1 ++ z :: B1) (hn : n ∈ A1) : z ∈ B := by
  induction A generalizing A1 with
  | nil =>
    cases A1 with
    | nil => cases hn
    | cons a A1 =>
      simp only [List.nil_append, List.cons_append, List.cons.injEq] at h1
      rw [h1.2]; simp
  | cons a A ih =>
    cases A1 with
    | nil => cases hn
    | cons b A1 =>
      simp only [List.cons_append, List.cons.injEq] at h1
      obtain ⟨e, h1⟩ := h1
      obtain ⟨d1, d2⟩ := List.nodup_cons.1 hd
      refine ih (A1 := A1) d2 h1 ?_
      rcases List.mem_cons.1 hn with e2 | hn
      · exfalso; apply d1; rw [e, ← e2]; simp
      · exact hn
/-- The numbers of one lot are those that are on a circle with the last one, and itself. -/
theorem lot_tog (hB : ∀ x y, y ∈ B x ↔ x ∈ F y) (hk : Kos F L) (hd : L.Nodup) (hall : ∀ x y, y ∈ F x → x ∈ L) (hL : L = A ++ n :: P) (hT : ∀ u, T u ↔ ∃ x ∈ P, Tog F u x) (hn : ¬ T n) (ho : WOut B T n lot) :
    ∀ u, u ∈ lot ↔ Tog F u n := by
  intro u
  have bk : ∀ {a b}, Rt B a b → Rt F b a := fun h => h.back fun x y hy => (hB x y).1 hy
  have kb : ∀ {a b}, Rt F a b → Rt B b a := fun h => h.back fun x y hy => (hB y x).2 hy
  constructor
  · intro hu
    have h1 : Rt F u n := bk (ho.rt u hu)
    have huL : u ∈ L := by
      have h0 := ho.rt u hu
      cases h0 with
      | refl => rw [hL]; simp
      | tail h2 h3 => exact hall u _ ((hB _ _).1 h3)
    obtain ⟨A1, z, B1, e, h2, h3, h4⟩ := hk u huL n h1
    rcases h4 with h4 | h4
    · have hz := split_behind (hL ▸ hd) (hL.symm.trans e) h4
      exact absurd ((hT u).2 ⟨z, hz, h2, h3⟩) (ho.off u hu)
    · subst h4; exact ⟨h2, h3⟩
  · rintro ⟨h1, h2⟩
    have key : ∀ v, Rt B n v → Rt F n v → v ∈ lot := by
      intro v hv
      induction hv with
      | refl => intro _; exact ho.has
      | tail h3 h4 ih =>
        rename_i b c
        intro h5
        have hcb : b ∈ F c := (hB _ _).1 h4
        have hb := ih (h5.tail hcb)
        rcases ho.shut b hb c h4 with h6 | h6
        · obtain ⟨x, hx, h7⟩ := (hT c).1 h6
          have : Tog F n c := ⟨h5, Rt.head hcb (bk h3)⟩
          exact absurd ((hT n).2 ⟨x, hx, this.trans h7⟩) hn
        · exact h6
    exact key u (kb h1) h2
theorem told_lot (hT : ∀ u, T u ↔ ∃ x ∈ P, Tog F u x) (hl : ∀ u, u ∈ lot ↔ Tog F u n) : ∀ u, (T u ∨ u ∈ lot) ↔ ∃ x ∈ n :: P, Tog F u x := by
  intro u
  rw [hT, hl]
  constructor
  · rintro (⟨x, hx, h⟩ | h)
    · exact ⟨x, by simp [hx], h⟩
    · exact ⟨n, by simp, h⟩
  · rintro ⟨x, hx, h⟩
    rcases List.mem_cons.1 hx with rfl | hx
    · exact .inr h
    · exact .inl ⟨x, hx, h⟩
theorem told_none (hT : ∀ u, T u ↔ ∃ x ∈ P, Tog F u x) (hn : T n) : ∀ u, T u ↔ ∃ x ∈ n :: P, Tog F u x := by
  intro u
  constructor
  · intro h; obtain ⟨x, hx, h1⟩ := (hT u).1 h; exact ⟨x, by simp [hx], h1⟩
  · rintro ⟨x, hx, h⟩
    rcases List.mem_cons.1 hx with rfl | hx
    · obtain ⟨y, hy, h1⟩ := (hT x).1 hn; exact (hT u).2 ⟨y, hy, h.trans h1⟩
    · exact (hT u).2 ⟨x, hx, h⟩
/-- Just where there are two, or one leads to itself, all of a lot are on a circle. -/
theorem lot_circle (hl : ∀ u, u ∈ lot ↔ Tog F u n) (hd : lot.Nodup) (hc : 1 < lot.length ∨ n ∈ F n) : ∀ u ∈ lot, Rp F u u := by
  have hn : n ∈ lot := (hl n).2 (Tog.refl F n)
  have hnn : Rp F n n := by
    rcases hc with hc | hc
    · have : ∃ v ∈ lot, v ≠ n := by
        apply Classical.byContradiction
        intro hno
        have : lot.length ≤ [n].length := nodup_len hd fun x hx => by
          have : x = n := Classical.byContradiction fun e => hno ⟨x, hx, e⟩
          simp [this]
        simp at this; omega
      obtain ⟨v, hv, hne⟩ := this
      have hvn := (hl v).1 hv
      exact (Rp.of hvn.2 (Ne.symm hne)).trans hvn.1
    · exact Rp.one hc
  intro u hu
  have h := (hl u).1 hu
  exact (Rp.left h.1 hnn).trans h.2
theorem lot_none (hl : ∀ u, u ∈ lot ↔ Tog F u n) (hd : lot.Nodup) (h1 : ¬ 1 < lot.length) (hc : n ∉ F n) : ∀ u, Tog F u n → ¬ Rp F u u := by
  intro u hu hp
  have hn : n ∈ lot := (hl n).2 (Tog.refl F n)
  have one : ∀ v ∈ lot, v = n := by
    intro v hv
    apply Classical.byContradiction
    intro hne
    have : [v, n].length ≤ lot.length := nodup_len (by simp [hne]) fun x hx => by
      simp at hx; rcases hx with rfl | rfl
      · exact hv
      · exact hn
    simp at this; omega
  have hun : u = n := one u ((hl u).2 hu)
  subst hun
  obtain ⟨b, h2, h3⟩ := hp.head
  have : b = u := one b ((hl b).2 ⟨h3, Rt.one h2⟩)
  subst this
  exact hc h2
end

/-! ### a heap -/
def gd (H : List Int) (i : Nat) : Int := H.getD i 0
def swp (H : List Int) (i j : Nat) : List Int := (H.set i (gd H j)).set j (gd H i)
theorem swp_length (H : List Int) (i j : Nat) : (swp H i j).length = H.length := by simp [swp]
theorem gd_get {H : List Int} {i : Nat} (h : i < H.length) : gd H i = H[i] := by simp [gd, List.getD, h]
theorem gd_swp {H : List Int} {i j : Nat} (hi : i < H.length) (hj : j < H.length) (k : Nat) : gd (swp H i j) k = if k = j then gd H i else if k = i then gd H j else gd H k := by
  unfold gd swp
  simp only [List.getD_eq_getElem?_getD, List.getElem?_set, List.length_set]
  by_cases h1 : k = j
  · subst h1; simp [hj, gd, List.getD]
  · rw [if_neg (Ne.symm h1), if_neg h1]
    by_cases h2 : k = i
    · subst h2; simp [hi, gd, List.getD]
    · rw [if_neg (Ne.symm h2), if_neg h2]
theorem swp_perm {H : List Int} {i j : Nat} (hi : i < H.length) (hj : j < H.length) : (swp H i j).Perm H := by
  have h1 := Array.swap_perm (xs := H.toArray) (i := i) (j := j) (by simpa using hi) (by simpa using hj)
  have h2 : (H.toArray.swap i j (by simpa using hi) (by simpa using hj)).toList = swp H i j := by
    rw [Array.toList_swap]
    simp [swp, gd_get hi, gd_get hj]
  have h3 := Array.perm_iff_toList_perm.1 h1
  rw [h2] at h3
  exact h3
/-- The first m numbers are a heap. -/
def HP (H : List Int) (m : Nat) : Prop := ∀ i, 0 < i → i < m → gd H ((i - 1) / 2) ≤ gd H i
structure UpI (H : List Int) (j : Nat) : Prop where
  lt : j < H.length
  rest : ∀ i, 0 < i → i < H.length → i ≠ j → gd H ((i - 1) / 2) ≤ gd H i
  kids : 0 < j → ∀ i, 0 < i → i < H.length → (i - 1) / 2 = j → gd H ((j - 1) / 2) ≤ gd H i
structure DnI (H : List Int) (i m : Nat) : Prop where
  le : m ≤ H.length
  rest : ∀ k, 0 < k → k < m → (k - 1) / 2 ≠ i → gd H ((k - 1) / 2) ≤ gd H k
  kids : 0 < i → ∀ k, 0 < k → k < m → (k - 1) / 2 = i → gd H ((i - 1) / 2) ≤ gd H k
theorem UpI.done {H : List Int} {j : Nat} (h : UpI H j) (hd : j = 0 ∨ ¬ gd H j < gd H ((j - 1) / 2)) : HP H H.length := fun i h0 hi => by
  by_cases e : i = j
  · subst e
    rcases hd with hd | hd <;> omega
  · exact h.rest i h0 hi e
theorem UpI.step {H : List Int} {j : Nat} (h : UpI H j) (h0 : 0 < j) (hlt : gd H j < gd H ((j - 1) / 2)) : UpI (swp H ((j - 1) / 2) j) ((j - 1) / 2) := by
  have hj := h.lt
  have hp : (j - 1) / 2 < j := by omega
  have g := gd_swp (H := H) (i := (j - 1) / 2) (j := j) (by omega) hj
  refine ⟨by rw [swp_length]; omega, fun i i0 hi hne => ?_, fun p0 i i0 hi hk => ?_⟩
  · rw [swp_length] at hi
    rw [g, g]
    by_cases e1 : i = j
    · subst e1
      rw [if_neg (by omega), if_pos rfl, if_pos rfl]; omega
    · rw [if_neg e1, if_neg hne]
      by_cases e2 : (i - 1) / 2 = j
      · rw [if_pos e2]
        exact h.kids h0 i i0 hi e2
      · rw [if_neg e2]
        have := h.rest i i0 hi e1
        by_cases e3 : (i - 1) / 2 = (j - 1) / 2
        · rw [if_pos e3]
          rw [e3] at this; omega
        · rw [if_neg e3]; exact this
  · rw [swp_length] at hi
    rw [g, g]
    have hpp := h.rest ((j - 1) / 2) p0 (by omega) (by omega)
    rw [if_neg (by omega), if_neg (by omega)]
    by_cases e1 : i = j
    · subst e1; rw [if_pos rfl]; exact hpp
    · rw [if_neg e1, if_neg (by omega)]
      have := h.rest i i0 hi e1
      rw [hk] at this; omega
theorem UpI.push {H : List Int} (h : HP H H.length) (x : Int) : UpI (H ++ [x]) H.length := by
  have g : ∀ k, k < H.length → gd (H ++ [x]) k = gd H k := fun k hk => by simp [gd, List.getD, List.getElem?_append_left hk]
  refine ⟨by simp, fun i i0 hi hne => ?_, fun p0 i i0 hi hk => ?_⟩
  · simp at hi
    rw [g _ (by omega), g _ (by omega)]
    exact h i i0 (by omega)
  · simp at hi; omega
theorem DnI.done {H : List Int} {i m : Nat} (h : DnI H i m) (hd : ∀ k, 0 < k → k < m → (k - 1) / 2 = i → gd H i ≤ gd H k) : HP H m := fun k k0 hk => by
  by_cases e : (k - 1) / 2 = i
  · rw [e]; exact hd k k0 hk e
  · exact h.rest k k0 hk e
theorem DnI.step {H : List Int} {i j m : Nat} (h : DnI H i m) (hj : j < m) (j0 : 0 < j) (hp : (j - 1) / 2 = i) (hmin : ∀ k, 0 < k → k < m → (k - 1) / 2 = i → gd H j ≤ gd H k) (hlt : gd H j < gd H i) : DnI (swp H i j) j m := by
  have hl := h.le
  have hij : i < j := by omega
  have g := gd_swp (H := H) (i := i) (j := j) (by omega) (by omega)
  refine ⟨by rw [swp_length]; exact hl, fun k k0 hk hne => ?_, fun _ k k0 hk hkj => ?_⟩
  · rw [g, g]
    by_cases e1 : k = j
    · subst e1
      rw [if_neg (by omega), if_pos hp, if_pos rfl]; omega
    · rw [if_neg e1, if_neg hne]
      by_cases e2 : k = i
      · subst e2
        rw [if_neg (by omega), if_pos rfl]
        exact h.kids k0 j j0 hj hp
      · rw [if_neg e2]
        by_cases e3 : (k - 1) / 2 = i
        · rw [if_pos e3]; exact hmin k k0 hk e3
        · rw [if_neg e3]; exact h.rest k k0 hk e3
  · rw [g, g, if_neg (by omega), if_pos hp, if_neg (by omega), if_neg (by omega)]
    have := h.rest k k0 hk (by omega)
    rw [hkj] at this; exact this
theorem HP.min {H : List Int} {m : Nat} (h : HP H m) : ∀ k, k < m → gd H 0 ≤ gd H k := by
  intro k
  induction k using Nat.strongRecOn with
  | _ k ih =>
    intro hk
    by_cases k0 : 0 < k
    · have h1 := ih ((k - 1) / 2) (by omega) (by omega)
      have h2 := h k k0 hk
      omega
    · have : k = 0 := by omega
      subst this; exact Int.le_refl _
theorem DnI.pop {H : List Int} (h : HP H H.length) (h0 : 0 < H.length) : DnI (swp H 0 (H.length - 1)) 0 (H.length - 1) := by
  have g := gd_swp (H := H) (i := 0) (j := H.length - 1) h0 (by omega)
  refine ⟨by rw [swp_length]; omega, fun k k0 hk hne => ?_, fun hf => absurd hf (by omega)⟩
  rw [g, g, if_neg (by omega), if_neg (by omega), if_neg (by omega), if_neg (by omega)]
  exact h k k0 (by omega)

/-! ### the order -/
abbrev Egs := List (Int × Int)
/-- How many edges go to a number from those that aren't there. -/
def dg (E : Egs) (out : List Int) (x : Int) : Nat := (E.filter fun e => decide (e.2 = x) && decide (e.1 ∉ out)).length
theorem dg_zero {E : Egs} {out : List Int} {x : Int} : dg E out x = 0 ↔ ∀ a, (a, x) ∈ E → a ∈ out := by
  unfold dg
  rw [List.length_eq_zero_iff, List.filter_eq_nil_iff]
  constructor
  · intro h a ha
    have := h _ ha
    simpa using this
  · intro h e he
    simp only [Bool.and_eq_true, decide_eq_true_eq, not_and, Classical.not_not]
    intro h2
    exact h e.1 (by rw [← h2]; exact he)
def isFree (E : Egs) (out : List Int) (x : Int) : Bool := decide (x ∉ out) && decide (dg E out x = 0)
def pick (E : Egs) (N out : List Int) : Option Int := N.find? (isFree E out)
def ordN (E : Egs) (N : List Int) : Nat → List Int
  | 0 => []
  | k + 1 => match pick E N (ordN E N k) with
    | some x => ordN E N k ++ [x]
    | none => ordN E N k
section
variable {E : Egs} {N out : List Int} {x : Int}
theorem free_iff : isFree E out x = true ↔ x ∉ out ∧ ∀ a, (a, x) ∈ E → a ∈ out := by simp [isFree, dg_zero]
theorem pick_some (hN : Ris N) (h : pick E N out = some x) : x ∈ N ∧ isFree E out x = true ∧ ∀ y ∈ N, isFree E out y = true → x ≤ y := by
  unfold pick at h
  obtain ⟨h1, A, B, e, h2⟩ := List.find?_eq_some_iff_append.1 h
  refine ⟨by rw [e]; simp, h1, fun y hy hf => ?_⟩
  rw [e] at hy hN
  rcases List.mem_append.1 hy with hy | hy
  · have := h2 y hy; simp [hf] at this
  · rcases List.mem_cons.1 hy with rfl | hy
    · exact Int.le_refl _
    · have h3 := (List.pairwise_append.1 hN).2.1
      have := (List.pairwise_cons.1 h3).1 y hy
      omega
theorem pickO_none (h : pick E N out = none) : ∀ y ∈ N, isFree E out y = false := by
  unfold pick at h
  intro y hy
  have := List.find?_eq_none.1 h y hy
  simpa using this
/-- The least of those that are free is the one that is picked. -/
theorem pick_of (hN : Ris N) (hx : x ∈ N) (hf : isFree E out x = true) (hm : ∀ y ∈ N, isFree E out y = true → x ≤ y) : pick E N out = some x := by
  cases h : pick E N out with
  | none => have := pickO_none h x hx; rw [hf] at this; cases this
  | some y =>
    obtain ⟨h1, h2, h3⟩ := pick_some hN h
    have := hm y h1 h2
    have := h3 x hx hf
    rw [show x = y by omega]
/-- Whoever is there has all from whom an edge goes to it ahead of it. -/
structure Ord (E : Egs) (N out : List Int) : Prop where
  nodup : out.Nodup
  sub : ∀ x ∈ out, x ∈ N
  ahead : ∀ A x B, out = A ++ x :: B → ∀ a, (a, x) ∈ E → a ∈ A
theorem ord_nil (E : Egs) (N : List Int) : Ord E N [] := ⟨List.nodup_nil, fun x h => (by cases h), fun A x B e => (by simp at e)⟩
theorem Ord.snoc (h : Ord E N out) (hx : x ∈ N) (hf : isFree E out x = true) : Ord E N (out ++ [x]) := by
  obtain ⟨f1, f2⟩ := free_iff.1 hf
  refine ⟨List.nodup_append.2 ⟨h.nodup, by simp, fun a ha b hb e => ?_⟩, fun y hy => ?_, fun A y B e a ha => ?_⟩
  · simp at hb; subst hb; subst e; exact f1 ha
  · rcases List.mem_append.1 hy with hy | hy
    · exact h.sub y hy
    · simp at hy; subst hy; exact hx
  · rcases List.eq_nil_or_concat B with rfl | ⟨B', z, rfl⟩
    · have e2 := List.append_inj' e (by simp)
      obtain ⟨rfl, e3⟩ := e2
      simp at e3; subst e3
      exact f2 a ha
    · have e4 : out ++ [x] = (A ++ y :: B') ++ [z] := by rw [e]; simp
      have e2 := List.append_inj' e4 (by simp)
      exact h.ahead A y B' e2.1 a ha
theorem ord_ordN (hN : Ris N) : ∀ k, Ord E N (ordN E N k)
  | 0 => ord_nil E N
  | k + 1 => by
    unfold ordN
    cases h : pick E N (ordN E N k) with
    | none => exact ord_ordN hN k
    | some x =>
      obtain ⟨h1, h2, _⟩ := pick_some hN h
      exact (ord_ordN hN k).snoc h1 h2
theorem ordN_succ {k : Nat} (h : pick E N (ordN E N k) = some x) : ordN E N (k + 1) = ordN E N k ++ [x] := by rw [ordN, h]
theorem ordN_stuck {k : Nat} (h : pick E N (ordN E N k) = none) : ∀ j, ordN E N (k + j) = ordN E N k
  | 0 => rfl
  | j + 1 => by rw [← Nat.add_assoc, ordN, ordN_stuck h j, h]
theorem ordN_len (hN : Ris N) (k : Nat) : (ordN E N k).length ≤ N.length := nodup_len (ord_ordN hN k).nodup (ord_ordN hN k).sub
/-- All, in order, or as many as come. -/
def ordF (E : Egs) (N : List Int) : List Int := ordN E N N.length
theorem ordF_eq (hN : Ris N) {k : Nat} (hk : (ordN E N k).length = k) (h : pick E N (ordN E N k) = none) : ordF E N = ordN E N k := by
  have := ordN_len (E := E) hN k
  unfold ordF
  obtain ⟨j, hj⟩ := Nat.exists_eq_add_of_le (show k ≤ N.length by omega)
  rw [hj, ordN_stuck h j]
theorem ordF_full (hN : Ris N) {k : Nat} (hk : (ordN E N k).length = k) (h : k = N.length) : ordF E N = ordN E N k := by unfold ordF; rw [h]
theorem Ord.before (h : Ord E N out) {a b : Int} (hab : (a, b) ∈ E) {i : Nat} (hi : out[i]? = some b) : ∃ j, j < i ∧ out[j]? = some a := by
  obtain ⟨hlt, e⟩ := List.getElem?_eq_some_iff.1 hi
  have h1 : out = out.take i ++ b :: out.drop (i + 1) := by
    rw [← e, List.getElem_cons_drop, List.take_append_drop]
  have h2 := h.ahead _ _ _ h1 a hab
  obtain ⟨j, hj, e2⟩ := List.mem_iff_getElem.1 h2
  have hj3 : j < min i out.length := by simpa using hj
  refine ⟨j, by omega, ?_⟩
  rw [List.getElem?_eq_getElem (by omega)]
  rw [List.getElem_take] at e2
  rw [e2]
end
/-- If each of some has another one of them ahead, one of them is reached from itself. -/
theorem circle_of {E : Egs} {F : Int → List Int} (hF : ∀ a b, b ∈ F a ↔ (a, b) ∈ E) : ∀ (n : Nat) (M : List Int), M.length ≤ n → M ≠ [] → (∀ x ∈ M, ∃ a ∈ M, (a, x) ∈ E) → ∃ x, Rp F x x
  | 0, M, hn, hne, _ => absurd (List.eq_nil_of_length_eq_zero (by omega)) hne
  | n + 1, M, hn, hne, h => by
    obtain ⟨x, hx⟩ := List.exists_mem_of_ne_nil M hne
    by_cases hc : Rp F x x
    · exact ⟨x, hc⟩
    · classical
      have hdec : ∀ y, Decidable (Rp F y x) := fun y => Classical.propDecidable _
      let M' := M.filter fun y => decide (Rp F y x)
      have hm : ∀ y, y ∈ M' ↔ y ∈ M ∧ Rp F y x := fun y => by simp [M']
      refine circle_of hF n M' ?_ ?_ fun y hy => ?_
      · have : M'.length < M.length := by
          refine List.length_filter_lt_length_iff_exists.2 ⟨x, hx, by simpa using hc⟩
        omega
      · obtain ⟨a, ha, he⟩ := h x hx
        have : a ∈ M' := (hm a).2 ⟨ha, Rp.one ((hF _ _).2 he)⟩
        exact List.ne_nil_of_mem this
      · obtain ⟨h1, h2⟩ := (hm y).1 hy
        obtain ⟨a, ha, he⟩ := h y h1
        exact ⟨a, (hm a).2 ⟨ha, Rp.left (Rt.one ((hF _ _).2 he)) h2⟩, he⟩
/-- All come just if none is reached from itself. -/
theorem ord_full_iff {E : Egs} {F : Int → List Int} {N : List Int} (hF : ∀ a b, b ∈ F a ↔ (a, b) ∈ E) (hN : Ris N) (hE : ∀ a b, (a, b) ∈ E → a ∈ N ∧ b ∈ N) {out : List Int} (ho : Ord E N out) (hp : out.length = N.length ∨ pick E N out = none) :
    out.length = N.length ↔ ∀ x, ¬ Rp F x x := by
  constructor
  · intro hl x hx
    have hall : ∀ y ∈ N, y ∈ out := by
      intro y hy
      apply Classical.byContradiction
      intro hno
      have : (y :: out).length ≤ N.length := nodup_len (List.nodup_cons.2 ⟨hno, ho.nodup⟩) fun z hz => by
        rcases List.mem_cons.1 hz with rfl | hz
        · exact hy
        · exact ho.sub z hz
      simp at this; omega
    have key : ∀ y, Rt F x y → ∀ i j : Nat, out[i]? = some x → out[j]? = some y → i ≤ j := by
      intro y hy
      induction hy with
      | refl => intro i j hi hj; exact Nat.le_of_eq ((List.getElem?_inj (by exact (List.getElem?_eq_some_iff.1 hi).1) ho.nodup).1 (by rw [hi, hj]))
      | tail h1 h2 ih =>
        intro i j hi hj
        obtain ⟨k, hk, hkb⟩ := ho.before ((hF _ _).1 h2) hj
        have := ih i k hi hkb
        omega
    obtain ⟨b, h1, h2⟩ := hx
    have hxN := (hE _ _ ((hF _ _).1 h2)).2
    obtain ⟨i, hi, e⟩ := List.mem_iff_getElem.1 (hall x hxN)
    have hix : out[i]? = some x := by rw [List.getElem?_eq_getElem hi, e]
    obtain ⟨k, hk, hkb⟩ := ho.before ((hF _ _).1 h2) hix
    have := key b h1 i k hix hkb
    omega
  · intro hno
    rcases hp with hp | hp
    · exact hp
    · apply Classical.byContradiction
      intro hne
      have hle : out.length ≤ N.length := nodup_len ho.nodup ho.sub
      let M := N.filter fun x => decide (x ∉ out)
      have hm : ∀ y, y ∈ M ↔ y ∈ N ∧ y ∉ out := fun y => by simp [M]
      have hM : M ≠ [] := by
        intro e
        have : N.length ≤ out.length := nodup_len (ris_nodup hN) fun y hy => by
          apply Classical.byContradiction
          intro h
          have : y ∈ M := (hm y).2 ⟨hy, h⟩
          rw [e] at this; cases this
        omega
      obtain ⟨x, hx⟩ := circle_of hF M.length M (Nat.le_refl _) hM fun y hy => by
        obtain ⟨h1, h2⟩ := (hm y).1 hy
        have h3 := pickO_none hp y h1
        have h4 : ¬ (y ∉ out ∧ ∀ a, (a, y) ∈ E → a ∈ out) := fun h => by rw [free_iff.2 h] at h3; cases h3
        have h5 : ∃ a, (a, y) ∈ E ∧ a ∉ out := by
          apply Classical.byContradiction
          intro hn
          exact h4 ⟨h2, fun a ha => Classical.byContradiction fun hb => hn ⟨a, ha, hb⟩⟩
        obtain ⟨a, ha, hb⟩ := h5
        exact ⟨a, (hm a).2 ⟨(hE _ _ ha).1, hb⟩, ha⟩
      exact hno x hx

def srt (l : List Int) : List Int := l.mergeSort fun x y => decide (x ≤ y)
theorem srt_perm (l : List Int) : (srt l).Perm l := List.mergeSort_perm _ _
theorem srt_mem {l : List Int} {x : Int} : x ∈ srt l ↔ x ∈ l := (srt_perm l).mem_iff
theorem srt_len (l : List Int) : (srt l).length = l.length := (srt_perm l).length_eq
theorem srt_sorted (l : List Int) : (srt l).Pairwise (· ≤ ·) := by
  have := List.pairwise_mergeSort (le := fun x y : Int => decide (x ≤ y)) (fun a b c h1 h2 => by simp at *; omega) (fun a b => by simp; omega) l
  exact this.imp fun {a b} h => by simpa using h
theorem srt_ris {l : List Int} (h : l.Nodup) : Ris (srt l) := by
  have h1 := srt_sorted l
  have h2 : (srt l).Nodup := (srt_perm l).nodup_iff.2 h
  exact (List.pairwise_and_iff.2 ⟨h1, h2⟩).imp fun {a b} hab => by have := hab.1; have := hab.2; omega
/-- Where edges lead from a number, as often as there are edges. -/
def outs (E : Egs) (a : Int) : List Int := (E.filter fun e => decide (e.1 = a)).map (·.2)
def nxt (E : Egs) (a : Int) : List Int := srt (outs E a)
theorem outs_mem {E : Egs} {a b : Int} : b ∈ outs E a ↔ (a, b) ∈ E := by
  unfold outs
  simp only [List.mem_map, List.mem_filter, decide_eq_true_eq]
  constructor
  · rintro ⟨e, ⟨h1, h2⟩, h3⟩; rw [← h2, ← h3]; exact h1
  · intro h; exact ⟨_, ⟨h, rfl⟩, rfl⟩
theorem nxt_mem {E : Egs} {a b : Int} : b ∈ nxt E a ↔ (a, b) ∈ E := srt_mem.trans outs_mem
theorem outs_snoc (E : Egs) (e : Int × Int) (a : Int) : outs (E ++ [e]) a = if e.1 = a then outs E a ++ [e.2] else outs E a := by
  unfold outs
  rw [List.filter_append, List.map_append]
  by_cases h : e.1 = a <;> simp [h]
theorem outs_len (E : Egs) (a : Int) : (outs E a).length ≤ E.length := by
  unfold outs; rw [List.length_map]; exact List.length_filter_le _ _
def turnE (E : Egs) : Egs := E.map fun e => (e.2, e.1)
theorem turnE_mem {E : Egs} {a b : Int} : (a, b) ∈ turnE E ↔ (b, a) ∈ E := by
  unfold turnE
  simp only [List.mem_map]
  constructor
  · rintro ⟨⟨x, y⟩, h, e⟩; injection e with e1 e2; subst e1 e2; exact h
  · intro h; exact ⟨_, h, rfl⟩
theorem nxt_turn {E : Egs} {x y : Int} : y ∈ nxt (turnE E) x ↔ x ∈ nxt E y := by rw [nxt_mem, nxt_mem, turnE_mem]
/-- All numbers at edges. -/
def ndsL (E : Egs) : List Int := (E.map fun e => [e.1, e.2]).flatten
theorem ndsL_mem {E : Egs} {x : Int} : x ∈ ndsL E ↔ ∃ e ∈ E, x = e.1 ∨ x = e.2 := by
  unfold ndsL
  simp only [List.mem_flatten, List.mem_map]
  constructor
  · rintro ⟨l, ⟨e, he, rfl⟩, hx⟩; exact ⟨e, he, by simpa using hx⟩
  · rintro ⟨e, he, hx⟩; exact ⟨_, ⟨e, he, rfl⟩, by simpa using hx⟩
theorem ndsL_snoc (E : Egs) (e : Int × Int) : ndsL (E ++ [e]) = ndsL E ++ [e.1, e.2] := by simp [ndsL]
theorem ndsL_len (E : Egs) : (ndsL E).length = 2 * E.length := by
  unfold ndsL
  induction E with
  | nil => rfl
  | cons e E ih => simp at ih ⊢; omega
/-- Sorted numbers, each once. -/
def dedup : List Int → List Int
  | [] => []
  | [x] => [x]
  | x :: y :: r => if x = y then dedup (y :: r) else x :: dedup (y :: r)
theorem dedup_mem : ∀ {l : List Int} {x : Int}, x ∈ dedup l ↔ x ∈ l
  | [], x => by simp [dedup]
  | [a], x => by simp [dedup]
  | a :: b :: r, x => by
    unfold dedup
    split
    · rename_i h
      rw [dedup_mem]
      subst h
      simp
    · rw [List.mem_cons, dedup_mem, List.mem_cons (a := x) (b := a)]
theorem dedup_ris : ∀ {l : List Int}, l.Pairwise (· ≤ ·) → Ris (dedup l)
  | [], _ => List.Pairwise.nil
  | [a], _ => by simp [dedup, Ris]
  | a :: b :: r, h => by
    obtain ⟨h1, h2⟩ := List.pairwise_cons.1 h
    unfold dedup
    split
    · exact dedup_ris h2
    · rename_i hne
      refine List.pairwise_cons.2 ⟨fun y hy => ?_, dedup_ris h2⟩
      rw [dedup_mem] at hy
      have h3 := h1 b (by simp)
      rcases List.mem_cons.1 hy with rfl | hy
      · omega
      · have := (List.pairwise_cons.1 h2).1 y hy; omega
def nds (E : Egs) : List Int := dedup (srt (ndsL E))
theorem nds_mem {E : Egs} {x : Int} : x ∈ nds E ↔ ∃ e ∈ E, x = e.1 ∨ x = e.2 := by unfold nds; rw [dedup_mem, srt_mem, ndsL_mem]
theorem nds_ris (E : Egs) : Ris (nds E) := dedup_ris (srt_sorted _)
theorem dedup_len : ∀ (l : List Int), (dedup l).length ≤ l.length
  | [] => Nat.le_refl _
  | [a] => Nat.le_refl _
  | a :: b :: r => by
    have := dedup_len (b :: r)
    unfold dedup
    split
    · simp at this ⊢; omega
    · simp at this ⊢; omega
theorem nds_len (E : Egs) : (nds E).length ≤ 2 * E.length := by
  unfold nds
  have := dedup_len (srt (ndsL E))
  rw [srt_len, ndsL_len] at this
  exact this
theorem nds_of {E : Egs} {a b : Int} (h : b ∈ nxt E a) : a ∈ nds E ∧ b ∈ nds E := by
  rw [nxt_mem] at h
  exact ⟨nds_mem.2 ⟨_, h, .inl rfl⟩, nds_mem.2 ⟨_, h, .inr rfl⟩⟩
/-- The first places of a list at which another one stands than ahead: what slices.Compact keeps. -/
theorem dedup_keeps (d : Nat → Int) : ∀ m, (∀ i j, i ≤ j → j < m → d i ≤ d j) →
    ((List.range m).filter fun j => decide (j = 0 ∨ d j ≠ d (j - 1))).map d = dedup ((List.range m).map d)
  | m, h => by
    refine ris_ext ?_ (dedup_ris ?_) fun x => ?_
    · unfold Ris
      rw [List.pairwise_map]
      refine List.Pairwise.imp_of_mem (R := fun a b => a < b) ?_ (List.Pairwise.filter _ List.pairwise_lt_range)
      intro a b ha hb hab
      simp only [List.mem_filter, List.mem_range, decide_eq_true_eq] at ha hb
      rcases hb.2 with hb0 | hb0
      · omega
      · have h1 := h (b - 1) b (by omega) hb.1
        have h2 := h a (b - 1) (by omega) (by omega)
        omega
    · rw [List.pairwise_map]
      refine List.Pairwise.imp_of_mem (R := fun a b => a < b) ?_ List.pairwise_lt_range
      intro a b ha hb hab
      simp only [List.mem_range] at ha hb
      exact h a b (by omega) hb
    · rw [dedup_mem]
      simp only [List.mem_map, List.mem_filter, List.mem_range, decide_eq_true_eq]
      constructor
      · rintro ⟨j, ⟨hj, _⟩, e⟩; exact ⟨j, hj, e⟩
      · rintro ⟨j, hj, e⟩
        induction j with
        | zero => exact ⟨0, ⟨hj, .inl rfl⟩, e⟩
        | succ j ih =>
          by_cases hd : d (j + 1) = d j
          · exact ih (by omega) (by rw [← hd]; exact e)
          · exact ⟨j + 1, ⟨hj, .inr (by simpa using hd)⟩, e⟩
/-- Who is reached from a number, of some. -/
theorem circles_ris {c c' : List Int} {F : Int → List Int} (h1 : Ris c) (h2 : Ris c') (h : ∀ x, x ∈ c ↔ Rp F x x) (h' : ∀ x, x ∈ c' ↔ Rp F x x) : c = c' := ris_ext h1 h2 fun x => (h x).trans (h' x).symm
/-- Ways are no longer than there are numbers met. -/
def PLen (s : St) : Prop := 0 < s.row.length ∧ ∀ x, (s.ahead x).isSome = true → (s.paths x).length ≤ s.row.length
theorem PLen.visit {F : Int → List Int} {fr c n : Int} {s : St} (hb : BInv F fr s) (h : PLen s) (hc : c ∈ s.row) : PLen (visit fr c s n) := by
  cases hs : (s.ahead n).isSome with
  | true => rw [visit_old hs]; exact h
  | false =>
    unfold PLen
    rw [visit_row hs]
    refine ⟨by simp, fun x hx => ?_⟩
    rw [visit_ahead hs] at hx
    rw [visit_paths hs]
    rw [List.length_append, List.length_singleton]
    split
    · rw [List.length_append, List.length_singleton]
      unfold Pof
      split
      · have := h.1; simp; omega
      · rename_i hne
        rcases hb.mem.1 hc with e | e
        · exact absurd e hne
        · have := h.2 c e; omega
    · rename_i hne
      rw [if_neg hne] at hx
      have := h.2 x hx; omega
theorem PLen.fold {F : Int → List Int} {fr c : Int} : ∀ (l : List Int) (s : St), BInv F fr s → PLen s → c ∈ s.row → (∀ x ∈ l, x ∈ F c) → PLen (l.foldl (YtmfoffigmojdcaaGreat.visit fr c) s)
  | [], s, _, h, _, _ => h
  | n :: l, s, hb, h, hc, hl => PLen.fold l _ (hb.visit hc (hl n (by simp))) (h.visit hb hc) ((grew_visit fr c s n).mem hc) fun x hx => hl x (by simp [hx])
theorem plen (F : Int → List Int) (fr : Int) : ∀ i, PLen (bst F fr i)
  | 0 => ⟨by simp [bst], fun x h => by simp [bst] at h⟩
  | i + 1 => by
    cases h : (bst F fr i).row[i]? with
    | none => rw [bst_stuck h]; exact plen F fr i
    | some c => rw [bst_succ h]; exact PLen.fold _ _ (binv F fr i) (plen F fr i) (List.mem_of_getElem? h) fun x hx => hx
/-- The way to a number, or none. -/
def wayL (s : St) (to : Int) : List Int := if (s.ahead to).isSome = true then s.paths to else []
end Go.Proofs.YtmfoffigmojdcaaGreat
