/- Plain lists: what is reached, breadth first; the least of the shortest ways; a walk that leaves each number when all that can be seen from there were seen, twice, for the circles; a heap; the order. -/
import Derived.Test.YtadnlannbafjpaaGreatKBase
namespace Go.Proofs.YtadnlannbafjpaaGreat
set_option linter.unusedVariables false
set_option linter.unusedSimpArgs false
/-! ### lists of numbers -/
theorem nodup_len : ∀ {l m : List Int}, l.Nodup → (∀ x ∈ l, x ∈ m) → l.length ≤ m.length
  | [], m, _, _ => Nat.zero_le _
  | x :: l, m, h, hs => by
    have hx := hs x (by simp)
    obtain ⟨hn, hd⟩ := List.nodup_cons.1 h
    have h1 := nodup_len (m := m.erase x) hd fun y hy => (List.mem_erase_of_ne (fun e : y = x => hn (by rw [← e]; exact hy))).2 (hs y (by simp [hy]))
    rw [List.length_erase_of_mem hx] at h1
    have h2 : 0 < m.length := List.length_pos_of_mem hx
    simp only [List.length_cons]; omega
abbrev Ris (l : List Int) : Prop := l.Pairwise (· < ·)
theorem ris_nodup {l : List Int} (h : Ris l) : l.Nodup := h.imp fun {a b} hab e => by omega
theorem ris_ext : ∀ {l m : List Int}, Ris l → Ris m → (∀ x, x ∈ l ↔ x ∈ m) → l = m
  | [], [], _, _, _ => rfl
  | [], y :: m, _, _, h => by have := (h y).2 (by simp); simp at this
  | x :: l, [], _, _, h => by have := (h x).1 (by simp); simp at this
  | x :: l, y :: m, h1, h2, h => by
    obtain ⟨a1, a2⟩ := List.pairwise_cons.1 h1
    obtain ⟨b1, b2⟩ := List.pairwise_cons.1 h2
    have e : x = y := by
      have hx := (h x).1 (by simp)
      have hy := (h y).2 (by simp)
      rcases List.mem_cons.1 hx with e | hx
      · exact e
      · rcases List.mem_cons.1 hy with e | hy
        · exact e.symm
        · have := b1 x hx; have := a1 y hy; omega
    subst e
    have : l = m := ris_ext a2 b2 fun z => by
      constructor
      · intro hz
        have h3 := (h z).1 (by simp [hz])
        rcases List.mem_cons.1 h3 with rfl | h3
        · have := a1 z hz; omega
        · exact h3
      · intro hz
        have h3 := (h z).2 (by simp [hz])
        rcases List.mem_cons.1 h3 with rfl | h3
        · have := b1 z hz; omega
        · exact h3
    rw [this]
/-! ### what leads where -/
inductive Rt (F : Int → List Int) (a : Int) : Int → Prop
  | refl : Rt F a a
  | tail {b c : Int} : Rt F a b → c ∈ F b → Rt F a c
def Rp (F : Int → List Int) (a c : Int) : Prop := ∃ b, Rt F a b ∧ c ∈ F b
section
variable {F G : Int → List Int} {a b c : Int}
theorem Rt.trans (h : Rt F a b) (h' : Rt F b c) : Rt F a c := by
  induction h' with
  | refl => exact h
  | tail _ hc ih => exact ih.tail hc
theorem Rt.one (h : b ∈ F a) : Rt F a b := Rt.refl.tail h
theorem Rt.head (h : b ∈ F a) (h' : Rt F b c) : Rt F a c := (Rt.one h).trans h'
theorem Rp.rt (h : Rp F a c) : Rt F a c := by obtain ⟨b, h1, h2⟩ := h; exact h1.tail h2
theorem Rp.of (h : Rt F a b) (hne : a ≠ b) : Rp F a b := by
  cases h with
  | refl => exact absurd rfl hne
  | tail h1 h2 => exact ⟨_, h1, h2⟩
theorem Rp.one (h : b ∈ F a) : Rp F a b := ⟨a, .refl, h⟩
theorem Rp.trans (h : Rp F a b) (h' : Rt F b c) : Rp F a c := by
  cases h' with
  | refl => exact h
  | tail h1 h2 => exact ⟨_, h.rt.trans h1, h2⟩
theorem Rp.left (h : Rt F a b) (h' : Rp F b c) : Rp F a c := by obtain ⟨d, h1, h2⟩ := h'; exact ⟨d, h.trans h1, h2⟩
theorem Rp.head (h : Rp F a c) : ∃ b, b ∈ F a ∧ Rt F b c := by
  obtain ⟨b, h1, h2⟩ := h
  induction h1 generalizing c with
  | refl => exact ⟨c, h2, .refl⟩
  | tail h3 h4 ih => obtain ⟨d, h5, h6⟩ := ih h4; exact ⟨d, h5, h6.tail h2⟩
theorem Rt.mono (hF : ∀ x y, y ∈ F x → y ∈ G x) (h : Rt F a b) : Rt G a b := by
  induction h with
  | refl => exact .refl
  | tail _ hc ih => exact ih.tail (hF _ _ hc)
theorem Rp.mono (hF : ∀ x y, y ∈ F x → y ∈ G x) (h : Rp F a b) : Rp G a b := by
  obtain ⟨d, h1, h2⟩ := h; exact ⟨d, h1.mono hF, hF _ _ h2⟩
end
/-! ### breadth first -/
structure St where
  row : List Int
  ahead : Int → Option Int
  paths : Int → List Int
def Pof (fr : Int) (s : St) (c : Int) : List Int := if c = fr then [fr] else s.paths c
def visit (fr c : Int) (s : St) (n : Int) : St :=
  if (s.ahead n).isSome then s else ⟨s.row ++ [n], fun k => if k = n then some c else s.ahead k, fun k => if k = n then Pof fr s c ++ [n] else s.paths k⟩
def bst (F : Int → List Int) (fr : Int) : Nat → St
  | 0 => ⟨[fr], fun _ => none, fun _ => []⟩
  | i + 1 => match (bst F fr i).row[i]? with
    | some c => (F c).foldl (visit fr c) (bst F fr i)
    | none => bst F fr i
inductive PathTo (F : Int → List Int) (fr : Int) : Int → List Int → Prop
  | one {x : Int} : x ∈ F fr → PathTo F fr x [fr, x]
  | more {c x : Int} {p : List Int} : PathTo F fr c p → x ∈ F c → PathTo F fr x (p ++ [x])
structure BInv (F : Int → List Int) (fr : Int) (s : St) : Prop where
  row : ∃ met, s.row = fr :: met ∧ met.Nodup ∧ ∀ x, x ∈ met ↔ (s.ahead x).isSome = true
  pred : ∀ x c, s.ahead x = some c → c ∈ s.row ∧ x ∈ F c ∧ (c = fr ∨ (s.ahead c).isSome = true) ∧ s.paths x = Pof fr s c ++ [x]
  path : ∀ x, (s.ahead x).isSome = true → PathTo F fr x (s.paths x)
section
variable {F : Int → List Int} {fr : Int} {s : St} {c n : Int}
theorem BInv.start : BInv F fr (bst F fr 0) := ⟨⟨[], rfl, List.nodup_nil, fun x => by simp [bst]⟩, fun x c h => by simp [bst] at h, fun x h => by simp [bst] at h⟩
theorem BInv.mem (h : BInv F fr s) {x : Int} : x ∈ s.row ↔ x = fr ∨ (s.ahead x).isSome = true := by
  obtain ⟨met, e, _, hm⟩ := h.row
  rw [e, List.mem_cons, hm]
theorem visit_old (hs : (s.ahead n).isSome = true) : visit fr c s n = s := by unfold visit; rw [if_pos hs]
theorem visit_row (hs : (s.ahead n).isSome = false) : (visit fr c s n).row = s.row ++ [n] := by unfold visit; rw [if_neg (by simp [hs])]
theorem visit_ahead (hs : (s.ahead n).isSome = false) (k : Int) : (visit fr c s n).ahead k = if k = n then some c else s.ahead k := by unfold visit; rw [if_neg (by simp [hs])]
theorem visit_paths (hs : (s.ahead n).isSome = false) (k : Int) : (visit fr c s n).paths k = if k = n then Pof fr s c ++ [n] else s.paths k := by unfold visit; rw [if_neg (by simp [hs])]
theorem BInv.visit (h : BInv F fr s) (hc : c ∈ s.row) (hn : n ∈ F c) : BInv F fr (visit fr c s n) := by
  cases hs : (s.ahead n).isSome with
  | true => rw [visit_old hs]; exact h
  | false =>
    have hcn : c = fr ∨ c ≠ n ∧ (s.ahead c).isSome = true := by
      rcases h.mem.1 hc with e | e
      · exact .inl e
      · exact .inr ⟨fun e2 => (by rw [e2, hs] at e; cases e), e⟩
    have hP : ∀ d, d = fr ∨ (s.ahead d).isSome = true → Pof fr (YtadnlannbafjpaaGreat.visit fr c s n) d = Pof fr s d := by
      intro d hd
      unfold Pof
      split
      · rfl
      · rename_i hdf
        rw [visit_paths hs, if_neg]
        intro e
        rcases hd with hd | hd
        · exact hdf hd
        · rw [e, hs] at hd; cases hd
    refine ⟨?_, ?_, ?_⟩
    · obtain ⟨met, e, hnd, hm⟩ := h.row
      refine ⟨met ++ [n], by rw [visit_row hs, e]; rfl, ?_, fun x => ?_⟩
      · refine List.nodup_append.2 ⟨hnd, by simp, fun a ha b hb => ?_⟩
        simp at hb; subst hb
        intro e2; subst e2
        rw [hm, hs] at ha; cases ha
      · rw [visit_ahead hs, List.mem_append, hm, List.mem_singleton]
        by_cases hx : x = n
        · simp [hx]
        · simp [hx]
    · intro x d hx
      rw [visit_ahead hs] at hx
      split at hx
      · rename_i e
        cases hx; subst e
        refine ⟨by rw [visit_row hs]; simp [hc], hn, ?_, ?_⟩
        · rcases hcn with e | ⟨e, e2⟩
          · exact .inl e
          · right; rw [visit_ahead hs, if_neg e]; exact e2
        · rw [visit_paths hs, if_pos rfl, hP]
          rcases hcn with e | ⟨e, e2⟩
          · exact .inl e
          · exact .inr e2
      · rename_i e
        obtain ⟨h1, h2, h3, h4⟩ := h.pred x d hx
        refine ⟨by rw [visit_row hs]; simp [h1], h2, ?_, ?_⟩
        · rcases h3 with h3 | h3
          · exact .inl h3
          · right; rw [visit_ahead hs]; split
            · rfl
            · exact h3
        · rw [visit_paths hs, if_neg e, hP d h3, h4]
    · intro x hx
      rw [visit_ahead hs] at hx
      rw [visit_paths hs]
      split
      · rename_i e
        subst e
        unfold Pof
        split
        · rename_i e2; subst e2; exact .one hn
        · rename_i e2
          rcases hcn with e3 | ⟨_, e3⟩
          · exact absurd e3 e2
          · exact .more (h.path c e3) hn
      · rename_i e
        rw [if_neg e] at hx
        exact h.path x hx
structure Grew (s s' : St) : Prop where
  row : ∃ t, s'.row = s.row ++ t
  ahead : ∀ x, (s.ahead x).isSome = true → s'.ahead x = s.ahead x ∧ s'.paths x = s.paths x
theorem Grew.refl (s : St) : Grew s s := ⟨⟨[], by simp⟩, fun x _ => ⟨rfl, rfl⟩⟩
theorem Grew.trans {s s' s'' : St} (h : Grew s s') (h' : Grew s' s'') : Grew s s'' := by
  obtain ⟨⟨t, e⟩, h1⟩ := h
  obtain ⟨⟨t', e'⟩, h2⟩ := h'
  refine ⟨⟨t ++ t', by rw [e', e, List.append_assoc]⟩, fun x hx => ?_⟩
  obtain ⟨a, b⟩ := h1 x hx
  obtain ⟨a', b'⟩ := h2 x (by rw [a]; exact hx)
  exact ⟨a'.trans a, b'.trans b⟩
theorem grew_visit (fr c : Int) (s : St) (n : Int) : Grew s (visit fr c s n) := by
  cases hs : (s.ahead n).isSome with
  | true => rw [visit_old hs]; exact .refl s
  | false =>
    refine ⟨⟨[n], visit_row hs⟩, fun x hx => ?_⟩
    have hne : x ≠ n := fun e => by rw [e, hs] at hx; cases hx
    rw [visit_ahead hs, visit_paths hs, if_neg hne, if_neg hne]
    exact ⟨rfl, rfl⟩
theorem Grew.mem {s s' : St} (h : Grew s s') {x : Int} (hx : x ∈ s.row) : x ∈ s'.row := by obtain ⟨t, e⟩ := h.row; rw [e]; simp [hx]
theorem Grew.len {s s' : St} (h : Grew s s') : s.row.length ≤ s'.row.length := by obtain ⟨t, e⟩ := h.row; rw [e]; simp
theorem BInv.fold : ∀ (l : List Int) (s : St), BInv F fr s → c ∈ s.row → (∀ x ∈ l, x ∈ F c) → BInv F fr (l.foldl (YtadnlannbafjpaaGreat.visit fr c) s)
  | [], s, h, _, _ => h
  | n :: l, s, h, hc, hl => BInv.fold l _ (h.visit hc (hl n (by simp))) ((grew_visit fr c s n).mem hc) fun x hx => hl x (by simp [hx])
end
def Kos (F : Int → List Int) (L : List Int) : Prop :=
  ∀ u ∈ L, ∀ x, Rt F u x → ∃ A z B, L = A ++ z :: B ∧ Rt F u z ∧ Rt F z u ∧ (x ∈ A ∨ x = z)
theorem Kos.mem {F : Int → List Int} {L : List Int} (h : Kos F L) {u x : Int} (hu : u ∈ L) (hx : Rt F u x) : x ∈ L := by
  obtain ⟨A, z, B, e, _, _, h1⟩ := h u hu x hx
  rw [e]
  rcases h1 with h1 | h1
  · simp [h1]
  · simp [h1]
structure Ws where
  seen : Int → Prop
  left : List Int
  way : List (Int × List Int)
structure WOut (F : Int → List Int) (S : Int → Prop) (fr : Int) (left : List Int) : Prop where
  nodup : left.Nodup
  off : ∀ x ∈ left, ¬ S x
  has : fr ∈ left
  rt : ∀ x ∈ left, Rt F fr x
  shut : ∀ x ∈ left, ∀ y ∈ F x, S y ∨ y ∈ left
  kos : ∀ old : List Int, (∀ x, S x ↔ x ∈ old) → Kos F old → Kos F (old ++ left)
structure WInv (F : Int → List Int) (S : Int → Prop) (fr : Int) (s : Ws) : Prop where
  nodup : (s.left ++ s.way.map (·.1)).Nodup
  off : ∀ x ∈ s.left ++ s.way.map (·.1), ¬ S x
  seen : ∀ x, s.seen x ↔ S x ∨ x ∈ s.left ++ s.way.map (·.1)
  has : fr ∈ s.left ++ s.way.map (·.1)
  rt : ∀ x ∈ s.left ++ s.way.map (·.1), Rt F fr x
  chain : (s.way.map (·.1)).Pairwise fun n m => Rt F m n
  black : ∀ x ∈ s.left, ∀ y ∈ F x, s.seen y
  gray : ∀ p ∈ s.way, (∀ y ∈ F p.1, s.seen y ∨ y ∈ p.2) ∧ ∀ y ∈ p.2, y ∈ F p.1
  kos : ∀ old : List Int, (∀ x, S x ↔ x ∈ old) → Kos F old → ∀ u ∈ old ++ s.left, (∃ y ∈ s.way.map (·.1), Rt F u y ∧ Rt F y u) ∨
    ∀ x, Rt F u x → ∃ A z B, old ++ s.left = A ++ z :: B ∧ Rt F u z ∧ Rt F z u ∧ (x ∈ A ∨ x = z)
section
variable {F : Int → List Int} {S : Int → Prop} {fr : Int} {s : Ws}
theorem WInv.start (hS : ¬ S fr) : WInv F S fr ⟨fun x => S x ∨ x = fr, [], [(fr, F fr)]⟩ where
  nodup := by simp
  off := by simpa using hS
  seen := by intro x; simp
  has := by simp
  rt := by simp; exact .refl
  chain := by simp
  black := by simp
  gray := by
    intro p hp
    simp at hp; subst hp
    exact ⟨fun y hy => .inr hy, fun y hy => hy⟩
  kos := fun old ho hk u hu => by
    simp at hu
    right
    simpa using hk u hu
theorem WInv.done (h : WInv F S fr s) (hw : s.way = []) : WOut F S fr s.left where
  nodup := by have := h.nodup; rw [hw] at this; simpa using this
  off := by have := h.off; rw [hw] at this; simpa using this
  has := by have := h.has; rw [hw] at this; simpa using this
  rt := by have := h.rt; rw [hw] at this; simpa using this
  shut := fun x hx y hy => by
    have := (h.seen y).1 (h.black x hx y hy)
    rw [hw] at this; simpa using this
  kos := fun old ho hk u hu => by
    rcases h.kos old ho hk u hu with ⟨y, hy, _⟩ | h1
    · rw [hw] at hy; cases hy
    · exact h1
end
/-! ### the second pass -/
def Tog (F : Int → List Int) (u n : Int) : Prop := Rt F u n ∧ Rt F n u
theorem Tog.symm {F : Int → List Int} {u n : Int} (h : Tog F u n) : Tog F n u := ⟨h.2, h.1⟩
theorem Tog.trans {F : Int → List Int} {u n m : Int} (h : Tog F u n) (h' : Tog F n m) : Tog F u m := ⟨h.1.trans h'.1, h'.2.trans h.2⟩
theorem Tog.refl (F : Int → List Int) (n : Int) : Tog F n n := ⟨.refl, .refl⟩
section
variable {F B : Int → List Int} {L A P : List Int} {n : Int} {T : Int → Prop} {lot : List Int}
end
/-! ### a heap -/
def gd (H : List Int) (i : Nat) : Int := H.getD i 0
def swp (H : List Int) (i j : Nat) : List Int := (H.set i (gd H j)).set j (gd H i)
theorem swp_length (H : List Int) (i j : Nat) : (swp H i j).length = H.length := by simp [swp]
theorem gd_get {H : List Int} {i : Nat} (h : i < H.length) : gd H i = H[i] := by simp [gd, List.getD, h]
theorem gd_swp {H : List Int} {i j : Nat} (hi : i < H.length) (hj : j < H.length) (k : Nat) : gd (swp H i j) k = if k = j then gd H i else if k = i then gd H j else gd H k := by
  unfold gd swp
  simp only [List.getD_eq_getElem?_getD, List.getElem?_set, List.length_set]
  by_cases h1 : k = j
  · subst h1; simp [hj, gd, List.getD]
  · rw [if_neg (Ne.symm h1), if_neg h1]
    by_cases h2 : k = i
    · subst h2; simp [hi, gd, List.getD]
    · rw [if_neg (Ne.symm h2), if_neg h2]
def HP (H : List Int) (m : Nat) : Prop := ∀ i, 0 < i → i < m → gd H ((i - 1) / 2) ≤ gd H i
structure UpI (H : List Int) (j : Nat) : Prop where
  lt : j < H.length
  rest : ∀ i, 0 < i → i < H.length → i ≠ j → gd H ((i - 1) / 2) ≤ gd H i
  kids : 0 < j → ∀ i, 0 < i → i < H.length → (i - 1) / 2 = j → gd H ((j - 1) / 2) ≤ gd H i
structure DnI (H : List Int) (i m : Nat) : Prop where
  le : m ≤ H.length
  rest : ∀ k, 0 < k → k < m → (k - 1) / 2 ≠ i → gd H ((k - 1) / 2) ≤ gd H k
  kids : 0 < i → ∀ k, 0 < k → k < m → (k - 1) / 2 = i → gd H ((i - 1) / 2) ≤ gd H k
theorem UpI.done {H : List Int} {j : Nat} (h : UpI H j) (hd : j = 0 ∨ ¬ gd H j < gd H ((j - 1) / 2)) : HP H H.length := fun i h0 hi => by
  by_cases e : i = j
  · subst e
    rcases hd with hd | hd <;> omega
  · exact h.rest i h0 hi e
theorem UpI.step {H : List Int} {j : Nat} (h : UpI H j) (h0 : 0 < j) (hlt : gd H j < gd H ((j - 1) / 2)) : UpI (swp H ((j - 1) / 2) j) ((j - 1) / 2) := by
  have hj := h.lt
  have hp : (j - 1) / 2 < j := by omega
  have g := gd_swp (H := H) (i := (j - 1) / 2) (j := j) (by omega) hj
  refine ⟨by rw [swp_length]; omega, fun i i0 hi hne => ?_, fun p0 i i0 hi hk => ?_⟩
  · rw [swp_length] at hi
    rw [g, g]
    by_cases e1 : i = j
    · subst e1
      rw [if_neg (by omega), if_pos rfl, if_pos rfl]; omega
    · rw [if_neg e1, if_neg hne]
      by_cases e2 : (i - 1) / 2 = j
      · rw [if_pos e2]
        exact h.kids h0 i i0 hi e2
      · rw [if_neg e2]
        have := h.rest i i0 hi e1
        by_cases e3 : (i - 1) / 2 = (j - 1) / 2
        · rw [if_pos e3]
          rw [e3] at this; omega
        · rw [if_neg e3]; exact this
  · rw [swp_length] at hi
    rw [g, g]
    have hpp := h.rest ((j - 1) / 2) p0 (by omega) (by omega)
    rw [if_neg (by omega), if_neg (by omega)]
    by_cases e1 : i = j
    · subst e1; rw [if_pos rfl]; exact hpp
    · rw [if_neg e1, if_neg (by omega)]
      have := h.rest i i0 hi e1
      rw [hk] at this; omega
theorem DnI.done {H : List Int} {i m : Nat} (h : DnI H i m) (hd : ∀ k, 0 < k → k < m → (k - 1) / 2 = i → gd H i ≤ gd H k) : HP H m := fun k k0 hk => by
  by_cases e : (k - 1) / 2 = i
  · rw [e]; exact hd k k0 hk e
  · exact h.rest k k0 hk e
theorem DnI.step {H : List Int} {i j m : Nat} (h : DnI H i m) (hj : j < m) (j0 : 0 < j) (hp : (j - 1) / 2 = i) (hmin : ∀ k, 0 < k → k < m → (k - 1) / 2 = i → gd H j ≤ gd H k) (hlt : gd H j < gd H i) : DnI (swp H i j) j m := by
  have hl := h.le
  have hij : i < j := by omega
  have g := gd_swp (H := H) (i := i) (j := j) (by omega) (by omega)
  refine ⟨by rw [swp_length]; exact hl, fun k k0 hk hne => ?_, fun _ k k0 hk hkj => ?_⟩
  · rw [g, g]
    by_cases e1 : k = j
    · subst e1
      rw [if_neg (by omega), if_pos hp, if_pos rfl]; omega
    · rw [if_neg e1, if_neg hne]
      by_cases e2 : k = i
      · subst e2
        rw [if_neg (by omega), if_pos rfl]
        exact h.kids k0 j j0 hj hp
      · rw [if_neg e2]
        by_cases e3 : (k - 1) / 2 = i
        · rw [if_pos e3]; exact hmin k k0 hk e3
        · rw [if_neg e3]; exact h.rest k k0 hk e3
  · rw [g, g, if_neg (by omega), if_pos hp, if_neg (by omega), if_neg (by omega)]
    have := h.rest k k0 hk (by omega)
    rw [hkj] at this; exact this
theorem HP.min {H : List Int} {m : Nat} (h : HP H m) : ∀ k, k < m → gd H 0 ≤ gd H k := by
  intro k
  induction k using Nat.strongRecOn with
  | _ k ih =>
    intro hk
    by_cases k0 : 0 < k
    · have h1 := ih ((k - 1) / 2) (by omega) (by omega)
      have h2 := h k k0 hk
      omega
    · have : k = 0 := by omega
      subst this; exact Int.le_refl _
/-! ### the order -/
abbrev Egs := List (Int × Int)
section
variable {E : Egs} {N out : List Int} {x : Int}
structure Ord (E : Egs) (N out : List Int) : Prop where
  nodup : out.Nodup
  sub : ∀ x ∈ out, x ∈ N
  ahead : ∀ A x B, out = A ++ x :: B → ∀ a, (a, x) ∈ E → a ∈ A
theorem Ord.before (h : Ord E N out) {a b : Int} (hab : (a, b) ∈ E) {i : Nat} (hi : out[i]? = some b) : ∃ j, j < i ∧ out[j]? = some a := by
  obtain ⟨hlt, e⟩ := List.getElem?_eq_some_iff.1 hi
  have h1 : out = out.take i ++ b :: out.drop (i + 1) := by
    rw [← e, List.getElem_cons_drop, List.take_append_drop]
  have h2 := h.ahead _ _ _ h1 a hab
  obtain ⟨j, hj, e2⟩ := List.mem_iff_getElem.1 h2
  have hj3 : j < min i out.length := by simpa using hj
  refine ⟨j, by omega, ?_⟩
  rw [List.getElem?_eq_getElem (by omega)]
  rw [List.getElem_take] at e2
  rw [e2]
end
def srt (l : List Int) : List Int := l.mergeSort fun x y => decide (x ≤ y)
theorem srt_perm (l : List Int) : (srt l).Perm l := List.mergeSort_perm _ _
theorem srt_mem {l : List Int} {x : Int} : x ∈ srt l ↔ x ∈ l := (srt_perm l).mem_iff
theorem srt_len (l : List Int) : (srt l).length = l.length := (srt_perm l).length_eq
theorem srt_sorted (l : List Int) : (srt l).Pairwise (· ≤ ·) := by
  have := List.pairwise_mergeSort (le := fun x y : Int => decide (x ≤ y)) (fun a b c h1 h2 => by simp at *; omega) (fun a b => by simp; omega) l
  exact this.imp fun {a b} h => by simpa using h
theorem srt_ris {l : List Int} (h : l.Nodup) : Ris (srt l) := by
  have h1 := srt_sorted l
  have h2 : (srt l).Nodup := (srt_perm l).nodup_iff.2 h
  exact (List.pairwise_and_iff.2 ⟨h1, h2⟩).imp fun {a b} hab => by have := hab.1; have := hab.2; omega
def PLen (s : St) : Prop := 0 < s.row.length ∧ ∀ x, (s.ahead x).isSome = true → (s.paths x).length ≤ s.row.length
theorem PLen.visit {F : Int → List Int} {fr c n : Int} {s : St} (hb : BInv F fr s) (h : PLen s) (hc : c ∈ s.row) : PLen (visit fr c s n) := by
  cases hs : (s.ahead n).isSome with
  | true => rw [visit_old hs]; exact h
  | false =>
    unfold PLen
    rw [visit_row hs]
    refine ⟨by simp, fun x hx => ?_⟩
    rw [visit_ahead hs] at hx
    rw [visit_paths hs]
    rw [List.length_append, List.length_singleton]
    split
    · rw [List.length_append, List.length_singleton]
      unfold Pof
      split
      · have := h.1; simp; omega
      · rename_i hne
        rcases hb.mem.1 hc with e | e
        · exact absurd e hne
        · have := h.2 c e; omega
    · rename_i hne
      rw [if_neg hne] at hx
      have := h.2 x hx; omega
theorem PLen.fold {F : Int → List Int} {fr c : Int} : ∀ (l : List Int) (s : St), BInv F fr s → PLen s → c ∈ s.row → (∀ x ∈ l, x ∈ F c) → PLen (l.foldl (YtadnlannbafjpaaGreat.visit fr c) s)
  | [], s, _, h, _, _ => h
  | n :: l, s, hb, h, hc, hl => PLen.fold l _ (hb.visit hc (hl n (by simp))) (h.visit hb hc) ((grew_visit fr c s n).mem hc) fun x hx => hl x (by simp [hx])
end Go.Proofs.YtadnlannbafjpaaGreat
