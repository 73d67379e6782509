/- A coordinator, plain: by what an act aborts. -/
import Derived.Test.YtadnlannbafjpaaGreatKCoVf
namespace Go.Proofs.YtadnlannbafjpaaGreat
open Go.RowKit
set_option linter.unusedVariables false
set_option linter.unusedSimpArgs false
def By (c c' : Co) (p : Nat → Tr → Int → Prop) : Prop := ∀ (k : Nat) (x y : Tr), c.txs[k]? = some x → c'.txs[k]? = some y → decided x = false → y.st = 4 → p k x y.rs
theorem By.same {c c' : Co} {p : Nat → Tr → Int → Prop} (h : c'.txs = c.txs) : By c c' p := fun k x y hx hy hd h4 => by
  rw [h, hx] at hy
  obtain rfl := Option.some.inj hy
  unfold decided at hd
  simp [h4] at hd
theorem By.put {c c' : Co} {p : Nat → Tr → Int → Prop} {i : Nat} {x y : Tr} (hx : c.txs[i]? = some x) (h : c'.txs = c.txs.set i y) (hk : decided x = false → y.st = 4 → p i x y.rs) : By c c' p := fun k z u hz hu hd h4 => by
  by_cases e : i = k
  · subst e
    rw [hx] at hz
    obtain rfl := Option.some.inj hz
    have hlt := (List.getElem?_eq_some_iff.1 hx).1
    rw [h, List.getElem?_set_self hlt] at hu
    obtain rfl := Option.some.inj hu
    exact hk hd h4
  · rw [h, List.getElem?_set_ne e] at hu
    exact By.same (c' := c) rfl k z u hz hu hd h4
theorem By.mono {c c' : Co} {p q : Nat → Tr → Int → Prop} (h : By c c' p) (hpq : ∀ k x r, p k x r → q k x r) : By c c' q := fun k x y hx hy hd h4 => hpq _ _ _ (h k x y hx hy hd h4)
theorem By.trans {c c' c'' : Co} {p : Int → Prop} (h : By c c' fun _ _ r => p r) (s : Stays c' c'') (hl : c'.txs.length = c.txs.length) (h' : By c' c'' fun _ _ r => p r) : By c c'' fun _ _ r => p r := fun k x z hx hz hd h4 => by
  have hk := (List.getElem?_eq_some_iff.1 hx).1
  have hy : c'.txs[k]? = some (c'.txs[k]'(by omega)) := List.getElem?_eq_getElem (by omega)
  cases hdy : decided (c'.txs[k]'(by omega)) with
  | false => exact h' k _ z hy hz hdy h4
  | true =>
    obtain ⟨z', hz', _, h1, h2⟩ := s k _ hy hdy
    rw [hz] at hz'
    obtain rfl := Option.some.inj hz'
    rw [h2]
    exact h k x _ hx hy hd (by rw [← h1]; exact h4)
theorem By.abt {c : Co} {i : Nat} {x : Tr} (hx : c.txs[i]? = some x) {r : Int} {p : Nat → Tr → Int → Prop} (hp : p i x r) : By c (abtC c x i r).1 p := by
  unfold abtC
  split
  · rename_i hc
    refine By.put hx (bec_txs _ _ _) fun hd _ => ?_
    have e : (abtL x r).1 = abtX x r := by
      unfold abtL at hc ⊢
      split at hc
      · cases hc
      · rename_i h1
        split at hc
        · cases hc
        · rename_i h2; rw [if_neg h1, if_neg h2]
    rw [e]
    exact hp
  · exact By.same rfl
theorem By.lsS (c : Co) (t : Int) : By c (lsS c t).1 fun _ _ r => r = 5 := by
  unfold Go.Proofs.YtadnlannbafjpaaGreat.lsS
  split
  · rename_i h1
    obtain ⟨i, rfl, hi, hx⟩ := eL_one h1
    rw [show ((i : Int) + 1 - 1).toNat = i by omega]
    exact By.abt hx rfl
  · exact By.same rfl
theorem By.lsN (c : Co) (l : List Int) : ∀ k : Nat, By c (lsN c l k).1 fun _ _ r => r = 5
  | 0 => By.same rfl
  | k + 1 => By.trans (By.lsN c l k) (Stays.lsS _ _) (Kept.lsN c l k).len (By.lsS _ _)
def WoC (c : Co) (k : Nat) (x : Tr) : Prop := c.cf.pb = false ∧ x.st = 1 ∧ ∃ (i : Nat) (x' : Tr), i < k ∧ c.txs[i]? = some x' ∧ decided x' = false
def CiC (c : Co) (n : Nat) (m : List Int) (k : Nat) : Prop := c.cf.pb = true ∧ liveL m (openC c n n) = true ∧ vicL m (fld m 11).toNat = (k : Int) + 1
def AbC (c : Co) (n : Nat) (m : List Int) (k : Nat) (x : Tr) (r : Int) : Prop := (r = 3 → WoC c k x) ∧ (r = 4 → CiC c n m k)
theorem AbC.no {c : Co} {n : Nat} {m : List Int} {k : Nat} {x : Tr} {r : Int} (h3 : r ≠ 3) (h4 : r ≠ 4) : AbC c n m k x r := ⟨fun e => absurd e h3, fun e => absurd e h4⟩
theorem goOn_st (x : Tr) : (goOnL x).1 = x ∨ (goOnL x).1.st ≠ 4 := by
  unfold goOnL
  split
  · right; show (2 : Int) ≠ 4; decide
  · split
    · exact .inl rfl
    · right; show (3 : Int) ≠ 4; decide
theorem may_next {m : List Int} (hb : mayB m = true) (h0 : fld m 0 = 10) {i : Nat} (h3 : fld m 3 = (i : Int) + 1) (hi : i ≤ 1048576) : 1 ≤ fld m 9 ∧ fld m 9 ≤ (i : Int) := by
  unfold mayB at hb
  simp only [Bool.and_eq_true] at hb
  have h := hb.2.2.2.2.2.2.1
  rw [inS_iff, h0, h3] at h
  unfold sNext at h
  rw [if_pos rfl, show (i : Int) + 1 - 1 = (i : Int) by omega] at h
  have hw : wrap64 (i : Int) = (i : Int) := by unfold wrap64; omega
  rw [hw] at h
  exact h
theorem By.comes {c : Co} {n i : Nat} {x : Tr} {m : List Int} (hx : c.txs[i]? = some x) (hb : mayB m = true) (h3 : fld m 3 = (i : Int) + 1) (hl : c.txs.length ≤ 1000) : By c (comesL c x m i).1 (AbC c n m) := by
  have hil := (List.getElem?_eq_some_iff.1 hx).1
  have an : (ansL x m).2.2 = 0 → ∀ c', c'.txs = c.txs.set i (ansL x m).1 → By c c' (AbC c n m) := fun hc c' e => By.put hx e fun hd h4 => by
    have := ans_ok (res3 hc)
    rw [this.2.1, this.2.2] at h4
    exact absurd h4 (by decide)
  unfold comesL
  split
  · split
    · rename_i hc; exact an hc _ rfl
    · exact By.same rfl
  split
  · split
    · rename_i hc; exact an hc _ rfl
    · exact By.same rfl
  split
  · split
    · rename_i hc
      refine By.put hx (bec_txs _ _ _) fun hd h4 => ?_
      unfold votL at hc h4 ⊢
      split at hc
      · cases hc
      rename_i h5
      split at hc
      · cases hc
      rename_i h6
      split at hc
      · cases hc
      rename_i h7
      rw [if_neg h5, if_neg h6, if_neg h7] at h4 ⊢
      split at h4
      · rename_i h8
        rw [if_pos h8]
        have e : (abtL x 2).1 = abtX x 2 := by unfold abtL; rw [if_neg (by omega), if_neg (by rw [hd]; decide)]
        rw [e]
        exact AbC.no (by show (2 : Int) ≠ 3; decide) (by show (2 : Int) ≠ 4; decide)
      · exfalso
        rcases goOn_st (votX x (fld m 1)) with e | e
        · have h4 : (goOnL (votX x (fld m 1))).1.st = 4 := h4
          rw [e] at h4
          have h4 : x.st = 4 := h4
          exact h6 (by rw [h4]; decide)
        · exact e h4
    · exact By.same rfl
  split
  · split
    · rename_i hc
      refine By.put hx rfl fun hd h4 => ?_
      exfalso
      unfold ackL at hc
      split at hc
      · cases hc
      · first | (rw [if_pos hd] at hc; cases hc) | cases hc
    · exact By.same rfl
  split
  · exact By.abt hx (AbC.no (by decide) (by decide))
  split
  · rename_i h10
    split
    · exact By.same rfl
    · rename_i hn
      refine By.abt hx ⟨fun _ => ?_, fun e => absurd e (by decide)⟩
      have hpb : c.cf.pb = false := by cases e : c.cf.pb with | false => rfl | true => exact absurd (.inl e) hn
      have hst : x.st = 1 := Decidable.byContradiction fun e => hn (.inr (.inl e))
      have hel : (eL c.txs (fld m 9)).st = 1 ∨ (eL c.txs (fld m 9)).st = 2 := by
        refine Decidable.byContradiction fun e => hn (.inr (.inr ⟨fun h => e (.inl h), fun h => e (.inr h)⟩))
      obtain ⟨h91, h92⟩ := may_next hb h10 h3 (by omega)
      refine ⟨hpb, hst, (fld m 9 - 1).toNat, eL c.txs (fld m 9), by omega, ?_, ?_⟩
      · exact eL_some (by unfold inL; rw [decide_eq_true (by omega), decide_eq_true (by omega)]; rfl)
      · unfold decided; simp; omega
  · exact By.same rfl
def AbA (c : Co) (n : Nat) (a : List Int) (k : Nat) (x : Tr) (r : Int) : Prop := (r = 3 → WoC c k x) ∧ (r = 4 → fld a 0 = 5 ∧ CiC c n (a.drop 5) k)
theorem AbA.no {c : Co} {n : Nat} {a : List Int} {k : Nat} {x : Tr} {r : Int} (h3 : r ≠ 3) (h4 : r ≠ 4) : AbA c n a k x r := ⟨fun e => absurd e h3, fun e => absurd e h4⟩
theorem By.act {n j : Nat} {c : Co} (h : CoA n j c) (hj : j ≤ 100) (a : List Int) : By c (actC n c a).1.1 (AbA c n a) := by
  have hlen : c.txs.length ≤ 1000 := by have := h.k.len; omega
  unfold actC
  split
  · show By c (lockC n c _ _ _ _).1.1 _
    unfold lockC
    split; exact By.same rfl
    split; exact By.same rfl
    split; exact By.same rfl
    split
    · rename_i h1 h2 h3 h4
      obtain ⟨i, x, hi, hlt, hx⟩ := h.k.now (Decidable.not_not.1 h1) h2
      rw [hi, eL_at hx] at h4 ⊢
      rw [show ((i : Int) + 1 - 1).toNat = i by omega]
      refine By.put hx rfl fun hd h5 => ?_
      exfalso
      unfold askL at h4 h5
      split at h4; · cases h4
      rename_i g1
      split at h4; · cases h4
      rename_i g2
      split at h4; · cases h4
      rename_i g3
      split at h4; · cases h4
      rename_i g4
      rw [if_neg g1, if_neg g2, if_neg g3, if_neg g4] at h5
      have h5 : x.st = 4 := h5
      exact g2 (by rw [h5]; decide)
    · exact By.same rfl
  split
  · show By c (finC n c _).1.1 _
    unfold finC
    split; exact By.same rfl
    split; exact By.same rfl
    split
    · rename_i h1 h2 h4
      obtain ⟨i, x, hi, hlt, hx⟩ := h.k.now (Decidable.not_not.1 h1) h2
      rw [hi, eL_at hx] at h4 ⊢
      rw [show ((i : Int) + 1 - 1).toNat = i by omega]
      refine By.put hx (bec_txs _ _ _) fun hd h5 => ?_
      exfalso
      unfold finL at h4 h5
      split at h4; · cases h4
      rename_i g1
      split at h4; · cases h4
      rename_i g2
      rw [if_neg g1, if_neg g2] at h5
      rcases goOn_st x with e | e
      · have h5 : (goOnL x).1.st = 4 := h5
        rw [e] at h5
        exact g1 (by rw [h5]; decide)
      · exact e h5
    · exact By.same rfl
  split
  · show By c (abrC n c _).1.1 _
    unfold abrC
    split; exact By.same rfl
    split; exact By.same rfl
    split; exact By.same rfl
    rename_i h1 h2 h4
    obtain ⟨i, x, hi, hlt, hx⟩ := h.k.now (Decidable.not_not.1 h1) h2
    rw [hi, eL_at hx, show ((i : Int) + 1 - 1).toNat = i by omega]
    exact By.abt hx (AbA.no (by decide) (by decide))
  split
  · show By c (craC c _).1 _
    unfold craC; split; exact By.same rfl; exact By.same rfl
  split
  · show By c (begC n c _).1 _
    unfold begC
    split; exact By.same rfl
    split; exact By.same rfl
    intro k x y hx hy hd h4
    have hy : (c.txs ++ [newL ((c.txs.length : Int) + 1)])[k]? = some y := hy
    rw [List.getElem?_append_left (List.getElem?_eq_some_iff.1 hx).1] at hy
    exact By.same (c' := c) rfl k x y hx hy hd h4
  split
  · rename_i hk
    show By c (handleL c n _).1.1 _
    unfold handleL
    split; exact By.same rfl
    rename_i hb
    have hb : mayB (a.drop 5) = true := by cases e : mayB (a.drop 5) with | true => rfl | false => exact absurd e hb
    split; exact By.same rfl
    split
    · show By c (probedL c n (a.drop 5)).1 _
      unfold probedL
      split; exact By.same rfl
      rename_i h1
      split
      · have hlv : liveL (a.drop 5) (openC c n n) = true := by
          cases hl : liveL (a.drop 5) (openC c n n) with
          | true => rfl
          | false => exact absurd (.inr hl) h1
        have hpb : c.cf.pb = true := by cases e : c.cf.pb with | true => rfl | false => exact absurd (.inl e) h1
        have hN := isP_N (live_isP hlv)
        obtain ⟨q, hq, ej⟩ := vicL_mem (m := a.drop 5) (fld (a.drop 5) 11).toNat
        obtain ⟨i, hi', e⟩ := openC_mem h.k.cur _ (live_mem hlv (j := q) (by omega))
        have e : stTx (a.drop 5) q = (i : Int) + 1 := e
        rw [e] at ej
        have hx : c.txs[i]? = some c.txs[i] := List.getElem?_eq_getElem hi'
        show By c (abtC c (eL c.txs (vicL (a.drop 5) (fld (a.drop 5) 11).toNat)) (vicL (a.drop 5) (fld (a.drop 5) 11).toNat - 1).toNat 4).1 _
        rw [ej, eL_at hx, show ((i : Int) + 1 - 1).toNat = i by omega]
        exact By.abt hx ⟨fun e => absurd e (by decide), fun _ => ⟨hk, hpb, hlv, ej⟩⟩
      split; exact By.same rfl
      split; exact By.same rfl
      exact By.same rfl
    split; exact By.same rfl
    rename_i h4
    have hin : inL c.txs (fld (a.drop 5) 3) = true := by simpa using h4
    have hr : 1 ≤ fld (a.drop 5) 3 ∧ fld (a.drop 5) 3 ≤ (c.txs.length : Int) := by unfold inL at hin; simpa using hin
    have hc := By.comes (n := n) (eL_some hin) hb (show fld (a.drop 5) 3 = (((fld (a.drop 5) 3 - 1).toNat : Nat) : Int) + 1 by omega) hlen
    exact hc.mono fun k x r hp => ⟨hp.1, fun e => ⟨hk, hp.2 e⟩⟩
  split
  · show By c (tickL n c).1 _
    have h1 : By (tick1 c) (tickC c).1 fun _ _ r => r = 5 := By.lsN _ _ _
    have h2 : By c (tickC c).1 (AbA c n a) := fun k x y hx hy hd h4 => by
      have := h1 k x y hx hy hd h4
      have this : y.rs = 5 := this
      exact AbA.no (by rw [this]; decide) (by rw [this]; decide)
    unfold tickL
    split
    · exact fun k x y hx hy hd h4 => h2 k x y hx hy hd h4
    · exact h2
  · exact By.same rfl
theorem openC_of {n k : Nat} {c : Co} (K : CoK n k c) : ∀ (q : Nat), q ≤ n → ∀ o ∈ openC c n q, ∃ (i : Nat) (x : Tr), c.txs[i]? = some x ∧ x.op = true ∧ o = [(i : Int) + 1, x.sq]
  | 0, _, o, ho => by cases ho
  | q + 1, hq, o, ho => by
    rcases List.mem_append.1 ho with ho | ho
    · exact openC_of K q (by omega) o ho
    · unfold stepC at ho
      split at ho
      · cases ho
      · rename_i h0
        obtain ⟨i, hi, e⟩ := (K.cur q (by omega)).resolve_left h0
        have hx : c.txs[i]? = some c.txs[i] := List.getElem?_eq_getElem hi
        rw [e, show ((i : Int) + 1 - 1).toNat = i by omega, List.getD_eq_getElem?_getD, hx] at ho
        split at ho
        · rename_i hop
          exact ⟨i, c.txs[i], hx, hop, List.mem_singleton.1 ho⟩
        · cases ho
theorem vicL_ge {m : List Int} : ∀ {k j : Nat}, j < k → stTx m j ≤ vicL m k
  | 0, _, h => absurd h (by omega)
  | k + 1, j, h => by
    show stTx m j ≤ (if vicL m k < stTx m k then stTx m k else vicL m k)
    by_cases e : j = k
    · subst e; split <;> omega
    · have := vicL_ge (m := m) (k := k) (j := j) (by omega)
      split <;> omega
theorem CiC.steps {n j k : Nat} {c : Co} (K : CoK n j c) {m : List Int} (h : CiC c n m k) :
    (∀ q : Nat, q < (fld m 11).toNat → ∃ (i : Nat) (x : Tr), stTx m q = (i : Int) + 1 ∧ i ≤ k ∧ c.txs[i]? = some x ∧ x.op = true ∧ x.sq = stSeq m q) ∧ (∀ x, c.txs[k]? = some x → x.op = true) := by
  obtain ⟨_, hl, hv⟩ := h
  have hN := isP_N (live_isP hl)
  have st : ∀ q : Nat, q < (fld m 11).toNat → ∃ (i : Nat) (x : Tr), stTx m q = (i : Int) + 1 ∧ i ≤ k ∧ c.txs[i]? = some x ∧ x.op = true ∧ x.sq = stSeq m q := fun q hq => by
    obtain ⟨i, x, hx, ho, e⟩ := openC_of K n (Nat.le_refl _) _ (live_mem hl hq)
    injection e with e1 e2
    injection e2 with e2 _
    have := vicL_ge (m := m) hq
    exact ⟨i, x, e1, by omega, hx, ho, e2.symm⟩
  refine ⟨st, fun x hx => ?_⟩
  obtain ⟨q, hq, ej⟩ := vicL_mem (m := m) (fld m 11).toNat
  obtain ⟨i, y, e, _, hy, ho, _⟩ := st q (by omega)
  have : i = k := by omega
  subst this
  rw [hx] at hy
  obtain rfl := Option.some.inj hy
  exact ho
end Go.Proofs.YtadnlannbafjpaaGreat
