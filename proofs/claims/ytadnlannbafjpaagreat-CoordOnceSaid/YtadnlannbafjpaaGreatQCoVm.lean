/- A coordinator, plain: what holds of its trace: nothing of a transaction behind its end, and no client has two. -/
import Derived.Test.YtadnlannbafjpaaGreatQCoWa
namespace Go.Proofs.YtadnlannbafjpaaGreat
open Go.RowKit
set_option linter.unusedVariables false
set_option linter.unusedSimpArgs false
abbrev TrS := (Int → Int) × (Int → Int)
def trS (s : TrS) (e : List Int) : TrS :=
 if fld e 0 = 8 then s else if fld e 0 = 1 then (s.1, fun k => if k = fld e 1 then fld e 2 else s.2 k) else
 if fld e 0 = 6 ∨ fld e 0 = 7 then (fun k => if k = fld e 2 then s.1 k + 1 else s.1 k, s.2) else s
def trF (l : List (List Int)) : TrS := l.foldl trS (fun _ => 0, fun _ => 0)
theorem trF_add (l : List (List Int)) (e : List Int) : trF (l ++ [e]) = trS (trF l) e := by unfold trF; rw [List.foldl_append]; rfl
def trOk (s : TrS) (e : List Int) : Prop := fld e 0 = 8 ∨ (s.1 (fld e 2) = 0 ∧ (fld e 0 = 1 → s.2 (fld e 1) = 0 ∨ s.1 (s.2 (fld e 1)) ≠ 0))
def EvB (n k : Nat) (e : List Int) : Prop := e.length = 7 ∧ (0 ≤ fld e 2 ∧ fld e 2 ≤ (k : Int)) ∧ (fld e 0 = 1 → 1 ≤ fld e 1 ∧ fld e 1 ≤ (n : Int))
theorem sv_add {n k k' : Nat} {l : List (List Int)} (h : ∀ e ∈ l, EvB n k e) (hk : k ≤ k') {e : List Int} (he : EvB n k' e) : ∀ d ∈ l ++ [e], EvB n k' d := fun d hd => by
 rcases List.mem_append.1 hd with hd | hd
 · obtain ⟨h1, h2, h3⟩ := h d hd
   exact ⟨h1, ⟨h2.1, by omega⟩, h3⟩
 · rw [List.mem_singleton.1 hd]; exact he
structure TI (n : Nat) (c : Co) : Prop where
 ok : ∀ (p : Nat) (e : List Int), c.ev[p]? = some e → trOk (trF (c.ev.take p)) e
 nn : ∀ t, 0 ≤ (trF c.ev).1 t
 un : ∀ (i : Nat) (x : Tr), c.txs[i]? = some x → ((trF c.ev).1 ((i : Int) + 1) = 0 ↔ decided x = false)
 out : ∀ t : Int, (c.txs.length : Int) < t → (trF c.ev).1 t = 0
 who : ∀ id : Int, (trF c.ev).2 id = 0 ∨ (trF c.ev).1 ((trF c.ev).2 id) ≠ 0 ∨ nowL n c.cl id = (trF c.ev).2 id
 sv : ∀ e ∈ c.ev, EvB n c.txs.length e
theorem TI.new (n : Nat) (f : Cfg) : TI n (newCo f n) := ⟨fun p e h => (by cases h), fun t => Int.le_refl _, fun i x h => (by cases h), fun t _ => rfl, fun id => .inl rfl, fun e h => (by cases h)⟩
theorem ok_add {l : List (List Int)} {e : List Int} (h : ∀ (p : Nat) (e : List Int), l[p]? = some e → trOk (trF (l.take p)) e) (he : trOk (trF l) e) : ∀ (p : Nat) (d : List Int), (l ++ [e])[p]? = some d → trOk (trF ((l ++ [e]).take p)) d := fun p d hp => by
 by_cases hl : p < l.length
 · rw [List.getElem?_append_left hl] at hp
   rw [List.take_append_of_le_length (by omega)]
   exact h p d hp
 · have hq : p = l.length := by
     have := (List.getElem?_eq_some_iff.1 hp).1
     rw [List.length_append, List.length_singleton] at this; omega
   subst hq
   rw [List.getElem?_append_right (Nat.le_refl _), Nat.sub_self] at hp
   obtain rfl := Option.some.inj hp
   rw [List.take_append_of_le_length (Nat.le_refl _), List.take_length]
   exact he
theorem dec_st {x y : Tr} (h : y.st = x.st) : decided y = decided x := by unfold decided; rw [h]
theorem TI.set {n : Nat} {c c' : Co} (h : TI n c) {i : Nat} {x y : Tr} (hx : c.txs[i]? = some x) (hy : decided y = decided x) (ht : c'.txs = c.txs.set i y) (he : c'.ev = c.ev) (hc : c'.cl = c.cl) : TI n c' := by
 obtain ⟨h1, h2, h3, h4, h5, h6⟩ := h
 refine ⟨by rw [he]; exact h1, by rw [he]; exact h2, fun k z hz => ?_, fun t htt => ?_, by rw [he, hc]; exact h5, by rw [he, ht, List.length_set]; exact h6⟩
 · rw [he]
   rw [ht] at hz
   by_cases e : i = k
   · subst e
     rw [List.getElem?_set_self (List.getElem?_eq_some_iff.1 hx).1] at hz
     obtain rfl := Option.some.inj hz
     rw [hy]; exact h3 i x hx
   · rw [List.getElem?_set_ne e] at hz; exact h3 k z hz
 · rw [he]; rw [ht, List.length_set] at htt; exact h4 t htt
theorem TI.same {n : Nat} {c c' : Co} (h : TI n c) (ht : c'.txs = c.txs) (he : c'.ev = c.ev) (hc : ∀ id, nowL n c'.cl id = nowL n c.cl id) : TI n c' :=
 ⟨by rw [he]; exact h.ok, by rw [he]; exact h.nn, by rw [ht, he]; exact h.un, by rw [ht, he]; exact h.out, fun id => by rw [he, hc]; exact h.who id, by rw [he, ht]; exact h.sv⟩
theorem trS_mid {s : TrS} {e : List Int} (h : fld e 0 = 2 ∨ fld e 0 = 3 ∨ fld e 0 = 4 ∨ fld e 0 = 5) : trS s e = s := by
 unfold trS; rw [if_neg (by omega), if_neg (by omega), if_neg (by omega)]
theorem TI.mid {n : Nat} {c c' : Co} (h : TI n c) {i : Nat} {x y : Tr} (hx : c.txs[i]? = some x) (hd : decided x = false) (hy : decided y = false) (ht : c'.txs = c.txs.set i y) {e : List Int} (he : c'.ev = c.ev ++ [e]) (hk : fld e 0 = 2 ∨ fld e 0 = 3 ∨ fld e 0 = 4 ∨ fld e 0 = 5) (h2 : fld e 2 = (i : Int) + 1) (h7 : e.length = 7) (hc : c'.cl = c.cl) : TI n c' := by
 have hS : trF c'.ev = trF c.ev := by rw [he, trF_add, trS_mid hk]
 have hs := h.set (c' := { c with txs := c.txs.set i y }) hx (by rw [hy, hd]) rfl rfl rfl
 refine ⟨?_, by rw [hS]; exact h.nn, by rw [hS, ht]; exact hs.un, by rw [hS, ht]; exact hs.out, by rw [hS, hc]; exact h.who, by rw [he, ht, List.length_set]; exact sv_add h.sv (Nat.le_refl _) ⟨h7, ⟨by omega, by have := (List.getElem?_eq_some_iff.1 hx).1; omega⟩, fun h1 => by omega⟩⟩
 rw [he]
 exact ok_add h.ok (.inr ⟨by rw [h2]; exact (h.un i x hx).2 hd, fun h1 => by omega⟩)
theorem endL_nowS (n : Nat) (L : List Cl) (t : Int) (id : Int) : nowL n (endL L t).1 id = nowL n L id ∨ nowL n L id = t := by
 unfold endL
 split
 · exact .inl rfl
 · rename_i h0
   obtain ⟨hlt, _, hq⟩ := ofL_get h0
   unfold nowL
   split
   · exact .inl rfl
   · unfold clAt
     simp only [List.getD_eq_getElem?_getD]
     by_cases e : (ofL t L - 1).toNat = (id - 1).toNat
     · right
       rw [← e, List.getElem?_eq_getElem hlt]
       exact hq
     · left; rw [List.getElem?_set_ne e]
theorem TI.end_ {n : Nat} {c c' : Co} (h : TI n c) {i : Nat} {x y : Tr} (hx : c.txs[i]? = some x) (hd : decided x = false) (hy : decided y = true) (ht : c'.txs = c.txs.set i y) {e : List Int} (he : c'.ev = c.ev ++ [e]) (hk : fld e 0 = 6 ∨ fld e 0 = 7) (h2 : fld e 2 = (i : Int) + 1) (h7 : e.length = 7) (hc : c'.cl = (endL c.cl ((i : Int) + 1)).1) : TI n c' := by
 have hS : trF c'.ev = (fun k => if k = (i : Int) + 1 then (trF c.ev).1 k + 1 else (trF c.ev).1 k, (trF c.ev).2) := by
   rw [he, trF_add]; unfold trS; rw [if_neg (by omega), if_neg (by omega), if_pos hk, h2]
 have h0 := (h.un i x hx).2 hd
 have up : ∀ t, (trF c.ev).1 t ≠ 0 → (if t = (i : Int) + 1 then (trF c.ev).1 t + 1 else (trF c.ev).1 t) ≠ 0 := fun t e => by
   have := h.nn t
   split <;> omega
 refine ⟨?_, fun t => ?_, fun k z hz => ?_, fun t htt => ?_, fun id => ?_, by rw [he, ht, List.length_set]; exact sv_add h.sv (Nat.le_refl _) ⟨h7, ⟨by omega, by have := (List.getElem?_eq_some_iff.1 hx).1; omega⟩, fun h1 => by omega⟩⟩
 · rw [he]
   exact ok_add h.ok (.inr ⟨by rw [h2]; exact h0, fun h1 => by omega⟩)
 · rw [hS]; have := h.nn t; show 0 ≤ (if t = (i : Int) + 1 then (trF c.ev).1 t + 1 else (trF c.ev).1 t); split <;> omega
 · rw [hS]
   show (if (k : Int) + 1 = (i : Int) + 1 then _ else _) = 0 ↔ _
   rw [ht] at hz
   by_cases ek : i = k
   · subst ek
     rw [List.getElem?_set_self (List.getElem?_eq_some_iff.1 hx).1] at hz
     obtain rfl := Option.some.inj hz
     rw [if_pos rfl, h0, hy]
     constructor
     · intro h; exact absurd h (by decide)
     · intro h; cases h
   · rw [List.getElem?_set_ne ek] at hz
     rw [if_neg (by omega)]
     exact h.un k z hz
 · rw [hS]
   rw [ht, List.length_set] at htt
   have := (List.getElem?_eq_some_iff.1 hx).1
   show (if t = (i : Int) + 1 then _ else _) = 0
   rw [if_neg (by omega)]
   exact h.out t htt
 · rw [hS, hc]
   show (trF c.ev).2 id = 0 ∨ (if (trF c.ev).2 id = (i : Int) + 1 then (trF c.ev).1 ((trF c.ev).2 id) + 1 else (trF c.ev).1 ((trF c.ev).2 id)) ≠ 0 ∨ _
   rcases h.who id with q | q | q
   · exact .inl q
   · exact .inr (.inl (up _ q))
   · rcases endL_nowS n c.cl ((i : Int) + 1) id with e1 | e1
     · exact .inr (.inr (e1.trans q))
     · right; left
       rw [← q, e1, if_pos rfl, h0]; decide
theorem TI.bec {n : Nat} {c : Co} (h : TI n c) {i : Nat} {x y : Tr} (hx : c.txs[i]? = some x) (hd : decided x = false) (hy : y.tx = (i : Int) + 1) (hs : y.st = x.st ∨ y.st = 2 ∨ y.st = 3 ∨ y.st = 4) : TI n (becL c y i).1 := by
 have hg : c.txs.getD i noTr = x := by rw [List.getD_eq_getElem?_getD, hx]; rfl
 unfold becL
 rw [hg]
 split
 · rename_i e
   exact h.set hx (dec_st e.symm) rfl rfl rfl
 · rename_i e
   split
   · rename_i hdy
     refine h.end_ hx hd hdy rfl rfl ?_ ?_ rfl (by rw [hy])
     · show y.st + 3 = 6 ∨ y.st + 3 = 7
       unfold decided at hdy; simp at hdy; omega
     · show y.tx = _; exact hy
   · rename_i hdy
     have hdy : decided y = false := by cases e : decided y with | false => rfl | true => exact absurd e hdy
     refine h.mid hx hd hdy rfl rfl ?_ ?_ rfl rfl
     · show y.st + 3 = 2 ∨ y.st + 3 = 3 ∨ y.st + 3 = 4 ∨ y.st + 3 = 5
       unfold decided at hdy; simp at hdy; omega
     · show y.tx = _; exact hy
theorem TI.abt {n k : Nat} {c : Co} (h : TI n c) (K : CoK n k c) {i : Nat} {x : Tr} (hx : c.txs[i]? = some x) (r : Int) : TI n (abtC c x i r).1 := by
 unfold abtC
 split
 · rename_i hc
   have hr : ¬ (r < 1 ∨ 5 < r) := fun hr => by unfold abtL at hc; rw [if_pos hr] at hc; cases hc
   have hd : ¬ (decided x = true) := fun hd => by unfold abtL at hc; rw [if_neg hr, if_pos hd] at hc; cases hc
   have e : (abtL x r).1 = abtX x r := by unfold abtL; rw [if_neg hr, if_neg hd]
   rw [e]
   exact h.bec hx (by cases e : decided x with | false => rfl | true => exact absurd e hd) (K.tx i x hx).1 (.inr (.inr (.inr rfl)))
 · exact h
theorem TI.lsS {n k : Nat} {c : Co} (h : TI n c) (K : CoK n k c) (t : Int) : TI n (lsS c t).1 := by
 unfold Go.Proofs.YtadnlannbafjpaaGreat.lsS
 split
 · rename_i h1
   obtain ⟨i, rfl, hi, hx⟩ := eL_one h1
   rw [show ((i : Int) + 1 - 1).toNat = i by omega]
   exact h.abt K hx _
 · exact h
theorem TI.lsN {n k : Nat} {c : Co} (h : TI n c) (K : CoK n k c) (l : List Int) : ∀ j : Nat, TI n (lsN c l j).1
 | 0 => h
 | j + 1 => (TI.lsN h K l j).lsS (K.lsN l j) _
theorem goOn_cases (x : Tr) : (goOnL x).1.tx = x.tx ∧ ((goOnL x).1.st = x.st ∨ (goOnL x).1.st = 2 ∨ (goOnL x).1.st = 3 ∨ (goOnL x).1.st = 4) := by
 unfold goOnL
 split
 · exact ⟨rfl, .inr (.inl rfl)⟩
 · split
   · exact ⟨rfl, .inl rfl⟩
   · exact ⟨rfl, .inr (.inr (.inl rfl))⟩
theorem nd_of {x : Tr} {s : Int} (h : x.st = s) (hs : s = 1 ∨ s = 2) : decided x = false := by cases e : decided x with | false => rfl | true => exact absurd e (dec_no h hs)
theorem TI.comes {n k : Nat} {c : Co} (h : TI n c) (K : CoK n k c) {i : Nat} {x : Tr} (hx : c.txs[i]? = some x) (m : List Int) : TI n (comesL c x m i).1 := by
 have htx := (K.tx i x hx).1
 unfold comesL
 split
 · split
   · rename_i hc
     have q := ans_ok (res3 hc)
     exact h.mid hx (nd_of q.2.2 (.inl rfl)) (by rw [dec_st q.2.1]; exact nd_of q.2.2 (.inl rfl)) rfl rfl (.inr (.inl rfl)) htx rfl rfl
   · exact h
 split
 · split
   · rename_i hc
     have q := ans_ok (res3 hc)
     exact h.mid hx (nd_of q.2.2 (.inl rfl)) (by rw [dec_st q.2.1]; exact nd_of q.2.2 (.inl rfl)) rfl rfl (.inr (.inr (.inl rfl))) htx rfl rfl
   · exact h
 split
 · split
   · rename_i hc
     have h6 : x.st = 2 := by
       unfold votL at hc
       split at hc
       · cases hc
       split at hc
       · cases hc
       · rename_i h2; exact Decidable.not_not.1 h2
     have hd := nd_of h6 (.inr rfl)
     have hv : (votL x m).1.tx = x.tx ∧ ((votL x m).1.st = x.st ∨ (votL x m).1.st = 2 ∨ (votL x m).1.st = 3 ∨ (votL x m).1.st = 4) := by
       unfold votL
       split
       · exact ⟨rfl, .inl rfl⟩
       split
       · exact ⟨rfl, .inl rfl⟩
       split
       · exact ⟨rfl, .inl rfl⟩
       split
       · unfold abtL; rw [if_neg (by omega), if_neg (by rw [hd]; decide)]
         exact ⟨rfl, .inr (.inr (.inr rfl))⟩
       · exact goOn_cases (votX x (fld m 1))
     exact h.bec hx hd (by rw [hv.1]; exact htx) hv.2
   · exact h
 split
 · split
   · rename_i hc
     refine h.set hx ?_ rfl rfl rfl
     refine dec_st ?_
     unfold ackL
     split
     · rfl
     split
     · rfl
     split
     · rfl
     · rfl
   · exact h
 split
 · exact h.abt K hx _
 split
 · split
   · exact h
   · exact h.abt K hx _
 · exact h
theorem begin_now {n : Nat} {L : List Cl} {id t : Int} (hl : L.length = n) (hr : 1 ≤ id ∧ id ≤ (n : Int)) (h : (beginL L id t).2 = 0) (j : Int) : nowL n (beginL L id t).1 j = if j = id then t else nowL n L j := by
 unfold beginL at h ⊢
 split at h; · cases h
 rename_i g1
 split at h; · cases h
 rename_i g2
 split at h; · cases h
 rename_i g3
 split at h; · cases h
 rename_i g4
 split at h; · cases h
 rename_i g5
 rw [if_neg g1, if_neg g2, if_neg g3, if_neg g4, if_neg g5]
 show nowL n (L.set (id - 1).toNat _) j = _
 unfold nowL clAt
 simp only [List.getD_eq_getElem?_getD]
 by_cases e : j = id
 · subst e
   rw [if_pos rfl, if_neg (by omega), List.getElem?_set_self (by omega)]
   rfl
 · rw [if_neg e]
   split
   · rfl
   · rw [List.getElem?_set_ne (by omega)]
theorem crash_now {n : Nat} {L : List Cl} {id t : Int} (j : Int) : nowL n (crashL L id t).1 j = nowL n L j := by
 unfold crashL
 split; rfl
 split; rfl
 split; rfl
 show nowL n (L.set (id - 1).toNat _) j = _
 unfold nowL clAt
 simp only [List.getD_eq_getElem?_getD]
 split
 · rfl
 · by_cases e : (id - 1).toNat = (j - 1).toNat
   · rw [← e]
     by_cases hl : (id - 1).toNat < L.length
     · rw [List.getElem?_set_self hl, List.getElem?_eq_getElem hl]; rfl
     · rw [List.getElem?_eq_none (by rw [List.length_set]; omega), List.getElem?_eq_none (by omega)]
   · rw [List.getElem?_set_ne e]
theorem TI.beg {n k : Nat} {c : Co} (h : TI n c) (K : CoK n k c) (hk : k ≤ 1000) (id : Int) : TI n (begC n c id).1 := by
 unfold begC
 split; exact h
 rename_i h1
 split; exact h
 rename_i h2
 have h1 := Decidable.not_not.1 h1
 have h2 := Decidable.not_not.1 h2
 have hb := begin_now K.ncl (may0 h1) (K.begins hk h1 h2)
 have h0 := h.out ((c.txs.length : Int) + 1) (by omega)
 have hS : trF (c.ev ++ [[1, id, (c.txs.length : Int) + 1, 0, 0, 0, 0]]) = ((trF c.ev).1, fun j => if j = id then (c.txs.length : Int) + 1 else (trF c.ev).2 j) := by
   rw [trF_add]; rfl
 refine ⟨ok_add h.ok (.inr ⟨h0, fun _ => ?_⟩), fun t => by rw [hS]; exact h.nn t, fun i x hx => ?_, fun t ht => ?_, fun j => ?_, ?_⟩
 · show (trF c.ev).2 id = 0 ∨ _
   rcases h.who id with q | q | q
   · exact .inl q
   · exact .inr q
   · left; rw [← q]; exact h2
 · have hx : (c.txs ++ [newL ((c.txs.length : Int) + 1)])[i]? = some x := hx
   rw [hS]
   by_cases hl : i < c.txs.length
   · rw [List.getElem?_append_left hl] at hx
     exact h.un i x hx
   · have hq : i = c.txs.length := by
       have := (List.getElem?_eq_some_iff.1 hx).1
       rw [List.length_append, List.length_singleton] at this; omega
     subst hq
     rw [List.getElem?_append_right (Nat.le_refl _), Nat.sub_self] at hx
     obtain rfl := Option.some.inj hx
     exact ⟨fun _ => rfl, fun _ => h0⟩
 · have ht : (((c.txs ++ [newL ((c.txs.length : Int) + 1)]).length : Nat) : Int) < t := ht
   rw [List.length_append, List.length_singleton] at ht
   rw [hS]; exact h.out t (by omega)
 · rw [hS]
   show (if j = id then (c.txs.length : Int) + 1 else (trF c.ev).2 j) = 0 ∨ (trF c.ev).1 (if j = id then (c.txs.length : Int) + 1 else (trF c.ev).2 j) ≠ 0 ∨ nowL n (beginL c.cl id ((c.txs.length : Int) + 1)).1 j = (if j = id then (c.txs.length : Int) + 1 else (trF c.ev).2 j)
   rw [hb j]
   by_cases e : j = id
   · rw [if_pos e, if_pos e]; exact .inr (.inr rfl)
   · rw [if_neg e, if_neg e]; exact h.who j
 · show ∀ e ∈ c.ev ++ [[1, id, (c.txs.length : Int) + 1, 0, 0, 0, 0]], EvB n (c.txs ++ [newL ((c.txs.length : Int) + 1)]).length e
   rw [List.length_append, List.length_singleton]
   refine sv_add h.sv (by omega) ⟨rfl, ⟨?_, ?_⟩, fun _ => may0 h1⟩
   · show 0 ≤ (c.txs.length : Int) + 1; omega
   · show (c.txs.length : Int) + 1 ≤ ((c.txs.length + 1 : Nat) : Int); omega
theorem TI.act {n j : Nat} {c : Co} (T : TI n c) (h : CoA n j c) (hj : j ≤ 100) (a : List Int) : TI n (actC n c a).1.1 := by
 unfold actC
 split
 · show TI n (lockC n c _ _ _ _).1.1
   unfold lockC
   split; exact T
   split; exact T
   split; exact T
   split
   · rename_i h1 h2 h3 h4
     obtain ⟨i, x, hi, hlt, hx⟩ := h.k.now (Decidable.not_not.1 h1) h2
     rw [hi, eL_at hx] at h4 ⊢
     rw [show ((i : Int) + 1 - 1).toNat = i by omega]
     unfold askL at h4 ⊢
     split at h4; · cases h4
     rename_i g1
     split at h4; · cases h4
     rename_i g2
     split at h4; · cases h4
     rename_i g3
     split at h4; · cases h4
     rename_i g4
     rw [if_neg g1, if_neg g2, if_neg g3, if_neg g4]
     have hd := nd_of (Decidable.not_not.1 g2) (.inl rfl)
     exact T.mid (y := askX x (shardF (fld a 2) c.cf.sh) (fld a 2) (fld a 3) (fld a 4)) hx hd ((dec_st (x := x) rfl).trans hd) rfl rfl (.inl rfl) rfl rfl rfl
   · exact T
 split
 · show TI n (finC n c _).1.1
   unfold finC
   split; exact T
   split; exact T
   split
   · rename_i h1 h2 h4
     obtain ⟨i, x, hi, hlt, hx⟩ := h.k.now (Decidable.not_not.1 h1) h2
     rw [hi, eL_at hx] at h4 ⊢
     rw [show ((i : Int) + 1 - 1).toNat = i by omega]
     unfold finL at h4 ⊢
     split at h4; · cases h4
     rename_i g1
     split at h4; · cases h4
     rename_i g2
     rw [if_neg g1, if_neg g2]
     have q := goOn_cases x
     exact T.bec hx (nd_of (Decidable.not_not.1 g1) (.inl rfl)) (by rw [q.1]; exact (h.k.tx i x hx).1) q.2
   · exact T
 split
 · show TI n (abrC n c _).1.1
   unfold abrC
   split; exact T
   split; exact T
   split; exact T
   rename_i h1 h2 h4
   obtain ⟨i, x, hi, hlt, hx⟩ := h.k.now (Decidable.not_not.1 h1) h2
   rw [hi, eL_at hx, show ((i : Int) + 1 - 1).toNat = i by omega]
   exact T.abt h.k hx _
 split
 · show TI n (craC c _).1
   unfold craC
   split
   · rename_i hc
     refine ⟨ok_add T.ok (.inl rfl), ?_, ?_, ?_, fun id => ?_, sv_add T.sv (Nat.le_refl _) ⟨rfl, ⟨Int.le_refl _, by show (0 : Int) ≤ (c.txs.length : Int); omega⟩, fun h => absurd h (by show ¬ ((8 : Int) = 1); decide)⟩⟩
     · show ∀ t, 0 ≤ (trF (c.ev ++ _)).1 t
       rw [trF_add]; exact T.nn
     · show ∀ (i : Nat) (x : Tr), c.txs[i]? = some x → ((trF (c.ev ++ _)).1 _ = 0 ↔ _)
       rw [trF_add]; exact T.un
     · show ∀ t, (c.txs.length : Int) < t → (trF (c.ev ++ _)).1 t = 0
       rw [trF_add]; exact T.out
     · show (trF (c.ev ++ _)).2 id = 0 ∨ _
       rw [trF_add, crash_now]; exact T.who id
   · exact T.same rfl rfl fun id => crash_now id
 split
 · exact T.beg h.k (by omega) _
 split
 · show TI n (handleL c n _).1.1
   unfold handleL
   split; exact T
   split; exact T
   split
   · show TI n (probedL c n (a.drop 5)).1
     unfold probedL
     split; exact T
     rename_i h1
     split
     · have hlv : liveL (a.drop 5) (openC c n n) = true := by
         cases hl : liveL (a.drop 5) (openC c n n) with
         | true => rfl
         | false => exact absurd (.inr hl) h1
       have hN := isP_N (live_isP hlv)
       obtain ⟨q, hq, ej⟩ := vicL_mem (m := a.drop 5) (fld (a.drop 5) 11).toNat
       obtain ⟨i, hi', e⟩ := openC_mem h.k.cur _ (live_mem hlv (j := q) (by omega))
       have e : stTx (a.drop 5) q = (i : Int) + 1 := e
       rw [e] at ej
       have hx : c.txs[i]? = some c.txs[i] := List.getElem?_eq_getElem hi'
       show TI n (abtC c (eL c.txs (vicL (a.drop 5) (fld (a.drop 5) 11).toNat)) (vicL (a.drop 5) (fld (a.drop 5) 11).toNat - 1).toNat 4).1
       rw [ej, eL_at hx, show ((i : Int) + 1 - 1).toNat = i by omega]
       exact T.abt h.k hx _
     split; exact T
     split; exact T
     exact T
   split; exact T
   rename_i h4
   have hin : inL c.txs (fld (a.drop 5) 3) = true := by simpa using h4
   exact T.comes h.k (eL_some hin) _
 split
 · show TI n (tickL n c).1
   have h1 : TI n (tick1 c) := T.same rfl rfl fun _ => rfl
   have h2 : TI n (tickC c).1 := h1.lsN h.k.tick1 _ _
   unfold tickL
   split
   · exact h2.same rfl rfl fun _ => rfl
   · exact h2
 · exact T
theorem TI.run {n : Nat} {c : Co} (h : CoA n 0 c) (T : TI n c) (al : List (List Int)) : ∀ j : Nat, j ≤ 100 → TI n (runC n c al j)
 | 0, _ => T
 | j + 1, hj => (TI.run h T al j (by omega)).act (CoA.run h al j (by omega)) (by omega) _
end Go.Proofs.YtadnlannbafjpaaGreat
