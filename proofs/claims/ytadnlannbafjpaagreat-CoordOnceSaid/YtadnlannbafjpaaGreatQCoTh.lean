/- A coordinator, plain: what holds of it all along. -/
import Derived.Test.YtadnlannbafjpaaGreatQCoJc
import Derived.Test.YtadnlannbafjpaaGreatQCoTg
namespace Go.Proofs.YtadnlannbafjpaaGreat
open Go.RowKit
set_option linter.unusedVariables false
set_option linter.unusedSimpArgs false
structure CoK (n k : Nat) (c : Co) : Prop where
 n8 : n ≤ 8
 ncl : c.cl.length = n
 len : c.txs.length ≤ k
 ev : c.ev.length ≤ 2 * k
 tx : ∀ (i : Nat) (x : Tr), c.txs[i]? = some x → x.tx = (i : Int) + 1 ∧ TrOk x k
 cur : ∀ j : Nat, j < n → nowL n c.cl ((j : Int) + 1) = 0 ∨ ∃ i : Nat, i < c.txs.length ∧ nowL n c.cl ((j : Int) + 1) = (i : Int) + 1
theorem CoK.good {n k : Nat} {c : Co} (h : CoK n k c) (hk : k ≤ 1000) : CoG n c where
 n8 := h.n8
 len := Nat.le_trans h.len hk
 ev := by have := h.ev; omega
 tx := fun i x hx => ⟨(h.tx i x hx).1, (h.tx i x hx).2.short hk, (h.tx i x hx).2.tch, (h.tx i x hx).2.vts, (h.tx i x hx).2.acks⟩
 cur := h.cur
theorem CoK.more {n k k' : Nat} {c : Co} (h : CoK n k c) (hk : k ≤ k') : CoK n k' c where
 n8 := h.n8
 ncl := h.ncl
 len := Nat.le_trans h.len hk
 ev := by have := h.ev; omega
 tx := fun i x hx => ⟨(h.tx i x hx).1, (h.tx i x hx).2.more hk⟩
 cur := h.cur
theorem CoK.step {n k : Nat} {c : Co} (h : CoK n k c) {i : Nat} {y : Tr} (hy : y.tx = (i : Int) + 1) (ok : TrOk y (k + 1)) {ev' : List (List Int)} (hev : ev'.length ≤ c.ev.length + 2) {cl' : List Cl} (hl : cl'.length = n) (hc : ∀ j : Nat, j < n → nowL n cl' ((j : Int) + 1) = nowL n c.cl ((j : Int) + 1) ∨ nowL n cl' ((j : Int) + 1) = 0) :
   CoK n (k + 1) { c with txs := c.txs.set i y, ev := ev', cl := cl' } where
 n8 := h.n8
 ncl := hl
 len := by show (c.txs.set i y).length ≤ k + 1; rw [List.length_set]; have := h.len; omega
 ev := by show ev'.length ≤ 2 * (k + 1); have := h.ev; omega
 tx := fun j x hx => by
   have hx : (c.txs.set i y)[j]? = some x := hx
   by_cases e : i = j
   · subst e
     rw [List.getElem?_set_self' ] at hx
     cases hq : c.txs[i]? with
     | none => rw [hq] at hx; cases hx
     | some q => rw [hq] at hx; injection hx with hx; rw [← hx]; exact ⟨hy, ok⟩
   · rw [List.getElem?_set_ne e] at hx
     exact ⟨(h.tx j x hx).1, (h.tx j x hx).2.more (by omega)⟩
 cur := fun j hj => by
   show nowL n cl' ((j : Int) + 1) = 0 ∨ ∃ i', i' < (c.txs.set i y).length ∧ nowL n cl' ((j : Int) + 1) = (i' : Int) + 1
   rw [List.length_set]
   rcases hc j hj with e | e
   · rw [e]; exact h.cur j hj
   · exact .inl e
theorem endL_len (L : List Cl) (t : Int) : (endL L t).1.length = L.length := by
 unfold endL
 split
 · rfl
 · simp
theorem endL_now (n : Nat) (L : List Cl) (t : Int) (j : Nat) : nowL n (endL L t).1 ((j : Int) + 1) = nowL n L ((j : Int) + 1) ∨ nowL n (endL L t).1 ((j : Int) + 1) = 0 := by
 unfold endL
 split
 · exact .inl rfl
 · unfold nowL
   split
   · exact .inl rfl
   · rw [show ((j : Int) + 1 - 1).toNat = j by omega]
     unfold clAt
     simp only [List.getD_eq_getElem?_getD]
     by_cases e : (ofL t L - 1).toNat = j
     · subst e
       by_cases hl : (ofL t L - 1).toNat < L.length
       · right; rw [List.getElem?_set_self hl]; rfl
       · left; rw [List.getElem?_eq_none (by rw [List.length_set]; omega), List.getElem?_eq_none (by omega)]
     · left; rw [List.getElem?_set_ne e]
theorem CoK.bec {n k : Nat} {c : Co} (h : CoK n k c) {i : Nat} {y : Tr} (hy : y.tx = (i : Int) + 1) (ok : TrOk y (k + 1)) : CoK n (k + 1) (becL c y i).1 := by
 unfold becL
 split
 · exact h.step hy ok (ev' := c.ev) (by omega) h.ncl (fun j hj => .inl rfl)
 · split
   · exact h.step hy ok (by simp) (by rw [endL_len]; exact h.ncl) (fun j hj => endL_now n c.cl y.tx j)
   · exact h.step hy ok (by simp) h.ncl (fun j hj => .inl rfl)
theorem CoK.abt {n k : Nat} {c : Co} (h : CoK n k c) {i : Nat} {x : Tr} (hx : c.txs[i]? = some x) {r : Int} : CoK n (k + 1) (abtC c x i r).1 := by
 have gx := h.tx i x hx
 unfold abtC
 split
 · rename_i hc
   have hr : ¬ (r < 1 ∨ 5 < r) := fun hr => by unfold abtL at hc; rw [if_pos hr] at hc; cases hc
   have hd : ¬ (decided x = true) := fun hd => by unfold abtL at hc; rw [if_neg hr, if_pos hd] at hc; cases hc
   have e : (abtL x r).1 = abtX x r := by unfold abtL; rw [if_neg hr, if_neg hd]
   rw [e]
   exact h.bec gx.1 ((gx.2.abt (by omega)).more (by omega))
 · exact h.more (by omega)
theorem may_kind {m : List Int} (h : mayB m = true) : 1 ≤ fld m 0 ∧ fld m 0 ≤ 11 := by
 unfold mayB at h
 rw [Bool.and_eq_true] at h
 have h1 := h.1
 unfold goesB at h1
 refine Decidable.byContradiction fun hn => ?_
 rw [wayB_out (by omega)] at h1
 cases h1
def handleL (c : Co) (n : Nat) (m : List Int) : (Co × List (List Int)) × Int :=
 if mayB m = false then ((c, []), 5) else if fld m 2 ≠ 0 ∨ c.cf.sh < fld m 1 then ((c, []), 1) else
 if fld m 0 = 11 then (probedL c n m, 0) else if inL c.txs (fld m 3) = false then ((c, []), 0) else (comesL c (eL c.txs (fld m 3)) m (fld m 3 - 1).toNat, 0)
section
variable {g n : Nat} {c : Co} {P : Pt}
theorem handle_any (m : List Int) (w : World) (h : CoM w g n c P) (hm : m.length = 28) (G : CoG n c) (r : Co × List (List Int)) (cd : Int) (hr : handleL c n m = (r, cd)) :
   Calls Tryz.prog 31 #[.pointer (some ⟨g, 0, none⟩), .agg (mc m)] w fun e w' => ∃ u, e = .returned (.tuple #[u, errV cd]) ∧ MsgR w' w.heap.size u r.2 ∧ ∃ P', CoS w w' g n P (fun _ => False) r.1 P' := by
 have hl : P.L.length ≤ 1000 := by rw [← h.r.len]; exact G.len
 have nil : ∀ (k : Int) (e : Ending) (w' : World), (e = .returned (.tuple #[.slice none 0 0, errno k]) ∧ Below w.heap.size w w') → k ≠ 0 → ∃ u, e = .returned (.tuple #[u, errV k]) ∧ MsgR w' w.heap.size u [] ∧ ∃ P', CoS w w' g n P (fun _ => False) c P' := fun k e w' q hk =>
   ⟨_, by rw [q.1, errV_pos hk], World.ownsRow_nil _ _ _ _, _, CoS.below h q.2⟩
 unfold handleL at hr
 by_cases hb : mayB m = false
 · rw [if_pos hb] at hr
   injection hr with h1 h2
   subst h1 h2
   exact (handle_form m w h hm hb).mono fun e w' q => nil 5 e w' q (by decide)
 have hb' : mayB m = true := by simpa using hb
 rw [if_neg hb] at hr
 by_cases h2 : fld m 2 ≠ 0
 · rw [if_pos (.inl h2)] at hr
   injection hr with e1 e2
   subst e1 e2
   exact (handle_to m w h hm hb' h2).mono fun e w' q => nil 1 e w' q (by decide)
 have h2' : fld m 2 = 0 := by omega
 by_cases h1 : c.cf.sh < fld m 1
 · rw [if_pos (.inr h1)] at hr
   injection hr with e1 e2
   subst e1 e2
   exact (handle_from m w h hm hb' h2' h1).mono fun e w' q => nil 1 e w' q (by decide)
 rw [if_neg (by rintro (q | q); exact h2 q; exact h1 q)] at hr
 have h1' : fld m 1 ≤ c.cf.sh := by omega
 by_cases hk : fld m 0 = 11
 · rw [if_pos hk] at hr
   injection hr with e1 e2
   subst e1 e2
   rw [errV_zero]
   exact (handle_probe m w h hm hb' h2' h1' hk _ (fun W hW => probed_any m W hW hm G)).mono fun e w' q => q
 rw [if_neg hk] at hr
 by_cases hin : inL c.txs (fld m 3) = false
 · rw [if_pos hin] at hr
   injection hr with e1 e2
   subst e1 e2
   rw [errV_zero]
   exact (handle_none m w h hm hb' h2' h1' hk hl hin).mono fun e w' q => ⟨_, q.1, World.ownsRow_nil _ _ _ _, _, CoS.below h q.2⟩
 rw [if_neg hin] at hr
 injection hr with e1 e2
 subst e1 e2
 rw [errV_zero]
 have hin' : 1 ≤ fld m 3 ∧ fld m 3 ≤ (c.txs.length : Int) := by
   have : inL c.txs (fld m 3) = true := by simpa using hin
   unfold inL at this
   simpa using this
 obtain ⟨i, hi3⟩ : ∃ i : Nat, fld m 3 = (i : Int) + 1 := ⟨(fld m 3 - 1).toNat, by omega⟩
 have hi : i < P.L.length := by rw [← h.r.len]; omega
 obtain ⟨x, s, hq, hx⟩ := h.r.at_ hi
 have gx := G.tx i x hx
 have kk := may_kind hb'
 rw [hi3, eL_at hx, show ((i : Int) + 1 - 1).toNat = i by omega]
 exact (handle_msg m w h hm hb' h2' h1' hk hl G.ev i hi hi3 x s hq gx.2.1 gx.1 gx.2.2.1 gx.2.2.2.1 gx.2.2.2.2 (by omega) _ rfl).mono fun e w' q => q
end
theorem TrOk.ansL {x : Tr} {k : Nat} (h : TrOk x k) {m : List Int} (hc : (ansL x m).2.2 = 0) : TrOk (ansL x m).1 (k + 1) := by
 unfold Go.Proofs.YtadnlannbafjpaaGreat.ansL at hc ⊢
 split at hc
 · cases hc
 split at hc
 · cases hc
 split at hc
 · cases hc
 · rename_i h1 h2 h3
   rw [if_neg h1, if_neg h2, if_neg h3]
   exact h.ans m
theorem TrOk.ackL {x : Tr} {k : Nat} (h : TrOk x k) {m : List Int} (hc : (ackL x m).2.2 = 0) : TrOk (ackL x m).1 (k + 1) := by
 unfold Go.Proofs.YtadnlannbafjpaaGreat.ackL at hc ⊢
 split at hc
 · cases hc
 split at hc
 · cases hc
 split at hc
 · cases hc
 · rename_i h1 h2 h3
   rw [if_neg h1, if_neg h2, if_neg h3]
   exact (h.ack (by simpa using h3)).more (by omega)
theorem TrOk.finL {x : Tr} {k : Nat} (h : TrOk x k) (hc : (finL x).2.2 = 0) : TrOk (finL x).1 (k + 1) := by
 unfold Go.Proofs.YtadnlannbafjpaaGreat.finL at hc ⊢
 split at hc
 · cases hc
 split at hc
 · cases hc
 · rename_i h1 h2
   rw [if_neg h1, if_neg h2]
   exact (h.goOn (by simpa using h2) (.inl (by omega))).more (by omega)
theorem TrOk.votL {x : Tr} {k : Nat} (h : TrOk x k) {m : List Int} (hc : (votL x m).2.2 = 0) : TrOk (votL x m).1 (k + 1) := by
 unfold Go.Proofs.YtadnlannbafjpaaGreat.votL at hc ⊢
 split at hc
 · cases hc
 split at hc
 · cases hc
 split at hc
 · cases hc
 rename_i h1 h2 h3
 rw [if_neg h1, if_neg h2, if_neg h3]
 have hst : x.st = 2 := by omega
 have hn : fld m 1 ∈ x.tch := by simpa using h3
 split at hc
 · rename_i h4
   rw [if_pos h4]
   have hr : ¬ ((2 : Int) < 1 ∨ 5 < (2 : Int)) := by omega
   have hd : ¬ (decided x = true) := by unfold decided; simp; omega
   have e : (abtL x 2).1 = abtX x 2 := by unfold abtL; rw [if_neg hr, if_neg hd]
   rw [e]
   exact (h.abt (by omega)).more (by omega)
 · rename_i h4
   rw [if_neg h4]
   have hv := h.vot hn hst
   have hop : (votX x (fld m 1)).op = false := by
     cases ho : (votX x (fld m 1)).op with
     | false => rfl
     | true => have h5 := (hv.op ho).1; have h6 : (votX x (fld m 1)).st = 2 := hst; omega
   exact (hv.goOn hop (.inr hst)).more (by omega)
theorem ans_tx {x : Tr} {m : List Int} (hc : (ansL x m).2.2 = 0) : (ansL x m).1.tx = x.tx := (ans_ok (res3 hc)).1
theorem CoK.comes {n k : Nat} {c : Co} (h : CoK n k c) {i : Nat} {x : Tr} (hx : c.txs[i]? = some x) (m : List Int) : CoK n (k + 1) (comesL c x m i).1 := by
 have gx := h.tx i x hx
 have same : CoK n (k + 1) c := h.more (by omega)
 unfold comesL
 split
 · split
   · rename_i hc
     exact h.step ((ans_tx hc).trans gx.1) (gx.2.ansL hc) (by simp) h.ncl (fun j hj => .inl rfl)
   · exact same
 split
 · split
   · rename_i hc
     exact h.step ((ans_tx hc).trans gx.1) (gx.2.ansL hc) (by simp) h.ncl (fun j hj => .inl rfl)
   · exact same
 split
 · split
   · rename_i hc
     exact h.bec ((vot_ok (res3 hc)).1.trans gx.1) (gx.2.votL hc)
   · exact same
 split
 · split
   · rename_i hc
     exact h.step (ev' := c.ev) ((ack_ok (res3 hc)).1.trans gx.1) (gx.2.ackL hc) (by omega) h.ncl (fun j hj => .inl rfl)
   · exact same
 split
 · exact h.abt hx
 split
 · split
   · exact same
   · exact h.abt hx
 · exact same
theorem eL_some {l : List Tr} {k : Int} (h : inL l k = true) : l[(k - 1).toNat]? = some (eL l k) := by
 unfold inL at h
 rw [Bool.and_eq_true, decide_eq_true_iff, decide_eq_true_iff] at h
 unfold eL
 rw [if_pos h, List.getD_eq_getElem?_getD, List.getElem?_eq_getElem (by omega)]; rfl
theorem CoK.probed {n k : Nat} {c : Co} (h : CoK n k c) (m : List Int) : CoK n (k + 1) (probedL c n m).1 := by
 have same : CoK n (k + 1) c := h.more (by omega)
 unfold probedL
 split
 · exact same
 split
 · by_cases hi : inL c.txs (vicL m (fld m 11).toNat) = true
   · exact h.abt (eL_some hi)
   · rename_i h1 h2
     have hlv : liveL m (openC c n n) = true := by
       cases hl : liveL m (openC c n n) with
       | true => rfl
       | false => exact absurd (.inr hl) h1
     exfalso
     have hN := isP_N (live_isP hlv)
     obtain ⟨j, hj, ej⟩ := vicL_mem (m := m) (fld m 11).toNat
     obtain ⟨i, hi', e⟩ := openC_mem h.cur _ (live_mem hlv (j := j) (by omega))
     have e : stTx m j = (i : Int) + 1 := e
     refine hi ?_
     unfold inL
     rw [ej, e, decide_eq_true (by omega), decide_eq_true (by omega)]; rfl
 split
 · exact same
 split <;> exact same
theorem CoK.handle {n k : Nat} {c : Co} (h : CoK n k c) (m : List Int) : CoK n (k + 1) (handleL c n m).1.1 := by
 have same : CoK n (k + 1) c := h.more (by omega)
 unfold handleL
 split
 · exact same
 split
 · exact same
 split
 · exact h.probed m
 split
 · exact same
 · rename_i h4
   exact h.comes (eL_some (by simpa using h4)) m
theorem CoK.finish {n k : Nat} {c : Co} (h : CoK n k c) {i : Nat} {x : Tr} (hx : c.txs[i]? = some x) (hc : (finL x).2.2 = 0) : CoK n (k + 1) (becL c (finL x).1 i).1 :=
 h.bec ((fin_ok (res3 hc)).1.trans (h.tx i x hx).1) ((h.tx i x hx).2.finL hc)
def lsS (c : Co) (t : Int) : Co × List (List Int) := if (eL c.txs t).st = 1 then abtC c (eL c.txs t) (t - 1).toNat 5 else (c, [])
def lsN (c : Co) (l : List Int) : Nat → Co × List (List Int)
 | 0 => (c, [])
 | k + 1 => ((lsS (lsN c l k).1 (gd l k)).1, (lsN c l k).2 ++ (lsS (lsN c l k).1 (gd l k)).2)
def tick1 (c : Co) : Co := { c with tm := c.tm + 1 }
def tickC (c : Co) : Co × List (List Int) := lsN (tick1 c) (lostR (tick1 c).tm c.cf.le c.cl) (lostR (tick1 c).tm c.cf.le c.cl).length
def tickL (n : Nat) (c : Co) : Co × List (List Int) :=
 if (tick1 c).tm.tmod c.cf.re = 0 then ({ (tickC c).1 with lf := leftL (tickC c).1 }, (tickC c).2 ++ (leftL (tickC c).1).flatMap (agnL n (tickC c).1)) else tickC c
structure Kept (c c' : Co) : Prop where
 cf : c'.cf = c.cf
 tm : c'.tm = c.tm
 lf : c'.lf = c.lf
 len : c'.txs.length = c.txs.length
theorem Kept.refl (c : Co) : Kept c c := ⟨rfl, rfl, rfl, rfl⟩
theorem Kept.trans {c c' c'' : Co} (h : Kept c c') (h' : Kept c' c'') : Kept c c'' := ⟨h'.cf.trans h.cf, h'.tm.trans h.tm, h'.lf.trans h.lf, h'.len.trans h.len⟩
theorem Kept.bec (c : Co) (y : Tr) (i : Nat) : Kept c (becL c y i).1 := by
 unfold becL
 split
 · exact ⟨rfl, rfl, rfl, List.length_set⟩
 · split
   · exact ⟨rfl, rfl, rfl, List.length_set⟩
   · exact ⟨rfl, rfl, rfl, List.length_set⟩
theorem Kept.abt (c : Co) (x : Tr) (i : Nat) (r : Int) : Kept c (abtC c x i r).1 := by
 unfold abtC
 split
 · exact Kept.bec _ _ _
 · exact Kept.refl _
theorem Kept.lsS (c : Co) (t : Int) : Kept c (lsS c t).1 := by
 unfold Go.Proofs.YtadnlannbafjpaaGreat.lsS
 split
 · exact Kept.abt _ _ _ _
 · exact Kept.refl _
theorem Kept.lsN (c : Co) (l : List Int) : ∀ k : Nat, Kept c (lsN c l k).1
 | 0 => Kept.refl _
 | k + 1 => (Kept.lsN c l k).trans (Kept.lsS _ _)
theorem CoF.kept {c c' : Co} (h : CoF c) (k : Kept c c') : CoF c' := ⟨fun t ht => by rw [k.lf] at ht; rw [k.len]; exact h.inn t ht, by rw [k.lf, k.len]; exact h.len⟩
theorem eL_one {l : List Tr} {t : Int} (h : (eL l t).st = 1) : ∃ i : Nat, t = (i : Int) + 1 ∧ i < l.length ∧ l[i]? = some (eL l t) := by
 unfold eL at h ⊢
 split at h
 · rename_i hr
   rw [if_pos hr]
   refine ⟨(t - 1).toNat, by omega, by omega, ?_⟩
   rw [List.getD_eq_getElem?_getD, List.getElem?_eq_getElem (by omega)]; rfl
 · exact absurd h (by decide)
theorem abt_few' {c : Co} {x : Tr} (hx : x.tch.length ≤ 64) (i : Nat) (r : Int) : (abtC c x i r).2.length ≤ 64 := by
 unfold abtC
 split
 · show (abtL x r).2.1.length ≤ 64
   unfold abtL
   split
   · exact Nat.zero_le _
   · split
     · exact Nat.zero_le _
     · show (x.tch.map _).length ≤ 64
       rw [List.length_map]; exact hx
 · exact Nat.zero_le _
theorem CoK.lsS {n k : Nat} {c : Co} (h : CoK n k c) (t : Int) : CoK n (k + 1) (lsS c t).1 := by
 unfold Go.Proofs.YtadnlannbafjpaaGreat.lsS
 split
 · rename_i h1
   obtain ⟨i, rfl, hi, hx⟩ := eL_one h1
   rw [show ((i : Int) + 1 - 1).toNat = i by omega]
   exact h.abt hx
 · exact h.more (by omega)
theorem CoK.lsN {n k : Nat} {c : Co} (h : CoK n k c) (l : List Int) : ∀ j : Nat, CoK n (k + j) (lsN c l j).1
 | 0 => h
 | j + 1 => (CoK.lsN h l j).lsS _
theorem lsS_few {n k : Nat} {c : Co} (h : CoK n k c) (t : Int) : (lsS c t).2.length ≤ 64 := by
 unfold lsS
 split
 · rename_i h1
   obtain ⟨i, rfl, hi, hx⟩ := eL_one h1
   exact abt_few' (h.tx i _ hx).2.tch.len _ _
 · exact Nat.zero_le _
theorem lsN_few {n k : Nat} {c : Co} (h : CoK n k c) (l : List Int) : ∀ j : Nat, (lsN c l j).2.length ≤ 64 * j
 | 0 => Nat.le_refl _
 | j + 1 => by
   have h1 := lsN_few h l j
   have h2 := lsS_few (h.lsN l j) (gd l j)
   show ((lsN c l j).2 ++ (lsS (lsN c l j).1 (gd l j)).2).length ≤ _
   rw [List.length_append]; omega
theorem CoK.tick1 {n k : Nat} {c : Co} (h : CoK n k c) : CoK n k (tick1 c) := ⟨h.n8, h.ncl, h.len, h.ev, h.tx, h.cur⟩
theorem CoF.tick1 {c : Co} (h : CoF c) : CoF (tick1 c) := ⟨h.inn, h.len⟩
section
variable {w w' : World} {g n p B : Nat} {c c' : Co} {P P' : Pt} {v : Value} {ms : List (List Int)}
theorem TkS.act (h : TkS w g n p B c P v ms) (hs : CoS w w' g n P (fun _ => False) c' P') : TkQ w w' g n p B P v c' P' v ms :=
 ⟨⟨hs.m, h.box.turn hs.turn (fun e => (h.pown (.inl e)).1 rfl), own_turn h.row hs.turn (fun k hk e => (h.pown (.inl e)).2 hk), Nat.le_trans h.hB hs.turn.size⟩, hs.turn.mono (fun k _ hk => .inl hk), hs.tur, fun k hk => (hs.own k hk).elim .inl (fun e => .inr (e.resolve_right id)), .inl rfl⟩
theorem CoS.time (h : CoM w g n c P) : CoS w (w.setCell ⟨g, 9, none⟩ (.int .i64 (c.tm + 1))) g n P (fun _ => False) (tick1 c) P := by
 have hT : Turn (fun k => k = g) w (w.setCell ⟨g, 9, none⟩ (.int .i64 (c.tm + 1))) := (Turn.refl (fun k => k = g) w).setCell (p := ⟨g, 9, none⟩) (fun _ => rfl) _
 have hR : CoR w n (tick1 c) P := ⟨h.r.cli, h.r.txr, h.r.txs, h.r.sls, h.r.lfr, h.r.evr, h.r.ap⟩
 refine ⟨⟨h.box.set_ 9 _, ?_⟩, hT.mono (fun k _ hk => .inl hk), fun k hk => .inl hk, fun k hk => .inl hk⟩
 refine hR.turn hT fun k hk => ?_
 exact hR.offB h.box (by decide) (by decide) (by decide) (by decide) (by decide) hk
end
end Go.Proofs.YtadnlannbafjpaaGreat
