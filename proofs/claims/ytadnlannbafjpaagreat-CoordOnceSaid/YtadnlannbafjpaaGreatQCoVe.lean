/- A coordinator: Begin's contract, whatever is asked; an act, plain, and what it keeps. -/
import Derived.Test.YtadnlannbafjpaaGreatQCoVc
import Derived.Test.YtadnlannbafjpaaGreatQCoTi
import Derived.Test.YtadnlannbafjpaaGreatQCoR
import Derived.Test.YtadnlannbafjpaaGreatQCoTh
namespace Go.Proofs.YtadnlannbafjpaaGreat
open Go.RowKit
set_option linter.unusedVariables false
set_option linter.unusedSimpArgs false
theorem alive0 {n : Nat} {cl : List Cl} {id : Int} (h : mayL n cl id = 0) : (clAt cl (id - 1).toNat).dead = false := by
 have h1 := may0 h
 have hn : ¬ (id < 1 ∨ (n : Int) < id) := by omega
 cases hd : (clAt cl (id - 1).toNat).dead with
 | false => rfl
 | true =>
   exfalso
   have ha : aliveL n cl id = false := by unfold aliveL; rw [if_neg hn, hd]; rfl
   unfold mayL at h
   rw [if_neg hn, if_pos ha] at h
   exact absurd h (by decide)
theorem CoK.ofN {n k : Nat} {c : Co} (K : CoK n k c) : ofL ((c.txs.length : Int) + 1) c.cl = 0 := by
 refine ofL_miss fun x hx ⟨_, e⟩ => ?_
 obtain ⟨j, hj, rfl⟩ := List.getElem_of_mem hx
 have hjn : j < n := by rw [← K.ncl]; exact hj
 have hv : nowL n c.cl ((j : Int) + 1) = (c.txs.length : Int) + 1 := by
   unfold nowL
   rw [if_neg (by omega), show ((j : Int) + 1 - 1).toNat = j by omega, clAt_get hj]; exact e
 rcases K.cur j hjn with h0 | ⟨i, hi, h0⟩
 · rw [hv] at h0; omega
 · rw [hv] at h0; omega
theorem CoK.begins {n k : Nat} {c : Co} (K : CoK n k c) (hk : k ≤ 1000) {id : Int} (hr : mayL n c.cl id = 0) (h0 : nowL n c.cl id = 0) : (beginL c.cl id ((c.txs.length : Int) + 1)).2 = 0 := by
 have h1 := may0 hr
 have hl := K.len
 have hd := alive0 hr
 have ht : (clAt c.cl (id - 1).toNat).tx = 0 := by unfold nowL at h0; rwa [if_neg (by omega)] at h0
 unfold beginL
 rw [K.ncl, if_neg (by omega), if_neg (by omega), hd, if_neg (by decide), ht, if_neg (by omega), K.ofN, if_neg (by omega)]
def begC (n : Nat) (c : Co) (id : Int) : Co × Int × Int :=
 if mayL n c.cl id ≠ 0 then (c, 0, mayL n c.cl id) else if nowL n c.cl id ≠ 0 then (c, 0, 8) else
 ({ c with cl := (beginL c.cl id ((c.txs.length : Int) + 1)).1, txs := c.txs ++ [newL ((c.txs.length : Int) + 1)], lf := c.lf ++ [(c.txs.length : Int) + 1], ev := c.ev ++ [[1, id, (c.txs.length : Int) + 1, 0, 0, 0, 0]] }, (c.txs.length : Int) + 1, 0)
section
variable {g n k : Nat} {c : Co} {P : Pt}
theorem begin_any (id : Int) (w : World) (h : CoM w g n c P) (K : CoK n k c) (F : CoF c) (hk : k ≤ 900) :
   Calls Tryz.prog 23 #[.pointer (some ⟨g, 0, none⟩), .int .i64 id] w fun e w' => e = .returned (.tuple #[.int .i64 (begC n c id).2.1, errV (begC n c id).2.2]) ∧ ∃ P', CoS w w' g n P (fun _ => False) (begC n c id).1 P' := by
 have hlen : c.txs.length = P.L.length := h.r.len
 have hkl := K.len
 have hfl := F.len
 unfold begC
 by_cases hr : mayL n c.cl id = 0
 · rw [if_neg (fun e => e hr)]
   by_cases h0 : nowL n c.cl id = 0
   · rw [if_neg (fun e => e h0)]
     have hb := K.begins (by omega) hr h0
     exact (begin_ok id w h hr h0 c.txs.length hlen.symm (by omega) (by omega) (by have := K.ev; omega) _ (Prod.ext rfl hb) _ rfl).mono fun e w' q => q
   · rw [if_pos h0]
     exact (begin_busy id w h hr _ rfl h0).mono fun e w' q => ⟨by rw [q.1]; rfl, P, by obtain rfl := q.2; exact CoS.below h (Below.refl _ _)⟩
 · rw [if_pos hr]
   exact (begin_may id w h _ rfl hr).mono fun e w' q => ⟨q.1, P, by obtain rfl := q.2; exact CoS.below h (Below.refl _ _)⟩
end
theorem CoK.begC {n k : Nat} {c : Co} (K : CoK n k c) (hk : k ≤ 900) (id : Int) : CoK n (k + 1) (begC n c id).1 := by
 unfold Go.Proofs.YtadnlannbafjpaaGreat.begC
 split
 · exact K.more (by omega)
 · split
   · exact K.more (by omega)
   · rename_i h1 h2
     exact K.began (by omega) (cl' := (beginL c.cl id ((c.txs.length : Int) + 1)).1) (Prod.ext rfl (K.begins (by omega) (Decidable.not_not.1 h1) (Decidable.not_not.1 h2))) _ _
theorem CoF.begC {n : Nat} {c : Co} (F : CoF c) (id : Int) : CoF (begC n c id).1 := by
 unfold Go.Proofs.YtadnlannbafjpaaGreat.begC
 split
 · exact F
 · split
   · exact F
   · refine ⟨fun t ht => ?_, ?_⟩
     · show ∃ i : Nat, i < (c.txs ++ [newL ((c.txs.length : Int) + 1)]).length ∧ t = (i : Int) + 1
       rw [List.length_append, List.length_singleton]
       rcases List.mem_append.1 ht with h | h
       · obtain ⟨i, hi, e⟩ := F.inn t h; exact ⟨i, by omega, e⟩
       · exact ⟨c.txs.length, by omega, List.mem_singleton.1 h⟩
     · show (c.lf ++ [(c.txs.length : Int) + 1]).length ≤ (c.txs ++ [newL ((c.txs.length : Int) + 1)]).length
       rw [List.length_append, List.length_append]; have := F.len; simp; omega
def actC (n : Nat) (c : Co) (a : List Int) : (Co × List (List Int)) × Int × Int :=
 if fld a 0 = 0 then ((lockC n c (fld a 1) (fld a 2) (fld a 3) (fld a 4)).1, 0, (lockC n c (fld a 1) (fld a 2) (fld a 3) (fld a 4)).2) else
 if fld a 0 = 1 then ((finC n c (fld a 1)).1, 0, (finC n c (fld a 1)).2) else
 if fld a 0 = 2 then ((abrC n c (fld a 1)).1, 0, (abrC n c (fld a 1)).2) else
 if fld a 0 = 3 then (((craC c (fld a 1)).1, []), 0, (craC c (fld a 1)).2) else
 if fld a 0 = 4 then (((begC n c (fld a 1)).1, []), (begC n c (fld a 1)).2.1, (begC n c (fld a 1)).2.2) else
 if fld a 0 = 5 then ((handleL c n (a.drop 5)).1, 0, (handleL c n (a.drop 5)).2) else
 if fld a 0 = 6 then (tickL n c, 0, 0) else ((c, []), 0, 0)
theorem Kept.comes (c : Co) (x : Tr) (m : List Int) (i : Nat) : Kept c (comesL c x m i).1 := by
 have st : ∀ (y : Tr) (e : List (List Int)), Kept c { c with txs := c.txs.set i y, ev := e } := fun y e => ⟨rfl, rfl, rfl, List.length_set⟩
 have st' : ∀ (y : Tr), Kept c { c with txs := c.txs.set i y } := fun y => ⟨rfl, rfl, rfl, List.length_set⟩
 unfold comesL
 split
 · split
   · exact st _ _
   · exact Kept.refl _
 split
 · split
   · exact st _ _
   · exact Kept.refl _
 split
 · split
   · exact Kept.bec _ _ _
   · exact Kept.refl _
 split
 · split
   · exact st' _
   · exact Kept.refl _
 split
 · exact Kept.abt _ _ _ _
 split
 · split
   · exact Kept.refl _
   · exact Kept.abt _ _ _ _
 · exact Kept.refl _
theorem Kept.probed (c : Co) (n : Nat) (m : List Int) : Kept c (probedL c n m).1 := by
 unfold probedL
 split
 · exact Kept.refl _
 split
 · exact Kept.abt _ _ _ _
 split
 · exact Kept.refl _
 split
 · exact Kept.refl _
 · exact Kept.refl _
theorem Kept.handle (c : Co) (n : Nat) (m : List Int) : Kept c (handleL c n m).1.1 := by
 unfold handleL
 split
 · exact Kept.refl _
 split
 · exact Kept.refl _
 split
 · exact Kept.probed _ _ _
 split
 · exact Kept.refl _
 · exact Kept.comes _ _ _ _
theorem Kept.lock (n : Nat) (c : Co) (id a0 a1 md : Int) : Kept c (lockC n c id a0 a1 md).1.1 := by
 unfold lockC
 split
 · exact Kept.refl _
 split
 · exact Kept.refl _
 split
 · exact Kept.refl _
 split
 · exact ⟨rfl, rfl, rfl, List.length_set⟩
 · exact Kept.refl _
theorem Kept.fin (n : Nat) (c : Co) (id : Int) : Kept c (finC n c id).1.1 := by
 unfold finC
 split
 · exact Kept.refl _
 split
 · exact Kept.refl _
 split
 · exact Kept.bec _ _ _
 · exact Kept.refl _
theorem Kept.abr (n : Nat) (c : Co) (id : Int) : Kept c (abrC n c id).1.1 := by
 unfold abrC
 split
 · exact Kept.refl _
 split
 · exact Kept.refl _
 split
 · exact Kept.refl _
 · exact Kept.abt _ _ _ _
theorem Kept.cra (c : Co) (id : Int) : Kept c (craC c id).1 := by
 unfold craC
 split
 · exact ⟨rfl, rfl, rfl, rfl⟩
 · exact ⟨rfl, rfl, rfl, rfl⟩
theorem CoK.lockC {n k : Nat} {c : Co} (K : CoK n k c) (id a0 a1 md : Int) : CoK n (k + 1) (lockC n c id a0 a1 md).1.1 := by
 unfold Go.Proofs.YtadnlannbafjpaaGreat.lockC
 split
 · exact K.more (by omega)
 split
 · exact K.more (by omega)
 split
 · exact K.more (by omega)
 split
 · rename_i h1 h2 h3 h4
   obtain ⟨i, x, hi, hlt, hx⟩ := K.now (Decidable.not_not.1 h1) h2
   rw [hi, eL_at hx, show ((i : Int) + 1 - 1).toNat = i by omega]
   rw [hi, eL_at hx] at h4
   exact K.lock hx h4 _
 · exact K.more (by omega)
theorem CoK.finC {n k : Nat} {c : Co} (K : CoK n k c) (id : Int) : CoK n (k + 1) (finC n c id).1.1 := by
 unfold Go.Proofs.YtadnlannbafjpaaGreat.finC
 split
 · exact K.more (by omega)
 split
 · exact K.more (by omega)
 split
 · rename_i h1 h2 h4
   obtain ⟨i, x, hi, hlt, hx⟩ := K.now (Decidable.not_not.1 h1) h2
   rw [hi, eL_at hx, show ((i : Int) + 1 - 1).toNat = i by omega]
   rw [hi, eL_at hx] at h4
   exact K.finish hx h4
 · exact K.more (by omega)
theorem CoK.abrC {n k : Nat} {c : Co} (K : CoK n k c) (id : Int) : CoK n (k + 1) (abrC n c id).1.1 := by
 unfold Go.Proofs.YtadnlannbafjpaaGreat.abrC
 split
 · exact K.more (by omega)
 split
 · exact K.more (by omega)
 split
 · exact K.more (by omega)
 · rename_i h1 h2 h4
   obtain ⟨i, x, hi, hlt, hx⟩ := K.now (Decidable.not_not.1 h1) h2
   rw [hi, eL_at hx, show ((i : Int) + 1 - 1).toNat = i by omega]
   exact K.abt hx
theorem CoK.craC {n k : Nat} {c : Co} (K : CoK n k c) (id : Int) : CoK n (k + 1) (craC c id).1 := by
 unfold Go.Proofs.YtadnlannbafjpaaGreat.craC
 split
 · exact K.crash id _
 · have := K.crash id []
   exact ⟨this.n8, this.ncl, by have := K.len; show c.txs.length ≤ k + 1; omega, by have := K.ev; show c.ev.length ≤ 2 * (k + 1); omega, this.tx, this.cur⟩
theorem tickL_K {n k : Nat} {c : Co} (K : CoK n k c) : CoK n (k + 8) (tickL n c).1 := by
 have hn : (lostR (tick1 c).tm c.cf.le c.cl).length ≤ 8 := by have := lostR_len (now := (tick1 c).tm) (span := c.cf.le) (L := c.cl); have := K.ncl; have := K.n8; omega
 have h1 : CoK n (k + 8) (tickC c).1 := (K.tick1.lsN _ _).more (by omega)
 unfold Go.Proofs.YtadnlannbafjpaaGreat.tickL
 split
 · exact ⟨h1.n8, h1.ncl, h1.len, h1.ev, h1.tx, h1.cur⟩
 · exact h1
theorem leftL_kept {c : Co} (F : CoF c) : CoF { c with lf := leftL c } := ⟨fun t ht => F.inn t (List.mem_filter.1 ht).1, left_len F⟩
theorem CoF.tickL {n : Nat} {c : Co} (F : CoF c) : CoF (tickL n c).1 := by
 have h1 : CoF (tickC c).1 := F.tick1.kept (Kept.lsN _ _ _)
 unfold Go.Proofs.YtadnlannbafjpaaGreat.tickL
 split
 · exact leftL_kept h1
 · exact h1
structure CoA (n j : Nat) (c : Co) : Prop where
 k : CoK n (9 * j) c
 f : CoF c
 sh : 1 ≤ c.cf.sh ∧ c.cf.sh ≤ 64
 re : 1 ≤ c.cf.re ∧ c.cf.re ≤ 1099511627776
 tm : 0 ≤ c.tm ∧ c.tm ≤ j
theorem CoA.of {n j : Nat} {c c' : Co} (h : CoA n j c) (hk : CoK n (9 * j + 1) c') (q : Kept c c') : CoA n (j + 1) c' :=
 ⟨hk.more (by omega), h.f.kept q, by rw [q.cf]; exact h.sh, by rw [q.cf]; exact h.re, by rw [q.tm]; have := h.tm; omega⟩
theorem CoA.act {n j : Nat} {c : Co} (h : CoA n j c) (hj : j < 100) (a : List Int) : CoA n (j + 1) (actC n c a).1.1 := by
 unfold actC
 split
 · exact h.of (h.k.lockC _ _ _ _) (Kept.lock _ _ _ _ _ _)
 split
 · exact h.of (h.k.finC _) (Kept.fin _ _ _)
 split
 · exact h.of (h.k.abrC _) (Kept.abr _ _ _)
 split
 · exact h.of (h.k.craC _) (Kept.cra _ _)
 split
 · have hb := h.k.begC (by omega) (fld a 1)
   have hcf : (begC n c (fld a 1)).1.cf = c.cf := by unfold begC; split; rfl; split <;> rfl
   have htm : (begC n c (fld a 1)).1.tm = c.tm := by unfold begC; split; rfl; split <;> rfl
   refine ⟨hb.more (by omega), h.f.begC _, ?_, ?_, ?_⟩
   · show 1 ≤ (begC n c (fld a 1)).1.cf.sh ∧ (begC n c (fld a 1)).1.cf.sh ≤ 64; rw [hcf]; exact h.sh
   · show 1 ≤ (begC n c (fld a 1)).1.cf.re ∧ (begC n c (fld a 1)).1.cf.re ≤ 1099511627776; rw [hcf]; exact h.re
   · show 0 ≤ (begC n c (fld a 1)).1.tm ∧ (begC n c (fld a 1)).1.tm ≤ ((j + 1 : Nat) : Int); rw [htm]; have := h.tm; omega
 split
 · exact h.of (h.k.handle _) (Kept.handle _ _ _)
 split
 · have q := Kept.lsN (tick1 c) (lostR (tick1 c).tm c.cf.le c.cl) (lostR (tick1 c).tm c.cf.le c.cl).length
   have hcf : (tickL n c).1.cf = c.cf := by unfold tickL; split; exact q.cf; exact q.cf
   have htm : (tickL n c).1.tm = c.tm + 1 := by unfold tickL; split; exact q.tm; exact q.tm
   refine ⟨(tickL_K h.k).more (by omega), h.f.tickL, ?_, ?_, ?_⟩
   · show 1 ≤ (tickL n c).1.cf.sh ∧ (tickL n c).1.cf.sh ≤ 64; rw [hcf]; exact h.sh
   · show 1 ≤ (tickL n c).1.cf.re ∧ (tickL n c).1.cf.re ≤ 1099511627776; rw [hcf]; exact h.re
   · show 0 ≤ (tickL n c).1.tm ∧ (tickL n c).1.tm ≤ ((j + 1 : Nat) : Int); rw [htm]; have := h.tm; omega
 · exact h.of (h.k.more (by omega)) (Kept.refl _)
end Go.Proofs.YtadnlannbafjpaaGreat
