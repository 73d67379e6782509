/- A coordinator, plain: what holds stays so when it begins, asks, crashes; a new one. -/
import Derived.Test.YtadnlannbafjpaaGreatQCoTh
import Derived.Test.YtadnlannbafjpaaGreatQCoW
import Derived.Test.YtadnlannbafjpaaGreatQCoV
import Derived.Test.YtadnlannbafjpaaGreatQCoU
namespace Go.Proofs.YtadnlannbafjpaaGreat
open Go.RowKit
set_option linter.unusedVariables false
set_option linter.unusedSimpArgs false
theorem TrOk.askL {x : Tr} {k : Nat} (h : TrOk x k) {sh a0 a1 md : Int} (hc : (askL x sh a0 a1 md).2.2 = 0) : TrOk (askL x sh a0 a1 md).1 (k + 1) ∧ (askL x sh a0 a1 md).1.tx = x.tx := by
 unfold Go.Proofs.YtadnlannbafjpaaGreat.askL at hc ⊢
 split at hc
 · cases hc
 split at hc
 · cases hc
 split at hc
 · cases hc
 split at hc
 · cases hc
 · rename_i h1 h2 h3 h4
   rw [if_neg h1, if_neg h2, if_neg h3, if_neg h4]
   exact ⟨(h.ask h1 (by omega) h4).more (by omega), rfl⟩
theorem CoK.lock {n k : Nat} {c : Co} (h : CoK n k c) {i : Nat} {x : Tr} (hx : c.txs[i]? = some x) {sh a0 a1 md : Int} (hc : (askL x sh a0 a1 md).2.2 = 0) (e : List Int) : CoK n (k + 1) { c with txs := c.txs.set i (askL x sh a0 a1 md).1, ev := c.ev ++ [e] } :=
 h.step (((h.tx i x hx).2.askL hc).2.trans (h.tx i x hx).1) ((h.tx i x hx).2.askL hc).1 (by simp) h.ncl (fun j hj => .inl rfl)
theorem crashL_len (L : List Cl) (id now : Int) : (crashL L id now).1.length = L.length := by
 unfold crashL
 split; rfl
 split; rfl
 split
 · rfl
 · simp
theorem crashL_now (n : Nat) (L : List Cl) (id now : Int) (j : Nat) : nowL n (crashL L id now).1 ((j : Int) + 1) = nowL n L ((j : Int) + 1) := by
 unfold crashL
 split; rfl
 split; rfl
 split; rfl
 rename_i h1 h2 h3
 unfold nowL
 split; rfl
 rw [show ((j : Int) + 1 - 1).toNat = j by omega]
 unfold clAt
 simp only [List.getD_eq_getElem?_getD]
 by_cases e : (id - 1).toNat = j
 · subst e
   have hl : (id - 1).toNat < L.length := by omega
   rw [List.getElem?_set_self hl, List.getElem?_eq_getElem hl]; rfl
 · rw [List.getElem?_set_ne e]
theorem CoK.crash {n k : Nat} {c : Co} (h : CoK n k c) (id : Int) (e : List Int) : CoK n (k + 1) { c with cl := (crashL c.cl id c.tm).1, ev := c.ev ++ [e] } where
 n8 := h.n8
 ncl := by show (crashL c.cl id c.tm).1.length = n; rw [crashL_len]; exact h.ncl
 len := by have := h.len; show c.txs.length ≤ k + 1; omega
 ev := by have := h.ev; show (c.ev ++ [e]).length ≤ 2 * (k + 1); rw [List.length_append, List.length_singleton]; omega
 tx := fun i x hx => ⟨(h.tx i x hx).1, (h.tx i x hx).2.more (by omega)⟩
 cur := fun j hj => by show nowL n (crashL c.cl id c.tm).1 _ = 0 ∨ _; rw [crashL_now]; exact h.cur j hj
theorem beginL_ok {L cl' : List Cl} {id tx : Int} (h : beginL L id tx = (cl', 0)) : cl'.length = L.length ∧ ∀ (n j : Nat), nowL n cl' ((j : Int) + 1) = nowL n L ((j : Int) + 1) ∨ nowL n cl' ((j : Int) + 1) = tx := by
 unfold beginL at h
 split at h; · injection h with _ h; cases h
 split at h; · injection h with _ h; cases h
 split at h; · injection h with _ h; cases h
 split at h; · injection h with _ h; cases h
 split at h; · injection h with _ h; cases h
 rename_i h1 h2 h3 h4 h5
 injection h with h _
 subst h
 refine ⟨by simp, fun n j => ?_⟩
 unfold nowL
 split
 · exact .inl rfl
 · rw [show ((j : Int) + 1 - 1).toNat = j by omega]
   by_cases e : (id - 1).toNat = j
   · subst e
     right
     have hl : (id - 1).toNat < L.length := by omega
     unfold clAt
     simp only [List.getD_eq_getElem?_getD]
     rw [List.getElem?_set_self hl]; rfl
   · left
     unfold clAt
     simp only [List.getD_eq_getElem?_getD]
     rw [List.getElem?_set_ne e]
theorem CoK.began {n k : Nat} {c : Co} (h : CoK n k c) (hk : k ≤ 1000) {id : Int} {cl' : List Cl} (hb : beginL c.cl id ((c.txs.length : Int) + 1) = (cl', 0)) (lf : List Int) (e : List Int) :
   CoK n (k + 1) { c with cl := cl', txs := c.txs ++ [newL ((c.txs.length : Int) + 1)], lf := lf, ev := c.ev ++ [e] } where
 n8 := h.n8
 ncl := (beginL_ok hb).1.trans h.ncl
 len := by have := h.len; show (c.txs ++ [newL ((c.txs.length : Int) + 1)]).length ≤ k + 1; rw [List.length_append, List.length_singleton]; omega
 ev := by have := h.ev; show (c.ev ++ [e]).length ≤ 2 * (k + 1); rw [List.length_append, List.length_singleton]; omega
 tx := fun i x hx => by
   have hx : (c.txs ++ [newL ((c.txs.length : Int) + 1)])[i]? = some x := hx
   by_cases hi : i < c.txs.length
   · rw [List.getElem?_append_left hi] at hx
     exact ⟨(h.tx i x hx).1, (h.tx i x hx).2.more (by omega)⟩
   · rw [List.getElem?_append_right (by omega)] at hx
     have h0 : i - c.txs.length = 0 := by
       have := (List.getElem?_eq_some_iff.1 hx).1
       simp at this; omega
     rw [h0] at hx
     injection hx with hx
     subst hx
     have := h.len
     exact ⟨by show (c.txs.length : Int) + 1 = (i : Int) + 1; omega, TrOk.new ⟨by omega, by omega⟩ _⟩
 cur := fun j hj => by
   show nowL n cl' ((j : Int) + 1) = 0 ∨ ∃ i, i < (c.txs ++ [newL ((c.txs.length : Int) + 1)]).length ∧ nowL n cl' ((j : Int) + 1) = (i : Int) + 1
   rw [List.length_append, List.length_singleton]
   rcases (beginL_ok hb).2 n j with e | e
   · rw [e]
     rcases h.cur j hj with e0 | ⟨i, hi, e0⟩
     · exact .inl e0
     · exact .inr ⟨i, by omega, e0⟩
   · exact .inr ⟨c.txs.length, by omega, e⟩
theorem CoK.new {n : Nat} (f : Cfg) (hn : n ≤ 8) : CoK n 0 (newCo f n) where
 n8 := hn
 ncl := List.length_replicate
 len := Nat.le_refl 0
 ev := Nat.le_refl 0
 tx := fun i x hx => by cases hx
 cur := fun j hj => by
   left
   unfold nowL newCo
   split
   · rfl
   · unfold clAt
     simp only [List.getD_eq_getElem?_getD]
     by_cases h : ((j : Int) + 1 - 1).toNat < n
     · rw [List.getElem?_replicate, if_pos h]; rfl
     · rw [List.getElem?_replicate, if_neg h]; rfl
theorem may0 {n : Nat} {cl : List Cl} {id : Int} (h : mayL n cl id = 0) : 1 ≤ id ∧ id ≤ (n : Int) := by
 unfold mayL at h
 split at h
 · exact absurd h (by decide)
 · omega
theorem CoK.now {n k : Nat} {c : Co} (K : CoK n k c) {id : Int} (hr : mayL n c.cl id = 0) (h0 : nowL n c.cl id ≠ 0) : ∃ (i : Nat) (x : Tr), nowL n c.cl id = (i : Int) + 1 ∧ i < c.txs.length ∧ c.txs[i]? = some x := by
 have h1 := may0 hr
 obtain ⟨j, rfl⟩ : ∃ j : Nat, id = (j : Int) + 1 := ⟨(id - 1).toNat, by omega⟩
 obtain ⟨i, hi, e⟩ := (K.cur j (by omega)).resolve_left h0
 exact ⟨i, c.txs[i], e, hi, List.getElem?_eq_getElem hi⟩
def lockC (n : Nat) (c : Co) (id a0 a1 md : Int) : (Co × List (List Int)) × Int :=
 if mayL n c.cl id ≠ 0 then ((c, []), mayL n c.cl id) else if nowL n c.cl id = 0 then ((c, []), 10) else if okR a0 a1 = false then ((c, []), 1) else
 if (askL (eL c.txs (nowL n c.cl id)) (shardF a0 c.cf.sh) a0 a1 md).2.2 = 0 then
   (({ c with txs := c.txs.set (nowL n c.cl id - 1).toNat (askL (eL c.txs (nowL n c.cl id)) (shardF a0 c.cf.sh) a0 a1 md).1, ev := c.ev ++ [[2, 0, nowL n c.cl id, a0, a1, md, 0]] }, (askL (eL c.txs (nowL n c.cl id)) (shardF a0 c.cf.sh) a0 a1 md).2.1), 0)
 else ((c, []), (askL (eL c.txs (nowL n c.cl id)) (shardF a0 c.cf.sh) a0 a1 md).2.2)
def finC (n : Nat) (c : Co) (id : Int) : (Co × List (List Int)) × Int :=
 if mayL n c.cl id ≠ 0 then ((c, []), mayL n c.cl id) else if nowL n c.cl id = 0 then ((c, []), 10) else
 if (finL (eL c.txs (nowL n c.cl id))).2.2 = 0 then
   (((becL c (finL (eL c.txs (nowL n c.cl id))).1 (nowL n c.cl id - 1).toNat).1, (finL (eL c.txs (nowL n c.cl id))).2.1), (becL c (finL (eL c.txs (nowL n c.cl id))).1 (nowL n c.cl id - 1).toNat).2)
 else ((c, []), (finL (eL c.txs (nowL n c.cl id))).2.2)
def abrC (n : Nat) (c : Co) (id : Int) : (Co × List (List Int)) × Int :=
 if mayL n c.cl id ≠ 0 then ((c, []), mayL n c.cl id) else if nowL n c.cl id = 0 then ((c, []), 10) else
 if (eL c.txs (nowL n c.cl id)).st ≠ 1 then ((c, []), 11) else (abtC c (eL c.txs (nowL n c.cl id)) (nowL n c.cl id - 1).toNat 1, 0)
def craC (c : Co) (id : Int) : Co × Int :=
 if (crashL c.cl id c.tm).2 = 0 then ({ c with cl := (crashL c.cl id c.tm).1, ev := c.ev ++ [[8, id, 0, 0, 0, 0, 0]] }, 0) else ({ c with cl := (crashL c.cl id c.tm).1 }, (crashL c.cl id c.tm).2)
def MetP (w : World) (g n : Nat) (P : Pt) (r : (Co × List (List Int)) × Int) (e : Ending) (w' : World) : Prop := ∃ u, e = .returned (.tuple #[u, errV r.2]) ∧ MsgR w' w.heap.size u r.1.2 ∧ ∃ P', CoS w w' g n P (fun _ => False) r.1.1 P'
section
variable {g n k : Nat} {c : Co} {P : Pt}
theorem MetP.nil {w : World} (h : CoM w g n c P) {cd : Int} (hcd : cd ≠ 0) {e : Ending} {w' : World} (q : e = .returned (.tuple #[.slice none 0 0, errno cd]) ∧ Below w.heap.size w w') : MetP w g n P ((c, []), cd) e w' :=
 ⟨_, by rw [q.1, errV_pos hcd], World.ownsRow_nil _ _ _ _, _, CoS.below h q.2⟩
theorem MetP.nilV {w : World} (h : CoM w g n c P) {cd : Int} {e : Ending} {w' : World} (q : e = .returned (.tuple #[.slice none 0 0, errV cd]) ∧ Below w.heap.size w w') : MetP w g n P ((c, []), cd) e w' :=
 ⟨_, q.1, World.ownsRow_nil _ _ _ _, _, CoS.below h q.2⟩
theorem lock_any (id a0 a1 md : Int) (w : World) (h : CoM w g n c P) (K : CoK n k c) (hk : k ≤ 1000) (hsh : 1 ≤ c.cf.sh ∧ c.cf.sh ≤ 64) :
   Calls Tryz.prog 24 #[.pointer (some ⟨g, 0, none⟩), .int .i64 id, .agg #[.int .i64 a0, .int .i64 a1], .int .i64 md] w (MetP w g n P (lockC n c id a0 a1 md)) := by
 have hl : P.L.length ≤ 1000 := by rw [← h.r.len]; exact Nat.le_trans K.len hk
 have hev : c.ev.length ≤ 90000 := by have := K.ev; omega
 unfold lockC
 by_cases hr : mayL n c.cl id = 0
 · rw [if_neg (fun e => e hr)]
   by_cases h0 : nowL n c.cl id = 0
   · rw [if_pos h0]
     exact (lock_now id a0 a1 md w h hr h0).mono fun e w' q => MetP.nil h (by decide) q
   · rw [if_neg h0]
     obtain ⟨i, x, hi, hlt, hx⟩ := K.now hr h0
     have hiL : i < P.L.length := by rw [← h.r.len]; exact hlt
     obtain ⟨x', s, hq, hx'⟩ := h.r.at_ hiL
     rw [hx] at hx'
     obtain rfl := Option.some.inj hx'
     obtain ⟨htx, ok⟩ := K.tx i x hx
     by_cases hres : okR a0 a1 = false
     · rw [if_pos hres]
       exact (lock_res id a0 a1 md w h hr i hi hiL hl x s hq hres).mono fun e w' q => MetP.nil h (by decide) q
     · rw [if_neg hres]
       have hres' : okR a0 a1 = true := by cases e : okR a0 a1 with | true => rfl | false => exact absurd e hres
       rw [hi, eL_at hx, show ((i : Int) + 1 - 1).toNat = i by omega]
       by_cases hc : (askL x (shardF a0 c.cf.sh) a0 a1 md).2.2 = 0
       · rw [if_pos hc]
         exact (lock_ok id a0 a1 md w h hr i hi hiL hl x s hq (ok.short hk) ok.tch ok.sq.1 hres' hsh _ _ htx hev (res3 hc) _ rfl).mono fun e w' q => q
       · rw [if_neg hc]
         exact (lock_err id a0 a1 md w h hr i hi hiL hl x s hq (ok.short hk) ok.tch ok.sq.1 hres' hsh _ _ _ hc rfl).mono fun e w' q => MetP.nil h hc q
 · rw [if_pos hr]
   exact (lock_may id a0 a1 md w h _ rfl hr).mono fun e w' q => MetP.nilV h q
theorem commit_any (id : Int) (w : World) (h : CoM w g n c P) (K : CoK n k c) (hk : k ≤ 1000) :
   Calls Tryz.prog 25 #[.pointer (some ⟨g, 0, none⟩), .int .i64 id] w (MetP w g n P (finC n c id)) := by
 have hl : P.L.length ≤ 1000 := by rw [← h.r.len]; exact Nat.le_trans K.len hk
 have hev : c.ev.length ≤ 90000 := by have := K.ev; omega
 unfold finC
 by_cases hr : mayL n c.cl id = 0
 · rw [if_neg (fun e => e hr)]
   by_cases h0 : nowL n c.cl id = 0
   · rw [if_pos h0]
     exact (commit_now id w h hr h0).mono fun e w' q => MetP.nil h (by decide) q
   · rw [if_neg h0]
     obtain ⟨i, x, hi, hlt, hx⟩ := K.now hr h0
     have hiL : i < P.L.length := by rw [← h.r.len]; exact hlt
     obtain ⟨x', s, hq, hx'⟩ := h.r.at_ hiL
     rw [hx] at hx'
     obtain rfl := Option.some.inj hx'
     obtain ⟨htx, ok⟩ := K.tx i x hx
     rw [hi, eL_at hx, show ((i : Int) + 1 - 1).toNat = i by omega]
     by_cases hc : (finL x).2.2 = 0
     · rw [if_pos hc]
       exact (commit_ok id w h hr i hi hiL hl x s hq (ok.short hk) ok.tch ok.vts _ _ htx hev (res3 hc) _ _ rfl).mono fun e w' q => q
     · rw [if_neg hc]
       exact (commit_err id w h hr i hi hiL hl x s hq (ok.short hk) ok.tch ok.vts _ _ _ hc rfl).mono fun e w' q => MetP.nil h hc q
 · rw [if_pos hr]
   exact (commit_may id w h _ rfl hr).mono fun e w' q => MetP.nilV h q
theorem abrt_any (id : Int) (w : World) (h : CoM w g n c P) (K : CoK n k c) (hk : k ≤ 1000) :
   Calls Tryz.prog 29 #[.pointer (some ⟨g, 0, none⟩), .int .i64 id] w (MetP w g n P (abrC n c id)) := by
 have hl : P.L.length ≤ 1000 := by rw [← h.r.len]; exact Nat.le_trans K.len hk
 have hev : c.ev.length ≤ 90000 := by have := K.ev; omega
 unfold abrC
 by_cases hr : mayL n c.cl id = 0
 · rw [if_neg (fun e => e hr)]
   by_cases h0 : nowL n c.cl id = 0
   · rw [if_pos h0]
     exact (abrt_now id w h hr h0).mono fun e w' q => MetP.nil h (by decide) q
   · rw [if_neg h0]
     obtain ⟨i, x, hi, hlt, hx⟩ := K.now hr h0
     have hiL : i < P.L.length := by rw [← h.r.len]; exact hlt
     obtain ⟨x', s, hq, hx'⟩ := h.r.at_ hiL
     rw [hx] at hx'
     obtain rfl := Option.some.inj hx'
     obtain ⟨htx, ok⟩ := K.tx i x hx
     rw [hi, eL_at hx, show ((i : Int) + 1 - 1).toNat = i by omega]
     by_cases hst : x.st = 1
     · rw [if_neg (fun e => e hst)]
       have hd : ¬ (decided x = true) := by unfold decided; simp [hst]
       have hc : (abtL x 1).2.2 = 0 := by unfold abtL; rw [if_neg (by omega), if_neg hd]
       unfold abtC
       rw [if_pos hc]
       exact (abrt_ok id w h hr i hi hiL hl x s hq (ok.short hk) htx hev hst _ _ (res3 hc) _ _ rfl).mono fun e w' q => q
     · rw [if_pos hst]
       exact (abrt_state id w h hr i hi hiL hl x s hq hst).mono fun e w' q => MetP.nil h (by decide) q
 · rw [if_pos hr]
   exact (abrt_may id w h _ rfl hr).mono fun e w' q => MetP.nilV h q
theorem crash_any (id : Int) (w : World) (h : CoM w g n c P) (hev : c.ev.length ≤ 90000) :
   Calls Tryz.prog 30 #[.pointer (some ⟨g, 0, none⟩), .int .i64 id] w fun e w' => e = .returned (errV (craC c id).2) ∧ ∃ P', CoS w w' g n P (fun _ => False) (craC c id).1 P' := by
 unfold craC
 by_cases hc : (crashL c.cl id c.tm).2 = 0
 · rw [if_pos hc]
   exact (crash_ok id w h hev _ (Prod.ext rfl hc) _ rfl).mono fun e w' q => q
 · rw [if_neg hc]
   exact (crash_err id w h _ _ hc rfl).mono fun e w' q => ⟨by rw [q.1]; exact congrArg _ (errV_pos hc).symm, q.2⟩
end
end Go.Proofs.YtadnlannbafjpaaGreat
