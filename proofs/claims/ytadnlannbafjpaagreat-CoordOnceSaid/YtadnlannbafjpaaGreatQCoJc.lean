/- A coordinator: a probe that comes. -/
import Derived.Test.YtadnlannbafjpaaGreatQCoJb
import Derived.Test.YtadnlannbafjpaaGreatQCoH
import Derived.Test.YtadnlannbafjpaaGreatQCoTc
namespace Go.Proofs.YtadnlannbafjpaaGreat
open Go.RowKit
set_option linter.unusedVariables false
set_option linter.unusedSimpArgs false
structure CoG (n : Nat) (c : Co) : Prop where
 n8 : n ≤ 8
 len : c.txs.length ≤ 1000
 ev : c.ev.length ≤ 90000
 tx : ∀ (i : Nat) (x : Tr), c.txs[i]? = some x → x.tx = (i : Int) + 1 ∧ Short x ∧ Shs x.tch ∧ Shs x.vts ∧ Shs x.acks
 cur : ∀ k : Nat, k < n → nowL n c.cl ((k : Int) + 1) = 0 ∨ ∃ i : Nat, i < c.txs.length ∧ nowL n c.cl ((k : Int) + 1) = (i : Int) + 1
theorem live_mem {m : List Int} {os : List (List Int)} (h : liveL m os = true) {j : Nat} (hj : j < (fld m 11).toNat) : [stTx m j, stSeq m j] ∈ os := by
 unfold liveL at h
 rw [Bool.and_eq_true, List.all_eq_true] at h
 exact of_decide_eq_true (h.2 j (List.mem_range.2 hj))
theorem live_isP {m : List Int} {os : List (List Int)} (h : liveL m os = true) : isP m = true := by
 unfold liveL at h
 rw [Bool.and_eq_true] at h
 exact h.1
theorem eL_at {l : List Tr} {i : Nat} {x : Tr} (h : l[i]? = some x) : eL l ((i : Int) + 1) = x := by
 have hi := (List.getElem?_eq_some_iff.1 h).1
 unfold eL
 rw [if_pos (by omega), show ((i : Int) + 1 - 1).toNat = i by omega, List.getD_eq_getElem?_getD, h]; rfl
section
variable {g n : Nat} {c : Co} {P : Pt}
theorem CoR.at_ {w : World} (h : CoR w n c P) {i : Nat} (hi : i < P.L.length) : ∃ x s, P.L[i] = (x, s) ∧ c.txs[i]? = some x := by
 refine ⟨(P.L[i]).1, (P.L[i]).2, rfl, ?_⟩
 rw [← h.txs, List.getElem?_map, List.getElem?_eq_getElem hi]; rfl
theorem CoR.len {w : World} (h : CoR w n c P) : c.txs.length = P.L.length := by rw [← h.txs, List.length_map]
theorem probed_any (m : List Int) (w : World) (h : CoM w g n c P) (hm : m.length = 28) (G : CoG n c) :
   Calls Tryz.prog 59 #[.pointer (some ⟨g, 0, none⟩), .agg (mc m)] w (OkP w g n P (probedL c n m)) := by
 have hl : P.L.length ≤ 1000 := by rw [← h.r.len]; exact G.len
 have hok : ∀ k : Nat, k < n → nowL n c.cl ((k : Int) + 1) = 0 ∨ ∃ i : Nat, i < P.L.length ∧ nowL n c.cl ((k : Int) + 1) = (i : Int) + 1 := by rw [← h.r.len]; exact G.cur
 unfold probedL
 by_cases hpb : c.cf.pb = false
 · rw [if_pos (.inl hpb)]; exact (probed_no m w h hm hpb).mono fun e w' q => OkP.nil h q
 have hpb' : c.cf.pb = true := by simpa using hpb
 by_cases hlv : liveL m (openC c n n) = false
 · rw [if_pos (.inr hlv)]; exact (probed_dead m w h hm hpb' G.n8 hl hok hlv).mono fun e w' q => OkP.nil h q
 have hlv' : liveL m (openC c n n) = true := by simpa using hlv
 rw [if_neg (by rintro (q | q); exact hpb q; exact hlv q)]
 have hp := live_isP hlv'
 have hN := isP_N hp
 obtain ⟨N, hNN⟩ : ∃ N : Nat, fld m 11 = (N : Int) := ⟨(fld m 11).toNat, by omega⟩
 have hmem : ∀ j : Nat, j < N → ∃ i : Nat, i < P.L.length ∧ stTx m j = (i : Int) + 1 := fun j hj => by
   obtain ⟨i, hi, e⟩ := openC_mem hok _ (live_mem hlv' (j := j) (by rw [hNN]; omega))
   exact ⟨i, hi, e⟩
 by_cases hbk : backL m = true
 · rw [if_pos hbk, show (fld m 11).toNat = N from by rw [hNN]; rfl]
   obtain ⟨j, hj, ej⟩ := vicL_mem (m := m) N
   obtain ⟨i, hi, e⟩ := hmem j (by omega)
   obtain ⟨x, s, hq, hx⟩ := h.r.at_ hi
   have hv : vicL m N = (i : Int) + 1 := ej.trans e
   have h0 : 0 ≤ stTx m 0 := by obtain ⟨i0, _, e0⟩ := hmem 0 (by omega); omega
   rw [hv, eL_at hx, show ((i : Int) + 1 - 1).toNat = i by omega]
   have gx := G.tx i x hx
   exact (probed_back m w h hm hpb' G.n8 hl hok hlv' hbk hp N hNN i hv h0 hi x s hq gx.2.1 gx.1 G.ev _ rfl).mono fun e w' q => q
 have hbk' : backL m = false := by simpa using hbk
 rw [if_neg hbk]
 obtain ⟨z, hz⟩ : ∃ z, eL c.txs (fld m 9) = z := ⟨_, rfl⟩
 rw [hz]
 by_cases hop : z.op = false
 · rw [if_pos (.inl hop)]; exact (probed_shut1 m w h hm hpb' G.n8 hl hok hlv' hbk' z hz hop).mono fun e w' q => OkP.nil h q
 have hop' : z.op = true := by simpa using hop
 by_cases h10 : fld m 10 = 0
 · rw [if_neg (by rintro (q | q); exact hop q; exact q.1 h10)]
   by_cases hpq : isP (onwL z.sh m) = true
   · rw [if_pos hpq]; exact (probed_on0 m w h hm hpb' G.n8 hl hok hlv' hbk' z hz hop' h10 hp _ rfl hpq).mono fun e w' q => q
   · rw [if_neg hpq]; exact (probed_no0 m w h hm hpb' G.n8 hl hok hlv' hbk' z hz hop' h10 hp _ rfl (by simpa using hpq)).mono fun e w' q => OkP.nil h q
 · by_cases hsq : fld m 10 = z.sq
   · rw [if_neg (by rintro (q | q); exact hop q; exact q.2 hsq)]
     by_cases hpq : isP (onwL z.sh m) = true
     · rw [if_pos hpq]; exact (probed_ons m w h hm hpb' G.n8 hl hok hlv' hbk' z hz hop' h10 hsq hp _ rfl hpq).mono fun e w' q => q
     · rw [if_neg hpq]; exact (probed_nos m w h hm hpb' G.n8 hl hok hlv' hbk' z hz hop' h10 hsq hp _ rfl (by simpa using hpq)).mono fun e w' q => OkP.nil h q
   · rw [if_pos (.inr ⟨h10, hsq⟩)]; exact (probed_shut2 m w h hm hpb' G.n8 hl hok hlv' hbk' z hz hop' h10 hsq).mono fun e w' q => OkP.nil h q
end
structure CoF (c : Co) : Prop where
 inn : ∀ t ∈ c.lf, ∃ i : Nat, i < c.txs.length ∧ t = (i : Int) + 1
 len : c.lf.length ≤ c.txs.length
def leftL (c : Co) : List Int := c.lf.filter fun t => !overB (eL c.txs t)
def agnL (n : Nat) (c : Co) (t : Int) : List (List Int) := againL (eL c.txs t) (aliveL n c.cl (ofL t c.cl))
section
variable {g n : Nat} {c : Co} {P : Pt}
set_option maxRecDepth 100000 in
set_option maxHeartbeats 900000 in
theorem again1W (i q : Nat) (w : World) (hk : w.cell? ⟨g, 10, none⟩ = some P.vt) (ht : TxR w P.vt P.L) (hq : w.cell? ⟨q, 0, none⟩ = some (.pointer (some ⟨g, 0, none⟩))) (hi : i < P.L.length) (hl : P.L.length ≤ 1000) (x : Tr) (s : Sl) (hx : P.L[i] = (x, s)) (hT : Tm w 0 x s) (hsh : Shs x.tch) (hac : Shs x.acks) :
   Calls Tryz.prog 109 #[.int .i64 ((i : Int) + 1), .pointer (some ⟨q, 0, none⟩)] w fun e w' => e = .returned (.bool (overB x)) ∧ Below w.heap.size w w' := by
 obtain ⟨b, ca, ev, hc, _, _⟩ := ht.open hi
 rw [hx] at hc
 have HC := Lib.hid (TxR.row hc)
 have OV := Lib.hid (over_any x s w hT hsh hac)
 have k10 : w.cell? ⟨g, 10, none⟩ = some (.slice (some ⟨b, 0, none⟩) P.L.length ca) := by rw [← ev]; exact hk
 have w1 : IntKind.i64.wrap ((i : Int) + 1 - 1) = (i : Int) := by rw [show (i : Int) + 1 - 1 = (i : Int) by omega]; exact IntWalk.i64_in _ (by omega)
 have w2 : (i : Int) + 1 - 1 = (i : Int) := by omega
 have d3 : decide ((i : Int) < (P.L.length : Int)) = true := by simp; omega
 clear ht hc ev hx hT hsh hac hk
 generalize P.L.length = N at hi hl k10 d3
 go_enter Tryz.func109, Tryz.ntmps109
 go_wp2_with (first
   | (refine wpList_load_cells rfl 62 (.tmp 10) rfl ⟨b, i * 13, none⟩ rfl (trv (x, s)) _ HC.out Tryz.underlying62 rfl (trv_info (x, s)) ?_)
   | (go_at_call 110; refine OV.out.mono ?_; rintro e V2 ⟨rfl, hb⟩; have B2 := Lib.hid hb; clear hb))
 go_ret
 exact ⟨rfl, B2.out⟩
theorem pred_again {w : World} (h : CoM w g n c P) (G : CoG n c) (F : CoF c) (r q : Nat) (hr : P.vl.ownBlock = some r) (hqr : q ≠ r) (hql : q < w.heap.size) (hq : w.cell? ⟨q, 0, none⟩ = some (.pointer (some ⟨g, 0, none⟩))) : Pred w q r (fun t => overB (eL c.txs t)) c.lf := by
 intro W hT t ht
 obtain ⟨i, hi, rfl⟩ := F.inn t ht
 have hiL : i < P.L.length := by rw [← h.r.len]; exact hi
 obtain ⟨x, s, hxs, hx⟩ := h.r.at_ hiL
 have gx := G.tx i x hx
 have hrt : ∃ cur, w.heap[r]? = some (.cells cur 3 (0, 0)) := by obtain ⟨cur, hh, _⟩ := own_heap h.r.lfr r hr; exact ⟨cur, hh⟩
 obtain ⟨cur, hrh⟩ := hrt
 have hgr : g ≠ r := heap_ne h.box hrh (by decide)
 have e9 : (fun t => overB (eL c.txs t)) ((i : Int) + 1) = overB x := by show overB (eL c.txs ((i : Int) + 1)) = _; rw [eL_at hx]
 rw [e9]
 refine again1W (g := g) (P := P) i q W ?_ ?_ ?_ hiL (by rw [← h.r.len]; exact G.len) x s hxs ?_ gx.2.2.1 gx.2.2.2.2
 · have := (h.box.turn hT hgr).cell 10
   exact this
 · exact own_turn h.r.txr hT fun k hk e => by subst e; exact row_ne h.r.txr hrh (by decide) hk rfl
 · exact (World.cell?_of_block (hT.block q hql hqr)).trans hq
 · have hm : (x, s) ∈ P.L := by rw [← hxs]; exact List.getElem_mem hiL
   exact (h.r.sls _ hm).offS hT fun k hk e => by subst e; exact h.r.ap _ hm k hr hk
end
structure TkS (w : World) (g n p B : Nat) (c : Co) (P : Pt) (v : Value) (ms : List (List Int)) : Prop where
 m : CoM w g n c P
 box : Blk w p 35 #[v]
 row : MsgR w B v ms
 hB : B ≤ w.heap.size
def TkT (g p : Nat) (P : Pt) (v : Value) (k : Nat) : Prop := P.tur g k ∨ k = p ∨ v.ownBlock = some k
section
variable {w w' : World} {g n p B : Nat} {c : Co} {P : Pt} {v : Value} {ms : List (List Int)}
theorem CoM.offT (h : CoM w g n c P) {b : Nat} {t : TypeId} {cs : Array Value} {f : Nat × Nat} (hb : w.heap[b]? = some (.cells cs t f)) (h0 : t ≠ 79) (h1 : t ≠ 114) (h2 : t ≠ 62) (h3 : t ≠ 3) (h4 : t ≠ 65) (h5 : t ≠ 149) {k : Nat} (hk : P.own g k) : k ≠ b := by
 rcases hk with (rfl | hk | hk | hk | hk) | hk
 · exact heap_ne h.box hb (fun e => h0 e.symm)
 · exact h.r.offB hb h1 h2 h3 h4 h5 (.inl hk)
 · exact h.r.offB hb h1 h2 h3 h4 h5 (.inr (.inl hk))
 · exact h.r.offB hb h1 h2 h3 h4 h5 (.inr (.inr (.inl hk)))
 · exact h.r.offB hb h1 h2 h3 h4 h5 (.inr (.inr (.inr (.inl hk))))
 · exact h.r.offB hb h1 h2 h3 h4 h5 (.inr (.inr (.inr (.inr hk))))
theorem TkS.step (h : TkS w g n p B c P v ms) (hb : Below w.heap.size w w') : TkS w' g n p B c P v ms := ⟨h.m.step hb, h.box.here hb, own_turn h.row (Turn.of_below hb (S := fun _ => False)) (fun _ _ => id), Nat.le_trans h.hB hb.size⟩
theorem TkS.pown (h : TkS w g n p B c P v ms) {k : Nat} (hk : P.own g k) : k ≠ p ∧ ¬ v.ownBlock = some k := by
 refine ⟨h.m.offT h.box (by decide) (by decide) (by decide) (by decide) (by decide) (by decide) hk, fun e => ?_⟩
 obtain ⟨cur, hh, _⟩ := own_heap h.row k e
 exact h.m.offT hh (by decide) (by decide) (by decide) (by decide) (by decide) (by decide) hk rfl
theorem TkS.sent (h : TkS w g n p B c P v ms) {v' : Value} {ms' : List (List Int)} (hx : Blk w' p 35 #[v']) (hr : MsgR w' B v' ms') (ht : Turn (fun k => k = p ∨ v.ownBlock = some k) w w') : TkS w' g n p B c P v' ms' :=
 ⟨h.m.turn ht fun k hk hm => by obtain ⟨h1, h2⟩ := h.pown hk; exact hm.elim h1 h2, hx, hr, Nat.le_trans h.hB ht.size⟩
theorem CoM.left {w1 : World} {vl' : Value} {lf' : List Int} (h : CoM w g n c P) (ht : Turn (fun k => P.vl.ownBlock = some k) w w1) (hr : NumR w1 0 vl' lf') (hv : vl'.ownBlock = P.vl.ownBlock) : CoM (w1.setCell ⟨g, 11, none⟩ vl') g n { c with lf := lf' } { P with vl := vl' } := by
 have hgr : ¬ (P.vl.ownBlock = some g) := fun e => by
   obtain ⟨cur, hh, _⟩ := own_heap h.r.lfr g e
   exact heap_ne h.box hh (by decide) rfl
 have hR : CoR w1 n { c with lf := lf' } { P with vl := vl' } := h.r.chL ht hr fun q hq k hk => h.r.ap q hq k (by rw [← hv]; exact hk)
 have hbx : Blk w1 g 79 (coc c n P) := h.box.turn ht hgr
 refine ⟨hbx.set_ 11 vl', ?_⟩
 refine hR.turn (S := fun k => k = g) ((Turn.refl (fun k => k = g) w1).setCell (p := ⟨g, 11, none⟩) (fun _ => rfl) vl') fun k hk => ?_
 exact hR.offB hbx (by decide) (by decide) (by decide) (by decide) (by decide) hk
set_option maxRecDepth 100000 in
theorem del_again (h : CoM w g n c P) (G : CoG n c) (F : CoF c) (q : Nat) (hql : q < w.heap.size) (hq : w.cell? ⟨q, 0, none⟩ = some (.pointer (some ⟨g, 0, none⟩))) (hqr : P.vl.ownBlock ≠ some q) :
   Calls Tryz.prog 108 #[P.vl, .func (.func 109) #[] #[.pointer (some ⟨q, 0, none⟩)]] w fun e w' => ∃ v', e = .returned v' ∧ NumR w' 0 v' (leftL c) ∧ Turn (fun k => P.vl.ownBlock = some k) w w' ∧ v'.ownBlock = P.vl.ownBlock := by
 have hlen : c.lf.length ≤ 1000 := Nat.le_trans F.len G.len
 rcases h.r.lfr.2 with ⟨e, h0⟩ | ⟨r, cap, cur, e, _, hh, _, _⟩
 · have hl : c.lf = [] := List.eq_nil_of_length_eq_zero h0
   rw [e]
   refine (del_nil _ 0 w).mono fun x w' ⟨h1, h2⟩ => ⟨_, h1, ?_, by subst h2; exact Turn.refl _ _, rfl⟩
   unfold leftL
   rw [hl]
   exact World.ownsRow_nil _ _ _ _
 · have hb : P.vl.ownBlock = some r := by rw [e]; rfl
   have hw := h.r.lfr
   have hp := pred_again h G F r q hb (fun e1 => hqr (by rw [hb, e1])) hql hq
   unfold NumR at hw
   rw [e] at hw ⊢
   refine (delF_any r c.lf.length cap q c.lf _ w hw hlen hp).mono fun x w' ⟨v', h1, h2, h3, h4⟩ => ⟨v', h1, h2, h3.mono fun k _ hk => ?_, by rw [h4]; rfl⟩
   subst hk; rfl
theorem again_few' {x : Tr} (h : x.tch.length ≤ 64) (al : Bool) : (againL x al).length ≤ 65 := by
 have hw : ∀ l o : List Int, (withoutL l o).length ≤ l.length := fun l o => List.length_filter_le _ _
 have h1 := hw x.tch x.vts
 have h2 := hw x.tch x.acks
 unfold againL
 split
 · rw [List.length_append]
   split <;> split <;> simp <;> omega
 split
 · rw [List.length_map]; omega
 split
 · rw [List.length_map]; omega
 · simp
theorem agn_len {c : Co} (G : CoG n c) : ∀ (l : List Int), (∀ t ∈ l, ∃ i : Nat, i < c.txs.length ∧ t = (i : Int) + 1) → (l.flatMap (agnL n c)).length ≤ l.length * 65
 | [], _ => Nat.le_refl _
 | t :: l, hl => by
   obtain ⟨i, hi, rfl⟩ := hl t (by simp)
   have hx : c.txs[i]? = some c.txs[i] := List.getElem?_eq_getElem hi
   have h1 := again_few' (x := c.txs[i]) (G.tx i _ hx).2.2.1.len (aliveL n c.cl (ofL ((i : Int) + 1) c.cl))
   have h2 := agn_len G l fun t ht => hl t (by simp [ht])
   rw [List.flatMap_cons, List.length_append, List.length_cons]
   have e : agnL n c ((i : Int) + 1) = againL c.txs[i] (aliveL n c.cl (ofL ((i : Int) + 1) c.cl)) := by unfold agnL; rw [eL_at hx]
   rw [e]
   omega
theorem left_inn {c : Co} (F : CoF c) : ∀ t ∈ leftL c, ∃ i : Nat, i < c.txs.length ∧ t = (i : Int) + 1 := fun t ht => F.inn t (List.mem_filter.1 ht).1
theorem left_len {c : Co} (F : CoF c) : (leftL c).length ≤ c.txs.length := Nat.le_trans (List.length_filter_le _ _) F.len
end
end Go.Proofs.YtadnlannbafjpaaGreat
