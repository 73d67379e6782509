/- A coordinator: again. -/
import Derived.Test.YtadnlannbafjpaaGreatQCoJc
namespace Go.Proofs.YtadnlannbafjpaaGreat
open Go.RowKit
set_option linter.unusedVariables false
set_option linter.unusedSimpArgs false
structure TkQ (w w' : World) (g n p B : Nat) (P : Pt) (v : Value) (c' : Co) (P' : Pt) (v' : Value) (ms : List (List Int)) : Prop where
 s : TkS w' g n p B c' P' v' ms
 turn : Turn (TkT g p P v) w w'
 tur : ∀ k, P'.tur g k → P.tur g k ∨ w.heap.size ≤ k
 own : ∀ k, P'.own g k → P.own g k ∨ w.heap.size ≤ k
 vb : v'.ownBlock = v.ownBlock ∨ ∀ k, v'.ownBlock = some k → w.heap.size ≤ k
theorem TkQ.trans {w w' w'' : World} {g n p B : Nat} {P P' P'' : Pt} {v v' v'' : Value} {c' c'' : Co} {ms ms' : List (List Int)} (h : TkQ w w' g n p B P v c' P' v' ms) (h' : TkQ w' w'' g n p B P' v' c'' P'' v'' ms') : TkQ w w'' g n p B P v c'' P'' v'' ms' :=
 { s := h'.s
   turn := h.turn.trans h'.turn fun k hk hm => by
     rcases hm with hm | hm | hm
     · exact .inl ((h.tur k hm).resolve_right (by omega))
     · exact .inr (.inl hm)
     · rcases h.vb with e | e
       · exact .inr (.inr (by rw [← e]; exact hm))
       · have := e k hm; omega
   tur := fun k hk => (h'.tur k hk).elim (fun e => h.tur k e) (fun e => .inr (Nat.le_trans h.turn.size e))
   own := fun k hk => (h'.own k hk).elim (fun e => h.own k e) (fun e => .inr (Nat.le_trans h.turn.size e))
   vb := by
     rcases h'.vb with e | e
     · rw [e]; exact h.vb
     · exact .inr fun k hk => Nat.le_trans h.turn.size (e k hk) }
theorem TkQ.below {w w' : World} {g n p B : Nat} {c : Co} {P : Pt} {v : Value} {ms : List (List Int)} (h : TkS w g n p B c P v ms) (hb : Below w.heap.size w w') : TkQ w w' g n p B P v c P v ms :=
 ⟨h.step hb, Turn.of_below hb, fun _ h => .inl h, fun _ h => .inl h, .inl rfl⟩
theorem TkS.left {w w1 : World} {g n p B : Nat} {c : Co} {P : Pt} {v : Value} {ms : List (List Int)} {vl' : Value} {lf' : List Int} (h : TkS w g n p B c P v ms) (ht : Turn (fun k => P.vl.ownBlock = some k) w w1) (hr : NumR w1 0 vl' lf') (hv : vl'.ownBlock = P.vl.ownBlock) :
   TkQ w (w1.setCell ⟨g, 11, none⟩ vl') g n p B P v { c with lf := lf' } { P with vl := vl' } v ms := by
 have hpo : ∀ k, P.tur g k → k ≠ p ∧ ¬ v.ownBlock = some k := fun k hk => h.pown (.inl hk)
 have hT : Turn (fun k => P.tur g k) w (w1.setCell ⟨g, 11, none⟩ vl') := (ht.mono (fun k _ hk => (.inr (.inr (.inr (.inl hk))) : P.tur g k))).setCell (p := ⟨g, 11, none⟩) (fun _ => .inl rfl) vl'
 have htur : ∀ k, ({ P with vl := vl' } : Pt).tur g k → P.tur g k := fun k hk => by
   rcases hk with hk | hk | hk | hk | hk
   · exact .inl hk
   · exact .inr (.inl hk)
   · exact .inr (.inr (.inl hk))
   · exact .inr (.inr (.inr (.inl (by rw [← hv]; exact hk))))
   · exact .inr (.inr (.inr (.inr hk)))
 refine ⟨⟨h.m.left ht hr hv, h.box.turn hT (fun e => (hpo p e).1 rfl), own_turn h.row hT (fun k hk e => (hpo k e).2 hk), Nat.le_trans h.hB hT.size⟩, hT.mono (fun k _ hk => .inl hk), fun k hk => .inl (htur k hk), fun k hk => ?_, .inl rfl⟩
 rcases hk with hk | hk
 · exact .inl (.inl (htur k hk))
 · exact .inl (.inr hk)
theorem TkQ.undrew {w w' : World} {g n p B : Nat} {P P' : Pt} {v v' : Value} {c' : Co} {ms : List (List Int)} (h : TkQ w.drew w' g n p B P v c' P' v' ms) : TkQ w w' g n p B P v c' P' v' ms := ⟨h.s, ⟨h.turn.os, h.turn.tape, h.turn.output, h.turn.size, h.turn.block⟩, h.tur, h.own, h.vb⟩
theorem TkS.add {w w1 w2 : World} {g n p B : Nat} {c : Co} {P : Pt} {v v' : Value} {ms ms' : List (List Int)} (h : TkS w1 g n p B c P v ms) (hb : Below w.heap.size w w1) (h0 : TkS w g n p B c P v ms) (hx : Blk w2 p 35 #[v']) (hr : MsgR w2 B v' ms') (ht : Turn (fun k => k = p ∨ v.ownBlock = some k) w1 w2) (hv : v'.ownBlock = v.ownBlock ∨ v'.ownBlock = some w1.heap.size) : TkQ w w2 g n p B P v c P v' ms' :=
 ⟨h.sent hx hr ht, ((Turn.of_below hb (S := TkT g p P v)).trans ht fun k hk hm => hm.elim (fun e => .inr (.inl e)) (fun e => .inr (.inr e))), fun _ h => .inl h, fun _ h => .inl h, hv.elim .inl fun e => .inr fun k hk => by rw [e] at hk; injection hk with hk; have := hb.size; omega⟩
section
variable {g n p B : Nat} {c : Co} {P : Pt} {v : Value} {ms0 : List (List Int)}
set_option maxRecDepth 100000 in
set_option maxHeartbeats 4000000 in
theorem coAgain_any (w : World) (h : TkS w g n p B c P v ms0) (G : CoG n c) (F : CoF c) (hst : ∀ (i : Nat) (x : Tr), c.txs[i]? = some x → 1 ≤ x.st ∧ x.st ≤ 4) (h0 : ms0.length ≤ 20000) :
   Calls Tryz.prog 64 #[.pointer (some ⟨g, 0, none⟩), .func (.func 62) #[] #[.pointer (some ⟨p, 0, none⟩)]] w fun e w' => e = .returned (.tuple #[]) ∧ ∃ v' P', TkQ w w' g n p B P v { c with lf := leftL c } P' v' (ms0 ++ (leftL c).flatMap (agnL n c)) := by
 have GG := Lib.hid G
 have FF := Lib.hid F
 have H0 := Lib.hid h0
 have HSS := Lib.hid hst
 have HH := Lib.hid h
 have S1 := Lib.hid (h.step (Joins.below_alloc1 w (.cells #[.pointer (some ⟨g, 0, none⟩)] 26)))
 have B1 := Lib.hid (Joins.below_alloc1 w (.cells #[.pointer (some ⟨g, 0, none⟩)] 26))
 have X1 := Lib.hid (Blk.new w 26 #[.pointer (some ⟨g, 0, none⟩)])
 have HQ := Lib.hid (show w.heap.size < (w.alloc (.cells #[.pointer (some ⟨g, 0, none⟩)] 26)).heap.size from by simp)
 clear h G F h0 hst
 go_enter Tryz.func64, Tryz.ntmps64
 go_upto_region 1 with fail
 have HN := Lib.hid (show ∀ k, k = w.heap.size → ¬ P.own g k ∧ k ≠ p ∧ ¬ (v.ownBlock = some k) from fun k hk => by
   subst hk
   exact ⟨fun e => Nat.lt_irrefl _ (HH.out.m.lt e), fun e => by have := HH.out.box.lt; omega, fun e => by obtain ⟨cur, hh, _⟩ := own_heap HH.out.row _ e; exact Nat.lt_irrefl _ (own_lt hh)⟩)
 obtain ⟨q, hq⟩ : ∃ q, q = w.heap.size := ⟨_, rfl⟩
 have NQ := Lib.hid (HN.out q hq)
 rw [← hq] at X1 HQ ⊢
 clear hq HN
 generalize w.alloc _ = V at S1 B1 X1 HQ ⊢
 have k11 := S1.out.m.box.cell 11
 refine wp_region_till 9 (fun w' => w'.cell? ⟨q, 0, none⟩ = some (.pointer (some ⟨g, 0, none⟩)) ∧ w'.cell? ⟨g, 11, none⟩ = some P.vl) (by kernel_rfl) ⟨X1.out.cell 0, k11⟩ (fun hHeld => ?_)
 refine wpTill_take (i := 0) (v := ?_) rfl (by kernel_rfl) (by kernel_rfl) (by kernel_rfl) (by kernel_rfl) (fun _ _ _ h => h) (Or.inl ⟨by rfl, ?_⟩) (by assumption) ?_
 rotate_left
 · (intro w0 hSw; (try dsimp only at hSw); go_simp; try with_reducible rfl)
 try simp only [List.getElem_toArray, List.getElem_cons_succ, List.getElem_cons_zero, Act.put, List.setIfInBounds_toArray, List.set_cons_zero, List.set_cons_succ]
 refine wpTill_take (i := 1) (v := ?_) rfl (by kernel_rfl) (by kernel_rfl) (by kernel_rfl) (by kernel_rfl) (fun _ _ _ h => h) (Or.inl ⟨by rfl, ?_⟩) (by assumption) ?_
 rotate_left
 · (intro w0 hSw; (try dsimp only at hSw); go_simp; try with_reducible rfl)
 try simp only [List.getElem_toArray, List.getElem_cons_succ, List.getElem_cons_zero, Act.put, List.setIfInBounds_toArray, List.set_cons_zero, List.set_cons_succ]
 refine wpTill_take (i := 2) (v := ?_) rfl (by kernel_rfl) (by kernel_rfl) (by kernel_rfl) (by kernel_rfl) (fun _ _ _ h => h) (Or.inl ⟨by rfl, ?_⟩) (by assumption) ?_
 rotate_left
 · (intro w0 hSw; (try dsimp only at hSw); go_simp; try with_reducible rfl)
 try simp only [List.getElem_toArray, List.getElem_cons_succ, List.getElem_cons_zero, Act.put, List.setIfInBounds_toArray, List.set_cons_zero, List.set_cons_succ]
 refine wpTill_take (i := 3) (v := ?_) rfl (by kernel_rfl) (by kernel_rfl) (by kernel_rfl) (by kernel_rfl) (fun _ _ _ h => h) (Or.inl ⟨by rfl, ?_⟩) (by assumption) ?_
 rotate_left
 · (intro w0 hSw; (try dsimp only at hSw); go_simp; try with_reducible rfl)
 try simp only [List.getElem_toArray, List.getElem_cons_succ, List.getElem_cons_zero, Act.put, List.setIfInBounds_toArray, List.set_cons_zero, List.set_cons_succ]
 refine wpTill_take (i := 4) (v := ?_) rfl (by kernel_rfl) (by kernel_rfl) (by kernel_rfl) (by kernel_rfl) (fun _ _ _ h => h) (Or.inl ⟨by rfl, ?_⟩) (by assumption) ?_
 rotate_left
 · (intro w0 hSw; (try dsimp only at hSw); go_simp; try with_reducible rfl)
 try simp only [List.getElem_toArray, List.getElem_cons_succ, List.getElem_cons_zero, Act.put, List.setIfInBounds_toArray, List.set_cons_zero, List.set_cons_succ]
 refine wpTill_take (i := 5) (v := ?_) rfl (by kernel_rfl) (by kernel_rfl) (by kernel_rfl) (by kernel_rfl) (fun _ _ _ h => h) (Or.inl ⟨by rfl, ?_⟩) (by assumption) ?_
 rotate_left
 · (intro w0 hSw; (try dsimp only at hSw); go_simp; try with_reducible rfl)
 try simp only [List.getElem_toArray, List.getElem_cons_succ, List.getElem_cons_zero, Act.put, List.setIfInBounds_toArray, List.set_cons_zero, List.set_cons_succ]
 refine wpTill_ready (rs := [6]) (by kernel_rfl) (by simp) ?_
 refine AllTill.cons rfl (fun K hK => ?_) AllTill.nil
 go_simp
 have SD := Lib.hid (S1.out.step (Below.refl _ _).drew)
 have BD := Lib.hid (B1.out.drew)
 have LV := Lib.hid (show P.vl.ownBlock ≠ some q from fun e => NQ.out.1 (.inl (.inr (.inr (.inr (.inl e))))))
 refine (del_again SD.out.m GG.out FF.out q HQ.out hHeld.1 LV.out).mono ?_
 rintro e W1 ⟨vl', rfl, hr, ht, hv⟩
 obtain ⟨lA, lc, rfl⟩ := own_len hr
 obtain ⟨nl, hnl⟩ : ∃ nl, (leftL c).length = nl := ⟨_, rfl⟩
 have HNL := Lib.hid hnl
 unfold NumR at hr
 rw [hnl] at hr hv
 rw [hnl]
 have HR := Lib.hid hr
 have hr' : NumR W1 0 (.slice lA nl lc) (leftL c) := by unfold NumR; rw [hnl]; exact hr
 have CL := Lib.hid (SD.out.left ht hr' hv).undrew
 have HT := Lib.hid ht
 have HV := Lib.hid hv
 try go_simp
 have kq1 : W1.cell? ⟨q, 0, none⟩ = some (.pointer (some ⟨g, 0, none⟩)) := (World.cell?_of_block (ht.block q HQ.out LV.out)).trans hHeld.1
 have GR := Lib.hid (show ¬ (P.vl.ownBlock = some g) from fun e => by
   obtain ⟨cur, hh, _⟩ := own_heap SD.out.m.r.lfr g e
   exact heap_ne SD.out.m.box hh (by decide) rfl)
 have BX1 := Lib.hid (SD.out.m.box.turn ht GR.out)
 have k111 : W1.cell? ⟨g, 11, none⟩ = some P.vl := BX1.out.cell 11
 have f11 := BX1.out.frozen 11
 refine hK.out _ _ ⟨kq1, k111⟩ (fun hHeld => ?_)
 clear hK K hr hr' ht hv hnl
 refine wpTill_pure (i := 7) (v := ?_) rfl (by kernel_rfl) (by kernel_rfl) (by kernel_rfl) (by kernel_rfl) (fun _ _ _ h => h) (Or.inl ⟨by rfl, ?_⟩) (by first | (exact fun _ => by assumption) | (exact fun hf => by cases hf)) ?_
 rotate_left
 · (intro w0 hSw; clear hSw; go_simp; try with_reducible rfl)
 try simp only [List.getElem_toArray, List.getElem_cons_succ, List.getElem_cons_zero, Act.put, List.setIfInBounds_toArray, List.set_cons_zero, List.set_cons_succ]
 refine wpTill_take (i := 8) (v := ?_) rfl (by kernel_rfl) (by kernel_rfl) (by kernel_rfl) (by kernel_rfl) (fun _ _ _ h => h) (Or.inl ⟨by rfl, ?_⟩) (by assumption) ?_
 rotate_left
 · (intro w0 hSw; (try dsimp only at hSw); go_simp; try with_reducible rfl)
 try simp only [List.getElem_toArray, List.getElem_cons_succ, List.getElem_cons_zero, Act.put, List.setIfInBounds_toArray, List.set_cons_zero, List.set_cons_succ]
 refine wpTill_ready (rs := [9]) (by kernel_rfl) (by simp) ?_
 refine AllTill.last rfl (of_decide_eq_true (by kernel_rfl)) (fun K hK => ?_)
 go_simp
 refine hK.out _ _ ?_
 clear hK K
 refine wpTill_done (by kernel_rfl) ?_ _
 have KQ := Lib.hid (show (W1.setCell ⟨g, 11, none⟩ (.slice lA nl lc)).cell? ⟨q, 0, none⟩ = some (.pointer (some ⟨g, 0, none⟩)) from (World.cell?_setCell_other _ _ _ _ (fun e => by injection e with e; exact NQ.out.1 (.inl (.inl (by first | exact e | exact e.symm))))).trans kq1)
 clear k11 k111 f11 kq1 hHeld GR BX1 HR HT HV SD LV
 generalize W1.setCell ⟨g, 11, none⟩ (.slice lA nl lc) = V2 at CL KQ ⊢
 obtain ⟨c', hc'⟩ : ∃ c', c' = { c with lf := leftL c } := ⟨_, rfl⟩
 obtain ⟨P', hP'⟩ : ∃ P', P' = { P with vl := .slice lA nl lc } := ⟨_, rfl⟩
 have HC := Lib.hid hc'
 have HP := Lib.hid hP'
 rw [← hc', ← hP'] at CL
 clear hc' hP'
 have k11 : V2.cell? ⟨g, 11, none⟩ = some (.slice lA nl lc) := by have := CL.out.s.m.box.cell 11; rw [HP.out] at this; exact this
 have kq : V2.cell? ⟨q, 0, none⟩ = some (.pointer (some ⟨g, 0, none⟩)) := KQ.out
 have hn2 : nl ≤ 1000 := by rw [← HNL.out]; exact Nat.le_trans (left_len FF.out) GG.out.len
 go_wp2_with fail
 go_loopw [22] (fun i W => ∃ (k : Nat) (vv : Value), k ≤ nl ∧ i = .int .i64 k ∧ TkQ V W g n p B P v c' P' vv (ms0 ++ ((leftL c).take k).flatMap (agnL n c)) ∧ W.cell? ⟨q, 0, none⟩ = some (.pointer (some ⟨g, 0, none⟩))) (fun i _ => nl - (intOf i).toNat)
 case atStart => exact ⟨0, v, Nat.zero_le _, rfl, by simpa using CL.out, KQ.out⟩
 case round =>
   obtain ⟨k, vv, hk, rfl, hQ, hqc⟩ := hrel
   rename World => W
   have QQ := Lib.hid hQ
   have QC := Lib.hid hqc
   clear hQ hqc k11 kq
   have hkb : k ≤ 1000 := by omega
   by_cases hlt : k < nl
   · have htl : k < (leftL c).length := by rw [HNL.out]; exact hlt
     obtain ⟨i, hi, het⟩ := left_inn FF.out ((leftL c)[k]) (List.getElem_mem htl)
     have hgd : gd (leftL c) k = (i : Int) + 1 := by rw [gd_get htl]; exact het
     have hcx : c.txs[i]? = some c.txs[i] := List.getElem?_eq_getElem hi
     have hc'x : c'.txs = c.txs := by rw [HC.out]
     have hc'l : c'.cl = c.cl := by rw [HC.out]
     have hiL : i < P'.L.length := by rw [← QQ.out.s.m.r.len, hc'x]; exact hi
     obtain ⟨x, s, hxs, hx⟩ := QQ.out.s.m.r.at_ hiL
     rw [hc'x] at hx
     have gx := GG.out.tx i x hx
     obtain ⟨b, ca, ev, hcell, _, _⟩ := QQ.out.s.m.r.txr.open hiL
     rw [hxs] at hcell
     have TM := Lib.hid (show Tm W 0 x s from by have := QQ.out.s.m.r.sls _ (List.getElem_mem hiL); rw [hxs] at this; exact this)
     have GX := Lib.hid gx
     have HTK := Lib.hid (show (((leftL c).take (k + 1)).flatMap (agnL n c)) = ((leftL c).take k).flatMap (agnL n c) ++ againL x (aliveL n c.cl (ofL ((i : Int) + 1) c.cl)) from by
       rw [List.take_add_one, List.getElem?_eq_getElem htl, List.flatMap_append, het]
       show _ ++ List.flatMap (agnL n c) [(i : Int) + 1] = _
       rw [List.flatMap_singleton]
       unfold agnL
       rw [eL_at hx])
     have HLB := Lib.hid (show (ms0 ++ ((leftL c).take k).flatMap (agnL n c)).length ≤ 100000 from by
       have h1 := agn_len GG.out ((leftL c).take k) fun t ht => left_inn FF.out t (List.mem_of_mem_take ht)
       rw [List.length_append]
       rw [List.length_take] at h1
       have := H0.out
       have := Nat.min_le_left k (leftL c).length
       have : min k (leftL c).length * 65 ≤ 1000 * 65 := Nat.mul_le_mul_right 65 (by omega)
       omega)
     have HAL := Lib.hid (again_few' (x := x) gx.2.2.1.len (aliveL n c.cl (ofL ((i : Int) + 1) c.cl)))
     have HST := Lib.hid (HSS.out i x hx)
     have kl : W.cell? ⟨g, 11, none⟩ = some (.slice lA nl lc) := by have := QQ.out.s.m.box.cell 11; rw [HP.out] at this; exact this
     have kc : ∀ (X : World), NumR X 0 (.slice lA nl lc) (leftL c) → ∃ lb, lA = some ⟨lb, 0, none⟩ ∧ X.cell? ⟨lb, k, none⟩ = some (.int .i64 ((i : Int) + 1)) := fun X hX => by
       unfold NumR at hX
       rcases hX.2 with ⟨e, h0⟩ | ⟨lb, cap, cur, e, _, hh, hnc, _⟩
       · omega
       · injection e with e1 e2 e3
         subst e1
         refine ⟨lb, rfl, ?_⟩
         have hX' : X.ownsRow 0 3 1 (.slice (some ⟨lb, 0, none⟩) nl lc) nl (i64s (leftL c)) := by rw [← HNL.out]; rw [HNL.out]; rw [HNL.out] at hX; exact hX
         rw [own_gd hX' htl, hgd]
     obtain ⟨lb, rfl, kel⟩ := kc W (by have := QQ.out.s.m.r.lfr; rw [HP.out, HC.out] at this; exact this)
     have RCL := Lib.hid (fun (X : World) (hX : Below W.heap.size W X) => (QQ.out.s.m.step hX).r.cli)
     have KK := Lib.hid (fun (X : World) (hX : Below W.heap.size W X) => (show X.cell? ⟨q, 0, none⟩ = some (.pointer (some ⟨g, 0, none⟩)) ∧ X.cell? ⟨g, 7, none⟩ = some (.pointer (some ⟨P'.p, 0, none⟩)) ∧ X.cell? ⟨g, 10, none⟩ = some (.slice (some ⟨b, 0, none⟩) P'.L.length ca) ∧ (∀ j u, (trv (x, s))[j]? = some u → X.cell? ⟨b, i * 13 + j, none⟩ = some u) from
       ⟨(hX.cell (p := ⟨q, 0, none⟩) (World.block_lt_of_cell? _ _ QC.out)).trans QC.out, (QQ.out.s.m.step hX).box.cell 7, by have := (QQ.out.s.m.step hX).box.cell 10; rw [show (coc c' n P')[10]? = some P'.vt from rfl, ev] at this; exact this, fun j u hu => (hX.cell (p := ⟨b, i * 13 + j, none⟩) (World.block_lt_of_cell? _ _ (hcell j u hu))).trans (hcell j u hu)⟩))
     have kq := QC.out
     have k7 := (KK.out W (Below.refl _ _)).2.1
     have w1 : IntKind.i64.wrap ((i : Int) + 1 - 1) = (i : Int) := by rw [show (i : Int) + 1 - 1 = (i : Int) by omega]; exact IntWalk.i64_in _ (by have := GG.out.len; omega)
     have w2 : (i : Int) + 1 - 1 = (i : Int) := by omega
     have w3 : IntKind.i64.wrap (i : Int) = (i : Int) := IntWalk.i64_in _ (by have := GG.out.len; omega)
     have w4 : (0 : Int) ≤ (i : Int) := by omega
     have d1 : decide ((k : Int) < (nl : Int)) = true := decide_eq_true (by omega)
     have d2 : (k : Int) < (nl : Int) := by omega
     have d3 : (i : Int) < (P'.L.length : Int) := by omega
     have HBO := Lib.hid (show P'.own g b from .inl (.inr (.inr (.inl (by rw [ev]; rfl)))))
     have HTL := Lib.hid hc'l
     have HIL := Lib.hid hiL
     clear kc htl het hgd hcx hc'x hc'l hxs hx gx hcell ev hi hiL
     obtain ⟨cid, hcid⟩ : ∃ cid, ofL ((i : Int) + 1) c.cl = cid := ⟨_, rfl⟩
     rw [hcid] at HTK HAL
     obtain ⟨er, her⟩ : ∃ er, ofV cid = .tuple #[.int .i64 cid, er] := ⟨_, rfl⟩
     have HER := Lib.hid (show ofV (ofL ((i : Int) + 1) c.cl) = .tuple #[.int .i64 cid, er] from by rw [hcid]; exact her)
     clear hcid her
     go_upto_region 6 with (go_at_call 111; refine (cOf_any ((i : Int) + 1) _ (RCL.out _ (Below.refl _ _))).mono ?_; rintro e w' ⟨rfl, hww⟩; obtain rfl := hww; rw [HTL.out, HER.out])
     have KW := KK
     clear kel kl kq k7
     obtain ⟨al, hal⟩ : ∃ al, aliveL n c.cl cid = al := ⟨_, rfl⟩
     rw [hal] at HTK HAL
     have HALV := Lib.hid (show aliveL n c'.cl cid = al from by rw [HTL.out]; exact hal)
     clear hal
     have LT := Lib.hid (fun (X : World) (hX : ∀ j u, (trv (x, s))[j]? = some u → X.cell? ⟨b, i * 13 + j, none⟩ = some u) => run_loadVar_cells (P := Tryz.prog) X ⟨b, i * 13, none⟩ 62 (trv (x, s)) _ (TxR.row hX) Tryz.underlying62 rfl (trv_info (x, s)))
     refine wp_region_held_drew (S := fun X => X.cell? ⟨q, 0, none⟩ = some (.pointer (some ⟨g, 0, none⟩)) ∧ X.cell? ⟨g, 7, none⟩ = some (.pointer (some ⟨P'.p, 0, none⟩)) ∧ X.cell? ⟨g, 10, none⟩ = some (.slice (some ⟨b, 0, none⟩) P'.L.length ca) ∧ (∀ j u, (trv (x, s))[j]? = some u → X.cell? ⟨b, i * 13 + j, none⟩ = some u)) (by kernel_rfl) ?_ (fun hHeld => ?_)
     · exact KW.out _ (Below.refl _ _).drew
     refine wpAnyH_take (i := 0) (v := ?_) rfl (by kernel_rfl) (by kernel_rfl) (by kernel_rfl) (fun _ _ _ h => h) (Or.inl ⟨by rfl, ?_⟩) (by assumption) ?_
     rotate_left
     · (intro w0 hSw; (try dsimp only at hSw); go_simp; try with_reducible rfl)
     try simp only [List.getElem_toArray, List.getElem_cons_succ, List.getElem_cons_zero, Act.put, List.setIfInBounds_toArray, List.set_cons_zero, List.set_cons_succ]
     refine wpAnyH_take (i := 1) (v := ?_) rfl (by kernel_rfl) (by kernel_rfl) (by kernel_rfl) (fun _ _ _ h => h) (Or.inl ⟨by rfl, ?_⟩) (by assumption) ?_
     rotate_left
     · (intro w0 hSw; (try dsimp only at hSw); go_simp; try with_reducible rfl)
     try simp only [List.getElem_toArray, List.getElem_cons_succ, List.getElem_cons_zero, Act.put, List.setIfInBounds_toArray, List.set_cons_zero, List.set_cons_succ]
     refine wpAnyH_take (i := 2) (v := ?_) rfl (by kernel_rfl) (by kernel_rfl) (by kernel_rfl) (fun _ _ _ h => h) (Or.inl ⟨by rfl, ?_⟩) (by assumption) ?_
     rotate_left
     · (intro w0 hSw; (try dsimp only at hSw); go_simp; try with_reducible rfl)
     try simp only [List.getElem_toArray, List.getElem_cons_succ, List.getElem_cons_zero, Act.put, List.setIfInBounds_toArray, List.set_cons_zero, List.set_cons_succ]
     refine wpAnyH_take (i := 3) (v := ?_) rfl (by kernel_rfl) (by kernel_rfl) (by kernel_rfl) (fun _ _ _ h => h) (Or.inl ⟨by rfl, ?_⟩) (by assumption) ?_
     rotate_left
     · (intro w0 hSw; (try dsimp only at hSw); go_simp; try with_reducible rfl)
     try simp only [List.getElem_toArray, List.getElem_cons_succ, List.getElem_cons_zero, Act.put, List.setIfInBounds_toArray, List.set_cons_zero, List.set_cons_succ]
     refine wpAnyH_take (i := 4) (v := ?_) rfl (by kernel_rfl) (by kernel_rfl) (by kernel_rfl) (fun _ _ _ h => h) (Or.inl ⟨by rfl, ?_⟩) (by assumption) ?_
     rotate_left
     · (intro w0 hSw; (try dsimp only at hSw); go_simp; try with_reducible rfl)
     try simp only [List.getElem_toArray, List.getElem_cons_succ, List.getElem_cons_zero, Act.put, List.setIfInBounds_toArray, List.set_cons_zero, List.set_cons_succ]
     refine wpAnyH_take (i := 5) (v := ?_) rfl (by kernel_rfl) (by kernel_rfl) (by kernel_rfl) (fun _ _ _ h => h) (Or.inl ⟨by rfl, ?_⟩) (by assumption) ?_
     rotate_left
     · (intro w0 hSw; (try dsimp only at hSw); go_simp; try with_reducible rfl)
     try simp only [List.getElem_toArray, List.getElem_cons_succ, List.getElem_cons_zero, Act.put, List.setIfInBounds_toArray, List.set_cons_zero, List.set_cons_succ]
     refine wpAnyH_take (i := 6) (v := ?_) rfl (by kernel_rfl) (by kernel_rfl) (by kernel_rfl) (fun _ _ _ h => h) (Or.inl ⟨by rfl, ?_⟩) (by assumption) ?_
     rotate_left
     · (intro w0 hSw; (try dsimp only at hSw); go_simp; try with_reducible rfl)
     try simp only [List.getElem_toArray, List.getElem_cons_succ, List.getElem_cons_zero, Act.put, List.setIfInBounds_toArray, List.set_cons_zero, List.set_cons_succ]
     refine wpAnyH_take (i := 7) (v := ?_) rfl (by kernel_rfl) (by kernel_rfl) (by kernel_rfl) (fun _ _ _ h => h) (Or.inl ⟨by rfl, ?_⟩) (by assumption) ?_
     rotate_left
     · (intro w0 hSw; (try dsimp only at hSw); go_simp; try with_reducible rfl)
     try simp only [List.getElem_toArray, List.getElem_cons_succ, List.getElem_cons_zero, Act.put, List.setIfInBounds_toArray, List.set_cons_zero, List.set_cons_succ]
     refine wpAnyH_take (i := 8) (v := .agg (trc x s)) rfl (by kernel_rfl) (by kernel_rfl) (by kernel_rfl) (fun _ _ _ h => h) (Or.inl ⟨by rfl, fun w0 hSw => exec_load (x := .tmp 42) rfl rfl (LT.out w0 hSw.2.2.2)⟩) (by assumption) ?_
     try simp only [List.getElem_toArray, List.getElem_cons_succ, List.getElem_cons_zero, Act.put, List.setIfInBounds_toArray, List.set_cons_zero, List.set_cons_succ]
     refine wpAnyH_take (i := 9) (v := ?_) rfl (by kernel_rfl) (by kernel_rfl) (by kernel_rfl) (fun _ _ _ h => h) (Or.inl ⟨by rfl, ?_⟩) (by assumption) ?_
     rotate_left
     · (intro w0 hSw; (try dsimp only at hSw); go_simp; try with_reducible rfl)
     try simp only [List.getElem_toArray, List.getElem_cons_succ, List.getElem_cons_zero, Act.put, List.setIfInBounds_toArray, List.set_cons_zero, List.set_cons_succ]
     refine wpAnyH_take (i := 10) (v := ?_) rfl (by kernel_rfl) (by kernel_rfl) (by kernel_rfl) (fun _ _ _ h => h) (Or.inl ⟨by rfl, ?_⟩) (by assumption) ?_
     rotate_left
     · (intro w0 hSw; (try dsimp only at hSw); go_simp; try with_reducible rfl)
     try simp only [List.getElem_toArray, List.getElem_cons_succ, List.getElem_cons_zero, Act.put, List.setIfInBounds_toArray, List.set_cons_zero, List.set_cons_succ]
     refine wpAnyH_take (i := 11) (v := ?_) rfl (by kernel_rfl) (by kernel_rfl) (by kernel_rfl) (fun _ _ _ h => h) (Or.inl ⟨by rfl, ?_⟩) (by assumption) ?_
     rotate_left
     · (intro w0 hSw; (try dsimp only at hSw); go_simp; try with_reducible rfl)
     try simp only [List.getElem_toArray, List.getElem_cons_succ, List.getElem_cons_zero, Act.put, List.setIfInBounds_toArray, List.set_cons_zero, List.set_cons_succ]
     refine wpAnyH_take (i := 12) (v := ?_) rfl (by kernel_rfl) (by kernel_rfl) (by kernel_rfl) (fun _ _ _ h => h) (Or.inl ⟨by rfl, ?_⟩) (by assumption) ?_
     rotate_left
     · (intro w0 hSw; (try dsimp only at hSw); go_simp; try with_reducible rfl)
     try simp only [List.getElem_toArray, List.getElem_cons_succ, List.getElem_cons_zero, Act.put, List.setIfInBounds_toArray, List.set_cons_zero, List.set_cons_succ]
     refine wpAnyH_take (i := 13) (v := ?_) rfl (by kernel_rfl) (by kernel_rfl) (by kernel_rfl) (fun _ _ _ h => h) (Or.inl ⟨by rfl, ?_⟩) (by assumption) ?_
     rotate_left
     · (intro w0 hSw; (try dsimp only at hSw); go_simp; try with_reducible rfl)
     try simp only [List.getElem_toArray, List.getElem_cons_succ, List.getElem_cons_zero, Act.put, List.setIfInBounds_toArray, List.set_cons_zero, List.set_cons_succ]
     refine wpAnyH_ready (rs := [14]) (by kernel_rfl) (by simp) ?_
     refine AllReadyH.cons rfl (fun K hK => ?_) AllReadyH.nil
     go_simp
     refine (cAlive_any cid _ (RCL.out _ (Below.refl _ _).drew) al HALV.out).mono ?_
     rintro e9 w9 ⟨rfl, hww⟩
     obtain rfl := hww
     try go_simp
     refine hK.out _ _ hHeld (fun hHeld => ?_)
     clear hK K
     refine wpAnyH_ready (rs := [15]) (by kernel_rfl) (by simp) ?_
     refine AllReadyH.cons rfl (fun K hK => ?_) AllReadyH.nil
     go_simp
     refine (again_any x s al _ (TM.out.step (Below.refl _ _).drew) GX.out.2.2.1 GX.out.2.2.2.1 GX.out.2.2.2.2 HST.out).mono ?_
     rintro e9 w9 ⟨u, rfl, hu, hb9⟩
     have hbW : Below W.heap.size W w9 := ⟨hb9.os, hb9.tape, hb9.output, hb9.size, hb9.block⟩
     have BW := Lib.hid hbW
     have HU := Lib.hid hu
     try go_simp
     refine hK.out _ _ (KW.out _ hbW) (fun hHeld => ?_)
     clear hK K hb9 hbW hu
     refine wpAnyH_ready (rs := [16]) (by kernel_rfl) (by simp) ?_
     refine AllReadyH.cons rfl (fun K hK => ?_) AllReadyH.nil
     go_simp
     have SW := Lib.hid (QQ.out.s.step BW.out)
     refine (tickSend_any p B _ vv u _ _ w9 SW.out.box SW.out.row SW.out.hB HU.out HLB.out (by have := HAL.out; omega)).mono ?_
     rintro e9 w10 ⟨rfl, v', hx, hr, ht, hv⟩
     have Q10 := Lib.hid (QQ.out.trans (TkS.add SW.out BW.out QQ.out.s hx hr ht hv))
     have hne : ∀ k, k ≠ p ∧ ¬ (vv.ownBlock = some k) → ∀ (o : Nat) (u : Value), w9.cell? ⟨k, o, none⟩ = some u → w10.cell? ⟨k, o, none⟩ = some u := fun k hk o u hu => (World.cell?_of_block (ht.block k (World.block_lt_of_cell? _ _ hu) (fun e => e.elim hk.1 hk.2))).trans hu
     have hqv : ¬ (vv.ownBlock = some q) := fun e => by
       rcases QQ.out.vb with h | h
       · rw [h] at e; exact NQ.out.2.2 e
       · have := h q e; have := HQ.out; omega
     have hS10 : w10.cell? ⟨q, 0, none⟩ = some (.pointer (some ⟨g, 0, none⟩)) ∧ w10.cell? ⟨g, 7, none⟩ = some (.pointer (some ⟨P'.p, 0, none⟩)) ∧ w10.cell? ⟨g, 10, none⟩ = some (.slice (some ⟨b, 0, none⟩) P'.L.length ca) ∧ (∀ j u, (trv (x, s))[j]? = some u → w10.cell? ⟨b, i * 13 + j, none⟩ = some u) := by
       obtain ⟨a1, a2, a3, a4⟩ := KW.out _ BW.out
       exact ⟨hne q ⟨NQ.out.2.1, hqv⟩ _ _ a1, hne g (SW.out.pown (.inl (.inl rfl))) _ _ a2, hne g (SW.out.pown (.inl (.inl rfl))) _ _ a3, fun j u hu => hne b (SW.out.pown HBO.out) _ _ (a4 j u hu)⟩
     have Q0 := Lib.hid hS10.1
     clear hx hr ht hv hne hqv
     try go_simp
     refine hK.out _ _ hS10 (fun hHeld => ?_)
     clear hK K hS10
     refine wpAnyH_done (by kernel_rfl) ?_ _
     clear hHeld
     go_wp2_with fail
     go_roundw
     case rel => exact ⟨k + 1, _, by omega, by go_num, by rw [HTK.out, ← List.append_assoc]; exact Q10.out, Q0.out⟩
     case measure => simp [intOf]; omega
   · obtain rfl : k = nl := by omega
     have d1 : decide ((k : Int) < (k : Int)) = false := decide_eq_false (by omega)
     have d2 : ¬ ((k : Int) < (k : Int)) := by omega
     have QE := Lib.hid (show ms0 ++ ((leftL c).take k).flatMap (agnL n c) = ms0 ++ (leftL c).flatMap (agnL n c) from by rw [List.take_of_length_le (by rw [HNL.out]; exact Nat.le_refl _)])
     go_wp2_with fail
     first | go_end0 | refine bodyPost_ret (results_none rfl _ _ _) rfl ?_
     refine ⟨rfl, vv, P', ?_⟩
     have := (TkQ.below HH.out B1.out).trans QQ.out
     rw [QE.out, HC.out] at this
     exact this
end
end Go.Proofs.YtadnlannbafjpaaGreat
