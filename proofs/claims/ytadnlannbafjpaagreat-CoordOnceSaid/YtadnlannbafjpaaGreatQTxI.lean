/- One that goes on from its state. -/
import Derived.Test.YtadnlannbafjpaaGreatQTxM
import Derived.Test.YtadnlannbafjpaaGreatQCliQ
import Derived.Test.YtadnlannbafjpaaGreatQCliP
namespace Go.Proofs.YtadnlannbafjpaaGreat
open Go.RowKit
set_option linter.unusedVariables false
set_option linter.unusedSimpArgs false
theorem news_q (x : Tr) (s : Sl) (q : List Int) (hq : newsL x 0 = q) (w : World) : Calls Tryz.prog 131 #[.agg (trc x s)] w fun e w' => e = .returned (.agg (mc q)) ∧ Below w.heap.size w w' := by rw [← hq]; exact news_any x s w
theorem send_news (y : Tr) (l : List Int) : sendL (newsL y 0) l = l.map (newsL y) := rfl
set_option maxRecDepth 100000 in
set_option maxHeartbeats 8000000 in
theorem goOn_1 {B : Nat} (x : Tr) (s : Sl) (w : World) (h : Tm w B x s) (ht : Shs x.tch) (hv : Shs x.vts) (h1 : x.st = 1) (hne : x.tch ≠ []) :
   Calls Tryz.prog 94 #[.agg (trc x s)] w fun e w' => ∃ u, e = .returned (.tuple #[.agg (trc (pre2 x) s), u]) ∧ MsgR w' w.heap.size u (x.tch.map (newsL (pre2 x))) ∧ Below w.heap.size w w' := by
 have X1 := Lib.hid ((Blk.new w 62 (trc x s)).alloc (.cells zTr 62))
 have Z1 := Lib.hid (Blk.new_at (w := w.alloc (.cells (trc x s) 62)) (n := w.heap.size + 1) (by simp) 62 zTr)
 have B1 := Lib.hid ((Joins.below_alloc1 w (.cells (trc x s) 62)).alloc (by simp) (.cells zTr 62))
 have H0 := Lib.hid h
 have HSH := Lib.hid ht
 have HVS := Lib.hid hv
 have e1 : (x.st == 1) = true := by simpa using h1
 have g0 : decide ((0 : Int) < (x.tch.length : Int)) = true := by have := List.length_pos_iff.2 hne; simp; omega
 have g0' : decide (0 < x.tch.length) = true := by have := List.length_pos_iff.2 hne; simp; omega
 clear h1 hne
 clear h ht hv
 go_enter Tryz.func94, Tryz.ntmps94
 go_upto_region 1 with fail
 obtain ⟨g, hg⟩ : ∃ g, g = w.heap.size := ⟨_, rfl⟩
 have HG := Lib.hid hg
 rw [← hg] at X1 Z1 ⊢
 clear hg
 generalize (w.alloc (.cells (trc x s) 62)).alloc (.cells zTr 62) = V at X1 Z1 B1 ⊢
 have c1 : V.cell? ⟨g, 1, none⟩ = some (.int .i64 x.st) := X1.out.cell 1
 have c9 : V.cell? ⟨g, 9, none⟩ = some s.t := X1.out.cell 9
 have c10 : V.cell? ⟨g, 10, none⟩ = some s.v := X1.out.cell 10
 have c4 : V.cell? ⟨g, 4, none⟩ = some (.bool x.op) := X1.out.cell 4
 have f1 := X1.out.frozen 1
 have f4 := X1.out.frozen 4
 have XY := Lib.hid (show Blk (V.setCell ⟨g, 1, none⟩ (.int .i64 2)) g 62 (trc (pre2 x) s) from X1.out.set_ 1 _)
 have ZY := Lib.hid (Z1.out.far (p := ⟨g, 1, none⟩) (by simp only; omega) (.int .i64 2))
 have BY := Lib.hid (B1.out.setCell (p := ⟨g, 1, none⟩) (by have := HG.out; simp only; omega) (.int .i64 2))
 obtain ⟨At, ct, et⟩ := own_len H0.out.t
 rw [et] at c9
 have ET := Lib.hid et
 clear et
 go_upto_region 9 with fail
 rw [← ET.out] at c9
 generalize V.setCell ⟨g, 1, none⟩ (.int .i64 2) = WY at XY ZY BY ⊢
 have TY := Lib.hid (show NumR WY B s.t (pre2 x).tch from own_step H0.out.t BY.out)
 have OY := Lib.hid (show (trc (pre2 x) s).all (·.oneCell') = true from Tm.one (w := w) (B := B) ⟨H0.out.t, H0.out.v, H0.out.k, H0.out.g⟩)
 clear c1 c9 c10 c4 f1 f4 X1 Z1 B1
 have SHL := Lib.hid (show x.tch.length ≤ 1000 from by have := HSH.out.len; omega)
 have CS := Lib.hid (XY.out.cell 9)
 obtain ⟨q, hq⟩ : ∃ q, newsL (pre2 x) 0 = q := ⟨_, rfl⟩
 have HQ := Lib.hid hq
 have LQ := Lib.hid (show q.length = 28 from by rw [← hq]; rfl)
 clear hq
 refine wp_region_held_drew (S := fun w' => Blk w' g 62 (trc (pre2 x) s) ∧ w'.cell? ⟨g, 9, none⟩ = some s.t) (by kernel_rfl) ⟨XY.out.drew, CS.out⟩ (fun hHeld => ?_)
 have BD := Lib.hid (show Below WY.heap.size WY WY.drew from (Below.refl _ _).drew)
 generalize WY.drew = W1 at BD hHeld ⊢
 refine wpAnyH_take (i := 0) (v := .agg (trc (pre2 x) s)) rfl (by kernel_rfl) (by kernel_rfl) (by kernel_rfl) (fun _ _ _ h => h) (Or.inl ⟨by rfl, fun w0 hSw => exec_load (x := .tmp 1) rfl rfl (tr_load hSw.1)⟩) (by assumption) ?_
 try simp only [List.getElem_toArray, List.getElem_cons_succ, List.getElem_cons_zero, Act.put, List.setIfInBounds_toArray, List.set_cons_zero, List.set_cons_succ]
 refine wpAnyH_take (i := 1) (v := .agg (trc (pre2 x) s)) rfl (by kernel_rfl) (by kernel_rfl) (by kernel_rfl) (fun _ _ _ h => h) (Or.inl ⟨by rfl, fun w0 hSw => exec_load (x := .tmp 1) rfl rfl (tr_load hSw.1)⟩) (by assumption) ?_
 try simp only [List.getElem_toArray, List.getElem_cons_succ, List.getElem_cons_zero, Act.put, List.setIfInBounds_toArray, List.set_cons_zero, List.set_cons_succ]
 refine wpAnyH_take (i := 3) (v := ?_) rfl (by kernel_rfl) (by kernel_rfl) (by kernel_rfl) (fun _ _ _ h => h) (Or.inl ⟨by rfl, ?_⟩) (by assumption) ?_
 rotate_left
 · (intro w0 hSw; (try dsimp only at hSw); go_simp; try with_reducible rfl)
 try simp only [List.getElem_toArray, List.getElem_cons_succ, List.getElem_cons_zero, Act.put, List.setIfInBounds_toArray, List.set_cons_zero, List.set_cons_succ]
 refine wpAnyH_take (i := 4) (v := ?_) rfl (by kernel_rfl) (by kernel_rfl) (by kernel_rfl) (fun _ _ _ h => h) (Or.inl ⟨by rfl, ?_⟩) (by assumption) ?_
 rotate_left
 · (intro w0 hSw; (try dsimp only at hSw); go_simp; try with_reducible rfl)
 try simp only [List.getElem_toArray, List.getElem_cons_succ, List.getElem_cons_zero, Act.put, List.setIfInBounds_toArray, List.set_cons_zero, List.set_cons_succ]
 refine wpAnyH_ready (rs := [2]) (by kernel_rfl) (by simp) ?_
 refine AllReadyH.cons rfl (fun K hK => ?_) AllReadyH.nil
 go_simp
 refine (news_q (pre2 x) s q HQ.out _).mono ?_
 rintro e W2 ⟨rfl, hb⟩
 try go_simp
 have B2 := Lib.hid (BD.out.trans (hb.mono BD.out.size))
 clear hb
 refine hK.out _ _ ⟨XY.out.here B2.out, (XY.out.here B2.out).cell 9⟩ (fun hHeld => ?_)
 clear hK K
 refine wpAnyH_ready (rs := [5]) (by kernel_rfl) (by simp) ?_
 refine AllReadyH.cons rfl (fun K hK => ?_) AllReadyH.nil
 go_simp
 refine (send_any q x.tch LQ.out _ (own_step TY.out B2.out) SHL.out).mono ?_
 rintro e W3 ⟨u, rfl, hu, hb⟩
 try go_simp
 have U3 := Lib.hid hu
 have B3 := Lib.hid (B2.out.trans (hb.mono B2.out.size))
 have S2 := Lib.hid B2.out.size
 clear hu hb
 refine hK.out _ _ ⟨XY.out.here B3.out, (XY.out.here B3.out).cell 9⟩ (fun hHeld => ?_)
 clear hK K
 have Z3 := Lib.hid (ZY.out.here B3.out)
 have hzl := ZY.out.lt
 refine wpAnyH_ready (rs := [6]) (by kernel_rfl) (by simp) ?_
 refine AllReadyH.cons rfl (fun K hK => ?_) AllReadyH.nil
 refine step_store_mid (by rfl) 62 (.tmp 2) (.tmp 25) rfl (g + 1) 0 (trc (pre2 x) s) rfl rfl (Z3.out.there (Nat.le_refl 13)) (tr_info _ _) OY.out ?_
 have X4 := Lib.hid (show Blk (W3.setCells (g + 1) 0 (trc (pre2 x) s).toList) g 62 (trc (pre2 x) s) from (XY.out.here B3.out).farCells (by omega) _ _ _)
 refine hK.out _ _ ⟨X4.out, X4.out.cell 9⟩ (fun hHeld => ?_)
 clear hK K
 refine wpAnyH_take (i := 7) (v := ?_) rfl (by kernel_rfl) (by kernel_rfl) (by kernel_rfl) (fun _ _ _ h => h) (Or.inl ⟨by rfl, ?_⟩) (by assumption) ?_
 rotate_left
 · (intro w0 hSw; (try dsimp only at hSw); go_simp; try with_reducible rfl)
 try simp only [List.getElem_toArray, List.getElem_cons_succ, List.getElem_cons_zero, Act.put, List.setIfInBounds_toArray, List.set_cons_zero, List.set_cons_succ]
 refine wpAnyH_done (by kernel_rfl) ?_ _
 have E4 := Lib.hid (show Turn (fun k => k = g + 1) W3 (W3.setCells (g + 1) 0 (trc (pre2 x) s).toList) from Turn.setCells (S := fun k => k = g + 1) (fun _ => rfl) _ _ _ (Turn.refl _ _))
 have U4 := Lib.hid (own_off U3.out E4.out (fun k hk _ e => by have := S2.out; omega))
 have Z4 := Lib.hid (Z3.out.put (trc (pre2 x) s) rfl)
 have F4 := Lib.hid ((BY.out.trans (B3.out.mono BY.out.size)).trans (E4.out.below (B := w.heap.size) (fun k hk e => by have := HG.out; omega) (Nat.le_trans BY.out.size B3.out.size)))
 clear hHeld
 go_wp2_with fail
 exact bodyPost_ret (v := .tuple #[.agg (trc (pre2 x) s), u]) (results_cell_and rfl rfl rfl (tr_load Z4.out)) rfl ⟨u, rfl, own_less (by rw [← send_news, HQ.out]; exact U4.out) (by have := S2.out; have := BY.out.size; have := B3.out.size; omega), F4.out⟩
set_option maxRecDepth 100000 in
set_option maxHeartbeats 8000000 in
theorem goOn_n {B : Nat} (x : Tr) (s : Sl) (w : World) (h : Tm w B x s) (ht : Shs x.tch) (hv : Shs x.vts) (h1 : x.st = 1) (hne : x.tch = []) :
   Calls Tryz.prog 94 #[.agg (trc x s)] w fun e w' => ∃ u, e = .returned (.tuple #[.agg (trc (comL x) s), u]) ∧ MsgR w' w.heap.size u (x.tch.map (newsL (comL x))) ∧ Below w.heap.size w w' := by
 have X1 := Lib.hid ((Blk.new w 62 (trc x s)).alloc (.cells zTr 62))
 have Z1 := Lib.hid (Blk.new_at (w := w.alloc (.cells (trc x s) 62)) (n := w.heap.size + 1) (by simp) 62 zTr)
 have B1 := Lib.hid ((Joins.below_alloc1 w (.cells (trc x s) 62)).alloc (by simp) (.cells zTr 62))
 have H0 := Lib.hid h
 have HSH := Lib.hid ht
 have HVS := Lib.hid hv
 have e1 : (x.st == 1) = true := by simpa using h1
 have g0 : decide ((0 : Int) < (x.tch.length : Int)) = false := by rw [hne]; rfl
 have g0' : decide (0 < x.tch.length) = false := by rw [hne]; rfl
 have HW := Lib.hid (show withoutL x.tch x.vts = [] from by rw [hne]; rfl)
 clear h1 hne
 clear h ht hv
 go_enter Tryz.func94, Tryz.ntmps94
 go_upto_region 1 with fail
 obtain ⟨g, hg⟩ : ∃ g, g = w.heap.size := ⟨_, rfl⟩
 have HG := Lib.hid hg
 rw [← hg] at X1 Z1 ⊢
 clear hg
 generalize (w.alloc (.cells (trc x s) 62)).alloc (.cells zTr 62) = V at X1 Z1 B1 ⊢
 have c1 : V.cell? ⟨g, 1, none⟩ = some (.int .i64 x.st) := X1.out.cell 1
 have c9 : V.cell? ⟨g, 9, none⟩ = some s.t := X1.out.cell 9
 have c10 : V.cell? ⟨g, 10, none⟩ = some s.v := X1.out.cell 10
 have c4 : V.cell? ⟨g, 4, none⟩ = some (.bool x.op) := X1.out.cell 4
 have f1 := X1.out.frozen 1
 have f4 := X1.out.frozen 4
 go_upto_region 5 with fail
 have XV := Lib.hid (show Blk (V.setCell ⟨g, 1, none⟩ (.int .i64 2)) g 62 (trc (pre2 x) s) from X1.out.set_ 1 _)
 have ZV := Lib.hid (Z1.out.far (p := ⟨g, 1, none⟩) (by simp only; omega) (.int .i64 2))
 have BV := Lib.hid (B1.out.setCell (p := ⟨g, 1, none⟩) (by have := HG.out; simp only; omega) (.int .i64 2))
 clear c1 c9 c10 c4 f1 f4 X1 Z1 B1
 generalize V.setCell ⟨g, 1, none⟩ (.int .i64 2) = WV at XV ZV BV ⊢
 obtain ⟨At, ct, et⟩ := own_len H0.out.t
 obtain ⟨Av, cv, ev⟩ := own_len H0.out.v
 have ET := Lib.hid et
 have EV := Lib.hid ev
 have WO := Lib.hid (fun (W : World) (hW : Below w.heap.size w W) => without_any x.tch x.vts W (own_step H0.out.t hW) (own_step H0.out.v hW) HSH.out.all HVS.out.all (by have := HSH.out.len; omega) (by have := HVS.out.len; omega))
 rw [et, ev] at WO
 have c9 : WV.cell? ⟨g, 9, none⟩ = some (.slice At x.tch.length ct) := by rw [← et]; exact XV.out.cell 9
 have c10 : WV.cell? ⟨g, 10, none⟩ = some (.slice Av x.vts.length cv) := by rw [← ev]; exact XV.out.cell 10
 clear et ev
 obtain ⟨lw, hlw⟩ : ∃ lw, withoutL x.tch x.vts = lw := ⟨_, rfl⟩
 rw [hlw] at WO HW
 clear hlw
 have HW := HW.out
 subst HW
 go_upto_region 9 with (go_at_call 130; refine (WO.out _ BV.out).mono ?_; rintro e W2 ⟨r2, rfl, hr2, hb2⟩; obtain ⟨A2, c2, rfl⟩ := own_len hr2; have X2 := Lib.hid (XV.out.here hb2); have Z2 := Lib.hid (ZV.out.here hb2); have B2 := Lib.hid (stepB BV.out hb2); have f1 := (XV.out.here hb2).frozen 1; have f4 := (XV.out.here hb2).frozen 4; have k1 : W2.cell? ⟨g, 1, none⟩ = some (.int .i64 2) := (XV.out.here hb2).cell 1; have k4 : W2.cell? ⟨g, 4, none⟩ = some (.bool x.op) := (XV.out.here hb2).cell 4; clear hr2 hb2)
 have XY := Lib.hid (show Blk ((W2.setCell ⟨g, 1, none⟩ (.int .i64 3)).setCell ⟨g, 4, none⟩ (.bool false)) g 62 (trc (comL x) s) from (X2.out.set_ 1 _).set_ 4 _)
 have hzv := ZV.out.lt
 have ZY := Lib.hid ((Z2.out.far (p := ⟨g, 1, none⟩) (by simp only; omega) (.int .i64 3)).far (p := ⟨g, 4, none⟩) (by simp only; omega) (.bool false))
 have BY := Lib.hid ((B2.out.setCell (p := ⟨g, 1, none⟩) (by have := HG.out; simp only; omega) (.int .i64 3)).setCell (p := ⟨g, 4, none⟩) (by have := HG.out; simp only; omega) (.bool false))
 clear k1 k4 f1 f4 c9 c10
 generalize (W2.setCell ⟨g, 1, none⟩ (.int .i64 3)).setCell ⟨g, 4, none⟩ (.bool false) = WY at XY ZY BY ⊢
 have TY := Lib.hid (show NumR WY B (.slice At x.tch.length ct) x.tch from by rw [← ET.out]; exact own_step H0.out.t BY.out)
 have TY := Lib.hid (show NumR WY B s.t x.tch from own_step H0.out.t BY.out)
 have OY := Lib.hid (show (trc (comL x) s).all (·.oneCell') = true from Tm.one (w := w) (B := B) ⟨H0.out.t, H0.out.v, H0.out.k, H0.out.g⟩)
 have SHL := Lib.hid (show x.tch.length ≤ 1000 from by have := HSH.out.len; omega)
 have CS := Lib.hid (XY.out.cell 9)
 obtain ⟨q, hq⟩ : ∃ q, newsL (comL x) 0 = q := ⟨_, rfl⟩
 have HQ := Lib.hid hq
 have LQ := Lib.hid (show q.length = 28 from by rw [← hq]; rfl)
 clear hq
 refine wp_region_held_drew (S := fun w' => Blk w' g 62 (trc (comL x) s) ∧ w'.cell? ⟨g, 9, none⟩ = some s.t) (by kernel_rfl) ⟨XY.out.drew, CS.out⟩ (fun hHeld => ?_)
 have BD := Lib.hid (show Below WY.heap.size WY WY.drew from (Below.refl _ _).drew)
 generalize WY.drew = W1 at BD hHeld ⊢
 refine wpAnyH_take (i := 0) (v := .agg (trc (comL x) s)) rfl (by kernel_rfl) (by kernel_rfl) (by kernel_rfl) (fun _ _ _ h => h) (Or.inl ⟨by rfl, fun w0 hSw => exec_load (x := .tmp 1) rfl rfl (tr_load hSw.1)⟩) (by assumption) ?_
 try simp only [List.getElem_toArray, List.getElem_cons_succ, List.getElem_cons_zero, Act.put, List.setIfInBounds_toArray, List.set_cons_zero, List.set_cons_succ]
 refine wpAnyH_take (i := 1) (v := .agg (trc (comL x) s)) rfl (by kernel_rfl) (by kernel_rfl) (by kernel_rfl) (fun _ _ _ h => h) (Or.inl ⟨by rfl, fun w0 hSw => exec_load (x := .tmp 1) rfl rfl (tr_load hSw.1)⟩) (by assumption) ?_
 try simp only [List.getElem_toArray, List.getElem_cons_succ, List.getElem_cons_zero, Act.put, List.setIfInBounds_toArray, List.set_cons_zero, List.set_cons_succ]
 refine wpAnyH_take (i := 3) (v := ?_) rfl (by kernel_rfl) (by kernel_rfl) (by kernel_rfl) (fun _ _ _ h => h) (Or.inl ⟨by rfl, ?_⟩) (by assumption) ?_
 rotate_left
 · (intro w0 hSw; (try dsimp only at hSw); go_simp; try with_reducible rfl)
 try simp only [List.getElem_toArray, List.getElem_cons_succ, List.getElem_cons_zero, Act.put, List.setIfInBounds_toArray, List.set_cons_zero, List.set_cons_succ]
 refine wpAnyH_take (i := 4) (v := ?_) rfl (by kernel_rfl) (by kernel_rfl) (by kernel_rfl) (fun _ _ _ h => h) (Or.inl ⟨by rfl, ?_⟩) (by assumption) ?_
 rotate_left
 · (intro w0 hSw; (try dsimp only at hSw); go_simp; try with_reducible rfl)
 try simp only [List.getElem_toArray, List.getElem_cons_succ, List.getElem_cons_zero, Act.put, List.setIfInBounds_toArray, List.set_cons_zero, List.set_cons_succ]
 refine wpAnyH_ready (rs := [2]) (by kernel_rfl) (by simp) ?_
 refine AllReadyH.cons rfl (fun K hK => ?_) AllReadyH.nil
 go_simp
 refine (news_q (comL x) s q HQ.out _).mono ?_
 rintro e W2 ⟨rfl, hb⟩
 try go_simp
 have B2 := Lib.hid (BD.out.trans (hb.mono BD.out.size))
 clear hb
 refine hK.out _ _ ⟨XY.out.here B2.out, (XY.out.here B2.out).cell 9⟩ (fun hHeld => ?_)
 clear hK K
 refine wpAnyH_ready (rs := [5]) (by kernel_rfl) (by simp) ?_
 refine AllReadyH.cons rfl (fun K hK => ?_) AllReadyH.nil
 go_simp
 refine (send_any q x.tch LQ.out _ (own_step TY.out B2.out) SHL.out).mono ?_
 rintro e W3 ⟨u, rfl, hu, hb⟩
 try go_simp
 have U3 := Lib.hid hu
 have B3 := Lib.hid (B2.out.trans (hb.mono B2.out.size))
 have S2 := Lib.hid B2.out.size
 clear hu hb
 refine hK.out _ _ ⟨XY.out.here B3.out, (XY.out.here B3.out).cell 9⟩ (fun hHeld => ?_)
 clear hK K
 have Z3 := Lib.hid (ZY.out.here B3.out)
 have hzl := ZY.out.lt
 refine wpAnyH_ready (rs := [6]) (by kernel_rfl) (by simp) ?_
 refine AllReadyH.cons rfl (fun K hK => ?_) AllReadyH.nil
 refine step_store_mid (by rfl) 62 (.tmp 2) (.tmp 25) rfl (g + 1) 0 (trc (comL x) s) rfl rfl (Z3.out.there (Nat.le_refl 13)) (tr_info _ _) OY.out ?_
 have X4 := Lib.hid (show Blk (W3.setCells (g + 1) 0 (trc (comL x) s).toList) g 62 (trc (comL x) s) from (XY.out.here B3.out).farCells (by omega) _ _ _)
 refine hK.out _ _ ⟨X4.out, X4.out.cell 9⟩ (fun hHeld => ?_)
 clear hK K
 refine wpAnyH_take (i := 7) (v := ?_) rfl (by kernel_rfl) (by kernel_rfl) (by kernel_rfl) (fun _ _ _ h => h) (Or.inl ⟨by rfl, ?_⟩) (by assumption) ?_
 rotate_left
 · (intro w0 hSw; (try dsimp only at hSw); go_simp; try with_reducible rfl)
 try simp only [List.getElem_toArray, List.getElem_cons_succ, List.getElem_cons_zero, Act.put, List.setIfInBounds_toArray, List.set_cons_zero, List.set_cons_succ]
 refine wpAnyH_done (by kernel_rfl) ?_ _
 have E4 := Lib.hid (show Turn (fun k => k = g + 1) W3 (W3.setCells (g + 1) 0 (trc (comL x) s).toList) from Turn.setCells (S := fun k => k = g + 1) (fun _ => rfl) _ _ _ (Turn.refl _ _))
 have U4 := Lib.hid (own_off U3.out E4.out (fun k hk _ e => by have := S2.out; omega))
 have Z4 := Lib.hid (Z3.out.put (trc (comL x) s) rfl)
 have F4 := Lib.hid ((BY.out.trans (B3.out.mono BY.out.size)).trans (E4.out.below (B := w.heap.size) (fun k hk e => by have := HG.out; omega) (Nat.le_trans BY.out.size B3.out.size)))
 clear hHeld
 go_wp2_with fail
 exact bodyPost_ret (v := .tuple #[.agg (trc (comL x) s), u]) (results_cell_and rfl rfl rfl (tr_load Z4.out)) rfl ⟨u, rfl, own_less (by rw [← send_news, HQ.out]; exact U4.out) (by have := S2.out; have := BY.out.size; have := B3.out.size; omega), F4.out⟩
set_option maxRecDepth 100000 in
set_option maxHeartbeats 8000000 in
theorem goOn_c {B : Nat} (x : Tr) (s : Sl) (w : World) (h : Tm w B x s) (ht : Shs x.tch) (hv : Shs x.vts) (h2 : x.st = 2) (hw : withoutL x.tch x.vts = []) :
   Calls Tryz.prog 94 #[.agg (trc x s)] w fun e w' => ∃ u, e = .returned (.tuple #[.agg (trc (comL x) s), u]) ∧ MsgR w' w.heap.size u (x.tch.map (newsL (comL x))) ∧ Below w.heap.size w w' := by
 have X1 := Lib.hid ((Blk.new w 62 (trc x s)).alloc (.cells zTr 62))
 have Z1 := Lib.hid (Blk.new_at (w := w.alloc (.cells (trc x s) 62)) (n := w.heap.size + 1) (by simp) 62 zTr)
 have B1 := Lib.hid ((Joins.below_alloc1 w (.cells (trc x s) 62)).alloc (by simp) (.cells zTr 62))
 have H0 := Lib.hid h
 have HSH := Lib.hid ht
 have HVS := Lib.hid hv
 have e1 : (x.st == 1) = false := by simp; omega
 have e2 : (x.st == 2) = true := by simpa using h2
 have HW := Lib.hid hw
 clear h2 hw
 clear h ht hv
 go_enter Tryz.func94, Tryz.ntmps94
 go_upto_region 1 with fail
 obtain ⟨g, hg⟩ : ∃ g, g = w.heap.size := ⟨_, rfl⟩
 have HG := Lib.hid hg
 rw [← hg] at X1 Z1 ⊢
 clear hg
 generalize (w.alloc (.cells (trc x s) 62)).alloc (.cells zTr 62) = V at X1 Z1 B1 ⊢
 have c1 : V.cell? ⟨g, 1, none⟩ = some (.int .i64 x.st) := X1.out.cell 1
 have c9 : V.cell? ⟨g, 9, none⟩ = some s.t := X1.out.cell 9
 have c10 : V.cell? ⟨g, 10, none⟩ = some s.v := X1.out.cell 10
 have c4 : V.cell? ⟨g, 4, none⟩ = some (.bool x.op) := X1.out.cell 4
 have f1 := X1.out.frozen 1
 have f4 := X1.out.frozen 4
 have XV := X1
 have ZV := Z1
 have BV := B1
 clear c9 c10 c4 f1 f4 X1 Z1 B1
 generalize V = WV at XV ZV BV c1 ⊢
 obtain ⟨At, ct, et⟩ := own_len H0.out.t
 obtain ⟨Av, cv, ev⟩ := own_len H0.out.v
 have ET := Lib.hid et
 have EV := Lib.hid ev
 have WO := Lib.hid (fun (W : World) (hW : Below w.heap.size w W) => without_any x.tch x.vts W (own_step H0.out.t hW) (own_step H0.out.v hW) HSH.out.all HVS.out.all (by have := HSH.out.len; omega) (by have := HVS.out.len; omega))
 rw [et, ev] at WO
 have c9 : WV.cell? ⟨g, 9, none⟩ = some (.slice At x.tch.length ct) := by rw [← et]; exact XV.out.cell 9
 have c10 : WV.cell? ⟨g, 10, none⟩ = some (.slice Av x.vts.length cv) := by rw [← ev]; exact XV.out.cell 10
 clear et ev
 obtain ⟨lw, hlw⟩ : ∃ lw, withoutL x.tch x.vts = lw := ⟨_, rfl⟩
 rw [hlw] at WO HW
 clear hlw
 have HW := HW.out
 subst HW
 go_upto_region 9 with (go_at_call 130; refine (WO.out _ BV.out).mono ?_; rintro e W2 ⟨r2, rfl, hr2, hb2⟩; obtain ⟨A2, c2, rfl⟩ := own_len hr2; have X2 := Lib.hid (XV.out.here hb2); have Z2 := Lib.hid (ZV.out.here hb2); have B2 := Lib.hid (stepB BV.out hb2); have f1 := (XV.out.here hb2).frozen 1; have f4 := (XV.out.here hb2).frozen 4; have k1 : W2.cell? ⟨g, 1, none⟩ = some (.int .i64 x.st) := (XV.out.here hb2).cell 1; have k4 : W2.cell? ⟨g, 4, none⟩ = some (.bool x.op) := (XV.out.here hb2).cell 4; clear hr2 hb2)
 have XY := Lib.hid (show Blk ((W2.setCell ⟨g, 1, none⟩ (.int .i64 3)).setCell ⟨g, 4, none⟩ (.bool false)) g 62 (trc (comL x) s) from (X2.out.set_ 1 _).set_ 4 _)
 have hzv := ZV.out.lt
 have ZY := Lib.hid ((Z2.out.far (p := ⟨g, 1, none⟩) (by simp only; omega) (.int .i64 3)).far (p := ⟨g, 4, none⟩) (by simp only; omega) (.bool false))
 have BY := Lib.hid ((B2.out.setCell (p := ⟨g, 1, none⟩) (by have := HG.out; simp only; omega) (.int .i64 3)).setCell (p := ⟨g, 4, none⟩) (by have := HG.out; simp only; omega) (.bool false))
 clear k1 k4 f1 f4 c9 c10
 generalize (W2.setCell ⟨g, 1, none⟩ (.int .i64 3)).setCell ⟨g, 4, none⟩ (.bool false) = WY at XY ZY BY ⊢
 have TY := Lib.hid (show NumR WY B (.slice At x.tch.length ct) x.tch from by rw [← ET.out]; exact own_step H0.out.t BY.out)
 have TY := Lib.hid (show NumR WY B s.t x.tch from own_step H0.out.t BY.out)
 have OY := Lib.hid (show (trc (comL x) s).all (·.oneCell') = true from Tm.one (w := w) (B := B) ⟨H0.out.t, H0.out.v, H0.out.k, H0.out.g⟩)
 have SHL := Lib.hid (show x.tch.length ≤ 1000 from by have := HSH.out.len; omega)
 have CS := Lib.hid (XY.out.cell 9)
 obtain ⟨q, hq⟩ : ∃ q, newsL (comL x) 0 = q := ⟨_, rfl⟩
 have HQ := Lib.hid hq
 have LQ := Lib.hid (show q.length = 28 from by rw [← hq]; rfl)
 clear hq
 refine wp_region_held_drew (S := fun w' => Blk w' g 62 (trc (comL x) s) ∧ w'.cell? ⟨g, 9, none⟩ = some s.t) (by kernel_rfl) ⟨XY.out.drew, CS.out⟩ (fun hHeld => ?_)
 have BD := Lib.hid (show Below WY.heap.size WY WY.drew from (Below.refl _ _).drew)
 generalize WY.drew = W1 at BD hHeld ⊢
 refine wpAnyH_take (i := 0) (v := .agg (trc (comL x) s)) rfl (by kernel_rfl) (by kernel_rfl) (by kernel_rfl) (fun _ _ _ h => h) (Or.inl ⟨by rfl, fun w0 hSw => exec_load (x := .tmp 1) rfl rfl (tr_load hSw.1)⟩) (by assumption) ?_
 try simp only [List.getElem_toArray, List.getElem_cons_succ, List.getElem_cons_zero, Act.put, List.setIfInBounds_toArray, List.set_cons_zero, List.set_cons_succ]
 refine wpAnyH_take (i := 1) (v := .agg (trc (comL x) s)) rfl (by kernel_rfl) (by kernel_rfl) (by kernel_rfl) (fun _ _ _ h => h) (Or.inl ⟨by rfl, fun w0 hSw => exec_load (x := .tmp 1) rfl rfl (tr_load hSw.1)⟩) (by assumption) ?_
 try simp only [List.getElem_toArray, List.getElem_cons_succ, List.getElem_cons_zero, Act.put, List.setIfInBounds_toArray, List.set_cons_zero, List.set_cons_succ]
 refine wpAnyH_take (i := 3) (v := ?_) rfl (by kernel_rfl) (by kernel_rfl) (by kernel_rfl) (fun _ _ _ h => h) (Or.inl ⟨by rfl, ?_⟩) (by assumption) ?_
 rotate_left
 · (intro w0 hSw; (try dsimp only at hSw); go_simp; try with_reducible rfl)
 try simp only [List.getElem_toArray, List.getElem_cons_succ, List.getElem_cons_zero, Act.put, List.setIfInBounds_toArray, List.set_cons_zero, List.set_cons_succ]
 refine wpAnyH_take (i := 4) (v := ?_) rfl (by kernel_rfl) (by kernel_rfl) (by kernel_rfl) (fun _ _ _ h => h) (Or.inl ⟨by rfl, ?_⟩) (by assumption) ?_
 rotate_left
 · (intro w0 hSw; (try dsimp only at hSw); go_simp; try with_reducible rfl)
 try simp only [List.getElem_toArray, List.getElem_cons_succ, List.getElem_cons_zero, Act.put, List.setIfInBounds_toArray, List.set_cons_zero, List.set_cons_succ]
 refine wpAnyH_ready (rs := [2]) (by kernel_rfl) (by simp) ?_
 refine AllReadyH.cons rfl (fun K hK => ?_) AllReadyH.nil
 go_simp
 refine (news_q (comL x) s q HQ.out _).mono ?_
 rintro e W2 ⟨rfl, hb⟩
 try go_simp
 have B2 := Lib.hid (BD.out.trans (hb.mono BD.out.size))
 clear hb
 refine hK.out _ _ ⟨XY.out.here B2.out, (XY.out.here B2.out).cell 9⟩ (fun hHeld => ?_)
 clear hK K
 refine wpAnyH_ready (rs := [5]) (by kernel_rfl) (by simp) ?_
 refine AllReadyH.cons rfl (fun K hK => ?_) AllReadyH.nil
 go_simp
 refine (send_any q x.tch LQ.out _ (own_step TY.out B2.out) SHL.out).mono ?_
 rintro e W3 ⟨u, rfl, hu, hb⟩
 try go_simp
 have U3 := Lib.hid hu
 have B3 := Lib.hid (B2.out.trans (hb.mono B2.out.size))
 have S2 := Lib.hid B2.out.size
 clear hu hb
 refine hK.out _ _ ⟨XY.out.here B3.out, (XY.out.here B3.out).cell 9⟩ (fun hHeld => ?_)
 clear hK K
 have Z3 := Lib.hid (ZY.out.here B3.out)
 have hzl := ZY.out.lt
 refine wpAnyH_ready (rs := [6]) (by kernel_rfl) (by simp) ?_
 refine AllReadyH.cons rfl (fun K hK => ?_) AllReadyH.nil
 refine step_store_mid (by rfl) 62 (.tmp 2) (.tmp 25) rfl (g + 1) 0 (trc (comL x) s) rfl rfl (Z3.out.there (Nat.le_refl 13)) (tr_info _ _) OY.out ?_
 have X4 := Lib.hid (show Blk (W3.setCells (g + 1) 0 (trc (comL x) s).toList) g 62 (trc (comL x) s) from (XY.out.here B3.out).farCells (by omega) _ _ _)
 refine hK.out _ _ ⟨X4.out, X4.out.cell 9⟩ (fun hHeld => ?_)
 clear hK K
 refine wpAnyH_take (i := 7) (v := ?_) rfl (by kernel_rfl) (by kernel_rfl) (by kernel_rfl) (fun _ _ _ h => h) (Or.inl ⟨by rfl, ?_⟩) (by assumption) ?_
 rotate_left
 · (intro w0 hSw; (try dsimp only at hSw); go_simp; try with_reducible rfl)
 try simp only [List.getElem_toArray, List.getElem_cons_succ, List.getElem_cons_zero, Act.put, List.setIfInBounds_toArray, List.set_cons_zero, List.set_cons_succ]
 refine wpAnyH_done (by kernel_rfl) ?_ _
 have E4 := Lib.hid (show Turn (fun k => k = g + 1) W3 (W3.setCells (g + 1) 0 (trc (comL x) s).toList) from Turn.setCells (S := fun k => k = g + 1) (fun _ => rfl) _ _ _ (Turn.refl _ _))
 have U4 := Lib.hid (own_off U3.out E4.out (fun k hk _ e => by have := S2.out; omega))
 have Z4 := Lib.hid (Z3.out.put (trc (comL x) s) rfl)
 have F4 := Lib.hid ((BY.out.trans (B3.out.mono BY.out.size)).trans (E4.out.below (B := w.heap.size) (fun k hk e => by have := HG.out; omega) (Nat.le_trans BY.out.size B3.out.size)))
 clear hHeld
 go_wp2_with fail
 exact bodyPost_ret (v := .tuple #[.agg (trc (comL x) s), u]) (results_cell_and rfl rfl rfl (tr_load Z4.out)) rfl ⟨u, rfl, own_less (by rw [← send_news, HQ.out]; exact U4.out) (by have := S2.out; have := BY.out.size; have := B3.out.size; omega), F4.out⟩
set_option maxRecDepth 100000 in
set_option maxHeartbeats 8000000 in
theorem goOn_w {B : Nat} (x : Tr) (s : Sl) (w : World) (h : Tm w B x s) (ht : Shs x.tch) (hv : Shs x.vts) (h2 : x.st = 2) (hw : withoutL x.tch x.vts ≠ []) :
   Calls Tryz.prog 94 #[.agg (trc x s)] w fun e w' => ∃ u, e = .returned (.tuple #[.agg (trc x s), u]) ∧ MsgR w' w.heap.size u [] ∧ Below w.heap.size w w' := by
 have X1 := Lib.hid ((Blk.new w 62 (trc x s)).alloc (.cells zTr 62))
 have Z1 := Lib.hid (Blk.new_at (w := w.alloc (.cells (trc x s) 62)) (n := w.heap.size + 1) (by simp) 62 zTr)
 have B1 := Lib.hid ((Joins.below_alloc1 w (.cells (trc x s) 62)).alloc (by simp) (.cells zTr 62))
 have H0 := Lib.hid h
 have HSH := Lib.hid ht
 have HVS := Lib.hid hv
 have e1 : (x.st == 1) = false := by simp; omega
 have e2 : (x.st == 2) = true := by simpa using h2
 have HW := Lib.hid hw
 clear h2 hw
 clear h ht hv
 go_enter Tryz.func94, Tryz.ntmps94
 go_upto_region 1 with fail
 obtain ⟨g, hg⟩ : ∃ g, g = w.heap.size := ⟨_, rfl⟩
 have HG := Lib.hid hg
 rw [← hg] at X1 Z1 ⊢
 clear hg
 generalize (w.alloc (.cells (trc x s) 62)).alloc (.cells zTr 62) = V at X1 Z1 B1 ⊢
 have c1 : V.cell? ⟨g, 1, none⟩ = some (.int .i64 x.st) := X1.out.cell 1
 have c9 : V.cell? ⟨g, 9, none⟩ = some s.t := X1.out.cell 9
 have c10 : V.cell? ⟨g, 10, none⟩ = some s.v := X1.out.cell 10
 have c4 : V.cell? ⟨g, 4, none⟩ = some (.bool x.op) := X1.out.cell 4
 have f1 := X1.out.frozen 1
 have f4 := X1.out.frozen 4
 have XV := X1
 have ZV := Z1
 have BV := B1
 clear c9 c10 c4 f1 f4 X1 Z1 B1
 generalize V = WV at XV ZV BV c1 ⊢
 obtain ⟨At, ct, et⟩ := own_len H0.out.t
 obtain ⟨Av, cv, ev⟩ := own_len H0.out.v
 have ET := Lib.hid et
 have EV := Lib.hid ev
 have WO := Lib.hid (fun (W : World) (hW : Below w.heap.size w W) => without_any x.tch x.vts W (own_step H0.out.t hW) (own_step H0.out.v hW) HSH.out.all HVS.out.all (by have := HSH.out.len; omega) (by have := HVS.out.len; omega))
 rw [et, ev] at WO
 have c9 : WV.cell? ⟨g, 9, none⟩ = some (.slice At x.tch.length ct) := by rw [← et]; exact XV.out.cell 9
 have c10 : WV.cell? ⟨g, 10, none⟩ = some (.slice Av x.vts.length cv) := by rw [← ev]; exact XV.out.cell 10
 clear et ev
 obtain ⟨lw, hlw⟩ : ∃ lw, withoutL x.tch x.vts = lw := ⟨_, rfl⟩
 rw [hlw] at WO HW
 clear hlw
 have d0 : decide ((0 : Int) < (lw.length : Int)) = true := by have := List.length_pos_iff.2 HW.out; simp; omega
 have d0' : decide (0 < lw.length) = true := by have := List.length_pos_iff.2 HW.out; simp; omega
 have OY := Lib.hid (show (trc x s).all (·.oneCell') = true from H0.out.one)
 go_wp2_with (first
   | (go_at_call 130; refine (WO.out _ BV.out).mono ?_; rintro e W2 ⟨r2, rfl, hr2, hb2⟩; obtain ⟨A2, c2, rfl⟩ := own_len hr2; have X2 := Lib.hid (XV.out.here hb2); have Z2 := Lib.hid (ZV.out.here hb2); have B2 := Lib.hid (stepB BV.out hb2); have f1 := (XV.out.here hb2).frozen 1; have f4 := (XV.out.here hb2).frozen 4; have k1 : W2.cell? ⟨g, 1, none⟩ = some (.int .i64 x.st) := (XV.out.here hb2).cell 1; have k4 : W2.cell? ⟨g, 4, none⟩ = some (.bool x.op) := (XV.out.here hb2).cell 4; clear hr2 hb2)
   | (refine wpList_load_row rfl 62 (.tmp 1) rfl g rfl 62 (trc x s) (0, 0) _ X2.out Tryz.underlying62 rfl (tr_info _ _) ?_)
   | (refine wpList_store_mid (by rfl) 62 (.tmp 2) (.tmp 22) (by rfl) (g + 1) 0 (trc x s) (by rfl) (by rfl) (Z2.out.there (Nat.le_refl 13)) (tr_info _ _) OY.out ?_))
 exact bodyPost_ret (v := .tuple #[.agg (trc x s), .slice none 0 0]) (results_cell_and rfl rfl rfl (tr_load (Z2.out.put (trc x s) rfl))) rfl ⟨_, rfl, World.ownsRow_nil _ _ _ _, Below.setCells (by have := HG.out; omega) _ _ _ B2.out⟩
theorem goOn_any {B : Nat} (x : Tr) (s : Sl) (w : World) (h : Tm w B x s) (ht : Shs x.tch) (hv : Shs x.vts) (hst : x.st = 1 ∨ x.st = 2) :
   Calls Tryz.prog 94 #[.agg (trc x s)] w fun e w' => ∃ u, e = .returned (.tuple #[.agg (trc (goOnL x).1 s), u]) ∧ MsgR w' w.heap.size u (goOnL x).2 ∧ Below w.heap.size w w' := by
 rcases hst with h1 | h2
 · by_cases hne : x.tch = []
   · have e : goOnL x = (comL x, x.tch.map (newsL (comL x))) := by unfold goOnL; rw [if_neg (fun h => h.2 hne), if_neg (by rw [hne]; simp [withoutL])]
     rw [e]; exact goOn_n x s w h ht hv h1 hne
   · have e : goOnL x = (pre2 x, x.tch.map (newsL (pre2 x))) := by unfold goOnL; rw [if_pos ⟨h1, hne⟩]
     rw [e]; exact goOn_1 x s w h ht hv h1 hne
 · by_cases hw : withoutL x.tch x.vts = []
   · have e : goOnL x = (comL x, x.tch.map (newsL (comL x))) := by unfold goOnL; rw [if_neg (by omega), if_neg (fun h => h hw)]
     rw [e]; exact goOn_c x s w h ht hv h2 hw
   · have e : goOnL x = (x, []) := by unfold goOnL; rw [if_neg (by omega), if_pos hw]
     rw [e]; exact goOn_w x s w h ht hv h2 hw
end Go.Proofs.YtadnlannbafjpaaGreat
/- A transaction is over; Abort; Finish. -/
namespace Go.Proofs.YtadnlannbafjpaaGreat
open Go.RowKit
set_option linter.unusedVariables false
set_option linter.unusedSimpArgs false
def Post3 (w : World) (y : Res3) (e : Ending) (w' : World) : Prop := ∃ s' u, e = .returned (.tuple #[.agg (trc y.1 s'), u, errV y.2.2]) ∧ Tm w' w.heap.size y.1 s' ∧ MsgR w' w.heap.size u y.2.1 ∧ Below w.heap.size w w'
def Post2 (w : World) (y : Res3) (e : Ending) (w' : World) : Prop := ∃ s', e = .returned (.tuple #[.agg (trc y.1 s'), errV y.2.2]) ∧ Tm w' w.heap.size y.1 s' ∧ Below w.heap.size w w'
theorem decided_b (x : Tr) (s : Sl) (w : World) (d : Bool) (hd : decided x = d) : Calls Tryz.prog 20 #[.agg (trc x s)] w fun e w' => e = .returned (.bool d) ∧ Below w.heap.size w w' := by rw [← hd]; exact decided_any x s w
set_option maxRecDepth 100000 in
set_option maxHeartbeats 8000000 in
theorem abort_1a {B : Nat} (x : Tr) (s : Sl) (r : Int) (w : World) (h : Tm w B x s) (hs : Short x) (h0 : r < 1) :
   Calls Tryz.prog 96 #[.agg (trc x s), .int .i64 r] w (Post3 w (x, [], 1)) := by
 have X1 := Lib.hid ((Blk.new w 62 (trc x s)).alloc (.cells zTr 62))
 have Z1 := Lib.hid (Blk.new_at (w := w.alloc (.cells (trc x s) 62)) (n := w.heap.size + 1) (by simp) 62 zTr)
 have B1 := Lib.hid ((Joins.below_alloc1 w (.cells (trc x s) 62)).alloc (by simp <;> omega) (.cells zTr 62))
 have SZ := Lib.hid (show ((w.alloc (.cells (trc x s) 62)).alloc (.cells zTr 62)).heap.size = w.heap.size + 2 from by simp)
 have H1 := Lib.hid (h.step B1.out)
 have HS := Lib.hid hs
 have d0 : decide (r < 1) = true := by simpa using h0
 clear h0
 clear h hs
 go_enter Tryz.func96, Tryz.ntmps96
 go_upto_region 1 with fail
 obtain ⟨g, hg⟩ : ∃ g, g = w.heap.size := ⟨_, rfl⟩
 have HG := Lib.hid hg
 rw [← hg] at X1 Z1 SZ ⊢
 clear hg
 generalize (w.alloc (.cells (trc x s) 62)).alloc (.cells zTr 62) = V at X1 Z1 B1 H1 SZ ⊢
 go_upto_region 2 with (first
   | (refine wpList_load_row rfl 62 (.tmp 2) rfl g rfl 62 (trc x s) (0, 0) _ X1.out Tryz.underlying62 rfl (tr_info _ _) ?_)
   | (go_at_call 90; refine (own_any x s _ H1.out HS.out).mono ?_; rintro e W1 ⟨s1, rfl, ht, hn, hb⟩; have T1 := Lib.hid ht; have N1 := Lib.hid hn; have E1 := Lib.hid hb; have XX := Lib.hid (X1.out.here hb); clear ht hn hb)
   | (refine wpList_store_mid (by rfl) 62 (.tmp 2) (.tmp 8) (by rfl) g 0 (trc x s1) (by rfl) (by rfl) (XX.out.there (Nat.le_refl 13)) (tr_info _ _) T1.out.one ?_))
 have ET := Lib.hid (show Turn (fun k => k = g) W1 (W1.setCells g 0 (trc x s1).toList) from Turn.setCells (S := fun k => k = g) (fun _ => rfl) _ _ _ (Turn.refl _ _))
 have XV := Lib.hid (show Blk (W1.setCells g 0 (trc x s1).toList) g 62 (trc x s1) from XX.out.put (trc x s1) rfl)
 have ZV := Lib.hid ((Z1.out.here E1.out).turn ET.out (by omega))
 have BV := Lib.hid ((B1.out.trans (E1.out.mono B1.out.size)).trans (ET.out.below (B := w.heap.size) (fun k hk e => by have := HG.out; omega) (Nat.le_trans B1.out.size E1.out.size)))
 obtain ⟨b0, hb0⟩ : ∃ b0, b0 = V.heap.size := ⟨_, rfl⟩
 have GV := Lib.hid (show b0 = g + 2 from hb0.trans SZ.out)
 rw [← hb0] at T1
 have TV := Lib.hid (T1.out.turn ET.out (fun k hk _ e => by have := GV.out; omega))
 have LV := Lib.hid (show b0 ≤ (W1.setCells g 0 (trc x s1).toList).heap.size from by rw [hb0]; exact Nat.le_trans E1.out.size ET.out.size)
 clear hb0 X1 Z1 B1 H1 SZ T1 E1 XX ET
 generalize W1.setCells g 0 (trc x s1).toList = WV at XV ZV BV TV LV ⊢
 go_wp2_with (first
   | (refine wpList_load_row rfl 62 (.tmp 2) rfl g rfl 62 (trc x s1) (0, 0) _ XV.out Tryz.underlying62 rfl (tr_info _ _) ?_)
   | (refine wpList_store_mid (op := { dst := none, op := .store 62 (.tmp 4) (.tmp 16), type := 0, pos := _, after := _, guard := none }) (by rfl) 62 (.tmp 4) (.tmp 16) (by rfl) (g + 1) 0 (trc x s1) (by rfl) (by rfl) (ZV.out.there (Nat.le_refl 13)) (tr_info _ _) TV.out.one ?_))
 exact bodyPost_ret (v := .tuple #[.agg (trc x s1), .slice none 0 0, errno 1]) (results_and2 rfl rfl rfl rfl (tr_load (ZV.out.put (trc x s1) rfl))) rfl ⟨s1, _, rfl, (Tm.turn TV.out (Turn.setCells (S := fun k => k = g + 1) (fun _ => rfl) _ _ _ (Turn.refl _ _)) (fun k hk _ e => by have := GV.out; omega)).less (by have := HG.out; have := GV.out; omega), World.ownsRow_nil _ _ _ _, Below.setCells (by have := HG.out; omega) _ _ _ BV.out⟩
set_option maxRecDepth 100000 in
set_option maxHeartbeats 8000000 in
theorem abort_1b {B : Nat} (x : Tr) (s : Sl) (r : Int) (w : World) (h : Tm w B x s) (hs : Short x) (h0 : ¬ r < 1) (h5 : 5 < r) :
   Calls Tryz.prog 96 #[.agg (trc x s), .int .i64 r] w (Post3 w (x, [], 1)) := by
 have X1 := Lib.hid ((Blk.new w 62 (trc x s)).alloc (.cells zTr 62))
 have Z1 := Lib.hid (Blk.new_at (w := w.alloc (.cells (trc x s) 62)) (n := w.heap.size + 1) (by simp) 62 zTr)
 have B1 := Lib.hid ((Joins.below_alloc1 w (.cells (trc x s) 62)).alloc (by simp <;> omega) (.cells zTr 62))
 have SZ := Lib.hid (show ((w.alloc (.cells (trc x s) 62)).alloc (.cells zTr 62)).heap.size = w.heap.size + 2 from by simp)
 have H1 := Lib.hid (h.step B1.out)
 have HS := Lib.hid hs
 have d0 : decide (r < 1) = false := by simpa using h0
 have d5 : decide (5 < r) = true := by simpa using h5
 clear h0 h5
 clear h hs
 go_enter Tryz.func96, Tryz.ntmps96
 go_upto_region 1 with fail
 obtain ⟨g, hg⟩ : ∃ g, g = w.heap.size := ⟨_, rfl⟩
 have HG := Lib.hid hg
 rw [← hg] at X1 Z1 SZ ⊢
 clear hg
 generalize (w.alloc (.cells (trc x s) 62)).alloc (.cells zTr 62) = V at X1 Z1 B1 H1 SZ ⊢
 go_upto_region 2 with (first
   | (refine wpList_load_row rfl 62 (.tmp 2) rfl g rfl 62 (trc x s) (0, 0) _ X1.out Tryz.underlying62 rfl (tr_info _ _) ?_)
   | (go_at_call 90; refine (own_any x s _ H1.out HS.out).mono ?_; rintro e W1 ⟨s1, rfl, ht, hn, hb⟩; have T1 := Lib.hid ht; have N1 := Lib.hid hn; have E1 := Lib.hid hb; have XX := Lib.hid (X1.out.here hb); clear ht hn hb)
   | (refine wpList_store_mid (by rfl) 62 (.tmp 2) (.tmp 8) (by rfl) g 0 (trc x s1) (by rfl) (by rfl) (XX.out.there (Nat.le_refl 13)) (tr_info _ _) T1.out.one ?_))
 have ET := Lib.hid (show Turn (fun k => k = g) W1 (W1.setCells g 0 (trc x s1).toList) from Turn.setCells (S := fun k => k = g) (fun _ => rfl) _ _ _ (Turn.refl _ _))
 have XV := Lib.hid (show Blk (W1.setCells g 0 (trc x s1).toList) g 62 (trc x s1) from XX.out.put (trc x s1) rfl)
 have ZV := Lib.hid ((Z1.out.here E1.out).turn ET.out (by omega))
 have BV := Lib.hid ((B1.out.trans (E1.out.mono B1.out.size)).trans (ET.out.below (B := w.heap.size) (fun k hk e => by have := HG.out; omega) (Nat.le_trans B1.out.size E1.out.size)))
 obtain ⟨b0, hb0⟩ : ∃ b0, b0 = V.heap.size := ⟨_, rfl⟩
 have GV := Lib.hid (show b0 = g + 2 from hb0.trans SZ.out)
 rw [← hb0] at T1
 have TV := Lib.hid (T1.out.turn ET.out (fun k hk _ e => by have := GV.out; omega))
 have LV := Lib.hid (show b0 ≤ (W1.setCells g 0 (trc x s1).toList).heap.size from by rw [hb0]; exact Nat.le_trans E1.out.size ET.out.size)
 clear hb0 X1 Z1 B1 H1 SZ T1 E1 XX ET
 generalize W1.setCells g 0 (trc x s1).toList = WV at XV ZV BV TV LV ⊢
 go_wp2_with (first
   | (refine wpList_load_row rfl 62 (.tmp 2) rfl g rfl 62 (trc x s1) (0, 0) _ XV.out Tryz.underlying62 rfl (tr_info _ _) ?_)
   | (refine wpList_store_mid (op := { dst := none, op := .store 62 (.tmp 4) (.tmp 16), type := 0, pos := _, after := _, guard := none }) (by rfl) 62 (.tmp 4) (.tmp 16) (by rfl) (g + 1) 0 (trc x s1) (by rfl) (by rfl) (ZV.out.there (Nat.le_refl 13)) (tr_info _ _) TV.out.one ?_))
 exact bodyPost_ret (v := .tuple #[.agg (trc x s1), .slice none 0 0, errno 1]) (results_and2 rfl rfl rfl rfl (tr_load (ZV.out.put (trc x s1) rfl))) rfl ⟨s1, _, rfl, (Tm.turn TV.out (Turn.setCells (S := fun k => k = g + 1) (fun _ => rfl) _ _ _ (Turn.refl _ _)) (fun k hk _ e => by have := GV.out; omega)).less (by have := HG.out; have := GV.out; omega), World.ownsRow_nil _ _ _ _, Below.setCells (by have := HG.out; omega) _ _ _ BV.out⟩
set_option maxRecDepth 100000 in
set_option maxHeartbeats 8000000 in
theorem abort_15 {B : Nat} (x : Tr) (s : Sl) (r : Int) (w : World) (h : Tm w B x s) (hs : Short x) (h0 : ¬ r < 1) (h5 : ¬ 5 < r) (hd : decided x = true) :
   Calls Tryz.prog 96 #[.agg (trc x s), .int .i64 r] w (Post3 w (x, [], 15)) := by
 have X1 := Lib.hid ((Blk.new w 62 (trc x s)).alloc (.cells zTr 62))
 have Z1 := Lib.hid (Blk.new_at (w := w.alloc (.cells (trc x s) 62)) (n := w.heap.size + 1) (by simp) 62 zTr)
 have B1 := Lib.hid ((Joins.below_alloc1 w (.cells (trc x s) 62)).alloc (by simp <;> omega) (.cells zTr 62))
 have SZ := Lib.hid (show ((w.alloc (.cells (trc x s) 62)).alloc (.cells zTr 62)).heap.size = w.heap.size + 2 from by simp)
 have H1 := Lib.hid (h.step B1.out)
 have HS := Lib.hid hs
 have d0 : decide (r < 1) = false := by simpa using h0
 have d5 : decide (5 < r) = false := by simpa using h5
 have HD := Lib.hid hd
 clear h0 h5 hd
 clear h hs
 go_enter Tryz.func96, Tryz.ntmps96
 go_upto_region 1 with fail
 obtain ⟨g, hg⟩ : ∃ g, g = w.heap.size := ⟨_, rfl⟩
 have HG := Lib.hid hg
 rw [← hg] at X1 Z1 SZ ⊢
 clear hg
 generalize (w.alloc (.cells (trc x s) 62)).alloc (.cells zTr 62) = V at X1 Z1 B1 H1 SZ ⊢
 go_upto_region 2 with (first
   | (refine wpList_load_row rfl 62 (.tmp 2) rfl g rfl 62 (trc x s) (0, 0) _ X1.out Tryz.underlying62 rfl (tr_info _ _) ?_)
   | (go_at_call 90; refine (own_any x s _ H1.out HS.out).mono ?_; rintro e W1 ⟨s1, rfl, ht, hn, hb⟩; have T1 := Lib.hid ht; have N1 := Lib.hid hn; have E1 := Lib.hid hb; have XX := Lib.hid (X1.out.here hb); clear ht hn hb)
   | (refine wpList_store_mid (by rfl) 62 (.tmp 2) (.tmp 8) (by rfl) g 0 (trc x s1) (by rfl) (by rfl) (XX.out.there (Nat.le_refl 13)) (tr_info _ _) T1.out.one ?_))
 have ET := Lib.hid (show Turn (fun k => k = g) W1 (W1.setCells g 0 (trc x s1).toList) from Turn.setCells (S := fun k => k = g) (fun _ => rfl) _ _ _ (Turn.refl _ _))
 have XV := Lib.hid (show Blk (W1.setCells g 0 (trc x s1).toList) g 62 (trc x s1) from XX.out.put (trc x s1) rfl)
 have ZV := Lib.hid ((Z1.out.here E1.out).turn ET.out (by omega))
 have BV := Lib.hid ((B1.out.trans (E1.out.mono B1.out.size)).trans (ET.out.below (B := w.heap.size) (fun k hk e => by have := HG.out; omega) (Nat.le_trans B1.out.size E1.out.size)))
 obtain ⟨b0, hb0⟩ : ∃ b0, b0 = V.heap.size := ⟨_, rfl⟩
 have GV := Lib.hid (show b0 = g + 2 from hb0.trans SZ.out)
 rw [← hb0] at T1
 have TV := Lib.hid (T1.out.turn ET.out (fun k hk _ e => by have := GV.out; omega))
 have LV := Lib.hid (show b0 ≤ (W1.setCells g 0 (trc x s1).toList).heap.size from by rw [hb0]; exact Nat.le_trans E1.out.size ET.out.size)
 clear hb0 X1 Z1 B1 H1 SZ T1 E1 XX ET
 generalize W1.setCells g 0 (trc x s1).toList = WV at XV ZV BV TV LV ⊢
 go_upto_region 5 with (first
   | (refine wpList_load_row rfl 62 (.tmp 2) rfl g rfl 62 (trc x s1) (0, 0) _ XV.out Tryz.underlying62 rfl (tr_info _ _) ?_)
   | (go_at_call 20; refine (decided_b x s1 _ true HD.out).mono ?_; rintro e W2 ⟨rfl, hb2⟩; have XV := Lib.hid (XV.out.here hb2); have ZV := Lib.hid (ZV.out.here hb2); have TV := Lib.hid (TV.out.step hb2); have BV := Lib.hid (stepB BV.out hb2); have LV := Lib.hid (Nat.le_trans LV.out hb2.size); clear hb2))
 go_wp2_with (first
   | (refine wpList_load_row rfl 62 (.tmp 2) rfl g rfl 62 (trc x s1) (0, 0) _ XV.out Tryz.underlying62 rfl (tr_info _ _) ?_)
   | (refine wpList_store_mid (op := { dst := none, op := .store 62 (.tmp 4) (.tmp 21), type := 0, pos := _, after := _, guard := none }) (by rfl) 62 (.tmp 4) (.tmp 21) (by rfl) (g + 1) 0 (trc x s1) (by rfl) (by rfl) (ZV.out.there (Nat.le_refl 13)) (tr_info _ _) TV.out.one ?_))
 exact bodyPost_ret (v := .tuple #[.agg (trc x s1), .slice none 0 0, errno 15]) (results_and2 rfl rfl rfl rfl (tr_load (ZV.out.put (trc x s1) rfl))) rfl ⟨s1, _, rfl, (Tm.turn TV.out (Turn.setCells (S := fun k => k = g + 1) (fun _ => rfl) _ _ _ (Turn.refl _ _)) (fun k hk _ e => by have := GV.out; omega)).less (by have := HG.out; have := GV.out; omega), World.ownsRow_nil _ _ _ _, Below.setCells (by have := HG.out; omega) _ _ _ BV.out⟩
set_option maxRecDepth 100000 in
set_option maxHeartbeats 8000000 in
theorem abort_0 {B : Nat} (x : Tr) (s : Sl) (r : Int) (w : World) (h : Tm w B x s) (hs : Short x) (h0 : ¬ r < 1) (h5 : ¬ 5 < r) (hd : decided x = false) :
   Calls Tryz.prog 96 #[.agg (trc x s), .int .i64 r] w (Post3 w (abtX x r, x.tch.map (newsL (abtX x r)), 0)) := by
 have X1 := Lib.hid ((Blk.new w 62 (trc x s)).alloc (.cells zTr 62))
 have Z1 := Lib.hid (Blk.new_at (w := w.alloc (.cells (trc x s) 62)) (n := w.heap.size + 1) (by simp) 62 zTr)
 have B1 := Lib.hid ((Joins.below_alloc1 w (.cells (trc x s) 62)).alloc (by simp <;> omega) (.cells zTr 62))
 have SZ := Lib.hid (show ((w.alloc (.cells (trc x s) 62)).alloc (.cells zTr 62)).heap.size = w.heap.size + 2 from by simp)
 have H1 := Lib.hid (h.step B1.out)
 have HS := Lib.hid hs
 have d0 : decide (r < 1) = false := by simpa using h0
 have d5 : decide (5 < r) = false := by simpa using h5
 have HD := Lib.hid hd
 clear h0 h5 hd
 clear h hs
 go_enter Tryz.func96, Tryz.ntmps96
 go_upto_region 1 with fail
 obtain ⟨g, hg⟩ : ∃ g, g = w.heap.size := ⟨_, rfl⟩
 have HG := Lib.hid hg
 rw [← hg] at X1 Z1 SZ ⊢
 clear hg
 generalize (w.alloc (.cells (trc x s) 62)).alloc (.cells zTr 62) = V at X1 Z1 B1 H1 SZ ⊢
 go_upto_region 2 with (first
   | (refine wpList_load_row rfl 62 (.tmp 2) rfl g rfl 62 (trc x s) (0, 0) _ X1.out Tryz.underlying62 rfl (tr_info _ _) ?_)
   | (go_at_call 90; refine (own_any x s _ H1.out HS.out).mono ?_; rintro e W1 ⟨s1, rfl, ht, hn, hb⟩; have T1 := Lib.hid ht; have N1 := Lib.hid hn; have E1 := Lib.hid hb; have XX := Lib.hid (X1.out.here hb); clear ht hn hb)
   | (refine wpList_store_mid (by rfl) 62 (.tmp 2) (.tmp 8) (by rfl) g 0 (trc x s1) (by rfl) (by rfl) (XX.out.there (Nat.le_refl 13)) (tr_info _ _) T1.out.one ?_))
 have ET := Lib.hid (show Turn (fun k => k = g) W1 (W1.setCells g 0 (trc x s1).toList) from Turn.setCells (S := fun k => k = g) (fun _ => rfl) _ _ _ (Turn.refl _ _))
 have XV := Lib.hid (show Blk (W1.setCells g 0 (trc x s1).toList) g 62 (trc x s1) from XX.out.put (trc x s1) rfl)
 have ZV := Lib.hid ((Z1.out.here E1.out).turn ET.out (by omega))
 have BV := Lib.hid ((B1.out.trans (E1.out.mono B1.out.size)).trans (ET.out.below (B := w.heap.size) (fun k hk e => by have := HG.out; omega) (Nat.le_trans B1.out.size E1.out.size)))
 obtain ⟨b0, hb0⟩ : ∃ b0, b0 = V.heap.size := ⟨_, rfl⟩
 have GV := Lib.hid (show b0 = g + 2 from hb0.trans SZ.out)
 rw [← hb0] at T1
 have TV := Lib.hid (T1.out.turn ET.out (fun k hk _ e => by have := GV.out; omega))
 have LV := Lib.hid (show b0 ≤ (W1.setCells g 0 (trc x s1).toList).heap.size from by rw [hb0]; exact Nat.le_trans E1.out.size ET.out.size)
 clear hb0 X1 Z1 B1 H1 SZ T1 E1 XX ET
 generalize W1.setCells g 0 (trc x s1).toList = WV at XV ZV BV TV LV ⊢
 go_upto_region 6 with (first
   | (refine wpList_load_row rfl 62 (.tmp 2) rfl g rfl 62 (trc x s1) (0, 0) _ XV.out Tryz.underlying62 rfl (tr_info _ _) ?_)
   | (go_at_call 20; refine (decided_b x s1 _ false HD.out).mono ?_; rintro e W2 ⟨rfl, hb2⟩; have XV := Lib.hid (XV.out.here hb2); have ZV := Lib.hid (ZV.out.here hb2); have TV := Lib.hid (TV.out.step hb2); have BV := Lib.hid (stepB BV.out hb2); have LV := Lib.hid (Nat.le_trans LV.out hb2.size); clear hb2))
 generalize W2 = WV at XV ZV TV BV LV ⊢
 have f1 := XV.out.frozen 1
 have f2 := XV.out.frozen 2
 have f4 := XV.out.frozen 4
 have c1 : WV.cell? ⟨g, 1, none⟩ = some (.int .i64 x.st) := XV.out.cell 1
 have c2 : WV.cell? ⟨g, 2, none⟩ = some (.int .i64 x.rs) := XV.out.cell 2
 have c4 : WV.cell? ⟨g, 4, none⟩ = some (.bool x.op) := XV.out.cell 4
 have hzv := ZV.out.lt
 have XY := Lib.hid (show Blk (((WV.setCell ⟨g, 1, none⟩ (.int .i64 4)).setCell ⟨g, 2, none⟩ (.int .i64 r)).setCell ⟨g, 4, none⟩ (.bool false)) g 62 (trc (abtX x r) s1) from ((XV.out.set_ 1 _).set_ 2 _).set_ 4 _)
 have ZY := Lib.hid (((ZV.out.far (p := ⟨g, 1, none⟩) (by simp only; omega) (.int .i64 4)).far (p := ⟨g, 2, none⟩) (by simp only; omega) (.int .i64 r)).far (p := ⟨g, 4, none⟩) (by simp only; omega) (.bool false))
 have EY := Lib.hid (show Turn (fun k => k = g) WV (((WV.setCell ⟨g, 1, none⟩ (.int .i64 4)).setCell ⟨g, 2, none⟩ (.int .i64 r)).setCell ⟨g, 4, none⟩ (.bool false)) from (((Turn.refl (fun k => k = g) WV).setCell (p := ⟨g, 1, none⟩) (fun _ => rfl) _).setCell (p := ⟨g, 2, none⟩) (fun _ => rfl) _).setCell (p := ⟨g, 4, none⟩) (fun _ => rfl) _)
 go_upto_region 7 with fail
 clear f1 f2 f4 c1 c2 c4
 generalize ((WV.setCell ⟨g, 1, none⟩ (.int .i64 4)).setCell ⟨g, 2, none⟩ (.int .i64 r)).setCell ⟨g, 4, none⟩ (.bool false) = WY at XY ZY EY ⊢
 have BY := Lib.hid (BV.out.trans (EY.out.below (B := w.heap.size) (fun k hk e => by have := HG.out; omega) BV.out.size))
 have KY := Lib.hid (show Tm WY b0 (abtX x r) s1 from have h := TV.out.turn EY.out (fun k hk _ e => by have := GV.out; omega); ⟨h.t, h.v, h.k, h.g⟩)
 have TY := Lib.hid (show NumR WY b0 s1.t x.tch from KY.out.t)
 have OY := Lib.hid KY.out.one
 have SHL := Lib.hid (show x.tch.length ≤ 1000 from HS.out.t)
 have CS := Lib.hid (XY.out.cell 9)
 obtain ⟨q, hq⟩ : ∃ q, newsL (abtX x r) 0 = q := ⟨_, rfl⟩
 have HQ := Lib.hid hq
 have LQ := Lib.hid (show q.length = 28 from by rw [← hq]; rfl)
 clear hq
 refine wp_region_held_drew (S := fun w' => Blk w' g 62 (trc (abtX x r) s1) ∧ w'.cell? ⟨g, 9, none⟩ = some s1.t) (by kernel_rfl) ⟨XY.out.drew, CS.out⟩ (fun hHeld => ?_)
 have BD := Lib.hid (show Below WY.heap.size WY WY.drew from (Below.refl _ _).drew)
 generalize WY.drew = W1 at BD hHeld ⊢
 refine wpAnyH_take (i := 0) (v := .agg (trc (abtX x r) s1)) rfl (by kernel_rfl) (by kernel_rfl) (by kernel_rfl) (fun _ _ _ h => h) (Or.inl ⟨by rfl, fun w0 hSw => exec_load (x := .tmp 2) rfl rfl (tr_load hSw.1)⟩) (by assumption) ?_
 try simp only [List.getElem_toArray, List.getElem_cons_succ, List.getElem_cons_zero, Act.put, List.setIfInBounds_toArray, List.set_cons_zero, List.set_cons_succ]
 refine wpAnyH_take (i := 1) (v := .agg (trc (abtX x r) s1)) rfl (by kernel_rfl) (by kernel_rfl) (by kernel_rfl) (fun _ _ _ h => h) (Or.inl ⟨by rfl, fun w0 hSw => exec_load (x := .tmp 2) rfl rfl (tr_load hSw.1)⟩) (by assumption) ?_
 try simp only [List.getElem_toArray, List.getElem_cons_succ, List.getElem_cons_zero, Act.put, List.setIfInBounds_toArray, List.set_cons_zero, List.set_cons_succ]
 refine wpAnyH_take (i := 3) (v := ?_) rfl (by kernel_rfl) (by kernel_rfl) (by kernel_rfl) (fun _ _ _ h => h) (Or.inl ⟨by rfl, ?_⟩) (by assumption) ?_
 rotate_left
 · (intro w0 hSw; (try dsimp only at hSw); go_simp; try with_reducible rfl)
 try simp only [List.getElem_toArray, List.getElem_cons_succ, List.getElem_cons_zero, Act.put, List.setIfInBounds_toArray, List.set_cons_zero, List.set_cons_succ]
 refine wpAnyH_take (i := 4) (v := ?_) rfl (by kernel_rfl) (by kernel_rfl) (by kernel_rfl) (fun _ _ _ h => h) (Or.inl ⟨by rfl, ?_⟩) (by assumption) ?_
 rotate_left
 · (intro w0 hSw; (try dsimp only at hSw); go_simp; try with_reducible rfl)
 try simp only [List.getElem_toArray, List.getElem_cons_succ, List.getElem_cons_zero, Act.put, List.setIfInBounds_toArray, List.set_cons_zero, List.set_cons_succ]
 refine wpAnyH_ready (rs := [2]) (by kernel_rfl) (by simp) ?_
 refine AllReadyH.cons rfl (fun K hK => ?_) AllReadyH.nil
 go_simp
 refine (news_q (abtX x r) s1 q HQ.out _).mono ?_
 rintro e W2 ⟨rfl, hb⟩
 try go_simp
 have B2 := Lib.hid (BD.out.trans (hb.mono BD.out.size))
 clear hb
 refine hK.out _ _ ⟨XY.out.here B2.out, (XY.out.here B2.out).cell 9⟩ (fun hHeld => ?_)
 clear hK K
 refine wpAnyH_ready (rs := [5]) (by kernel_rfl) (by simp) ?_
 refine AllReadyH.cons rfl (fun K hK => ?_) AllReadyH.nil
 go_simp
 refine (send_any q x.tch LQ.out _ (own_step TY.out B2.out) SHL.out).mono ?_
 rintro e W3 ⟨u, rfl, hu, hb⟩
 try go_simp
 have U3 := Lib.hid hu
 have B3 := Lib.hid (B2.out.trans (hb.mono B2.out.size))
 have S2 := Lib.hid B2.out.size
 clear hu hb
 refine hK.out _ _ ⟨XY.out.here B3.out, (XY.out.here B3.out).cell 9⟩ (fun hHeld => ?_)
 clear hK K
 have Z3 := Lib.hid (ZY.out.here B3.out)
 have hzl := ZY.out.lt
 refine wpAnyH_ready (rs := [6]) (by kernel_rfl) (by simp) ?_
 refine AllReadyH.cons rfl (fun K hK => ?_) AllReadyH.nil
 refine step_store_mid (by rfl) 62 (.tmp 4) (.tmp 27) rfl (g + 1) 0 (trc (abtX x r) s1) rfl rfl (Z3.out.there (Nat.le_refl 13)) (tr_info _ _) OY.out ?_
 have X4 := Lib.hid (show Blk (W3.setCells (g + 1) 0 (trc (abtX x r) s1).toList) g 62 (trc (abtX x r) s1) from (XY.out.here B3.out).farCells (by omega) _ _ _)
 refine hK.out _ _ ⟨X4.out, X4.out.cell 9⟩ (fun hHeld => ?_)
 clear hK K
 refine wpAnyH_take (i := 7) (v := ?_) rfl (by kernel_rfl) (by kernel_rfl) (by kernel_rfl) (fun _ _ _ h => h) (Or.inl ⟨by rfl, ?_⟩) (by assumption) ?_
 rotate_left
 · (intro w0 hSw; (try dsimp only at hSw); go_simp; try with_reducible rfl)
 try simp only [List.getElem_toArray, List.getElem_cons_succ, List.getElem_cons_zero, Act.put, List.setIfInBounds_toArray, List.set_cons_zero, List.set_cons_succ]
 refine wpAnyH_take (i := 8) (v := ?_) rfl (by kernel_rfl) (by kernel_rfl) (by kernel_rfl) (fun _ _ _ h => h) (Or.inl ⟨by rfl, ?_⟩) (by assumption) ?_
 rotate_left
 · (intro w0 hSw; (try dsimp only at hSw); go_simp; try with_reducible rfl)
 try simp only [List.getElem_toArray, List.getElem_cons_succ, List.getElem_cons_zero, Act.put, List.setIfInBounds_toArray, List.set_cons_zero, List.set_cons_succ]
 refine wpAnyH_done (by kernel_rfl) ?_ _
 have E4 := Lib.hid (show Turn (fun k => k = g + 1) W3 (W3.setCells (g + 1) 0 (trc (abtX x r) s1).toList) from Turn.setCells (S := fun k => k = g + 1) (fun _ => rfl) _ _ _ (Turn.refl _ _))
 have U4 := Lib.hid (own_off U3.out E4.out (fun k hk _ e => by have := S2.out; omega))
 have Z4 := Lib.hid (Z3.out.put (trc (abtX x r) s1) rfl)
 have F4 := Lib.hid ((BY.out.trans (B3.out.mono BY.out.size)).trans (E4.out.below (B := w.heap.size) (fun k hk e => by have := HG.out; omega) (Nat.le_trans BY.out.size B3.out.size)))
 clear hHeld
 go_wp2_with fail
 have K4 := Lib.hid ((KY.out.step B3.out).turn E4.out (fun k hk _ e => by have := GV.out; omega))
 exact bodyPost_ret (v := .tuple #[.agg (trc (abtX x r) s1), u, .nilIface]) (results_and2 rfl rfl rfl rfl (tr_load Z4.out)) rfl ⟨s1, u, rfl, K4.out.less (by have := HG.out; have := GV.out; omega), own_less (by rw [← send_news, HQ.out]; exact U4.out) (by have := S2.out; have := BY.out.size; have := B3.out.size; omega), F4.out⟩
theorem abort_any {B : Nat} (x : Tr) (s : Sl) (r : Int) (w : World) (h : Tm w B x s) (hs : Short x) : Calls Tryz.prog 96 #[.agg (trc x s), .int .i64 r] w (Post3 w (abtL x r)) := by
 unfold abtL
 by_cases h0 : r < 1
 · rw [if_pos (.inl h0)]; exact abort_1a x s r w h hs h0
 · by_cases h5 : 5 < r
   · rw [if_pos (.inr h5)]; exact abort_1b x s r w h hs h0 h5
   · rw [if_neg (fun e => e.elim h0 h5)]
     by_cases hd : decided x = true
     · rw [if_pos hd]; exact abort_15 x s r w h hs h0 h5 hd
     · rw [if_neg hd]; exact abort_0 x s r w h hs h0 h5 (by simpa using hd)
theorem rows_apart {w : World} {B B' n n' size size' : Nat} {e e' : TypeId} {v v' : Value} {xs xs' : List Value} (h : w.ownsRow B e size v n xs) (h' : w.ownsRow B' e' size' v' n' xs') (he : e ≠ e') : ∀ k, v.ownBlock = some k → v'.ownBlock ≠ some k := fun k hk hk' => by
 obtain ⟨_, h1, _⟩ := own_heap h k hk
 obtain ⟨_, h2, _⟩ := own_heap h' k hk'
 exact heap_ne h1 h2 he rfl
section
variable {w w' : World} {B : Nat} {x : Tr} {s : Sl} {v' : Value} {l' : List Int}
theorem Tm.putT (h : Tm w B x s) (ha : Apart s) (ho : NumR w' B v' l') (ht : Turn (fun k => s.t.ownBlock = some k) w w') : Tm w' B { x with tch := l' } { s with t := v' } :=
 ⟨ho, own_turn h.v ht (fun k hk e => ha.tv k e hk), own_turn h.k ht (fun k hk e => ha.tk k e hk), own_turn h.g ht (fun k hk e => rows_apart h.t h.g (by decide) k e hk)⟩
theorem Tm.putV (h : Tm w B x s) (ha : Apart s) (ho : NumR w' B v' l') (ht : Turn (fun k => s.v.ownBlock = some k) w w') : Tm w' B { x with vts := l' } { s with v := v' } :=
 ⟨own_turn h.t ht (fun k hk e => ha.tv k hk e), ho, own_turn h.k ht (fun k hk e => ha.vk k e hk), own_turn h.g ht (fun k hk e => rows_apart h.v h.g (by decide) k e hk)⟩
theorem Tm.putK (h : Tm w B x s) (ha : Apart s) (ho : NumR w' B v' l') (ht : Turn (fun k => s.k.ownBlock = some k) w w') : Tm w' B { x with acks := l' } { s with k := v' } :=
 ⟨own_turn h.t ht (fun k hk e => ha.tk k hk e), own_turn h.v ht (fun k hk e => ha.vk k hk e), ho, own_turn h.g ht (fun k hk e => rows_apart h.k h.g (by decide) k e hk)⟩
end
end Go.Proofs.YtadnlannbafjpaaGreat
/- A transaction: Finish. -/
namespace Go.Proofs.YtadnlannbafjpaaGreat
open Go.RowKit
set_option linter.unusedVariables false
set_option linter.unusedSimpArgs false
set_option maxRecDepth 100000 in
set_option maxHeartbeats 8000000 in
theorem finish_11 {B : Nat} (x : Tr) (s : Sl) (w : World) (h : Tm w B x s) (hs : Short x) (h1 : ¬ x.st = 1) :
   Calls Tryz.prog 52 #[.agg (trc x s)] w (Post3 w (x, [], 11)) := by
 have X1 := Lib.hid ((Blk.new w 62 (trc x s)).alloc (.cells zTr 62))
 have Z1 := Lib.hid (Blk.new_at (w := w.alloc (.cells (trc x s) 62)) (n := w.heap.size + 1) (by simp) 62 zTr)
 have B1 := Lib.hid ((Joins.below_alloc1 w (.cells (trc x s) 62)).alloc (by simp <;> omega) (.cells zTr 62))
 have SZ := Lib.hid (show ((w.alloc (.cells (trc x s) 62)).alloc (.cells zTr 62)).heap.size = w.heap.size + 2 from by simp)
 have H1 := Lib.hid (h.step B1.out)
 have HS := Lib.hid hs
 have e1 : (x.st != 1) = true := by simpa using h1
 clear h1
 clear h hs
 go_enter Tryz.func52, Tryz.ntmps52
 go_upto_region 1 with fail
 obtain ⟨g, hg⟩ : ∃ g, g = w.heap.size := ⟨_, rfl⟩
 have HG := Lib.hid hg
 rw [← hg] at X1 Z1 SZ ⊢
 clear hg
 generalize (w.alloc (.cells (trc x s) 62)).alloc (.cells zTr 62) = V at X1 Z1 B1 H1 SZ ⊢
 go_upto_region 2 with (first
   | (refine wpList_load_row rfl 62 (.tmp 1) rfl g rfl 62 (trc x s) (0, 0) _ X1.out Tryz.underlying62 rfl (tr_info _ _) ?_)
   | (go_at_call 90; refine (own_any x s _ H1.out HS.out).mono ?_; rintro e W1 ⟨s1, rfl, ht, hn, hb⟩; have T1 := Lib.hid ht; have N1 := Lib.hid hn; have E1 := Lib.hid hb; have XX := Lib.hid (X1.out.here hb); clear ht hn hb)
   | (refine wpList_store_mid (by rfl) 62 (.tmp 1) (.tmp 7) (by rfl) g 0 (trc x s1) (by rfl) (by rfl) (XX.out.there (Nat.le_refl 13)) (tr_info _ _) T1.out.one ?_))
 have ET := Lib.hid (show Turn (fun k => k = g) W1 (W1.setCells g 0 (trc x s1).toList) from Turn.setCells (S := fun k => k = g) (fun _ => rfl) _ _ _ (Turn.refl _ _))
 have XV := Lib.hid (show Blk (W1.setCells g 0 (trc x s1).toList) g 62 (trc x s1) from XX.out.put (trc x s1) rfl)
 have ZV := Lib.hid ((Z1.out.here E1.out).turn ET.out (by omega))
 have BV := Lib.hid ((B1.out.trans (E1.out.mono B1.out.size)).trans (ET.out.below (B := w.heap.size) (fun k hk e => by have := HG.out; omega) (Nat.le_trans B1.out.size E1.out.size)))
 obtain ⟨b0, hb0⟩ : ∃ b0, b0 = V.heap.size := ⟨_, rfl⟩
 have GV := Lib.hid (show b0 = g + 2 from hb0.trans SZ.out)
 rw [← hb0] at T1
 have TV := Lib.hid (T1.out.turn ET.out (fun k hk _ e => by have := GV.out; omega))
 have LV := Lib.hid (show b0 ≤ (W1.setCells g 0 (trc x s1).toList).heap.size from by rw [hb0]; exact Nat.le_trans E1.out.size ET.out.size)
 clear hb0 X1 Z1 B1 H1 SZ T1 E1 XX ET
 generalize W1.setCells g 0 (trc x s1).toList = WV at XV ZV BV TV LV ⊢
 have c1 : WV.cell? ⟨g, 1, none⟩ = some (.int .i64 x.st) := XV.out.cell 1
 go_wp2_with (first
   | (refine wpList_load_row rfl 62 (.tmp 1) rfl g rfl 62 (trc x s1) (0, 0) _ XV.out Tryz.underlying62 rfl (tr_info _ _) ?_)
   | (refine wpList_store_mid (op := { dst := none, op := .store 62 (.tmp 2) (.tmp 12), type := 0, pos := _, after := _, guard := none }) (by rfl) 62 (.tmp 2) (.tmp 12) (by rfl) (g + 1) 0 (trc x s1) (by rfl) (by rfl) (ZV.out.there (Nat.le_refl 13)) (tr_info _ _) TV.out.one ?_))
 exact bodyPost_ret (v := .tuple #[.agg (trc x s1), .slice none 0 0, errno 11]) (results_and2 rfl rfl rfl rfl (tr_load (ZV.out.put (trc x s1) rfl))) rfl ⟨s1, _, rfl, (Tm.turn TV.out (Turn.setCells (S := fun k => k = g + 1) (fun _ => rfl) _ _ _ (Turn.refl _ _)) (fun k hk _ e => by have := GV.out; omega)).less (by have := HG.out; have := GV.out; omega), World.ownsRow_nil _ _ _ _, Below.setCells (by have := HG.out; omega) _ _ _ BV.out⟩
set_option maxRecDepth 100000 in
set_option maxHeartbeats 8000000 in
theorem finish_8 {B : Nat} (x : Tr) (s : Sl) (w : World) (h : Tm w B x s) (hs : Short x) (h1 : x.st = 1) (ho : x.op = true) :
   Calls Tryz.prog 52 #[.agg (trc x s)] w (Post3 w (x, [], 8)) := by
 have X1 := Lib.hid ((Blk.new w 62 (trc x s)).alloc (.cells zTr 62))
 have Z1 := Lib.hid (Blk.new_at (w := w.alloc (.cells (trc x s) 62)) (n := w.heap.size + 1) (by simp) 62 zTr)
 have B1 := Lib.hid ((Joins.below_alloc1 w (.cells (trc x s) 62)).alloc (by simp <;> omega) (.cells zTr 62))
 have SZ := Lib.hid (show ((w.alloc (.cells (trc x s) 62)).alloc (.cells zTr 62)).heap.size = w.heap.size + 2 from by simp)
 have H1 := Lib.hid (h.step B1.out)
 have HS := Lib.hid hs
 have e1 : (x.st != 1) = false := by simpa using h1
 have HO := Lib.hid ho
 clear h1 ho
 clear h hs
 go_enter Tryz.func52, Tryz.ntmps52
 go_upto_region 1 with fail
 obtain ⟨g, hg⟩ : ∃ g, g = w.heap.size := ⟨_, rfl⟩
 have HG := Lib.hid hg
 rw [← hg] at X1 Z1 SZ ⊢
 clear hg
 generalize (w.alloc (.cells (trc x s) 62)).alloc (.cells zTr 62) = V at X1 Z1 B1 H1 SZ ⊢
 go_upto_region 2 with (first
   | (refine wpList_load_row rfl 62 (.tmp 1) rfl g rfl 62 (trc x s) (0, 0) _ X1.out Tryz.underlying62 rfl (tr_info _ _) ?_)
   | (go_at_call 90; refine (own_any x s _ H1.out HS.out).mono ?_; rintro e W1 ⟨s1, rfl, ht, hn, hb⟩; have T1 := Lib.hid ht; have N1 := Lib.hid hn; have E1 := Lib.hid hb; have XX := Lib.hid (X1.out.here hb); clear ht hn hb)
   | (refine wpList_store_mid (by rfl) 62 (.tmp 1) (.tmp 7) (by rfl) g 0 (trc x s1) (by rfl) (by rfl) (XX.out.there (Nat.le_refl 13)) (tr_info _ _) T1.out.one ?_))
 have ET := Lib.hid (show Turn (fun k => k = g) W1 (W1.setCells g 0 (trc x s1).toList) from Turn.setCells (S := fun k => k = g) (fun _ => rfl) _ _ _ (Turn.refl _ _))
 have XV := Lib.hid (show Blk (W1.setCells g 0 (trc x s1).toList) g 62 (trc x s1) from XX.out.put (trc x s1) rfl)
 have ZV := Lib.hid ((Z1.out.here E1.out).turn ET.out (by omega))
 have BV := Lib.hid ((B1.out.trans (E1.out.mono B1.out.size)).trans (ET.out.below (B := w.heap.size) (fun k hk e => by have := HG.out; omega) (Nat.le_trans B1.out.size E1.out.size)))
 obtain ⟨b0, hb0⟩ : ∃ b0, b0 = V.heap.size := ⟨_, rfl⟩
 have GV := Lib.hid (show b0 = g + 2 from hb0.trans SZ.out)
 rw [← hb0] at T1
 have TV := Lib.hid (T1.out.turn ET.out (fun k hk _ e => by have := GV.out; omega))
 have LV := Lib.hid (show b0 ≤ (W1.setCells g 0 (trc x s1).toList).heap.size from by rw [hb0]; exact Nat.le_trans E1.out.size ET.out.size)
 clear hb0 X1 Z1 B1 H1 SZ T1 E1 XX ET
 generalize W1.setCells g 0 (trc x s1).toList = WV at XV ZV BV TV LV ⊢
 have c1 : WV.cell? ⟨g, 1, none⟩ = some (.int .i64 x.st) := XV.out.cell 1
 have c4 : WV.cell? ⟨g, 4, none⟩ = some (.bool true) := by rw [← HO.out]; exact XV.out.cell 4
 go_wp2_with (first
   | (refine wpList_load_row rfl 62 (.tmp 1) rfl g rfl 62 (trc x s1) (0, 0) _ XV.out Tryz.underlying62 rfl (tr_info _ _) ?_)
   | (refine wpList_store_mid (op := { dst := none, op := .store 62 (.tmp 2) (.tmp 17), type := 0, pos := _, after := _, guard := none }) (by rfl) 62 (.tmp 2) (.tmp 17) (by rfl) (g + 1) 0 (trc x s1) (by rfl) (by rfl) (ZV.out.there (Nat.le_refl 13)) (tr_info _ _) TV.out.one ?_))
 exact bodyPost_ret (v := .tuple #[.agg (trc x s1), .slice none 0 0, errno 8]) (results_and2 rfl rfl rfl rfl (tr_load (ZV.out.put (trc x s1) rfl))) rfl ⟨s1, _, rfl, (Tm.turn TV.out (Turn.setCells (S := fun k => k = g + 1) (fun _ => rfl) _ _ _ (Turn.refl _ _)) (fun k hk _ e => by have := GV.out; omega)).less (by have := HG.out; have := GV.out; omega), World.ownsRow_nil _ _ _ _, Below.setCells (by have := HG.out; omega) _ _ _ BV.out⟩
set_option maxRecDepth 100000 in
set_option maxHeartbeats 8000000 in
theorem finish_0 {B : Nat} (x : Tr) (s : Sl) (w : World) (h : Tm w B x s) (hs : Short x) (h1 : x.st = 1) (ho : x.op = false) (ht : Shs x.tch) (hv : Shs x.vts) (y : Tr) (ms : List (List Int)) (hy : goOnL x = (y, ms)) :
   Calls Tryz.prog 52 #[.agg (trc x s)] w (Post3 w (y, ms, 0)) := by
 have X1 := Lib.hid ((Blk.new w 62 (trc x s)).alloc (.cells zTr 62))
 have Z1 := Lib.hid (Blk.new_at (w := w.alloc (.cells (trc x s) 62)) (n := w.heap.size + 1) (by simp) 62 zTr)
 have B1 := Lib.hid ((Joins.below_alloc1 w (.cells (trc x s) 62)).alloc (by simp <;> omega) (.cells zTr 62))
 have SZ := Lib.hid (show ((w.alloc (.cells (trc x s) 62)).alloc (.cells zTr 62)).heap.size = w.heap.size + 2 from by simp)
 have H1 := Lib.hid (h.step B1.out)
 have HS := Lib.hid hs
 have e1 : (x.st != 1) = false := by simpa using h1
 have HO := Lib.hid ho
 have HT := Lib.hid ht
 have HVS := Lib.hid hv
 have H1' := Lib.hid h1
 have HY := Lib.hid hy
 clear h1 ho ht hv hy
 clear h hs
 go_enter Tryz.func52, Tryz.ntmps52
 go_upto_region 1 with fail
 obtain ⟨g, hg⟩ : ∃ g, g = w.heap.size := ⟨_, rfl⟩
 have HG := Lib.hid hg
 rw [← hg] at X1 Z1 SZ ⊢
 clear hg
 generalize (w.alloc (.cells (trc x s) 62)).alloc (.cells zTr 62) = V at X1 Z1 B1 H1 SZ ⊢
 go_upto_region 2 with (first
   | (refine wpList_load_row rfl 62 (.tmp 1) rfl g rfl 62 (trc x s) (0, 0) _ X1.out Tryz.underlying62 rfl (tr_info _ _) ?_)
   | (go_at_call 90; refine (own_any x s _ H1.out HS.out).mono ?_; rintro e W1 ⟨s1, rfl, ht, hn, hb⟩; have T1 := Lib.hid ht; have N1 := Lib.hid hn; have E1 := Lib.hid hb; have XX := Lib.hid (X1.out.here hb); clear ht hn hb)
   | (refine wpList_store_mid (by rfl) 62 (.tmp 1) (.tmp 7) (by rfl) g 0 (trc x s1) (by rfl) (by rfl) (XX.out.there (Nat.le_refl 13)) (tr_info _ _) T1.out.one ?_))
 have ET := Lib.hid (show Turn (fun k => k = g) W1 (W1.setCells g 0 (trc x s1).toList) from Turn.setCells (S := fun k => k = g) (fun _ => rfl) _ _ _ (Turn.refl _ _))
 have XV := Lib.hid (show Blk (W1.setCells g 0 (trc x s1).toList) g 62 (trc x s1) from XX.out.put (trc x s1) rfl)
 have ZV := Lib.hid ((Z1.out.here E1.out).turn ET.out (by omega))
 have BV := Lib.hid ((B1.out.trans (E1.out.mono B1.out.size)).trans (ET.out.below (B := w.heap.size) (fun k hk e => by have := HG.out; omega) (Nat.le_trans B1.out.size E1.out.size)))
 obtain ⟨b0, hb0⟩ : ∃ b0, b0 = V.heap.size := ⟨_, rfl⟩
 have GV := Lib.hid (show b0 = g + 2 from hb0.trans SZ.out)
 rw [← hb0] at T1
 have TV := Lib.hid (T1.out.turn ET.out (fun k hk _ e => by have := GV.out; omega))
 have LV := Lib.hid (show b0 ≤ (W1.setCells g 0 (trc x s1).toList).heap.size from by rw [hb0]; exact Nat.le_trans E1.out.size ET.out.size)
 clear hb0 X1 Z1 B1 H1 SZ T1 E1 XX ET
 generalize W1.setCells g 0 (trc x s1).toList = WV at XV ZV BV TV LV ⊢
 have c1 : WV.cell? ⟨g, 1, none⟩ = some (.int .i64 x.st) := XV.out.cell 1
 have c4 : WV.cell? ⟨g, 4, none⟩ = some (.bool false) := by rw [← HO.out]; exact XV.out.cell 4
 have GO := Lib.hid (goOn_any x s1 _ TV.out HT.out HVS.out (.inl H1'.out))
 have YL := Lib.hid (show (goOnL x).1.tch = x.tch ∧ (goOnL x).1.vts = x.vts ∧ (goOnL x).1.acks = x.acks ∧ (goOnL x).1.got = x.got from by unfold goOnL; split; exact ⟨rfl, rfl, rfl, rfl⟩; split <;> exact ⟨rfl, rfl, rfl, rfl⟩)
 rw [HY.out] at GO YL
 have TQ := Lib.hid (show Tm WV b0 y s1 from ⟨by rw [YL.out.1]; exact TV.out.t, by rw [YL.out.2.1]; exact TV.out.v, by rw [YL.out.2.2.1]; exact TV.out.k, by rw [YL.out.2.2.2]; exact TV.out.g⟩)
 go_upto_region 7 with (first
   | (refine wpList_load_row rfl 62 (.tmp 1) rfl g rfl 62 (trc x s1) (0, 0) _ XV.out Tryz.underlying62 rfl (tr_info _ _) ?_)
   | (go_at_call 94; refine GO.out.mono ?_; rintro e W2 ⟨u, rfl, hu, hb2⟩; obtain ⟨Au, cu, rfl⟩ := own_len hu; have U2 := Lib.hid hu; have E2 := Lib.hid hb2; clear hu hb2)
   | (refine wpList_store_mid (by rfl) 62 (.tmp 1) (.tmp 22) (by rfl) g 0 (trc y s1) (by rfl) (by rfl) ((XV.out.here E2.out).there (Nat.le_refl 13)) (tr_info _ _) TQ.out.one ?_
      have E3 := Lib.hid (show Turn (fun k => k = g) W2 (W2.setCells g 0 (trc y s1).toList) from Turn.setCells (S := fun k => k = g) (fun _ => rfl) _ _ _ (Turn.refl _ _))
      have XV := Lib.hid ((XV.out.here E2.out).put (trc y s1) rfl)
      have ZV := Lib.hid ((ZV.out.here E2.out).turn E3.out (by omega))
      have BV := Lib.hid ((stepB BV.out E2.out).trans (E3.out.below (B := w.heap.size) (fun k hk e => by have := HG.out; omega) (Nat.le_trans BV.out.size E2.out.size)))
      have U3 := Lib.hid (own_off U2.out E3.out (fun k hk _ e => by have := GV.out; have := LV.out; omega))
      have TV := Lib.hid ((TQ.out.step E2.out).turn E3.out (fun k hk _ e => by have := GV.out; omega))
      clear E3
      generalize W2.setCells g 0 (trc y s1).toList = W3 at XV ZV BV U3 TV ⊢))
 go_wp2_with (first
   | (refine wpList_load_row rfl 62 (.tmp 1) rfl g rfl 62 (trc y s1) (0, 0) _ XV.out Tryz.underlying62 rfl (tr_info _ _) ?_)
   | (refine wpList_store_mid (op := { dst := none, op := .store 62 (.tmp 2) (.tmp 24), type := 0, pos := _, after := _, guard := none }) (by rfl) 62 (.tmp 2) (.tmp 24) (by rfl) (g + 1) 0 (trc y s1) (by rfl) (by rfl) (ZV.out.there (Nat.le_refl 13)) (tr_info _ _) TV.out.one ?_))
 have E4 := Turn.setCells (b := g + 1) (w := W3) (S := fun k => k = g + 1) (fun _ => rfl) (trc y s1).toList 0 _ (Turn.refl _ _)
 exact bodyPost_ret (v := .tuple #[.agg (trc y s1), .slice Au ms.length cu, .nilIface]) (results_and2 rfl rfl rfl rfl (tr_load (ZV.out.put (trc y s1) rfl))) rfl ⟨s1, _, rfl, (TV.out.turn E4 (fun k hk _ e => by have := GV.out; omega)).less (by have := HG.out; have := GV.out; omega), own_less (own_off U3.out E4 (fun k hk _ e => by have := GV.out; have := LV.out; omega)) (by have := LV.out; have := GV.out; have := HG.out; omega), Below.setCells (by have := HG.out; omega) _ _ _ BV.out⟩
theorem finish_any {B : Nat} (x : Tr) (s : Sl) (w : World) (h : Tm w B x s) (hs : Short x) (ht : Shs x.tch) (hv : Shs x.vts) : Calls Tryz.prog 52 #[.agg (trc x s)] w (Post3 w (finL x)) := by
 unfold finL
 by_cases h1 : x.st = 1
 · rw [if_neg (fun e => e h1)]
   by_cases ho : x.op = true
   · rw [if_pos ho]; exact finish_8 x s w h hs h1 ho
   · rw [if_neg ho]; exact finish_0 x s w h hs h1 (by simpa using ho) ht hv _ _ rfl
 · rw [if_pos h1]; exact finish_11 x s w h hs h1
end Go.Proofs.YtadnlannbafjpaaGreat
/- A transaction: Ask. -/
namespace Go.Proofs.YtadnlannbafjpaaGreat
open Go.RowKit
set_option linter.unusedVariables false
set_option linter.unusedSimpArgs false
theorem resok_b (t r : Int) (b : Bool) (h : resB t r = b) (w : World) : Calls Tryz.prog 88 #[.agg #[.int .i64 t, .int .i64 r]] w fun e w' => e = .returned (.bool b) ∧ Below w.heap.size w w' := by
 have e : okR t r = b := by rw [← h]; unfold okR resB; simp only [Bool.decide_and, Bool.and_assoc]
 cases b with
 | true => exact (rok_yes t r e w).mono fun _ _ ⟨h1, h2⟩ => ⟨h1, by subst h2; exact Joins.below_alloc1 _ _⟩
 | false => exact (rok_no t r e w).mono fun _ _ ⟨h1, h2⟩ => ⟨h1, by subst h2; exact Joins.below_alloc1 _ _⟩
theorem request_q (x : Tr) (s : Sl) (q : List Int) (hq : lockL x 0 = q) (w : World) : Calls Tryz.prog 93 #[.agg (trc x s)] w fun e w' => e = .returned (.agg (mc q)) ∧ Below w.heap.size w w' := by rw [← hq]; exact request_any x s w
set_option maxRecDepth 100000 in
set_option maxHeartbeats 8000000 in
theorem ask_1a {B : Nat} (x : Tr) (s : Sl) (a0 a1 : Int) (sh md : Int) (w : World) (h : Tm w B x s) (hs : Short x) (hd0 : sh < 1) :
   Calls Tryz.prog 51 #[.agg (trc x s), .int .i64 sh, .agg #[.int .i64 a0, .int .i64 a1], .int .i64 md] w (Post3 w (x, [], 1)) := by
 have X1 := Lib.hid (((Blk.new w 62 (trc x s)).alloc (.cells #[.int .i64 a0, .int .i64 a1] 39)).alloc (.cells zTr 62))
 have A1 := Lib.hid ((Blk.new_at (w := w.alloc (.cells (trc x s) 62)) (n := w.heap.size + 1) (by simp) 39 #[.int .i64 a0, .int .i64 a1]).alloc (.cells zTr 62))
 have Z1 := Lib.hid (Blk.new_at (w := (w.alloc (.cells (trc x s) 62)).alloc (.cells #[.int .i64 a0, .int .i64 a1] 39)) (n := w.heap.size + 2) (by simp) 62 zTr)
 have B1 := Lib.hid (((Joins.below_alloc1 w (.cells (trc x s) 62)).alloc (by simp <;> omega) (.cells #[.int .i64 a0, .int .i64 a1] 39)).alloc (by simp <;> omega) (.cells zTr 62))
 have SZ := Lib.hid (show (((w.alloc (.cells (trc x s) 62)).alloc (.cells #[.int .i64 a0, .int .i64 a1] 39)).alloc (.cells zTr 62)).heap.size = w.heap.size + 3 from by simp)
 have H1 := Lib.hid (h.step B1.out)
 have HS := Lib.hid hs
 have d0 : decide (sh < 1) = true := by simpa using hd0
 clear hd0
 clear h hs
 go_enter Tryz.func51, Tryz.ntmps51
 go_upto_region 1 with fail
 obtain ⟨g, hg⟩ : ∃ g, g = w.heap.size := ⟨_, rfl⟩
 have HG := Lib.hid hg
 rw [← hg] at X1 A1 Z1 SZ ⊢
 clear hg
 generalize ((w.alloc (.cells (trc x s) 62)).alloc (.cells #[.int .i64 a0, .int .i64 a1] 39)).alloc (.cells zTr 62) = V at X1 A1 Z1 B1 H1 SZ ⊢
 go_upto_region 2 with (first
   | (refine wpList_load_row rfl 62 (.tmp 4) rfl g rfl 62 (trc x s) (0, 0) _ X1.out Tryz.underlying62 rfl (tr_info _ _) ?_)
   | (go_at_call 90; refine (own_any x s _ H1.out HS.out).mono ?_; rintro e W1 ⟨s1, rfl, ht, hn, hb⟩; have T1 := Lib.hid ht; have N1 := Lib.hid hn; have E1 := Lib.hid hb; have XX := Lib.hid (X1.out.here hb); clear ht hn hb)
   | (refine wpList_store_mid (by rfl) 62 (.tmp 4) (.tmp 12) (by rfl) g 0 (trc x s1) (by rfl) (by rfl) (XX.out.there (Nat.le_refl 13)) (tr_info _ _) T1.out.one ?_))
 have ET := Lib.hid (show Turn (fun k => k = g) W1 (W1.setCells g 0 (trc x s1).toList) from Turn.setCells (S := fun k => k = g) (fun _ => rfl) _ _ _ (Turn.refl _ _))
 have XV := Lib.hid (show Blk (W1.setCells g 0 (trc x s1).toList) g 62 (trc x s1) from XX.out.put (trc x s1) rfl)
 have ZV := Lib.hid ((Z1.out.here E1.out).turn ET.out (by omega))
 have AV := Lib.hid ((A1.out.here E1.out).turn ET.out (by omega))
 have BV := Lib.hid ((B1.out.trans (E1.out.mono B1.out.size)).trans (ET.out.below (B := w.heap.size) (fun k hk e => by have := HG.out; omega) (Nat.le_trans B1.out.size E1.out.size)))
 obtain ⟨b0, hb0⟩ : ∃ b0, b0 = V.heap.size := ⟨_, rfl⟩
 have GV := Lib.hid (show b0 = g + 3 from hb0.trans SZ.out)
 rw [← hb0] at T1
 have TV := Lib.hid (T1.out.turn ET.out (fun k hk _ e => by have := GV.out; omega))
 have LV := Lib.hid (show b0 ≤ (W1.setCells g 0 (trc x s1).toList).heap.size from by rw [hb0]; exact Nat.le_trans E1.out.size ET.out.size)
 clear hb0 X1 Z1 A1 B1 H1 SZ T1 E1 XX ET
 generalize W1.setCells g 0 (trc x s1).toList = WV at XV ZV AV BV TV LV ⊢
 have a0c : WV.cell? ⟨g + 1, 0, none⟩ = some (.int .i64 a0) := AV.out.cell 0
 have a1c : WV.cell? ⟨g + 1, 1, none⟩ = some (.int .i64 a1) := AV.out.cell 1
 go_wp2_with (first
   | (refine wpList_load_row rfl 62 (.tmp 4) rfl g rfl 62 (trc x s1) (0, 0) _ XV.out Tryz.underlying62 rfl (tr_info _ _) ?_)
   | (refine wpList_store_mid (op := { dst := none, op := .store 62 (.tmp 8) (.tmp 29), type := 0, pos := _, after := _, guard := none }) (by rfl) 62 (.tmp 8) (.tmp 29) (by rfl) (g + 2) 0 (trc x s1) (by rfl) (by rfl) (ZV.out.there (Nat.le_refl 13)) (tr_info _ _) TV.out.one ?_))
 exact bodyPost_ret (v := .tuple #[.agg (trc x s1), .slice none 0 0, errno 1]) (results_and2 rfl rfl rfl rfl (tr_load (ZV.out.put (trc x s1) rfl))) rfl ⟨s1, _, rfl, (Tm.turn TV.out (Turn.setCells (S := fun k => k = g + 2) (fun _ => rfl) _ _ _ (Turn.refl _ _)) (fun k hk _ e => by have := GV.out; omega)).less (by have := HG.out; have := GV.out; omega), World.ownsRow_nil _ _ _ _, Below.setCells (by have := HG.out; omega) _ _ _ BV.out⟩
set_option maxRecDepth 100000 in
set_option maxHeartbeats 8000000 in
theorem ask_1b {B : Nat} (x : Tr) (s : Sl) (a0 a1 : Int) (sh md : Int) (w : World) (h : Tm w B x s) (hs : Short x) (hd0 : ¬ sh < 1) (hd1 : 64 < sh) :
   Calls Tryz.prog 51 #[.agg (trc x s), .int .i64 sh, .agg #[.int .i64 a0, .int .i64 a1], .int .i64 md] w (Post3 w (x, [], 1)) := by
 have X1 := Lib.hid (((Blk.new w 62 (trc x s)).alloc (.cells #[.int .i64 a0, .int .i64 a1] 39)).alloc (.cells zTr 62))
 have A1 := Lib.hid ((Blk.new_at (w := w.alloc (.cells (trc x s) 62)) (n := w.heap.size + 1) (by simp) 39 #[.int .i64 a0, .int .i64 a1]).alloc (.cells zTr 62))
 have Z1 := Lib.hid (Blk.new_at (w := (w.alloc (.cells (trc x s) 62)).alloc (.cells #[.int .i64 a0, .int .i64 a1] 39)) (n := w.heap.size + 2) (by simp) 62 zTr)
 have B1 := Lib.hid (((Joins.below_alloc1 w (.cells (trc x s) 62)).alloc (by simp <;> omega) (.cells #[.int .i64 a0, .int .i64 a1] 39)).alloc (by simp <;> omega) (.cells zTr 62))
 have SZ := Lib.hid (show (((w.alloc (.cells (trc x s) 62)).alloc (.cells #[.int .i64 a0, .int .i64 a1] 39)).alloc (.cells zTr 62)).heap.size = w.heap.size + 3 from by simp)
 have H1 := Lib.hid (h.step B1.out)
 have HS := Lib.hid hs
 have d0 : decide (sh < 1) = false := by simpa using hd0
 have d1 : decide (64 < sh) = true := by simpa using hd1
 clear hd0 hd1
 clear h hs
 go_enter Tryz.func51, Tryz.ntmps51
 go_upto_region 1 with fail
 obtain ⟨g, hg⟩ : ∃ g, g = w.heap.size := ⟨_, rfl⟩
 have HG := Lib.hid hg
 rw [← hg] at X1 A1 Z1 SZ ⊢
 clear hg
 generalize ((w.alloc (.cells (trc x s) 62)).alloc (.cells #[.int .i64 a0, .int .i64 a1] 39)).alloc (.cells zTr 62) = V at X1 A1 Z1 B1 H1 SZ ⊢
 go_upto_region 2 with (first
   | (refine wpList_load_row rfl 62 (.tmp 4) rfl g rfl 62 (trc x s) (0, 0) _ X1.out Tryz.underlying62 rfl (tr_info _ _) ?_)
   | (go_at_call 90; refine (own_any x s _ H1.out HS.out).mono ?_; rintro e W1 ⟨s1, rfl, ht, hn, hb⟩; have T1 := Lib.hid ht; have N1 := Lib.hid hn; have E1 := Lib.hid hb; have XX := Lib.hid (X1.out.here hb); clear ht hn hb)
   | (refine wpList_store_mid (by rfl) 62 (.tmp 4) (.tmp 12) (by rfl) g 0 (trc x s1) (by rfl) (by rfl) (XX.out.there (Nat.le_refl 13)) (tr_info _ _) T1.out.one ?_))
 have ET := Lib.hid (show Turn (fun k => k = g) W1 (W1.setCells g 0 (trc x s1).toList) from Turn.setCells (S := fun k => k = g) (fun _ => rfl) _ _ _ (Turn.refl _ _))
 have XV := Lib.hid (show Blk (W1.setCells g 0 (trc x s1).toList) g 62 (trc x s1) from XX.out.put (trc x s1) rfl)
 have ZV := Lib.hid ((Z1.out.here E1.out).turn ET.out (by omega))
 have AV := Lib.hid ((A1.out.here E1.out).turn ET.out (by omega))
 have BV := Lib.hid ((B1.out.trans (E1.out.mono B1.out.size)).trans (ET.out.below (B := w.heap.size) (fun k hk e => by have := HG.out; omega) (Nat.le_trans B1.out.size E1.out.size)))
 obtain ⟨b0, hb0⟩ : ∃ b0, b0 = V.heap.size := ⟨_, rfl⟩
 have GV := Lib.hid (show b0 = g + 3 from hb0.trans SZ.out)
 rw [← hb0] at T1
 have TV := Lib.hid (T1.out.turn ET.out (fun k hk _ e => by have := GV.out; omega))
 have LV := Lib.hid (show b0 ≤ (W1.setCells g 0 (trc x s1).toList).heap.size from by rw [hb0]; exact Nat.le_trans E1.out.size ET.out.size)
 clear hb0 X1 Z1 A1 B1 H1 SZ T1 E1 XX ET
 generalize W1.setCells g 0 (trc x s1).toList = WV at XV ZV AV BV TV LV ⊢
 have a0c : WV.cell? ⟨g + 1, 0, none⟩ = some (.int .i64 a0) := AV.out.cell 0
 have a1c : WV.cell? ⟨g + 1, 1, none⟩ = some (.int .i64 a1) := AV.out.cell 1
 go_wp2_with (first
   | (refine wpList_load_row rfl 62 (.tmp 4) rfl g rfl 62 (trc x s1) (0, 0) _ XV.out Tryz.underlying62 rfl (tr_info _ _) ?_)
   | (refine wpList_store_mid (op := { dst := none, op := .store 62 (.tmp 8) (.tmp 29), type := 0, pos := _, after := _, guard := none }) (by rfl) 62 (.tmp 8) (.tmp 29) (by rfl) (g + 2) 0 (trc x s1) (by rfl) (by rfl) (ZV.out.there (Nat.le_refl 13)) (tr_info _ _) TV.out.one ?_))
 exact bodyPost_ret (v := .tuple #[.agg (trc x s1), .slice none 0 0, errno 1]) (results_and2 rfl rfl rfl rfl (tr_load (ZV.out.put (trc x s1) rfl))) rfl ⟨s1, _, rfl, (Tm.turn TV.out (Turn.setCells (S := fun k => k = g + 2) (fun _ => rfl) _ _ _ (Turn.refl _ _)) (fun k hk _ e => by have := GV.out; omega)).less (by have := HG.out; have := GV.out; omega), World.ownsRow_nil _ _ _ _, Below.setCells (by have := HG.out; omega) _ _ _ BV.out⟩
set_option maxRecDepth 100000 in
set_option maxHeartbeats 8000000 in
theorem ask_1c {B : Nat} (x : Tr) (s : Sl) (a0 a1 : Int) (sh md : Int) (w : World) (h : Tm w B x s) (hs : Short x) (hd0 : ¬ sh < 1) (hd1 : ¬ 64 < sh) (hr : resB a0 a1 = false) :
   Calls Tryz.prog 51 #[.agg (trc x s), .int .i64 sh, .agg #[.int .i64 a0, .int .i64 a1], .int .i64 md] w (Post3 w (x, [], 1)) := by
 have X1 := Lib.hid (((Blk.new w 62 (trc x s)).alloc (.cells #[.int .i64 a0, .int .i64 a1] 39)).alloc (.cells zTr 62))
 have A1 := Lib.hid ((Blk.new_at (w := w.alloc (.cells (trc x s) 62)) (n := w.heap.size + 1) (by simp) 39 #[.int .i64 a0, .int .i64 a1]).alloc (.cells zTr 62))
 have Z1 := Lib.hid (Blk.new_at (w := (w.alloc (.cells (trc x s) 62)).alloc (.cells #[.int .i64 a0, .int .i64 a1] 39)) (n := w.heap.size + 2) (by simp) 62 zTr)
 have B1 := Lib.hid (((Joins.below_alloc1 w (.cells (trc x s) 62)).alloc (by simp <;> omega) (.cells #[.int .i64 a0, .int .i64 a1] 39)).alloc (by simp <;> omega) (.cells zTr 62))
 have SZ := Lib.hid (show (((w.alloc (.cells (trc x s) 62)).alloc (.cells #[.int .i64 a0, .int .i64 a1] 39)).alloc (.cells zTr 62)).heap.size = w.heap.size + 3 from by simp)
 have H1 := Lib.hid (h.step B1.out)
 have HS := Lib.hid hs
 have d0 : decide (sh < 1) = false := by simpa using hd0
 have d1 : decide (64 < sh) = false := by simpa using hd1
 have HR := Lib.hid hr
 clear hd0 hd1 hr
 clear h hs
 go_enter Tryz.func51, Tryz.ntmps51
 go_upto_region 1 with fail
 obtain ⟨g, hg⟩ : ∃ g, g = w.heap.size := ⟨_, rfl⟩
 have HG := Lib.hid hg
 rw [← hg] at X1 A1 Z1 SZ ⊢
 clear hg
 generalize ((w.alloc (.cells (trc x s) 62)).alloc (.cells #[.int .i64 a0, .int .i64 a1] 39)).alloc (.cells zTr 62) = V at X1 A1 Z1 B1 H1 SZ ⊢
 go_upto_region 2 with (first
   | (refine wpList_load_row rfl 62 (.tmp 4) rfl g rfl 62 (trc x s) (0, 0) _ X1.out Tryz.underlying62 rfl (tr_info _ _) ?_)
   | (go_at_call 90; refine (own_any x s _ H1.out HS.out).mono ?_; rintro e W1 ⟨s1, rfl, ht, hn, hb⟩; have T1 := Lib.hid ht; have N1 := Lib.hid hn; have E1 := Lib.hid hb; have XX := Lib.hid (X1.out.here hb); clear ht hn hb)
   | (refine wpList_store_mid (by rfl) 62 (.tmp 4) (.tmp 12) (by rfl) g 0 (trc x s1) (by rfl) (by rfl) (XX.out.there (Nat.le_refl 13)) (tr_info _ _) T1.out.one ?_))
 have ET := Lib.hid (show Turn (fun k => k = g) W1 (W1.setCells g 0 (trc x s1).toList) from Turn.setCells (S := fun k => k = g) (fun _ => rfl) _ _ _ (Turn.refl _ _))
 have XV := Lib.hid (show Blk (W1.setCells g 0 (trc x s1).toList) g 62 (trc x s1) from XX.out.put (trc x s1) rfl)
 have ZV := Lib.hid ((Z1.out.here E1.out).turn ET.out (by omega))
 have AV := Lib.hid ((A1.out.here E1.out).turn ET.out (by omega))
 have BV := Lib.hid ((B1.out.trans (E1.out.mono B1.out.size)).trans (ET.out.below (B := w.heap.size) (fun k hk e => by have := HG.out; omega) (Nat.le_trans B1.out.size E1.out.size)))
 obtain ⟨b0, hb0⟩ : ∃ b0, b0 = V.heap.size := ⟨_, rfl⟩
 have GV := Lib.hid (show b0 = g + 3 from hb0.trans SZ.out)
 rw [← hb0] at T1
 have TV := Lib.hid (T1.out.turn ET.out (fun k hk _ e => by have := GV.out; omega))
 have LV := Lib.hid (show b0 ≤ (W1.setCells g 0 (trc x s1).toList).heap.size from by rw [hb0]; exact Nat.le_trans E1.out.size ET.out.size)
 clear hb0 X1 Z1 A1 B1 H1 SZ T1 E1 XX ET
 generalize W1.setCells g 0 (trc x s1).toList = WV at XV ZV AV BV TV LV ⊢
 have a0c : WV.cell? ⟨g + 1, 0, none⟩ = some (.int .i64 a0) := AV.out.cell 0
 have a1c : WV.cell? ⟨g + 1, 1, none⟩ = some (.int .i64 a1) := AV.out.cell 1
 go_upto_region 5 with (first
   | (go_at_call 88; refine (resok_b a0 a1 false HR.out _).mono ?_; rintro e W2 ⟨rfl, hb2⟩; have XV := Lib.hid (XV.out.here hb2); have ZV := Lib.hid (ZV.out.here hb2); have AV := Lib.hid (AV.out.here hb2); have TV := Lib.hid (TV.out.step hb2); have BV := Lib.hid (stepB BV.out hb2); have LV := Lib.hid (Nat.le_trans LV.out hb2.size); clear hb2))
 go_wp2_with (first
   | (refine wpList_load_row rfl 62 (.tmp 4) rfl g rfl 62 (trc x s1) (0, 0) _ XV.out Tryz.underlying62 rfl (tr_info _ _) ?_)
   | (refine wpList_store_mid (op := { dst := none, op := .store 62 (.tmp 8) (.tmp 29), type := 0, pos := _, after := _, guard := none }) (by rfl) 62 (.tmp 8) (.tmp 29) (by rfl) (g + 2) 0 (trc x s1) (by rfl) (by rfl) (ZV.out.there (Nat.le_refl 13)) (tr_info _ _) TV.out.one ?_))
 exact bodyPost_ret (v := .tuple #[.agg (trc x s1), .slice none 0 0, errno 1]) (results_and2 rfl rfl rfl rfl (tr_load (ZV.out.put (trc x s1) rfl))) rfl ⟨s1, _, rfl, (Tm.turn TV.out (Turn.setCells (S := fun k => k = g + 2) (fun _ => rfl) _ _ _ (Turn.refl _ _)) (fun k hk _ e => by have := GV.out; omega)).less (by have := HG.out; have := GV.out; omega), World.ownsRow_nil _ _ _ _, Below.setCells (by have := HG.out; omega) _ _ _ BV.out⟩
set_option maxRecDepth 100000 in
set_option maxHeartbeats 8000000 in
theorem ask_1d {B : Nat} (x : Tr) (s : Sl) (a0 a1 : Int) (sh md : Int) (w : World) (h : Tm w B x s) (hs : Short x) (hd0 : ¬ sh < 1) (hd1 : ¬ 64 < sh) (hr : resB a0 a1 = true) (hd2 : md < 1) :
   Calls Tryz.prog 51 #[.agg (trc x s), .int .i64 sh, .agg #[.int .i64 a0, .int .i64 a1], .int .i64 md] w (Post3 w (x, [], 1)) := by
 have X1 := Lib.hid (((Blk.new w 62 (trc x s)).alloc (.cells #[.int .i64 a0, .int .i64 a1] 39)).alloc (.cells zTr 62))
 have A1 := Lib.hid ((Blk.new_at (w := w.alloc (.cells (trc x s) 62)) (n := w.heap.size + 1) (by simp) 39 #[.int .i64 a0, .int .i64 a1]).alloc (.cells zTr 62))
 have Z1 := Lib.hid (Blk.new_at (w := (w.alloc (.cells (trc x s) 62)).alloc (.cells #[.int .i64 a0, .int .i64 a1] 39)) (n := w.heap.size + 2) (by simp) 62 zTr)
 have B1 := Lib.hid (((Joins.below_alloc1 w (.cells (trc x s) 62)).alloc (by simp <;> omega) (.cells #[.int .i64 a0, .int .i64 a1] 39)).alloc (by simp <;> omega) (.cells zTr 62))
 have SZ := Lib.hid (show (((w.alloc (.cells (trc x s) 62)).alloc (.cells #[.int .i64 a0, .int .i64 a1] 39)).alloc (.cells zTr 62)).heap.size = w.heap.size + 3 from by simp)
 have H1 := Lib.hid (h.step B1.out)
 have HS := Lib.hid hs
 have d0 : decide (sh < 1) = false := by simpa using hd0
 have d1 : decide (64 < sh) = false := by simpa using hd1
 have HR := Lib.hid hr
 have d2 : decide (md < 1) = true := by simpa using hd2
 clear hd0 hd1 hr hd2
 clear h hs
 go_enter Tryz.func51, Tryz.ntmps51
 go_upto_region 1 with fail
 obtain ⟨g, hg⟩ : ∃ g, g = w.heap.size := ⟨_, rfl⟩
 have HG := Lib.hid hg
 rw [← hg] at X1 A1 Z1 SZ ⊢
 clear hg
 generalize ((w.alloc (.cells (trc x s) 62)).alloc (.cells #[.int .i64 a0, .int .i64 a1] 39)).alloc (.cells zTr 62) = V at X1 A1 Z1 B1 H1 SZ ⊢
 go_upto_region 2 with (first
   | (refine wpList_load_row rfl 62 (.tmp 4) rfl g rfl 62 (trc x s) (0, 0) _ X1.out Tryz.underlying62 rfl (tr_info _ _) ?_)
   | (go_at_call 90; refine (own_any x s _ H1.out HS.out).mono ?_; rintro e W1 ⟨s1, rfl, ht, hn, hb⟩; have T1 := Lib.hid ht; have N1 := Lib.hid hn; have E1 := Lib.hid hb; have XX := Lib.hid (X1.out.here hb); clear ht hn hb)
   | (refine wpList_store_mid (by rfl) 62 (.tmp 4) (.tmp 12) (by rfl) g 0 (trc x s1) (by rfl) (by rfl) (XX.out.there (Nat.le_refl 13)) (tr_info _ _) T1.out.one ?_))
 have ET := Lib.hid (show Turn (fun k => k = g) W1 (W1.setCells g 0 (trc x s1).toList) from Turn.setCells (S := fun k => k = g) (fun _ => rfl) _ _ _ (Turn.refl _ _))
 have XV := Lib.hid (show Blk (W1.setCells g 0 (trc x s1).toList) g 62 (trc x s1) from XX.out.put (trc x s1) rfl)
 have ZV := Lib.hid ((Z1.out.here E1.out).turn ET.out (by omega))
 have AV := Lib.hid ((A1.out.here E1.out).turn ET.out (by omega))
 have BV := Lib.hid ((B1.out.trans (E1.out.mono B1.out.size)).trans (ET.out.below (B := w.heap.size) (fun k hk e => by have := HG.out; omega) (Nat.le_trans B1.out.size E1.out.size)))
 obtain ⟨b0, hb0⟩ : ∃ b0, b0 = V.heap.size := ⟨_, rfl⟩
 have GV := Lib.hid (show b0 = g + 3 from hb0.trans SZ.out)
 rw [← hb0] at T1
 have TV := Lib.hid (T1.out.turn ET.out (fun k hk _ e => by have := GV.out; omega))
 have LV := Lib.hid (show b0 ≤ (W1.setCells g 0 (trc x s1).toList).heap.size from by rw [hb0]; exact Nat.le_trans E1.out.size ET.out.size)
 clear hb0 X1 Z1 A1 B1 H1 SZ T1 E1 XX ET
 generalize W1.setCells g 0 (trc x s1).toList = WV at XV ZV AV BV TV LV ⊢
 have a0c : WV.cell? ⟨g + 1, 0, none⟩ = some (.int .i64 a0) := AV.out.cell 0
 have a1c : WV.cell? ⟨g + 1, 1, none⟩ = some (.int .i64 a1) := AV.out.cell 1
 go_upto_region 5 with (first
   | (go_at_call 88; refine (resok_b a0 a1 true HR.out _).mono ?_; rintro e W2 ⟨rfl, hb2⟩; have XV := Lib.hid (XV.out.here hb2); have ZV := Lib.hid (ZV.out.here hb2); have AV := Lib.hid (AV.out.here hb2); have TV := Lib.hid (TV.out.step hb2); have BV := Lib.hid (stepB BV.out hb2); have LV := Lib.hid (Nat.le_trans LV.out hb2.size); clear hb2))
 go_wp2_with (first
   | (refine wpList_load_row rfl 62 (.tmp 4) rfl g rfl 62 (trc x s1) (0, 0) _ XV.out Tryz.underlying62 rfl (tr_info _ _) ?_)
   | (refine wpList_store_mid (op := { dst := none, op := .store 62 (.tmp 8) (.tmp 29), type := 0, pos := _, after := _, guard := none }) (by rfl) 62 (.tmp 8) (.tmp 29) (by rfl) (g + 2) 0 (trc x s1) (by rfl) (by rfl) (ZV.out.there (Nat.le_refl 13)) (tr_info _ _) TV.out.one ?_))
 exact bodyPost_ret (v := .tuple #[.agg (trc x s1), .slice none 0 0, errno 1]) (results_and2 rfl rfl rfl rfl (tr_load (ZV.out.put (trc x s1) rfl))) rfl ⟨s1, _, rfl, (Tm.turn TV.out (Turn.setCells (S := fun k => k = g + 2) (fun _ => rfl) _ _ _ (Turn.refl _ _)) (fun k hk _ e => by have := GV.out; omega)).less (by have := HG.out; have := GV.out; omega), World.ownsRow_nil _ _ _ _, Below.setCells (by have := HG.out; omega) _ _ _ BV.out⟩
set_option maxRecDepth 100000 in
set_option maxHeartbeats 8000000 in
theorem ask_1e {B : Nat} (x : Tr) (s : Sl) (a0 a1 : Int) (sh md : Int) (w : World) (h : Tm w B x s) (hs : Short x) (hd0 : ¬ sh < 1) (hd1 : ¬ 64 < sh) (hr : resB a0 a1 = true) (hd2 : ¬ md < 1) (hd3 : 4 < md) :
   Calls Tryz.prog 51 #[.agg (trc x s), .int .i64 sh, .agg #[.int .i64 a0, .int .i64 a1], .int .i64 md] w (Post3 w (x, [], 1)) := by
 have X1 := Lib.hid (((Blk.new w 62 (trc x s)).alloc (.cells #[.int .i64 a0, .int .i64 a1] 39)).alloc (.cells zTr 62))
 have A1 := Lib.hid ((Blk.new_at (w := w.alloc (.cells (trc x s) 62)) (n := w.heap.size + 1) (by simp) 39 #[.int .i64 a0, .int .i64 a1]).alloc (.cells zTr 62))
 have Z1 := Lib.hid (Blk.new_at (w := (w.alloc (.cells (trc x s) 62)).alloc (.cells #[.int .i64 a0, .int .i64 a1] 39)) (n := w.heap.size + 2) (by simp) 62 zTr)
 have B1 := Lib.hid (((Joins.below_alloc1 w (.cells (trc x s) 62)).alloc (by simp <;> omega) (.cells #[.int .i64 a0, .int .i64 a1] 39)).alloc (by simp <;> omega) (.cells zTr 62))
 have SZ := Lib.hid (show (((w.alloc (.cells (trc x s) 62)).alloc (.cells #[.int .i64 a0, .int .i64 a1] 39)).alloc (.cells zTr 62)).heap.size = w.heap.size + 3 from by simp)
 have H1 := Lib.hid (h.step B1.out)
 have HS := Lib.hid hs
 have d0 : decide (sh < 1) = false := by simpa using hd0
 have d1 : decide (64 < sh) = false := by simpa using hd1
 have HR := Lib.hid hr
 have d2 : decide (md < 1) = false := by simpa using hd2
 have d3 : decide (4 < md) = true := by simpa using hd3
 clear hd0 hd1 hr hd2 hd3
 clear h hs
 go_enter Tryz.func51, Tryz.ntmps51
 go_upto_region 1 with fail
 obtain ⟨g, hg⟩ : ∃ g, g = w.heap.size := ⟨_, rfl⟩
 have HG := Lib.hid hg
 rw [← hg] at X1 A1 Z1 SZ ⊢
 clear hg
 generalize ((w.alloc (.cells (trc x s) 62)).alloc (.cells #[.int .i64 a0, .int .i64 a1] 39)).alloc (.cells zTr 62) = V at X1 A1 Z1 B1 H1 SZ ⊢
 go_upto_region 2 with (first
   | (refine wpList_load_row rfl 62 (.tmp 4) rfl g rfl 62 (trc x s) (0, 0) _ X1.out Tryz.underlying62 rfl (tr_info _ _) ?_)
   | (go_at_call 90; refine (own_any x s _ H1.out HS.out).mono ?_; rintro e W1 ⟨s1, rfl, ht, hn, hb⟩; have T1 := Lib.hid ht; have N1 := Lib.hid hn; have E1 := Lib.hid hb; have XX := Lib.hid (X1.out.here hb); clear ht hn hb)
   | (refine wpList_store_mid (by rfl) 62 (.tmp 4) (.tmp 12) (by rfl) g 0 (trc x s1) (by rfl) (by rfl) (XX.out.there (Nat.le_refl 13)) (tr_info _ _) T1.out.one ?_))
 have ET := Lib.hid (show Turn (fun k => k = g) W1 (W1.setCells g 0 (trc x s1).toList) from Turn.setCells (S := fun k => k = g) (fun _ => rfl) _ _ _ (Turn.refl _ _))
 have XV := Lib.hid (show Blk (W1.setCells g 0 (trc x s1).toList) g 62 (trc x s1) from XX.out.put (trc x s1) rfl)
 have ZV := Lib.hid ((Z1.out.here E1.out).turn ET.out (by omega))
 have AV := Lib.hid ((A1.out.here E1.out).turn ET.out (by omega))
 have BV := Lib.hid ((B1.out.trans (E1.out.mono B1.out.size)).trans (ET.out.below (B := w.heap.size) (fun k hk e => by have := HG.out; omega) (Nat.le_trans B1.out.size E1.out.size)))
 obtain ⟨b0, hb0⟩ : ∃ b0, b0 = V.heap.size := ⟨_, rfl⟩
 have GV := Lib.hid (show b0 = g + 3 from hb0.trans SZ.out)
 rw [← hb0] at T1
 have TV := Lib.hid (T1.out.turn ET.out (fun k hk _ e => by have := GV.out; omega))
 have LV := Lib.hid (show b0 ≤ (W1.setCells g 0 (trc x s1).toList).heap.size from by rw [hb0]; exact Nat.le_trans E1.out.size ET.out.size)
 clear hb0 X1 Z1 A1 B1 H1 SZ T1 E1 XX ET
 generalize W1.setCells g 0 (trc x s1).toList = WV at XV ZV AV BV TV LV ⊢
 have a0c : WV.cell? ⟨g + 1, 0, none⟩ = some (.int .i64 a0) := AV.out.cell 0
 have a1c : WV.cell? ⟨g + 1, 1, none⟩ = some (.int .i64 a1) := AV.out.cell 1
 go_upto_region 5 with (first
   | (go_at_call 88; refine (resok_b a0 a1 true HR.out _).mono ?_; rintro e W2 ⟨rfl, hb2⟩; have XV := Lib.hid (XV.out.here hb2); have ZV := Lib.hid (ZV.out.here hb2); have AV := Lib.hid (AV.out.here hb2); have TV := Lib.hid (TV.out.step hb2); have BV := Lib.hid (stepB BV.out hb2); have LV := Lib.hid (Nat.le_trans LV.out hb2.size); clear hb2))
 go_wp2_with (first
   | (refine wpList_load_row rfl 62 (.tmp 4) rfl g rfl 62 (trc x s1) (0, 0) _ XV.out Tryz.underlying62 rfl (tr_info _ _) ?_)
   | (refine wpList_store_mid (op := { dst := none, op := .store 62 (.tmp 8) (.tmp 29), type := 0, pos := _, after := _, guard := none }) (by rfl) 62 (.tmp 8) (.tmp 29) (by rfl) (g + 2) 0 (trc x s1) (by rfl) (by rfl) (ZV.out.there (Nat.le_refl 13)) (tr_info _ _) TV.out.one ?_))
 exact bodyPost_ret (v := .tuple #[.agg (trc x s1), .slice none 0 0, errno 1]) (results_and2 rfl rfl rfl rfl (tr_load (ZV.out.put (trc x s1) rfl))) rfl ⟨s1, _, rfl, (Tm.turn TV.out (Turn.setCells (S := fun k => k = g + 2) (fun _ => rfl) _ _ _ (Turn.refl _ _)) (fun k hk _ e => by have := GV.out; omega)).less (by have := HG.out; have := GV.out; omega), World.ownsRow_nil _ _ _ _, Below.setCells (by have := HG.out; omega) _ _ _ BV.out⟩
set_option maxRecDepth 100000 in
set_option maxHeartbeats 8000000 in
theorem ask_11 {B : Nat} (x : Tr) (s : Sl) (a0 a1 : Int) (sh md : Int) (w : World) (h : Tm w B x s) (hs : Short x) (hd0 : ¬ sh < 1) (hd1 : ¬ 64 < sh) (hr : resB a0 a1 = true) (hd2 : ¬ md < 1) (hd3 : ¬ 4 < md) (h1 : ¬ x.st = 1) :
   Calls Tryz.prog 51 #[.agg (trc x s), .int .i64 sh, .agg #[.int .i64 a0, .int .i64 a1], .int .i64 md] w (Post3 w (x, [], 11)) := by
 have X1 := Lib.hid (((Blk.new w 62 (trc x s)).alloc (.cells #[.int .i64 a0, .int .i64 a1] 39)).alloc (.cells zTr 62))
 have A1 := Lib.hid ((Blk.new_at (w := w.alloc (.cells (trc x s) 62)) (n := w.heap.size + 1) (by simp) 39 #[.int .i64 a0, .int .i64 a1]).alloc (.cells zTr 62))
 have Z1 := Lib.hid (Blk.new_at (w := (w.alloc (.cells (trc x s) 62)).alloc (.cells #[.int .i64 a0, .int .i64 a1] 39)) (n := w.heap.size + 2) (by simp) 62 zTr)
 have B1 := Lib.hid (((Joins.below_alloc1 w (.cells (trc x s) 62)).alloc (by simp <;> omega) (.cells #[.int .i64 a0, .int .i64 a1] 39)).alloc (by simp <;> omega) (.cells zTr 62))
 have SZ := Lib.hid (show (((w.alloc (.cells (trc x s) 62)).alloc (.cells #[.int .i64 a0, .int .i64 a1] 39)).alloc (.cells zTr 62)).heap.size = w.heap.size + 3 from by simp)
 have H1 := Lib.hid (h.step B1.out)
 have HS := Lib.hid hs
 have d0 : decide (sh < 1) = false := by simpa using hd0
 have d1 : decide (64 < sh) = false := by simpa using hd1
 have HR := Lib.hid hr
 have d2 : decide (md < 1) = false := by simpa using hd2
 have d3 : decide (4 < md) = false := by simpa using hd3
 have e1 : (x.st != 1) = true := by simpa using h1
 clear hd0 hd1 hr hd2 hd3 h1
 clear h hs
 go_enter Tryz.func51, Tryz.ntmps51
 go_upto_region 1 with fail
 obtain ⟨g, hg⟩ : ∃ g, g = w.heap.size := ⟨_, rfl⟩
 have HG := Lib.hid hg
 rw [← hg] at X1 A1 Z1 SZ ⊢
 clear hg
 generalize ((w.alloc (.cells (trc x s) 62)).alloc (.cells #[.int .i64 a0, .int .i64 a1] 39)).alloc (.cells zTr 62) = V at X1 A1 Z1 B1 H1 SZ ⊢
 go_upto_region 2 with (first
   | (refine wpList_load_row rfl 62 (.tmp 4) rfl g rfl 62 (trc x s) (0, 0) _ X1.out Tryz.underlying62 rfl (tr_info _ _) ?_)
   | (go_at_call 90; refine (own_any x s _ H1.out HS.out).mono ?_; rintro e W1 ⟨s1, rfl, ht, hn, hb⟩; have T1 := Lib.hid ht; have N1 := Lib.hid hn; have E1 := Lib.hid hb; have XX := Lib.hid (X1.out.here hb); clear ht hn hb)
   | (refine wpList_store_mid (by rfl) 62 (.tmp 4) (.tmp 12) (by rfl) g 0 (trc x s1) (by rfl) (by rfl) (XX.out.there (Nat.le_refl 13)) (tr_info _ _) T1.out.one ?_))
 have ET := Lib.hid (show Turn (fun k => k = g) W1 (W1.setCells g 0 (trc x s1).toList) from Turn.setCells (S := fun k => k = g) (fun _ => rfl) _ _ _ (Turn.refl _ _))
 have XV := Lib.hid (show Blk (W1.setCells g 0 (trc x s1).toList) g 62 (trc x s1) from XX.out.put (trc x s1) rfl)
 have ZV := Lib.hid ((Z1.out.here E1.out).turn ET.out (by omega))
 have AV := Lib.hid ((A1.out.here E1.out).turn ET.out (by omega))
 have BV := Lib.hid ((B1.out.trans (E1.out.mono B1.out.size)).trans (ET.out.below (B := w.heap.size) (fun k hk e => by have := HG.out; omega) (Nat.le_trans B1.out.size E1.out.size)))
 obtain ⟨b0, hb0⟩ : ∃ b0, b0 = V.heap.size := ⟨_, rfl⟩
 have GV := Lib.hid (show b0 = g + 3 from hb0.trans SZ.out)
 rw [← hb0] at T1
 have TV := Lib.hid (T1.out.turn ET.out (fun k hk _ e => by have := GV.out; omega))
 have LV := Lib.hid (show b0 ≤ (W1.setCells g 0 (trc x s1).toList).heap.size from by rw [hb0]; exact Nat.le_trans E1.out.size ET.out.size)
 clear hb0 X1 Z1 A1 B1 H1 SZ T1 E1 XX ET
 generalize W1.setCells g 0 (trc x s1).toList = WV at XV ZV AV BV TV LV ⊢
 have a0c : WV.cell? ⟨g + 1, 0, none⟩ = some (.int .i64 a0) := AV.out.cell 0
 have a1c : WV.cell? ⟨g + 1, 1, none⟩ = some (.int .i64 a1) := AV.out.cell 1
 go_upto_region 6 with (first
   | (go_at_call 88; refine (resok_b a0 a1 true HR.out _).mono ?_; rintro e W2 ⟨rfl, hb2⟩; have XV := Lib.hid (XV.out.here hb2); have ZV := Lib.hid (ZV.out.here hb2); have AV := Lib.hid (AV.out.here hb2); have TV := Lib.hid (TV.out.step hb2); have BV := Lib.hid (stepB BV.out hb2); have LV := Lib.hid (Nat.le_trans LV.out hb2.size); clear hb2))
 generalize W2 = WV at XV ZV AV TV BV LV ⊢
 clear a0c a1c
 have c1 : WV.cell? ⟨g, 1, none⟩ = some (.int .i64 x.st) := XV.out.cell 1
 go_wp2_with (first
   | (refine wpList_load_row rfl 62 (.tmp 4) rfl g rfl 62 (trc x s1) (0, 0) _ XV.out Tryz.underlying62 rfl (tr_info _ _) ?_)
   | (refine wpList_store_mid (op := { dst := none, op := .store 62 (.tmp 8) (.tmp 35), type := 0, pos := _, after := _, guard := none }) (by rfl) 62 (.tmp 8) (.tmp 35) (by rfl) (g + 2) 0 (trc x s1) (by rfl) (by rfl) (ZV.out.there (Nat.le_refl 13)) (tr_info _ _) TV.out.one ?_))
 exact bodyPost_ret (v := .tuple #[.agg (trc x s1), .slice none 0 0, errno 11]) (results_and2 rfl rfl rfl rfl (tr_load (ZV.out.put (trc x s1) rfl))) rfl ⟨s1, _, rfl, (Tm.turn TV.out (Turn.setCells (S := fun k => k = g + 2) (fun _ => rfl) _ _ _ (Turn.refl _ _)) (fun k hk _ e => by have := GV.out; omega)).less (by have := HG.out; have := GV.out; omega), World.ownsRow_nil _ _ _ _, Below.setCells (by have := HG.out; omega) _ _ _ BV.out⟩
set_option maxRecDepth 100000 in
set_option maxHeartbeats 8000000 in
theorem ask_8 {B : Nat} (x : Tr) (s : Sl) (a0 a1 : Int) (sh md : Int) (w : World) (h : Tm w B x s) (hs : Short x) (hd0 : ¬ sh < 1) (hd1 : ¬ 64 < sh) (hr : resB a0 a1 = true) (hd2 : ¬ md < 1) (hd3 : ¬ 4 < md) (h1 : x.st = 1) (ho : x.op = true) :
   Calls Tryz.prog 51 #[.agg (trc x s), .int .i64 sh, .agg #[.int .i64 a0, .int .i64 a1], .int .i64 md] w (Post3 w (x, [], 8)) := by
 have X1 := Lib.hid (((Blk.new w 62 (trc x s)).alloc (.cells #[.int .i64 a0, .int .i64 a1] 39)).alloc (.cells zTr 62))
 have A1 := Lib.hid ((Blk.new_at (w := w.alloc (.cells (trc x s) 62)) (n := w.heap.size + 1) (by simp) 39 #[.int .i64 a0, .int .i64 a1]).alloc (.cells zTr 62))
 have Z1 := Lib.hid (Blk.new_at (w := (w.alloc (.cells (trc x s) 62)).alloc (.cells #[.int .i64 a0, .int .i64 a1] 39)) (n := w.heap.size + 2) (by simp) 62 zTr)
 have B1 := Lib.hid (((Joins.below_alloc1 w (.cells (trc x s) 62)).alloc (by simp <;> omega) (.cells #[.int .i64 a0, .int .i64 a1] 39)).alloc (by simp <;> omega) (.cells zTr 62))
 have SZ := Lib.hid (show (((w.alloc (.cells (trc x s) 62)).alloc (.cells #[.int .i64 a0, .int .i64 a1] 39)).alloc (.cells zTr 62)).heap.size = w.heap.size + 3 from by simp)
 have H1 := Lib.hid (h.step B1.out)
 have HS := Lib.hid hs
 have d0 : decide (sh < 1) = false := by simpa using hd0
 have d1 : decide (64 < sh) = false := by simpa using hd1
 have HR := Lib.hid hr
 have d2 : decide (md < 1) = false := by simpa using hd2
 have d3 : decide (4 < md) = false := by simpa using hd3
 have e1 : (x.st != 1) = false := by simpa using h1
 have HO := Lib.hid ho
 clear hd0 hd1 hr hd2 hd3 h1 ho
 clear h hs
 go_enter Tryz.func51, Tryz.ntmps51
 go_upto_region 1 with fail
 obtain ⟨g, hg⟩ : ∃ g, g = w.heap.size := ⟨_, rfl⟩
 have HG := Lib.hid hg
 rw [← hg] at X1 A1 Z1 SZ ⊢
 clear hg
 generalize ((w.alloc (.cells (trc x s) 62)).alloc (.cells #[.int .i64 a0, .int .i64 a1] 39)).alloc (.cells zTr 62) = V at X1 A1 Z1 B1 H1 SZ ⊢
 go_upto_region 2 with (first
   | (refine wpList_load_row rfl 62 (.tmp 4) rfl g rfl 62 (trc x s) (0, 0) _ X1.out Tryz.underlying62 rfl (tr_info _ _) ?_)
   | (go_at_call 90; refine (own_any x s _ H1.out HS.out).mono ?_; rintro e W1 ⟨s1, rfl, ht, hn, hb⟩; have T1 := Lib.hid ht; have N1 := Lib.hid hn; have E1 := Lib.hid hb; have XX := Lib.hid (X1.out.here hb); clear ht hn hb)
   | (refine wpList_store_mid (by rfl) 62 (.tmp 4) (.tmp 12) (by rfl) g 0 (trc x s1) (by rfl) (by rfl) (XX.out.there (Nat.le_refl 13)) (tr_info _ _) T1.out.one ?_))
 have ET := Lib.hid (show Turn (fun k => k = g) W1 (W1.setCells g 0 (trc x s1).toList) from Turn.setCells (S := fun k => k = g) (fun _ => rfl) _ _ _ (Turn.refl _ _))
 have XV := Lib.hid (show Blk (W1.setCells g 0 (trc x s1).toList) g 62 (trc x s1) from XX.out.put (trc x s1) rfl)
 have ZV := Lib.hid ((Z1.out.here E1.out).turn ET.out (by omega))
 have AV := Lib.hid ((A1.out.here E1.out).turn ET.out (by omega))
 have BV := Lib.hid ((B1.out.trans (E1.out.mono B1.out.size)).trans (ET.out.below (B := w.heap.size) (fun k hk e => by have := HG.out; omega) (Nat.le_trans B1.out.size E1.out.size)))
 obtain ⟨b0, hb0⟩ : ∃ b0, b0 = V.heap.size := ⟨_, rfl⟩
 have GV := Lib.hid (show b0 = g + 3 from hb0.trans SZ.out)
 rw [← hb0] at T1
 have TV := Lib.hid (T1.out.turn ET.out (fun k hk _ e => by have := GV.out; omega))
 have LV := Lib.hid (show b0 ≤ (W1.setCells g 0 (trc x s1).toList).heap.size from by rw [hb0]; exact Nat.le_trans E1.out.size ET.out.size)
 clear hb0 X1 Z1 A1 B1 H1 SZ T1 E1 XX ET
 generalize W1.setCells g 0 (trc x s1).toList = WV at XV ZV AV BV TV LV ⊢
 have a0c : WV.cell? ⟨g + 1, 0, none⟩ = some (.int .i64 a0) := AV.out.cell 0
 have a1c : WV.cell? ⟨g + 1, 1, none⟩ = some (.int .i64 a1) := AV.out.cell 1
 go_upto_region 6 with (first
   | (go_at_call 88; refine (resok_b a0 a1 true HR.out _).mono ?_; rintro e W2 ⟨rfl, hb2⟩; have XV := Lib.hid (XV.out.here hb2); have ZV := Lib.hid (ZV.out.here hb2); have AV := Lib.hid (AV.out.here hb2); have TV := Lib.hid (TV.out.step hb2); have BV := Lib.hid (stepB BV.out hb2); have LV := Lib.hid (Nat.le_trans LV.out hb2.size); clear hb2))
 generalize W2 = WV at XV ZV AV TV BV LV ⊢
 clear a0c a1c
 have c1 : WV.cell? ⟨g, 1, none⟩ = some (.int .i64 x.st) := XV.out.cell 1
 have c4 : WV.cell? ⟨g, 4, none⟩ = some (.bool true) := by rw [← HO.out]; exact XV.out.cell 4
 go_wp2_with (first
   | (refine wpList_load_row rfl 62 (.tmp 4) rfl g rfl 62 (trc x s1) (0, 0) _ XV.out Tryz.underlying62 rfl (tr_info _ _) ?_)
   | (refine wpList_store_mid (op := { dst := none, op := .store 62 (.tmp 8) (.tmp 40), type := 0, pos := _, after := _, guard := none }) (by rfl) 62 (.tmp 8) (.tmp 40) (by rfl) (g + 2) 0 (trc x s1) (by rfl) (by rfl) (ZV.out.there (Nat.le_refl 13)) (tr_info _ _) TV.out.one ?_))
 exact bodyPost_ret (v := .tuple #[.agg (trc x s1), .slice none 0 0, errno 8]) (results_and2 rfl rfl rfl rfl (tr_load (ZV.out.put (trc x s1) rfl))) rfl ⟨s1, _, rfl, (Tm.turn TV.out (Turn.setCells (S := fun k => k = g + 2) (fun _ => rfl) _ _ _ (Turn.refl _ _)) (fun k hk _ e => by have := GV.out; omega)).less (by have := HG.out; have := GV.out; omega), World.ownsRow_nil _ _ _ _, Below.setCells (by have := HG.out; omega) _ _ _ BV.out⟩
set_option maxRecDepth 100000 in
set_option maxHeartbeats 8000000 in
theorem ask_6 {B : Nat} (x : Tr) (s : Sl) (a0 a1 : Int) (sh md : Int) (w : World) (h : Tm w B x s) (hs : Short x) (hd0 : ¬ sh < 1) (hd1 : ¬ 64 < sh) (hr : resB a0 a1 = true) (hd2 : ¬ md < 1) (hd3 : ¬ 4 < md) (h1 : x.st = 1) (ho : x.op = false) (hq : 1048576 ≤ x.sq) :
   Calls Tryz.prog 51 #[.agg (trc x s), .int .i64 sh, .agg #[.int .i64 a0, .int .i64 a1], .int .i64 md] w (Post3 w (x, [], 6)) := by
 have X1 := Lib.hid (((Blk.new w 62 (trc x s)).alloc (.cells #[.int .i64 a0, .int .i64 a1] 39)).alloc (.cells zTr 62))
 have A1 := Lib.hid ((Blk.new_at (w := w.alloc (.cells (trc x s) 62)) (n := w.heap.size + 1) (by simp) 39 #[.int .i64 a0, .int .i64 a1]).alloc (.cells zTr 62))
 have Z1 := Lib.hid (Blk.new_at (w := (w.alloc (.cells (trc x s) 62)).alloc (.cells #[.int .i64 a0, .int .i64 a1] 39)) (n := w.heap.size + 2) (by simp) 62 zTr)
 have B1 := Lib.hid (((Joins.below_alloc1 w (.cells (trc x s) 62)).alloc (by simp <;> omega) (.cells #[.int .i64 a0, .int .i64 a1] 39)).alloc (by simp <;> omega) (.cells zTr 62))
 have SZ := Lib.hid (show (((w.alloc (.cells (trc x s) 62)).alloc (.cells #[.int .i64 a0, .int .i64 a1] 39)).alloc (.cells zTr 62)).heap.size = w.heap.size + 3 from by simp)
 have H1 := Lib.hid (h.step B1.out)
 have HS := Lib.hid hs
 have d0 : decide (sh < 1) = false := by simpa using hd0
 have d1 : decide (64 < sh) = false := by simpa using hd1
 have HR := Lib.hid hr
 have d2 : decide (md < 1) = false := by simpa using hd2
 have d3 : decide (4 < md) = false := by simpa using hd3
 have e1 : (x.st != 1) = false := by simpa using h1
 have HO := Lib.hid ho
 have d4 : decide (1048576 ≤ x.sq) = true := by simpa using hq
 clear hd0 hd1 hr hd2 hd3 h1 ho hq
 clear h hs
 go_enter Tryz.func51, Tryz.ntmps51
 go_upto_region 1 with fail
 obtain ⟨g, hg⟩ : ∃ g, g = w.heap.size := ⟨_, rfl⟩
 have HG := Lib.hid hg
 rw [← hg] at X1 A1 Z1 SZ ⊢
 clear hg
 generalize ((w.alloc (.cells (trc x s) 62)).alloc (.cells #[.int .i64 a0, .int .i64 a1] 39)).alloc (.cells zTr 62) = V at X1 A1 Z1 B1 H1 SZ ⊢
 go_upto_region 2 with (first
   | (refine wpList_load_row rfl 62 (.tmp 4) rfl g rfl 62 (trc x s) (0, 0) _ X1.out Tryz.underlying62 rfl (tr_info _ _) ?_)
   | (go_at_call 90; refine (own_any x s _ H1.out HS.out).mono ?_; rintro e W1 ⟨s1, rfl, ht, hn, hb⟩; have T1 := Lib.hid ht; have N1 := Lib.hid hn; have E1 := Lib.hid hb; have XX := Lib.hid (X1.out.here hb); clear ht hn hb)
   | (refine wpList_store_mid (by rfl) 62 (.tmp 4) (.tmp 12) (by rfl) g 0 (trc x s1) (by rfl) (by rfl) (XX.out.there (Nat.le_refl 13)) (tr_info _ _) T1.out.one ?_))
 have ET := Lib.hid (show Turn (fun k => k = g) W1 (W1.setCells g 0 (trc x s1).toList) from Turn.setCells (S := fun k => k = g) (fun _ => rfl) _ _ _ (Turn.refl _ _))
 have XV := Lib.hid (show Blk (W1.setCells g 0 (trc x s1).toList) g 62 (trc x s1) from XX.out.put (trc x s1) rfl)
 have ZV := Lib.hid ((Z1.out.here E1.out).turn ET.out (by omega))
 have AV := Lib.hid ((A1.out.here E1.out).turn ET.out (by omega))
 have BV := Lib.hid ((B1.out.trans (E1.out.mono B1.out.size)).trans (ET.out.below (B := w.heap.size) (fun k hk e => by have := HG.out; omega) (Nat.le_trans B1.out.size E1.out.size)))
 obtain ⟨b0, hb0⟩ : ∃ b0, b0 = V.heap.size := ⟨_, rfl⟩
 have GV := Lib.hid (show b0 = g + 3 from hb0.trans SZ.out)
 rw [← hb0] at T1
 have TV := Lib.hid (T1.out.turn ET.out (fun k hk _ e => by have := GV.out; omega))
 have LV := Lib.hid (show b0 ≤ (W1.setCells g 0 (trc x s1).toList).heap.size from by rw [hb0]; exact Nat.le_trans E1.out.size ET.out.size)
 clear hb0 X1 Z1 A1 B1 H1 SZ T1 E1 XX ET
 generalize W1.setCells g 0 (trc x s1).toList = WV at XV ZV AV BV TV LV ⊢
 have a0c : WV.cell? ⟨g + 1, 0, none⟩ = some (.int .i64 a0) := AV.out.cell 0
 have a1c : WV.cell? ⟨g + 1, 1, none⟩ = some (.int .i64 a1) := AV.out.cell 1
 go_upto_region 6 with (first
   | (go_at_call 88; refine (resok_b a0 a1 true HR.out _).mono ?_; rintro e W2 ⟨rfl, hb2⟩; have XV := Lib.hid (XV.out.here hb2); have ZV := Lib.hid (ZV.out.here hb2); have AV := Lib.hid (AV.out.here hb2); have TV := Lib.hid (TV.out.step hb2); have BV := Lib.hid (stepB BV.out hb2); have LV := Lib.hid (Nat.le_trans LV.out hb2.size); clear hb2))
 generalize W2 = WV at XV ZV AV TV BV LV ⊢
 clear a0c a1c
 have c1 : WV.cell? ⟨g, 1, none⟩ = some (.int .i64 x.st) := XV.out.cell 1
 have c4 : WV.cell? ⟨g, 4, none⟩ = some (.bool false) := by rw [← HO.out]; exact XV.out.cell 4
 have c3 : WV.cell? ⟨g, 3, none⟩ = some (.int .i64 x.sq) := XV.out.cell 3
 go_wp2_with (first
   | (refine wpList_load_row rfl 62 (.tmp 4) rfl g rfl 62 (trc x s1) (0, 0) _ XV.out Tryz.underlying62 rfl (tr_info _ _) ?_)
   | (refine wpList_store_mid (op := { dst := none, op := .store 62 (.tmp 8) (.tmp 46), type := 0, pos := _, after := _, guard := none }) (by rfl) 62 (.tmp 8) (.tmp 46) (by rfl) (g + 2) 0 (trc x s1) (by rfl) (by rfl) (ZV.out.there (Nat.le_refl 13)) (tr_info _ _) TV.out.one ?_))
 exact bodyPost_ret (v := .tuple #[.agg (trc x s1), .slice none 0 0, errno 6]) (results_and2 rfl rfl rfl rfl (tr_load (ZV.out.put (trc x s1) rfl))) rfl ⟨s1, _, rfl, (Tm.turn TV.out (Turn.setCells (S := fun k => k = g + 2) (fun _ => rfl) _ _ _ (Turn.refl _ _)) (fun k hk _ e => by have := GV.out; omega)).less (by have := HG.out; have := GV.out; omega), World.ownsRow_nil _ _ _ _, Below.setCells (by have := HG.out; omega) _ _ _ BV.out⟩
set_option maxRecDepth 100000 in
set_option maxHeartbeats 8000000 in
theorem ask_0 {B : Nat} (x : Tr) (s : Sl) (a0 a1 : Int) (sh md : Int) (w : World) (h : Tm w B x s) (hs : Short x) (hd0 : ¬ sh < 1) (hd1 : ¬ 64 < sh) (hr : resB a0 a1 = true) (hd2 : ¬ md < 1) (hd3 : ¬ 4 < md) (h1 : x.st = 1) (ho : x.op = false) (hq : ¬ 1048576 ≤ x.sq) (hq0 : 0 ≤ x.sq) (ht : Shs x.tch) :
   Calls Tryz.prog 51 #[.agg (trc x s), .int .i64 sh, .agg #[.int .i64 a0, .int .i64 a1], .int .i64 md] w (Post3 w (askX x sh a0 a1 md, [lockL (askX x sh a0 a1 md) sh], 0)) := by
 have X1 := Lib.hid (((Blk.new w 62 (trc x s)).alloc (.cells #[.int .i64 a0, .int .i64 a1] 39)).alloc (.cells zTr 62))
 have A1 := Lib.hid ((Blk.new_at (w := w.alloc (.cells (trc x s) 62)) (n := w.heap.size + 1) (by simp) 39 #[.int .i64 a0, .int .i64 a1]).alloc (.cells zTr 62))
 have Z1 := Lib.hid (Blk.new_at (w := (w.alloc (.cells (trc x s) 62)).alloc (.cells #[.int .i64 a0, .int .i64 a1] 39)) (n := w.heap.size + 2) (by simp) 62 zTr)
 have B1 := Lib.hid (((Joins.below_alloc1 w (.cells (trc x s) 62)).alloc (by simp <;> omega) (.cells #[.int .i64 a0, .int .i64 a1] 39)).alloc (by simp <;> omega) (.cells zTr 62))
 have SZ := Lib.hid (show (((w.alloc (.cells (trc x s) 62)).alloc (.cells #[.int .i64 a0, .int .i64 a1] 39)).alloc (.cells zTr 62)).heap.size = w.heap.size + 3 from by simp)
 have H1 := Lib.hid (h.step B1.out)
 have HS := Lib.hid hs
 have d0 : decide (sh < 1) = false := by simpa using hd0
 have d1 : decide (64 < sh) = false := by simpa using hd1
 have HR := Lib.hid hr
 have d2 : decide (md < 1) = false := by simpa using hd2
 have d3 : decide (4 < md) = false := by simpa using hd3
 have e1 : (x.st != 1) = false := by simpa using h1
 have HO := Lib.hid ho
 have HT := Lib.hid ht
 have d4 : decide (1048576 ≤ x.sq) = false := by simpa using hq
 have hwr : IntKind.i64.wrap (x.sq + 1) = x.sq + 1 := IntWalk.i64_in _ (by omega)
 clear hd0 hd1 hr hd2 hd3 h1 ho hq hq0 ht
 clear h hs
 go_enter Tryz.func51, Tryz.ntmps51
 go_upto_region 1 with fail
 obtain ⟨g, hg⟩ : ∃ g, g = w.heap.size := ⟨_, rfl⟩
 have HG := Lib.hid hg
 rw [← hg] at X1 A1 Z1 SZ ⊢
 clear hg
 generalize ((w.alloc (.cells (trc x s) 62)).alloc (.cells #[.int .i64 a0, .int .i64 a1] 39)).alloc (.cells zTr 62) = V at X1 A1 Z1 B1 H1 SZ ⊢
 go_upto_region 2 with (first
   | (refine wpList_load_row rfl 62 (.tmp 4) rfl g rfl 62 (trc x s) (0, 0) _ X1.out Tryz.underlying62 rfl (tr_info _ _) ?_)
   | (go_at_call 90; refine (own_any x s _ H1.out HS.out).mono ?_; rintro e W1 ⟨s1, rfl, ht, hn, hb⟩; have T1 := Lib.hid ht; have N1 := Lib.hid hn; have E1 := Lib.hid hb; have XX := Lib.hid (X1.out.here hb); clear ht hn hb)
   | (refine wpList_store_mid (by rfl) 62 (.tmp 4) (.tmp 12) (by rfl) g 0 (trc x s1) (by rfl) (by rfl) (XX.out.there (Nat.le_refl 13)) (tr_info _ _) T1.out.one ?_))
 have ET := Lib.hid (show Turn (fun k => k = g) W1 (W1.setCells g 0 (trc x s1).toList) from Turn.setCells (S := fun k => k = g) (fun _ => rfl) _ _ _ (Turn.refl _ _))
 have XV := Lib.hid (show Blk (W1.setCells g 0 (trc x s1).toList) g 62 (trc x s1) from XX.out.put (trc x s1) rfl)
 have ZV := Lib.hid ((Z1.out.here E1.out).turn ET.out (by omega))
 have AV := Lib.hid ((A1.out.here E1.out).turn ET.out (by omega))
 have BV := Lib.hid ((B1.out.trans (E1.out.mono B1.out.size)).trans (ET.out.below (B := w.heap.size) (fun k hk e => by have := HG.out; omega) (Nat.le_trans B1.out.size E1.out.size)))
 obtain ⟨b0, hb0⟩ : ∃ b0, b0 = V.heap.size := ⟨_, rfl⟩
 have GV := Lib.hid (show b0 = g + 3 from hb0.trans SZ.out)
 rw [← hb0] at T1
 have TV := Lib.hid (T1.out.turn ET.out (fun k hk _ e => by have := GV.out; omega))
 have LV := Lib.hid (show b0 ≤ (W1.setCells g 0 (trc x s1).toList).heap.size from by rw [hb0]; exact Nat.le_trans E1.out.size ET.out.size)
 clear hb0 X1 Z1 A1 B1 H1 SZ T1 E1 XX ET
 generalize W1.setCells g 0 (trc x s1).toList = WV at XV ZV AV BV TV LV ⊢
 have a0c : WV.cell? ⟨g + 1, 0, none⟩ = some (.int .i64 a0) := AV.out.cell 0
 have a1c : WV.cell? ⟨g + 1, 1, none⟩ = some (.int .i64 a1) := AV.out.cell 1
 go_upto_region 6 with (first
   | (go_at_call 88; refine (resok_b a0 a1 true HR.out _).mono ?_; rintro e W2 ⟨rfl, hb2⟩; have XV := Lib.hid (XV.out.here hb2); have ZV := Lib.hid (ZV.out.here hb2); have AV := Lib.hid (AV.out.here hb2); have TV := Lib.hid (TV.out.step hb2); have BV := Lib.hid (stepB BV.out hb2); have LV := Lib.hid (Nat.le_trans LV.out hb2.size); clear hb2))
 generalize W2 = WV at XV ZV AV TV BV LV ⊢
 clear a0c a1c
 have f3 := XV.out.frozen 3
 have c1 : WV.cell? ⟨g, 1, none⟩ = some (.int .i64 x.st) := XV.out.cell 1
 have c4 : WV.cell? ⟨g, 4, none⟩ = some (.bool false) := by rw [← HO.out]; exact XV.out.cell 4
 have c3 : WV.cell? ⟨g, 3, none⟩ = some (.int .i64 x.sq) := XV.out.cell 3
 have hzv := ZV.out.lt
 have hav := AV.out.lt
 have XW := Lib.hid (show Blk (WV.setCell ⟨g, 3, none⟩ (.int .i64 (x.sq + 1))) g 62 (trc { x with sq := x.sq + 1 } s1) from XV.out.set_ 3 _)
 have ZW := Lib.hid (ZV.out.far (p := ⟨g, 3, none⟩) (by simp only; omega) (.int .i64 (x.sq + 1)))
 have AW := Lib.hid (AV.out.far (p := ⟨g, 3, none⟩) (by simp only; omega) (.int .i64 (x.sq + 1)))
 have EW := Lib.hid (show Turn (fun k => k = g) WV (WV.setCell ⟨g, 3, none⟩ (.int .i64 (x.sq + 1))) from (Turn.refl (fun k => k = g) WV).setCell (p := ⟨g, 3, none⟩) (fun _ => rfl) _)
 go_upto_region 13 with fail
 clear f3 c1 c4 c3
 generalize WV.setCell ⟨g, 3, none⟩ (.int .i64 (x.sq + 1)) = WW at XW ZW AW EW ⊢
 have q0 : WW.cell? ⟨g + 1, 0, none⟩ = some (.int .i64 a0) := AW.out.cell 0
 have q1 : WW.cell? ⟨g + 1, 1, none⟩ = some (.int .i64 a1) := AW.out.cell 1
 have hgl := XW.out.lt
 have hal := AW.out.lt
 refine wp_region_held_drew (S := fun w' => w'.cell? ⟨g + 1, 0, none⟩ = some (.int .i64 a0) ∧ w'.cell? ⟨g + 1, 1, none⟩ = some (.int .i64 a1) ∧ Blk w' (g + 1) 39 #[.int .i64 a0, .int .i64 a1]) (by kernel_rfl) ⟨AW.out.drew.cell 0, AW.out.drew.cell 1, AW.out.drew⟩ (fun hHeld => ?_)
 have ED := Lib.hid (show Turn (fun k => k = g) WV WW.drew from EW.out.trans (Turn.of_below (Below.refl _ _).drew) (fun _ _ e => e))
 have XD := Lib.hid XW.out.drew
 have ZD := Lib.hid ZW.out.drew
 clear q0 q1
 have TV := TV
 generalize WW.drew = W1 at ED XD ZD hHeld ⊢
 clear XW ZW AW EW hgl hal
 have hgl := XD.out.lt
 have HS1 := Lib.hid (show ∀ W, Turn (fun k => k = g) W1 W → (W.cell? ⟨g + 1, 0, none⟩ = some (.int .i64 a0) ∧ W.cell? ⟨g + 1, 1, none⟩ = some (.int .i64 a1) ∧ Blk W (g + 1) 39 #[.int .i64 a0, .int .i64 a1]) from fun W hW =>
   have h := hHeld.2.2.turn hW (by omega); ⟨h.cell 0, h.cell 1, h⟩)
 have c4 : W1.cell? ⟨g, 4, none⟩ = some (.bool x.op) := XD.out.cell 4
 have c5 : W1.cell? ⟨g, 5, none⟩ = some (.int .i64 x.sh) := XD.out.cell 5
 have c6 : W1.cell? ⟨g, 6, none⟩ = some (.int .i64 x.a0) := XD.out.cell 6
 have c7 : W1.cell? ⟨g, 7, none⟩ = some (.int .i64 x.a1) := XD.out.cell 7
 have c8 : W1.cell? ⟨g, 8, none⟩ = some (.int .i64 x.md) := XD.out.cell 8
 have f4 := XD.out.frozen 4
 have f5 := XD.out.frozen 5
 have f6 := XD.out.frozen 6
 have f7 := XD.out.frozen 7
 have f8 := XD.out.frozen 8
 have K4 := Lib.hid ((Turn.refl (fun k => k = g) W1).setCell (p := ⟨g, 4, none⟩) (fun _ => rfl) (.bool true))
 have K5 := Lib.hid (K4.out.setCell (p := ⟨g, 5, none⟩) (fun _ => rfl) (.int .i64 sh))
 have K6 := Lib.hid ((K5.out.setCell (p := ⟨g, 6, none⟩) (fun _ => rfl) (.int .i64 a0)).setCell (p := ⟨g, 7, none⟩) (fun _ => rfl) (.int .i64 a1))
 have K8 := Lib.hid (K6.out.setCell (p := ⟨g, 8, none⟩) (fun _ => rfl) (.int .i64 md))
 refine wpAnyH_take (i := 0) (v := ?_) rfl (by kernel_rfl) (by kernel_rfl) (by kernel_rfl) (fun _ _ _ h => h) (Or.inl ⟨by rfl, ?_⟩) (by assumption) ?_
 rotate_left
 · (intro w0 hSw; (try dsimp only at hSw); go_simp; try with_reducible rfl)
 try simp only [List.getElem_toArray, List.getElem_cons_succ, List.getElem_cons_zero, Act.put, List.setIfInBounds_toArray, List.set_cons_zero, List.set_cons_succ]
 refine wpAnyH_take (i := 1) (v := ?_) rfl (by kernel_rfl) (by kernel_rfl) (by kernel_rfl) (fun _ _ _ h => h) (Or.inl ⟨by rfl, ?_⟩) (by assumption) ?_
 rotate_left
 · (intro w0 hSw; (try dsimp only at hSw); go_simp; try with_reducible rfl)
 try simp only [List.getElem_toArray, List.getElem_cons_succ, List.getElem_cons_zero, Act.put, List.setIfInBounds_toArray, List.set_cons_zero, List.set_cons_succ]
 refine wpAnyH_take (i := 2) (v := ?_) rfl (by kernel_rfl) (by kernel_rfl) (by kernel_rfl) (fun _ _ _ h => h) (Or.inl ⟨by rfl, ?_⟩) (by assumption) ?_
 rotate_left
 · (intro w0 hSw; (try dsimp only at hSw); go_simp; try with_reducible rfl)
 try simp only [List.getElem_toArray, List.getElem_cons_succ, List.getElem_cons_zero, Act.put, List.setIfInBounds_toArray, List.set_cons_zero, List.set_cons_succ]
 refine wpAnyH_take (i := 3) (v := ?_) rfl (by kernel_rfl) (by kernel_rfl) (by kernel_rfl) (fun _ _ _ h => h) (Or.inl ⟨by rfl, ?_⟩) (by assumption) ?_
 rotate_left
 · (intro w0 hSw; (try dsimp only at hSw); go_simp; try with_reducible rfl)
 try simp only [List.getElem_toArray, List.getElem_cons_succ, List.getElem_cons_zero, Act.put, List.setIfInBounds_toArray, List.set_cons_zero, List.set_cons_succ]
 refine wpAnyH_ready (rs := [4]) (by kernel_rfl) (by simp) ?_
 refine AllReadyH.cons rfl (fun K hK => ?_) AllReadyH.nil
 go_simp
 refine hK.out _ _ (HS1.out _ K4.out) (fun hHeld => ?_)
 clear hK K
 refine wpAnyH_take (i := 5) (v := ?_) rfl (by kernel_rfl) (by kernel_rfl) (by kernel_rfl) (fun _ _ _ h => h) (Or.inl ⟨by rfl, ?_⟩) (by assumption) ?_
 rotate_left
 · (intro w0 hSw; (try dsimp only at hSw); go_simp; try with_reducible rfl)
 try simp only [List.getElem_toArray, List.getElem_cons_succ, List.getElem_cons_zero, Act.put, List.setIfInBounds_toArray, List.set_cons_zero, List.set_cons_succ]
 refine wpAnyH_ready (rs := [6]) (by kernel_rfl) (by simp) ?_
 refine AllReadyH.cons rfl (fun K hK => ?_) AllReadyH.nil
 go_simp
 refine hK.out _ _ (HS1.out _ K5.out) (fun hHeld => ?_)
 clear hK K
 refine wpAnyH_take (i := 7) (v := ?_) rfl (by kernel_rfl) (by kernel_rfl) (by kernel_rfl) (fun _ _ _ h => h) (Or.inl ⟨by rfl, ?_⟩) (by assumption) ?_
 rotate_left
 · (intro w0 hSw; (try dsimp only at hSw); go_simp; try with_reducible rfl)
 try simp only [List.getElem_toArray, List.getElem_cons_succ, List.getElem_cons_zero, Act.put, List.setIfInBounds_toArray, List.set_cons_zero, List.set_cons_succ]
 refine wpAnyH_ready (rs := [8]) (by kernel_rfl) (by simp) ?_
 refine AllReadyH.cons rfl (fun K hK => ?_) AllReadyH.nil
 go_simp
 refine hK.out _ _ (HS1.out _ K6.out) (fun hHeld => ?_)
 clear hK K
 refine wpAnyH_take (i := 9) (v := ?_) rfl (by kernel_rfl) (by kernel_rfl) (by kernel_rfl) (fun _ _ _ h => h) (Or.inl ⟨by rfl, ?_⟩) (by assumption) ?_
 rotate_left
 · (intro w0 hSw; (try dsimp only at hSw); go_simp; try with_reducible rfl)
 try simp only [List.getElem_toArray, List.getElem_cons_succ, List.getElem_cons_zero, Act.put, List.setIfInBounds_toArray, List.set_cons_zero, List.set_cons_succ]
 refine wpAnyH_ready (rs := [10]) (by kernel_rfl) (by simp) ?_
 refine AllReadyH.cons rfl (fun K hK => ?_) AllReadyH.nil
 go_simp
 refine hK.out _ _ (HS1.out _ K8.out) (fun hHeld => ?_)
 clear hK K
 refine wpAnyH_done (by kernel_rfl) ?_ _
 have XY := Lib.hid (show Blk (((((W1.setCell ⟨g, 4, none⟩ (.bool true)).setCell ⟨g, 5, none⟩ (.int .i64 sh)).setCell ⟨g, 6, none⟩ (.int .i64 a0)).setCell ⟨g, 7, none⟩ (.int .i64 a1)).setCell ⟨g, 8, none⟩ (.int .i64 md)) g 62 (trc { x with sq := x.sq + 1, op := true, sh := sh, a0 := a0, a1 := a1, md := md } s1) from
   ((((XD.out.set_ 4 _).set_ 5 _).set_ 6 _).set_ 7 _).set_ 8 _)
 have EY := Lib.hid (ED.out.trans K8.out (fun _ _ e => e))
 have hzl := ZD.out.lt
 have ZY := Lib.hid (ZD.out.turn K8.out (by omega))
 clear c4 c5 c6 c7 c8 f4 f5 f6 f7 f8 K4 K5 K6 K8 XD ZD ED HS1 hHeld
 generalize ((((W1.setCell ⟨g, 4, none⟩ (.bool true)).setCell ⟨g, 5, none⟩ (.int .i64 sh)).setCell ⟨g, 6, none⟩ (.int .i64 a0)).setCell ⟨g, 7, none⟩ (.int .i64 a1)).setCell ⟨g, 8, none⟩ (.int .i64 md) = W2 at XY EY ZY ⊢
 have TY := Lib.hid (TV.out.turn EY.out (fun k hk _ e => by have := GV.out; omega))
 have BY := Lib.hid (BV.out.trans (EY.out.below (B := w.heap.size) (fun k hk e => by have := HG.out; omega) BV.out.size))
 have LY := Lib.hid (Nat.le_trans LV.out EY.out.size)
 clear hgl hzl TV BV LV
 have c9 : W2.cell? ⟨g, 9, none⟩ = some s1.t := XY.out.cell 9
 go_upto_region 15 with (go_at_call 91; refine (with_any sh _ TY.out.t HT.out.ris LY.out (by have := HT.out.len; omega)).mono ?_; rintro e W3 ⟨v', rfl, hv, ht, hq⟩; obtain ⟨A', c', rfl⟩ := own_len hv; have V3 := Lib.hid hv; have T3 := Lib.hid ht; have k9 : W3.cell? ⟨g, 9, none⟩ = some s1.t := (XY.out.turn ht (fun e => by have := own_ge TY.out.t e; have := GV.out; omega)).cell 9; have k9f := (XY.out.turn ht (fun e => by have := own_ge TY.out.t e; have := GV.out; omega)).frozen 9; clear hv ht hq c9)
 have XZ := Lib.hid (show Blk (W3.setCell ⟨g, 9, none⟩ (.slice A' (ins sh x.tch).length c')) g 62 (trc (askX x sh a0 a1 md) ⟨.slice A' (ins sh x.tch).length c', s1.v, s1.k, s1.g⟩) from (XY.out.turn T3.out (fun e => by have := own_ge TY.out.t e; have := GV.out; omega)).set_ 9 _)
 have EZ := Lib.hid (show Turn (fun k => k = g) W3 (W3.setCell ⟨g, 9, none⟩ (.slice A' (ins sh x.tch).length c')) from (Turn.refl (fun k => k = g) W3).setCell (p := ⟨g, 9, none⟩) (fun _ => rfl) _)
 have KZ := Lib.hid (show Tm (W3.setCell ⟨g, 9, none⟩ (.slice A' (ins sh x.tch).length c')) b0 (askX x sh a0 a1 md) ⟨.slice A' (ins sh x.tch).length c', s1.v, s1.k, s1.g⟩ from
   have h := (TY.out.putT N1.out V3.out T3.out).turn EZ.out (fun k hk _ e => by have := GV.out; omega); ⟨h.t, h.v, h.k, h.g⟩)
 have hzl2 := ZY.out.lt
 have ZZ := Lib.hid ((ZY.out.turn T3.out (fun e => by have := own_ge TY.out.t e; have := GV.out; omega)).turn EZ.out (by omega))
 have BZ := Lib.hid ((BY.out.trans (T3.out.below (B := w.heap.size) (fun k hk e => by have := own_ge TY.out.t e; have := GV.out; have := HG.out; omega) BY.out.size)).trans (EZ.out.below (B := w.heap.size) (fun k hk e => by have := HG.out; omega) (Nat.le_trans BY.out.size T3.out.size)))
 have LZ := Lib.hid (Nat.le_trans (Nat.le_trans LY.out T3.out.size) EZ.out.size)
 clear k9 k9f XY EY ZY TY BY LY T3 V3 EZ hzl2
 generalize W3.setCell ⟨g, 9, none⟩ (.slice A' (ins sh x.tch).length c') = WY at XZ KZ ZZ BZ LZ ⊢
 obtain ⟨r, hr⟩ : ∃ r : Sl, r = ⟨.slice A' (ins sh x.tch).length c', s1.v, s1.k, s1.g⟩ := ⟨_, rfl⟩
 rw [← hr] at XZ KZ
 clear hr N1
 obtain ⟨y, hy⟩ : ∃ y, askX x sh a0 a1 md = y := ⟨_, rfl⟩
 rw [hy] at XZ KZ
 have HY := Lib.hid hy
 clear hy
 obtain ⟨q, hq⟩ : ∃ q, lockL y 0 = q := ⟨_, rfl⟩
 have HQ := Lib.hid hq
 have LQ := Lib.hid (show q.length = 28 from by rw [← hq]; rfl)
 clear hq
 have OZ := Lib.hid KZ.out.one
 refine wp_region_held_drew (S := fun w' => Blk w' g 62 (trc y r)) (by kernel_rfl) XZ.out.drew (fun hHeld => ?_)
 have BD := Lib.hid (show Below WY.heap.size WY WY.drew from (Below.refl _ _).drew)
 generalize WY.drew = W1 at BD hHeld ⊢
 refine wpAnyH_take (i := 0) (v := .agg (trc y r)) rfl (by kernel_rfl) (by kernel_rfl) (by kernel_rfl) (fun _ _ _ h => h) (Or.inl ⟨by rfl, fun w0 hSw => exec_load (x := .tmp 4) rfl rfl (tr_load hSw)⟩) (by assumption) ?_
 try simp only [List.getElem_toArray, List.getElem_cons_succ, List.getElem_cons_zero, Act.put, List.setIfInBounds_toArray, List.set_cons_zero, List.set_cons_succ]
 refine wpAnyH_take (i := 1) (v := .agg (trc y r)) rfl (by kernel_rfl) (by kernel_rfl) (by kernel_rfl) (fun _ _ _ h => h) (Or.inl ⟨by rfl, fun w0 hSw => exec_load (x := .tmp 4) rfl rfl (tr_load hSw)⟩) (by assumption) ?_
 try simp only [List.getElem_toArray, List.getElem_cons_succ, List.getElem_cons_zero, Act.put, List.setIfInBounds_toArray, List.set_cons_zero, List.set_cons_succ]
 refine wpAnyH_take (i := 3) (v := ?_) rfl (by kernel_rfl) (by kernel_rfl) (by kernel_rfl) (fun _ _ _ h => h) (Or.inl ⟨by rfl, ?_⟩) (by assumption) ?_
 rotate_left
 · (intro w0 hSw; (try dsimp only at hSw); go_simp; try with_reducible rfl)
 try simp only [List.getElem_toArray, List.getElem_cons_succ, List.getElem_cons_zero, Act.put, List.setIfInBounds_toArray, List.set_cons_zero, List.set_cons_succ]
 refine wpAnyH_ready (rs := [2, 4]) (by kernel_rfl) (by simp) ?_
 refine AllReadyH.cons rfl (fun K hK => ?_) (AllReadyH.cons rfl (fun K hK => ?_) AllReadyH.nil)
 · go_simp
   refine (request_q y r q HQ.out _).mono ?_
   rintro e W2 ⟨rfl, hb⟩
   try go_simp
   have B2 := Lib.hid (BD.out.trans (hb.mono BD.out.size))
   clear hb
   refine hK.out _ _ (XZ.out.here B2.out) (fun hHeld => ?_)
   clear hK K
   refine wpAnyH_ready (rs := [4]) (by kernel_rfl) (by simp) ?_
   refine AllReadyH.cons rfl (fun K hK => ?_) AllReadyH.nil
   go_simp
   have O3 := Lib.hid (own_ints W2 3 [sh] (B := WY.heap.size) (n := 1) B2.out.size rfl (by simp))
   have B3 := Lib.hid (B2.out.alloc B2.out.size (.cells (i64s [sh]).toArray 3))
   refine hK.out _ _ (XZ.out.here B3.out) (fun hHeld => ?_)
   clear hK K
   generalize W2.heap.size = rb at O3 ⊢
   simp only [i64s, List.map_cons, List.map_nil] at O3 B3
   generalize W2.alloc (.cells #[.int .i64 sh] 3) = W3 at O3 B3 hHeld ⊢
   refine wpAnyH_ready (rs := [5]) (by kernel_rfl) (by simp) ?_
   refine AllReadyH.cons rfl (fun K hK => ?_) AllReadyH.nil
   go_simp
   refine (send_any q [sh] LQ.out _ O3.out (by simp)).mono ?_
   rintro e W4 ⟨u, rfl, hu, hb⟩
   try go_simp
   have U4 := Lib.hid hu
   have B4 := Lib.hid (B3.out.trans (hb.mono B3.out.size))
   have S3 := Lib.hid B3.out.size
   clear hu hb
   refine hK.out _ _ (XZ.out.here B4.out) (fun hHeld => ?_)
   clear hK K
   have Z4 := Lib.hid (ZZ.out.here B4.out)
   have hzl := ZZ.out.lt
   refine wpAnyH_ready (rs := [6]) (by kernel_rfl) (by simp) ?_
   refine AllReadyH.cons rfl (fun K hK => ?_) AllReadyH.nil
   refine step_store_mid (by rfl) 62 (.tmp 8) (.tmp 64) rfl (g + 2) 0 (trc y r) rfl rfl (Z4.out.there (Nat.le_refl 13)) (tr_info _ _) OZ.out ?_
   have X5 := Lib.hid (show Blk (W4.setCells (g + 2) 0 (trc y r).toList) g 62 (trc y r) from (XZ.out.here B4.out).farCells (by omega) _ _ _)
   refine hK.out _ _ X5.out (fun hHeld => ?_)
   clear hK K
   refine wpAnyH_take (i := 7) (v := ?_) rfl (by kernel_rfl) (by kernel_rfl) (by kernel_rfl) (fun _ _ _ h => h) (Or.inl ⟨by rfl, ?_⟩) (by assumption) ?_
   rotate_left
   · (intro w0 hSw; (try dsimp only at hSw); go_simp; try with_reducible rfl)
   try simp only [List.getElem_toArray, List.getElem_cons_succ, List.getElem_cons_zero, Act.put, List.setIfInBounds_toArray, List.set_cons_zero, List.set_cons_succ]
   refine wpAnyH_take (i := 8) (v := ?_) rfl (by kernel_rfl) (by kernel_rfl) (by kernel_rfl) (fun _ _ _ h => h) (Or.inl ⟨by rfl, ?_⟩) (by assumption) ?_
   rotate_left
   · (intro w0 hSw; (try dsimp only at hSw); go_simp; try with_reducible rfl)
   try simp only [List.getElem_toArray, List.getElem_cons_succ, List.getElem_cons_zero, Act.put, List.setIfInBounds_toArray, List.set_cons_zero, List.set_cons_succ]
   refine wpAnyH_done (by kernel_rfl) ?_ _
   have E5 := Lib.hid (show Turn (fun k => k = g + 2) W4 (W4.setCells (g + 2) 0 (trc y r).toList) from Turn.setCells (S := fun k => k = g + 2) (fun _ => rfl) _ _ _ (Turn.refl _ _))
   have U5 := Lib.hid (own_off U4.out E5.out (fun k hk _ e => by have := S3.out; omega))
   have Z5 := Lib.hid (Z4.out.put (trc y r) rfl)
   have F5 := Lib.hid ((BZ.out.trans (B4.out.mono BZ.out.size)).trans (E5.out.below (B := w.heap.size) (fun k hk e => by have := HG.out; omega) (Nat.le_trans BZ.out.size B4.out.size)))
   have K5 := Lib.hid ((KZ.out.step B4.out).turn E5.out (fun k hk _ e => by have := GV.out; omega))
   clear hHeld
   go_wp2_with fail
   exact bodyPost_ret (v := .tuple #[.agg (trc y r), u, .nilIface]) (results_and2 rfl rfl rfl rfl (tr_load Z5.out)) rfl ⟨r, u, by rw [HY.out]; rfl, by rw [HY.out]; exact K5.out.less (by have := HG.out; have := GV.out; omega), own_less (by rw [HY.out, show [lockL y sh] = sendL (lockL y 0) [sh] from rfl, HQ.out]; exact U5.out) (by have := S3.out; have := BZ.out.size; have := B4.out.size; omega), F5.out⟩
 · go_simp
   have O2 := Lib.hid (own_ints W1 3 [sh] (B := WY.heap.size) (n := 1) BD.out.size rfl (by simp))
   have B2 := Lib.hid (BD.out.alloc BD.out.size (.cells (i64s [sh]).toArray 3))
   refine hK.out _ _ (XZ.out.here B2.out) (fun hHeld => ?_)
   clear hK K
   generalize W1.heap.size = rb at O2 ⊢
   simp only [i64s, List.map_cons, List.map_nil] at O2 B2
   generalize W1.alloc (.cells #[.int .i64 sh] 3) = W2 at O2 B2 hHeld ⊢
   refine wpAnyH_ready (rs := [2]) (by kernel_rfl) (by simp) ?_
   refine AllReadyH.cons rfl (fun K hK => ?_) AllReadyH.nil
   go_simp
   refine (request_q y r q HQ.out _).mono ?_
   rintro e W3 ⟨rfl, hb⟩
   try go_simp
   have B3 := Lib.hid (B2.out.trans (hb.mono B2.out.size))
   have O3 := Lib.hid (own_step O2.out hb)
   clear hb
   refine hK.out _ _ (XZ.out.here B3.out) (fun hHeld => ?_)
   clear hK K
   refine wpAnyH_ready (rs := [5]) (by kernel_rfl) (by simp) ?_
   refine AllReadyH.cons rfl (fun K hK => ?_) AllReadyH.nil
   go_simp
   refine (send_any q [sh] LQ.out _ O3.out (by simp)).mono ?_
   rintro e W4 ⟨u, rfl, hu, hb⟩
   try go_simp
   have U4 := Lib.hid hu
   have B4 := Lib.hid (B3.out.trans (hb.mono B3.out.size))
   have S3 := Lib.hid B3.out.size
   clear hu hb
   refine hK.out _ _ (XZ.out.here B4.out) (fun hHeld => ?_)
   clear hK K
   have Z4 := Lib.hid (ZZ.out.here B4.out)
   have hzl := ZZ.out.lt
   refine wpAnyH_ready (rs := [6]) (by kernel_rfl) (by simp) ?_
   refine AllReadyH.cons rfl (fun K hK => ?_) AllReadyH.nil
   refine step_store_mid (by rfl) 62 (.tmp 8) (.tmp 64) rfl (g + 2) 0 (trc y r) rfl rfl (Z4.out.there (Nat.le_refl 13)) (tr_info _ _) OZ.out ?_
   have X5 := Lib.hid (show Blk (W4.setCells (g + 2) 0 (trc y r).toList) g 62 (trc y r) from (XZ.out.here B4.out).farCells (by omega) _ _ _)
   refine hK.out _ _ X5.out (fun hHeld => ?_)
   clear hK K
   refine wpAnyH_take (i := 7) (v := ?_) rfl (by kernel_rfl) (by kernel_rfl) (by kernel_rfl) (fun _ _ _ h => h) (Or.inl ⟨by rfl, ?_⟩) (by assumption) ?_
   rotate_left
   · (intro w0 hSw; (try dsimp only at hSw); go_simp; try with_reducible rfl)
   try simp only [List.getElem_toArray, List.getElem_cons_succ, List.getElem_cons_zero, Act.put, List.setIfInBounds_toArray, List.set_cons_zero, List.set_cons_succ]
   refine wpAnyH_take (i := 8) (v := ?_) rfl (by kernel_rfl) (by kernel_rfl) (by kernel_rfl) (fun _ _ _ h => h) (Or.inl ⟨by rfl, ?_⟩) (by assumption) ?_
   rotate_left
   · (intro w0 hSw; (try dsimp only at hSw); go_simp; try with_reducible rfl)
   try simp only [List.getElem_toArray, List.getElem_cons_succ, List.getElem_cons_zero, Act.put, List.setIfInBounds_toArray, List.set_cons_zero, List.set_cons_succ]
   refine wpAnyH_done (by kernel_rfl) ?_ _
   have E5 := Lib.hid (show Turn (fun k => k = g + 2) W4 (W4.setCells (g + 2) 0 (trc y r).toList) from Turn.setCells (S := fun k => k = g + 2) (fun _ => rfl) _ _ _ (Turn.refl _ _))
   have U5 := Lib.hid (own_off U4.out E5.out (fun k hk _ e => by have := S3.out; omega))
   have Z5 := Lib.hid (Z4.out.put (trc y r) rfl)
   have F5 := Lib.hid ((BZ.out.trans (B4.out.mono BZ.out.size)).trans (E5.out.below (B := w.heap.size) (fun k hk e => by have := HG.out; omega) (Nat.le_trans BZ.out.size B4.out.size)))
   have K5 := Lib.hid ((KZ.out.step B4.out).turn E5.out (fun k hk _ e => by have := GV.out; omega))
   clear hHeld
   go_wp2_with fail
   exact bodyPost_ret (v := .tuple #[.agg (trc y r), u, .nilIface]) (results_and2 rfl rfl rfl rfl (tr_load Z5.out)) rfl ⟨r, u, by rw [HY.out]; rfl, by rw [HY.out]; exact K5.out.less (by have := HG.out; have := GV.out; omega), own_less (by rw [HY.out, show [lockL y sh] = sendL (lockL y 0) [sh] from rfl, HQ.out]; exact U5.out) (by have := S3.out; have := BZ.out.size; have := B4.out.size; omega), F5.out⟩
theorem ask_any {B : Nat} (x : Tr) (s : Sl) (a0 a1 : Int) (sh md : Int) (w : World) (h : Tm w B x s) (hs : Short x) (ht : Shs x.tch) (hq0 : 0 ≤ x.sq) :
   Calls Tryz.prog 51 #[.agg (trc x s), .int .i64 sh, .agg #[.int .i64 a0, .int .i64 a1], .int .i64 md] w (Post3 w (askL x sh a0 a1 md)) := by
 unfold askL
 by_cases h1 : sh < 1
 · rw [if_pos (.inl h1)]; exact ask_1a x s a0 a1 sh md w h hs h1
 by_cases h2 : 64 < sh
 · rw [if_pos (.inr (.inl h2))]; exact ask_1b x s a0 a1 sh md w h hs h1 h2
 cases hr : resB a0 a1 with
 | false => rw [if_pos (.inr (.inr (.inl hr)))]; exact ask_1c x s a0 a1 sh md w h hs h1 h2 hr
 | true =>
   by_cases h3 : md < 1
   · rw [if_pos (.inr (.inr (.inr (.inl h3))))]; exact ask_1d x s a0 a1 sh md w h hs h1 h2 hr h3
   by_cases h4 : 4 < md
   · rw [if_pos (.inr (.inr (.inr (.inr h4))))]; exact ask_1e x s a0 a1 sh md w h hs h1 h2 hr h3 h4
   rw [if_neg (show ¬ badAsk sh a0 a1 md from by unfold badAsk; rw [hr]; simp; omega)]
   by_cases h5 : x.st = 1
   · rw [if_neg (fun e => e h5)]
     by_cases h6 : x.op = true
     · rw [if_pos h6]; exact ask_8 x s a0 a1 sh md w h hs h1 h2 hr h3 h4 h5 h6
     · rw [if_neg h6]
       have h6 : x.op = false := by simpa using h6
       by_cases h7 : 1048576 ≤ x.sq
       · rw [if_pos h7]; exact ask_6 x s a0 a1 sh md w h hs h1 h2 hr h3 h4 h5 h6 h7
       · rw [if_neg h7]; exact ask_0 x s a0 a1 sh md w h hs h1 h2 hr h3 h4 h5 h6 h7 hq0 ht
   · rw [if_pos h5]; exact ask_11 x s a0 a1 sh md w h hs h1 h2 hr h3 h4 h5
end Go.Proofs.YtadnlannbafjpaaGreat
