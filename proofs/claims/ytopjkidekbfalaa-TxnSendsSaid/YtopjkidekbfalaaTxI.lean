/- One that goes on from its state. -/
import Derived.Test.YtopjkidekbfalaaTxF
namespace Go.Proofs.Ytopjkidekbfalaa
open Go.RowKit
set_option linter.unusedVariables false
set_option linter.unusedSimpArgs false

theorem news_q (x : Tr) (s : Sl) (q : List Int) (hq : newsL x 0 = q) (w : World) : Calls Try.prog 25 #[.agg (trc x s)] w fun e w' => e = .returned (.agg (mc q)) ∧ Below w.heap.size w w' := by rw [← hq]; exact news_any x s w
theorem send_news (y : Tr) (l : List Int) : sendL (newsL y 0) l = l.map (newsL y) := rfl
set_option maxRecDepth 100000 in
set_option maxHeartbeats 8000000 in
theorem goOn_1 {B : Nat} (x : Tr) (s : Sl) (w : World) (h : Tm w B x s) (ht : Shs x.tch) (hv : Shs x.vts) (h1 : x.st = 1) (hne : x.tch ≠ []) :
    Calls Try.prog 37 #[.agg (trc x s)] w fun e w' => ∃ u, e = .returned (.tuple #[.agg (trc (pre2 x) s), u]) ∧ MsgR w' w.heap.size u (x.tch.map (newsL (pre2 x))) ∧ Below w.heap.size w w' := by
  have X1 := Lib.hid ((Blk.new w 30 (trc x s)).alloc (.cells zTr 30))
  have Z1 := Lib.hid (Blk.new_at (w := w.alloc (.cells (trc x s) 30)) (n := w.heap.size + 1) (by simp) 30 zTr)
  have B1 := Lib.hid ((Joins.below_alloc1 w (.cells (trc x s) 30)).alloc (by simp) (.cells zTr 30))
  have H0 := Lib.hid h
  have HSH := Lib.hid ht
  have HVS := Lib.hid hv
  have e1 : (x.st == 1) = true := by simpa using h1
  have g0 : decide ((0 : Int) < (x.tch.length : Int)) = true := by have := List.length_pos_iff.2 hne; simp; omega
  have g0' : decide (0 < x.tch.length) = true := by have := List.length_pos_iff.2 hne; simp; omega
  clear h1 hne
  clear h ht hv
  go_enter Try.func37, Try.ntmps37
  go_upto_region 1 with fail
  obtain ⟨g, hg⟩ : ∃ g, g = w.heap.size := ⟨_, rfl⟩
  have HG := Lib.hid hg
  rw [← hg] at X1 Z1 ⊢
  clear hg
  generalize (w.alloc (.cells (trc x s) 30)).alloc (.cells zTr 30) = V at X1 Z1 B1 ⊢
  have c1 : V.cell? ⟨g, 1, none⟩ = some (.int .i64 x.st) := X1.out.cell 1
  have c9 : V.cell? ⟨g, 9, none⟩ = some s.t := X1.out.cell 9
  have c10 : V.cell? ⟨g, 10, none⟩ = some s.v := X1.out.cell 10
  have c4 : V.cell? ⟨g, 4, none⟩ = some (.bool x.op) := X1.out.cell 4
  have f1 := X1.out.frozen 1
  have f4 := X1.out.frozen 4
  have XY := Lib.hid (show Blk (V.setCell ⟨g, 1, none⟩ (.int .i64 2)) g 30 (trc (pre2 x) s) from X1.out.set_ 1 _)
  have ZY := Lib.hid (Z1.out.far (p := ⟨g, 1, none⟩) (by simp only; omega) (.int .i64 2))
  have BY := Lib.hid (B1.out.setCell (p := ⟨g, 1, none⟩) (by have := HG.out; simp only; omega) (.int .i64 2))
  obtain ⟨At, ct, et⟩ := own_len H0.out.t
  rw [et] at c9
  have ET := Lib.hid et
  clear et
  go_upto_region 9 with fail
  rw [← ET.out] at c9
  generalize V.setCell ⟨g, 1, none⟩ (.int .i64 2) = WY at XY ZY BY ⊢
  have TY := Lib.hid (show NumR WY B s.t (pre2 x).tch from own_step H0.out.t BY.out)
  have OY := Lib.hid (show (trc (pre2 x) s).all (·.oneCell') = true from Tm.one (w := w) (B := B) ⟨H0.out.t, H0.out.v, H0.out.k, H0.out.g⟩)
  clear c1 c9 c10 c4 f1 f4 X1 Z1 B1
  have SHL := Lib.hid (show x.tch.length ≤ 1000 from by have := HSH.out.len; omega)
  have CS := Lib.hid (XY.out.cell 9)
  obtain ⟨q, hq⟩ : ∃ q, newsL (pre2 x) 0 = q := ⟨_, rfl⟩
  have HQ := Lib.hid hq
  have LQ := Lib.hid (show q.length = 28 from by rw [← hq]; rfl)
  clear hq
  refine wp_region_held_drew (S := fun w' => Blk w' g 30 (trc (pre2 x) s) ∧ w'.cell? ⟨g, 9, none⟩ = some s.t) (by kernel_rfl) ⟨XY.out.drew, CS.out⟩ (fun hHeld => ?_)
  have BD := Lib.hid (show Below WY.heap.size WY WY.drew from (Below.refl _ _).drew)
  generalize WY.drew = W1 at BD hHeld ⊢
  refine wpAnyH_take (i := 0) (v := .agg (trc (pre2 x) s)) rfl (by kernel_rfl) (by kernel_rfl) (by kernel_rfl) (fun _ _ _ h => h) (Or.inl ⟨by rfl, fun w0 hSw => exec_load (x := .tmp 1) rfl rfl (tr_load hSw.1)⟩) (by assumption) ?_
  try simp only [List.getElem_toArray, List.getElem_cons_succ, List.getElem_cons_zero, Act.put, List.setIfInBounds_toArray, List.set_cons_zero, List.set_cons_succ]
  refine wpAnyH_take (i := 1) (v := .agg (trc (pre2 x) s)) rfl (by kernel_rfl) (by kernel_rfl) (by kernel_rfl) (fun _ _ _ h => h) (Or.inl ⟨by rfl, fun w0 hSw => exec_load (x := .tmp 1) rfl rfl (tr_load hSw.1)⟩) (by assumption) ?_
  try simp only [List.getElem_toArray, List.getElem_cons_succ, List.getElem_cons_zero, Act.put, List.setIfInBounds_toArray, List.set_cons_zero, List.set_cons_succ]
  refine wpAnyH_take (i := 3) (v := ?_) rfl (by kernel_rfl) (by kernel_rfl) (by kernel_rfl) (fun _ _ _ h => h) (Or.inl ⟨by rfl, ?_⟩) (by assumption) ?_
  rotate_left
  · (intro w0 hSw; (try dsimp only at hSw); go_simp; try with_reducible rfl)
  try simp only [List.getElem_toArray, List.getElem_cons_succ, List.getElem_cons_zero, Act.put, List.setIfInBounds_toArray, List.set_cons_zero, List.set_cons_succ]
  refine wpAnyH_take (i := 4) (v := ?_) rfl (by kernel_rfl) (by kernel_rfl) (by kernel_rfl) (fun _ _ _ h => h) (Or.inl ⟨by rfl, ?_⟩) (by assumption) ?_
  rotate_left
  · (intro w0 hSw; (try dsimp only at hSw); go_simp; try with_reducible rfl)
  try simp only [List.getElem_toArray, List.getElem_cons_succ, List.getElem_cons_zero, Act.put, List.setIfInBounds_toArray, List.set_cons_zero, List.set_cons_succ]
  refine wpAnyH_ready (rs := [2]) (by kernel_rfl) (by simp) ?_
  refine AllReadyH.cons rfl (fun K hK => ?_) AllReadyH.nil
  go_simp
  refine (news_q (pre2 x) s q HQ.out _).mono ?_
  rintro e W2 ⟨rfl, hb⟩
  try go_simp
  have B2 := Lib.hid (BD.out.trans (hb.mono BD.out.size))
  clear hb
  refine hK.out _ _ ⟨XY.out.here B2.out, (XY.out.here B2.out).cell 9⟩ (fun hHeld => ?_)
  clear hK K
  refine wpAnyH_ready (rs := [5]) (by kernel_rfl) (by simp) ?_
  refine AllReadyH.cons rfl (fun K hK => ?_) AllReadyH.nil
  go_simp
  refine (send_any q x.tch LQ.out _ (own_step TY.out B2.out) SHL.out).mono ?_
  rintro e W3 ⟨u, rfl, hu, hb⟩
  try go_simp
  have U3 := Lib.hid hu
  have B3 := Lib.hid (B2.out.trans (hb.mono B2.out.size))
  have S2 := Lib.hid B2.out.size
  clear hu hb
  refine hK.out _ _ ⟨XY.out.here B3.out, (XY.out.here B3.out).cell 9⟩ (fun hHeld => ?_)
  clear hK K
  have Z3 := Lib.hid (ZY.out.here B3.out)
  have hzl := ZY.out.lt
  refine wpAnyH_ready (rs := [6]) (by kernel_rfl) (by simp) ?_
  refine AllReadyH.cons rfl (fun K hK => ?_) AllReadyH.nil
  refine step_store_mid (by rfl) 30 (.tmp 2) (.tmp 25) rfl (g + 1) 0 (trc (pre2 x) s) rfl rfl (Z3.out.there (Nat.le_refl 13)) (tr_info _ _) OY.out ?_
  have X4 := Lib.hid (show Blk (W3.setCells (g + 1) 0 (trc (pre2 x) s).toList) g 30 (trc (pre2 x) s) from (XY.out.here B3.out).farCells (by omega) _ _ _)
  refine hK.out _ _ ⟨X4.out, X4.out.cell 9⟩ (fun hHeld => ?_)
  clear hK K
  refine wpAnyH_take (i := 7) (v := ?_) rfl (by kernel_rfl) (by kernel_rfl) (by kernel_rfl) (fun _ _ _ h => h) (Or.inl ⟨by rfl, ?_⟩) (by assumption) ?_
  rotate_left
  · (intro w0 hSw; (try dsimp only at hSw); go_simp; try with_reducible rfl)
  try simp only [List.getElem_toArray, List.getElem_cons_succ, List.getElem_cons_zero, Act.put, List.setIfInBounds_toArray, List.set_cons_zero, List.set_cons_succ]
  refine wpAnyH_done (by kernel_rfl) ?_ _
  have E4 := Lib.hid (show Turn (fun k => k = g + 1) W3 (W3.setCells (g + 1) 0 (trc (pre2 x) s).toList) from Turn.setCells (S := fun k => k = g + 1) (fun _ => rfl) _ _ _ (Turn.refl _ _))
  have U4 := Lib.hid (own_off U3.out E4.out (fun k hk _ e => by have := S2.out; omega))
  have Z4 := Lib.hid (Z3.out.put (trc (pre2 x) s) rfl)
  have F4 := Lib.hid ((BY.out.trans (B3.out.mono BY.out.size)).trans (E4.out.below (B := w.heap.size) (fun k hk e => by have := HG.out; omega) (Nat.le_trans BY.out.size B3.out.size)))
  clear hHeld
  go_wp2_with fail
  exact bodyPost_ret (v := .tuple #[.agg (trc (pre2 x) s), u]) (results_cell_and rfl rfl rfl (tr_load Z4.out)) rfl ⟨u, rfl, own_less (by rw [← send_news, HQ.out]; exact U4.out) (by have := S2.out; have := BY.out.size; have := B3.out.size; omega), F4.out⟩
set_option maxRecDepth 100000 in
set_option maxHeartbeats 8000000 in
theorem goOn_n {B : Nat} (x : Tr) (s : Sl) (w : World) (h : Tm w B x s) (ht : Shs x.tch) (hv : Shs x.vts) (h1 : x.st = 1) (hne : x.tch = []) :
    Calls Try.prog 37 #[.agg (trc x s)] w fun e w' => ∃ u, e = .returned (.tuple #[.agg (trc (comL x) s), u]) ∧ MsgR w' w.heap.size u (x.tch.map (newsL (comL x))) ∧ Below w.heap.size w w' := by
  have X1 := Lib.hid ((Blk.new w 30 (trc x s)).alloc (.cells zTr 30))
  have Z1 := Lib.hid (Blk.new_at (w := w.alloc (.cells (trc x s) 30)) (n := w.heap.size + 1) (by simp) 30 zTr)
  have B1 := Lib.hid ((Joins.below_alloc1 w (.cells (trc x s) 30)).alloc (by simp) (.cells zTr 30))
  have H0 := Lib.hid h
  have HSH := Lib.hid ht
  have HVS := Lib.hid hv
  have e1 : (x.st == 1) = true := by simpa using h1
  have g0 : decide ((0 : Int) < (x.tch.length : Int)) = false := by rw [hne]; rfl
  have g0' : decide (0 < x.tch.length) = false := by rw [hne]; rfl
  have HW := Lib.hid (show withoutL x.tch x.vts = [] from by rw [hne]; rfl)
  clear h1 hne
  clear h ht hv
  go_enter Try.func37, Try.ntmps37
  go_upto_region 1 with fail
  obtain ⟨g, hg⟩ : ∃ g, g = w.heap.size := ⟨_, rfl⟩
  have HG := Lib.hid hg
  rw [← hg] at X1 Z1 ⊢
  clear hg
  generalize (w.alloc (.cells (trc x s) 30)).alloc (.cells zTr 30) = V at X1 Z1 B1 ⊢
  have c1 : V.cell? ⟨g, 1, none⟩ = some (.int .i64 x.st) := X1.out.cell 1
  have c9 : V.cell? ⟨g, 9, none⟩ = some s.t := X1.out.cell 9
  have c10 : V.cell? ⟨g, 10, none⟩ = some s.v := X1.out.cell 10
  have c4 : V.cell? ⟨g, 4, none⟩ = some (.bool x.op) := X1.out.cell 4
  have f1 := X1.out.frozen 1
  have f4 := X1.out.frozen 4
  go_upto_region 5 with fail
  have XV := Lib.hid (show Blk (V.setCell ⟨g, 1, none⟩ (.int .i64 2)) g 30 (trc (pre2 x) s) from X1.out.set_ 1 _)
  have ZV := Lib.hid (Z1.out.far (p := ⟨g, 1, none⟩) (by simp only; omega) (.int .i64 2))
  have BV := Lib.hid (B1.out.setCell (p := ⟨g, 1, none⟩) (by have := HG.out; simp only; omega) (.int .i64 2))
  clear c1 c9 c10 c4 f1 f4 X1 Z1 B1
  generalize V.setCell ⟨g, 1, none⟩ (.int .i64 2) = WV at XV ZV BV ⊢
  obtain ⟨At, ct, et⟩ := own_len H0.out.t
  obtain ⟨Av, cv, ev⟩ := own_len H0.out.v
  have ET := Lib.hid et
  have EV := Lib.hid ev
  have WO := Lib.hid (fun (W : World) (hW : Below w.heap.size w W) => without_any x.tch x.vts W (own_step H0.out.t hW) (own_step H0.out.v hW) HSH.out.all HVS.out.all (by have := HSH.out.len; omega) (by have := HVS.out.len; omega))
  rw [et, ev] at WO
  have c9 : WV.cell? ⟨g, 9, none⟩ = some (.slice At x.tch.length ct) := by rw [← et]; exact XV.out.cell 9
  have c10 : WV.cell? ⟨g, 10, none⟩ = some (.slice Av x.vts.length cv) := by rw [← ev]; exact XV.out.cell 10
  clear et ev
  obtain ⟨lw, hlw⟩ : ∃ lw, withoutL x.tch x.vts = lw := ⟨_, rfl⟩
  rw [hlw] at WO HW
  clear hlw
  have HW := HW.out
  subst HW
  go_upto_region 9 with (go_at_call 26; refine (WO.out _ BV.out).mono ?_; rintro e W2 ⟨r2, rfl, hr2, hb2⟩; obtain ⟨A2, c2, rfl⟩ := own_len hr2; have X2 := Lib.hid (XV.out.here hb2); have Z2 := Lib.hid (ZV.out.here hb2); have B2 := Lib.hid (stepB BV.out hb2); have f1 := (XV.out.here hb2).frozen 1; have f4 := (XV.out.here hb2).frozen 4; have k1 : W2.cell? ⟨g, 1, none⟩ = some (.int .i64 2) := (XV.out.here hb2).cell 1; have k4 : W2.cell? ⟨g, 4, none⟩ = some (.bool x.op) := (XV.out.here hb2).cell 4; clear hr2 hb2)
  have XY := Lib.hid (show Blk ((W2.setCell ⟨g, 1, none⟩ (.int .i64 3)).setCell ⟨g, 4, none⟩ (.bool false)) g 30 (trc (comL x) s) from (X2.out.set_ 1 _).set_ 4 _)
  have hzv := ZV.out.lt
  have ZY := Lib.hid ((Z2.out.far (p := ⟨g, 1, none⟩) (by simp only; omega) (.int .i64 3)).far (p := ⟨g, 4, none⟩) (by simp only; omega) (.bool false))
  have BY := Lib.hid ((B2.out.setCell (p := ⟨g, 1, none⟩) (by have := HG.out; simp only; omega) (.int .i64 3)).setCell (p := ⟨g, 4, none⟩) (by have := HG.out; simp only; omega) (.bool false))
  clear k1 k4 f1 f4 c9 c10
  generalize (W2.setCell ⟨g, 1, none⟩ (.int .i64 3)).setCell ⟨g, 4, none⟩ (.bool false) = WY at XY ZY BY ⊢
  have TY := Lib.hid (show NumR WY B (.slice At x.tch.length ct) x.tch from by rw [← ET.out]; exact own_step H0.out.t BY.out)
  have TY := Lib.hid (show NumR WY B s.t x.tch from own_step H0.out.t BY.out)
  have OY := Lib.hid (show (trc (comL x) s).all (·.oneCell') = true from Tm.one (w := w) (B := B) ⟨H0.out.t, H0.out.v, H0.out.k, H0.out.g⟩)
  have SHL := Lib.hid (show x.tch.length ≤ 1000 from by have := HSH.out.len; omega)
  have CS := Lib.hid (XY.out.cell 9)
  obtain ⟨q, hq⟩ : ∃ q, newsL (comL x) 0 = q := ⟨_, rfl⟩
  have HQ := Lib.hid hq
  have LQ := Lib.hid (show q.length = 28 from by rw [← hq]; rfl)
  clear hq
  refine wp_region_held_drew (S := fun w' => Blk w' g 30 (trc (comL x) s) ∧ w'.cell? ⟨g, 9, none⟩ = some s.t) (by kernel_rfl) ⟨XY.out.drew, CS.out⟩ (fun hHeld => ?_)
  have BD := Lib.hid (show Below WY.heap.size WY WY.drew from (Below.refl _ _).drew)
  generalize WY.drew = W1 at BD hHeld ⊢
  refine wpAnyH_take (i := 0) (v := .agg (trc (comL x) s)) rfl (by kernel_rfl) (by kernel_rfl) (by kernel_rfl) (fun _ _ _ h => h) (Or.inl ⟨by rfl, fun w0 hSw => exec_load (x := .tmp 1) rfl rfl (tr_load hSw.1)⟩) (by assumption) ?_
  try simp only [List.getElem_toArray, List.getElem_cons_succ, List.getElem_cons_zero, Act.put, List.setIfInBounds_toArray, List.set_cons_zero, List.set_cons_succ]
  refine wpAnyH_take (i := 1) (v := .agg (trc (comL x) s)) rfl (by kernel_rfl) (by kernel_rfl) (by kernel_rfl) (fun _ _ _ h => h) (Or.inl ⟨by rfl, fun w0 hSw => exec_load (x := .tmp 1) rfl rfl (tr_load hSw.1)⟩) (by assumption) ?_
  try simp only [List.getElem_toArray, List.getElem_cons_succ, List.getElem_cons_zero, Act.put, List.setIfInBounds_toArray, List.set_cons_zero, List.set_cons_succ]
  refine wpAnyH_take (i := 3) (v := ?_) rfl (by kernel_rfl) (by kernel_rfl) (by kernel_rfl) (fun _ _ _ h => h) (Or.inl ⟨by rfl, ?_⟩) (by assumption) ?_
  rotate_left
  · (intro w0 hSw; (try dsimp only at hSw); go_simp; try with_reducible rfl)
  try simp only [List.getElem_toArray, List.getElem_cons_succ, List.getElem_cons_zero, Act.put, List.setIfInBounds_toArray, List.set_cons_zero, List.set_cons_succ]
  refine wpAnyH_take (i := 4) (v := ?_) rfl (by kernel_rfl) (by kernel_rfl) (by kernel_rfl) (fun _ _ _ h => h) (Or.inl ⟨by rfl, ?_⟩) (by assumption) ?_
  rotate_left
  · (intro w0 hSw; (try dsimp only at hSw); go_simp; try with_reducible rfl)
  try simp only [List.getElem_toArray, List.getElem_cons_succ, List.getElem_cons_zero, Act.put, List.setIfInBounds_toArray, List.set_cons_zero, List.set_cons_succ]
  refine wpAnyH_ready (rs := [2]) (by kernel_rfl) (by simp) ?_
  refine AllReadyH.cons rfl (fun K hK => ?_) AllReadyH.nil
  go_simp
  refine (news_q (comL x) s q HQ.out _).mono ?_
  rintro e W2 ⟨rfl, hb⟩
  try go_simp
  have B2 := Lib.hid (BD.out.trans (hb.mono BD.out.size))
  clear hb
  refine hK.out _ _ ⟨XY.out.here B2.out, (XY.out.here B2.out).cell 9⟩ (fun hHeld => ?_)
  clear hK K
  refine wpAnyH_ready (rs := [5]) (by kernel_rfl) (by simp) ?_
  refine AllReadyH.cons rfl (fun K hK => ?_) AllReadyH.nil
  go_simp
  refine (send_any q x.tch LQ.out _ (own_step TY.out B2.out) SHL.out).mono ?_
  rintro e W3 ⟨u, rfl, hu, hb⟩
  try go_simp
  have U3 := Lib.hid hu
  have B3 := Lib.hid (B2.out.trans (hb.mono B2.out.size))
  have S2 := Lib.hid B2.out.size
  clear hu hb
  refine hK.out _ _ ⟨XY.out.here B3.out, (XY.out.here B3.out).cell 9⟩ (fun hHeld => ?_)
  clear hK K
  have Z3 := Lib.hid (ZY.out.here B3.out)
  have hzl := ZY.out.lt
  refine wpAnyH_ready (rs := [6]) (by kernel_rfl) (by simp) ?_
  refine AllReadyH.cons rfl (fun K hK => ?_) AllReadyH.nil
  refine step_store_mid (by rfl) 30 (.tmp 2) (.tmp 25) rfl (g + 1) 0 (trc (comL x) s) rfl rfl (Z3.out.there (Nat.le_refl 13)) (tr_info _ _) OY.out ?_
  have X4 := Lib.hid (show Blk (W3.setCells (g + 1) 0 (trc (comL x) s).toList) g 30 (trc (comL x) s) from (XY.out.here B3.out).farCells (by omega) _ _ _)
  refine hK.out _ _ ⟨X4.out, X4.out.cell 9⟩ (fun hHeld => ?_)
  clear hK K
  refine wpAnyH_take (i := 7) (v := ?_) rfl (by kernel_rfl) (by kernel_rfl) (by kernel_rfl) (fun _ _ _ h => h) (Or.inl ⟨by rfl, ?_⟩) (by assumption) ?_
  rotate_left
  · (intro w0 hSw; (try dsimp only at hSw); go_simp; try with_reducible rfl)
  try simp only [List.getElem_toArray, List.getElem_cons_succ, List.getElem_cons_zero, Act.put, List.setIfInBounds_toArray, List.set_cons_zero, List.set_cons_succ]
  refine wpAnyH_done (by kernel_rfl) ?_ _
  have E4 := Lib.hid (show Turn (fun k => k = g + 1) W3 (W3.setCells (g + 1) 0 (trc (comL x) s).toList) from Turn.setCells (S := fun k => k = g + 1) (fun _ => rfl) _ _ _ (Turn.refl _ _))
  have U4 := Lib.hid (own_off U3.out E4.out (fun k hk _ e => by have := S2.out; omega))
  have Z4 := Lib.hid (Z3.out.put (trc (comL x) s) rfl)
  have F4 := Lib.hid ((BY.out.trans (B3.out.mono BY.out.size)).trans (E4.out.below (B := w.heap.size) (fun k hk e => by have := HG.out; omega) (Nat.le_trans BY.out.size B3.out.size)))
  clear hHeld
  go_wp2_with fail
  exact bodyPost_ret (v := .tuple #[.agg (trc (comL x) s), u]) (results_cell_and rfl rfl rfl (tr_load Z4.out)) rfl ⟨u, rfl, own_less (by rw [← send_news, HQ.out]; exact U4.out) (by have := S2.out; have := BY.out.size; have := B3.out.size; omega), F4.out⟩
set_option maxRecDepth 100000 in
set_option maxHeartbeats 8000000 in
theorem goOn_c {B : Nat} (x : Tr) (s : Sl) (w : World) (h : Tm w B x s) (ht : Shs x.tch) (hv : Shs x.vts) (h2 : x.st = 2) (hw : withoutL x.tch x.vts = []) :
    Calls Try.prog 37 #[.agg (trc x s)] w fun e w' => ∃ u, e = .returned (.tuple #[.agg (trc (comL x) s), u]) ∧ MsgR w' w.heap.size u (x.tch.map (newsL (comL x))) ∧ Below w.heap.size w w' := by
  have X1 := Lib.hid ((Blk.new w 30 (trc x s)).alloc (.cells zTr 30))
  have Z1 := Lib.hid (Blk.new_at (w := w.alloc (.cells (trc x s) 30)) (n := w.heap.size + 1) (by simp) 30 zTr)
  have B1 := Lib.hid ((Joins.below_alloc1 w (.cells (trc x s) 30)).alloc (by simp) (.cells zTr 30))
  have H0 := Lib.hid h
  have HSH := Lib.hid ht
  have HVS := Lib.hid hv
  have e1 : (x.st == 1) = false := by simp; omega
  have e2 : (x.st == 2) = true := by simpa using h2
  have HW := Lib.hid hw
  clear h2 hw
  clear h ht hv
  go_enter Try.func37, Try.ntmps37
  go_upto_region 1 with fail
  obtain ⟨g, hg⟩ : ∃ g, g = w.heap.size := ⟨_, rfl⟩
  have HG := Lib.hid hg
  rw [← hg] at X1 Z1 ⊢
  clear hg
  generalize (w.alloc (.cells (trc x s) 30)).alloc (.cells zTr 30) = V at X1 Z1 B1 ⊢
  have c1 : V.cell? ⟨g, 1, none⟩ = some (.int .i64 x.st) := X1.out.cell 1
  have c9 : V.cell? ⟨g, 9, none⟩ = some s.t := X1.out.cell 9
  have c10 : V.cell? ⟨g, 10, none⟩ = some s.v := X1.out.cell 10
  have c4 : V.cell? ⟨g, 4, none⟩ = some (.bool x.op) := X1.out.cell 4
  have f1 := X1.out.frozen 1
  have f4 := X1.out.frozen 4
  have XV := X1
  have ZV := Z1
  have BV := B1
  clear c9 c10 c4 f1 f4 X1 Z1 B1
  generalize V = WV at XV ZV BV c1 ⊢
  obtain ⟨At, ct, et⟩ := own_len H0.out.t
  obtain ⟨Av, cv, ev⟩ := own_len H0.out.v
  have ET := Lib.hid et
  have EV := Lib.hid ev
  have WO := Lib.hid (fun (W : World) (hW : Below w.heap.size w W) => without_any x.tch x.vts W (own_step H0.out.t hW) (own_step H0.out.v hW) HSH.out.all HVS.out.all (by have := HSH.out.len; omega) (by have := HVS.out.len; omega))
  rw [et, ev] at WO
  have c9 : WV.cell? ⟨g, 9, none⟩ = some (.slice At x.tch.length ct) := by rw [← et]; exact XV.out.cell 9
  have c10 : WV.cell? ⟨g, 10, none⟩ = some (.slice Av x.vts.length cv) := by rw [← ev]; exact XV.out.cell 10
  clear et ev
  obtain ⟨lw, hlw⟩ : ∃ lw, withoutL x.tch x.vts = lw := ⟨_, rfl⟩
  rw [hlw] at WO HW
  clear hlw
  have HW := HW.out
  subst HW
  go_upto_region 9 with (go_at_call 26; refine (WO.out _ BV.out).mono ?_; rintro e W2 ⟨r2, rfl, hr2, hb2⟩; obtain ⟨A2, c2, rfl⟩ := own_len hr2; have X2 := Lib.hid (XV.out.here hb2); have Z2 := Lib.hid (ZV.out.here hb2); have B2 := Lib.hid (stepB BV.out hb2); have f1 := (XV.out.here hb2).frozen 1; have f4 := (XV.out.here hb2).frozen 4; have k1 : W2.cell? ⟨g, 1, none⟩ = some (.int .i64 x.st) := (XV.out.here hb2).cell 1; have k4 : W2.cell? ⟨g, 4, none⟩ = some (.bool x.op) := (XV.out.here hb2).cell 4; clear hr2 hb2)
  have XY := Lib.hid (show Blk ((W2.setCell ⟨g, 1, none⟩ (.int .i64 3)).setCell ⟨g, 4, none⟩ (.bool false)) g 30 (trc (comL x) s) from (X2.out.set_ 1 _).set_ 4 _)
  have hzv := ZV.out.lt
  have ZY := Lib.hid ((Z2.out.far (p := ⟨g, 1, none⟩) (by simp only; omega) (.int .i64 3)).far (p := ⟨g, 4, none⟩) (by simp only; omega) (.bool false))
  have BY := Lib.hid ((B2.out.setCell (p := ⟨g, 1, none⟩) (by have := HG.out; simp only; omega) (.int .i64 3)).setCell (p := ⟨g, 4, none⟩) (by have := HG.out; simp only; omega) (.bool false))
  clear k1 k4 f1 f4 c9 c10
  generalize (W2.setCell ⟨g, 1, none⟩ (.int .i64 3)).setCell ⟨g, 4, none⟩ (.bool false) = WY at XY ZY BY ⊢
  have TY := Lib.hid (show NumR WY B (.slice At x.tch.length ct) x.tch from by rw [← ET.out]; exact own_step H0.out.t BY.out)
  have TY := Lib.hid (show NumR WY B s.t x.tch from own_step H0.out.t BY.out)
  have OY := Lib.hid (show (trc (comL x) s).all (·.oneCell') = true from Tm.one (w := w) (B := B) ⟨H0.out.t, H0.out.v, H0.out.k, H0.out.g⟩)
  have SHL := Lib.hid (show x.tch.length ≤ 1000 from by have := HSH.out.len; omega)
  have CS := Lib.hid (XY.out.cell 9)
  obtain ⟨q, hq⟩ : ∃ q, newsL (comL x) 0 = q := ⟨_, rfl⟩
  have HQ := Lib.hid hq
  have LQ := Lib.hid (show q.length = 28 from by rw [← hq]; rfl)
  clear hq
  refine wp_region_held_drew (S := fun w' => Blk w' g 30 (trc (comL x) s) ∧ w'.cell? ⟨g, 9, none⟩ = some s.t) (by kernel_rfl) ⟨XY.out.drew, CS.out⟩ (fun hHeld => ?_)
  have BD := Lib.hid (show Below WY.heap.size WY WY.drew from (Below.refl _ _).drew)
  generalize WY.drew = W1 at BD hHeld ⊢
  refine wpAnyH_take (i := 0) (v := .agg (trc (comL x) s)) rfl (by kernel_rfl) (by kernel_rfl) (by kernel_rfl) (fun _ _ _ h => h) (Or.inl ⟨by rfl, fun w0 hSw => exec_load (x := .tmp 1) rfl rfl (tr_load hSw.1)⟩) (by assumption) ?_
  try simp only [List.getElem_toArray, List.getElem_cons_succ, List.getElem_cons_zero, Act.put, List.setIfInBounds_toArray, List.set_cons_zero, List.set_cons_succ]
  refine wpAnyH_take (i := 1) (v := .agg (trc (comL x) s)) rfl (by kernel_rfl) (by kernel_rfl) (by kernel_rfl) (fun _ _ _ h => h) (Or.inl ⟨by rfl, fun w0 hSw => exec_load (x := .tmp 1) rfl rfl (tr_load hSw.1)⟩) (by assumption) ?_
  try simp only [List.getElem_toArray, List.getElem_cons_succ, List.getElem_cons_zero, Act.put, List.setIfInBounds_toArray, List.set_cons_zero, List.set_cons_succ]
  refine wpAnyH_take (i := 3) (v := ?_) rfl (by kernel_rfl) (by kernel_rfl) (by kernel_rfl) (fun _ _ _ h => h) (Or.inl ⟨by rfl, ?_⟩) (by assumption) ?_
  rotate_left
  · (intro w0 hSw; (try dsimp only at hSw); go_simp; try with_reducible rfl)
  try simp only [List.getElem_toArray, List.getElem_cons_succ, List.getElem_cons_zero, Act.put, List.setIfInBounds_toArray, List.set_cons_zero, List.set_cons_succ]
  refine wpAnyH_take (i := 4) (v := ?_) rfl (by kernel_rfl) (by kernel_rfl) (by kernel_rfl) (fun _ _ _ h => h) (Or.inl ⟨by rfl, ?_⟩) (by assumption) ?_
  rotate_left
  · (intro w0 hSw; (try dsimp only at hSw); go_simp; try with_reducible rfl)
  try simp only [List.getElem_toArray, List.getElem_cons_succ, List.getElem_cons_zero, Act.put, List.setIfInBounds_toArray, List.set_cons_zero, List.set_cons_succ]
  refine wpAnyH_ready (rs := [2]) (by kernel_rfl) (by simp) ?_
  refine AllReadyH.cons rfl (fun K hK => ?_) AllReadyH.nil
  go_simp
  refine (news_q (comL x) s q HQ.out _).mono ?_
  rintro e W2 ⟨rfl, hb⟩
  try go_simp
  have B2 := Lib.hid (BD.out.trans (hb.mono BD.out.size))
  clear hb
  refine hK.out _ _ ⟨XY.out.here B2.out, (XY.out.here B2.out).cell 9⟩ (fun hHeld => ?_)
  clear hK K
  refine wpAnyH_ready (rs := [5]) (by kernel_rfl) (by simp) ?_
  refine AllReadyH.cons rfl (fun K hK => ?_) AllReadyH.nil
  go_simp
  refine (send_any q x.tch LQ.out _ (own_step TY.out B2.out) SHL.out).mono ?_
  rintro e W3 ⟨u, rfl, hu, hb⟩
  try go_simp
  have U3 := Lib.hid hu
  have B3 := Lib.hid (B2.out.trans (hb.mono B2.out.size))
  have S2 := Lib.hid B2.out.size
  clear hu hb
  refine hK.out _ _ ⟨XY.out.here B3.out, (XY.out.here B3.out).cell 9⟩ (fun hHeld => ?_)
  clear hK K
  have Z3 := Lib.hid (ZY.out.here B3.out)
  have hzl := ZY.out.lt
  refine wpAnyH_ready (rs := [6]) (by kernel_rfl) (by simp) ?_
  refine AllReadyH.cons rfl (fun K hK => ?_) AllReadyH.nil
  refine step_store_mid (by rfl) 30 (.tmp 2) (.tmp 25) rfl (g + 1) 0 (trc (comL x) s) rfl rfl (Z3.out.there (Nat.le_refl 13)) (tr_info _ _) OY.out ?_
  have X4 := Lib.hid (show Blk (W3.setCells (g + 1) 0 (trc (comL x) s).toList) g 30 (trc (comL x) s) from (XY.out.here B3.out).farCells (by omega) _ _ _)
  refine hK.out _ _ ⟨X4.out, X4.out.cell 9⟩ (fun hHeld => ?_)
  clear hK K
  refine wpAnyH_take (i := 7) (v := ?_) rfl (by kernel_rfl) (by kernel_rfl) (by kernel_rfl) (fun _ _ _ h => h) (Or.inl ⟨by rfl, ?_⟩) (by assumption) ?_
  rotate_left
  · (intro w0 hSw; (try dsimp only at hSw); go_simp; try with_reducible rfl)
  try simp only [List.getElem_toArray, List.getElem_cons_succ, List.getElem_cons_zero, Act.put, List.setIfInBounds_toArray, List.set_cons_zero, List.set_cons_succ]
  refine wpAnyH_done (by kernel_rfl) ?_ _
  have E4 := Lib.hid (show Turn (fun k => k = g + 1) W3 (W3.setCells (g + 1) 0 (trc (comL x) s).toList) from Turn.setCells (S := fun k => k = g + 1) (fun _ => rfl) _ _ _ (Turn.refl _ _))
  have U4 := Lib.hid (own_off U3.out E4.out (fun k hk _ e => by have := S2.out; omega))
  have Z4 := Lib.hid (Z3.out.put (trc (comL x) s) rfl)
  have F4 := Lib.hid ((BY.out.trans (B3.out.mono BY.out.size)).trans (E4.out.below (B := w.heap.size) (fun k hk e => by have := HG.out; omega) (Nat.le_trans BY.out.size B3.out.size)))
  clear hHeld
  go_wp2_with fail
  exact bodyPost_ret (v := .tuple #[.agg (trc (comL x) s), u]) (results_cell_and rfl rfl rfl (tr_load Z4.out)) rfl ⟨u, rfl, own_less (by rw [← send_news, HQ.out]; exact U4.out) (by have := S2.out; have := BY.out.size; have := B3.out.size; omega), F4.out⟩
set_option maxRecDepth 100000 in
set_option maxHeartbeats 8000000 in
theorem goOn_w {B : Nat} (x : Tr) (s : Sl) (w : World) (h : Tm w B x s) (ht : Shs x.tch) (hv : Shs x.vts) (h2 : x.st = 2) (hw : withoutL x.tch x.vts ≠ []) :
    Calls Try.prog 37 #[.agg (trc x s)] w fun e w' => ∃ u, e = .returned (.tuple #[.agg (trc x s), u]) ∧ MsgR w' w.heap.size u [] ∧ Below w.heap.size w w' := by
  have X1 := Lib.hid ((Blk.new w 30 (trc x s)).alloc (.cells zTr 30))
  have Z1 := Lib.hid (Blk.new_at (w := w.alloc (.cells (trc x s) 30)) (n := w.heap.size + 1) (by simp) 30 zTr)
  have B1 := Lib.hid ((Joins.below_alloc1 w (.cells (trc x s) 30)).alloc (by simp) (.cells zTr 30))
  have H0 := Lib.hid h
  have HSH := Lib.hid ht
  have HVS := Lib.hid hv
  have e1 : (x.st == 1) = false := by simp; omega
  have e2 : (x.st == 2) = true := by simpa using h2
  have HW := Lib.hid hw
  clear h2 hw
  clear h ht hv
  go_enter Try.func37, Try.ntmps37
  go_upto_region 1 with fail
  obtain ⟨g, hg⟩ : ∃ g, g = w.heap.size := ⟨_, rfl⟩
  have HG := Lib.hid hg
  rw [← hg] at X1 Z1 ⊢
  clear hg
  generalize (w.alloc (.cells (trc x s) 30)).alloc (.cells zTr 30) = V at X1 Z1 B1 ⊢
  have c1 : V.cell? ⟨g, 1, none⟩ = some (.int .i64 x.st) := X1.out.cell 1
  have c9 : V.cell? ⟨g, 9, none⟩ = some s.t := X1.out.cell 9
  have c10 : V.cell? ⟨g, 10, none⟩ = some s.v := X1.out.cell 10
  have c4 : V.cell? ⟨g, 4, none⟩ = some (.bool x.op) := X1.out.cell 4
  have f1 := X1.out.frozen 1
  have f4 := X1.out.frozen 4
  have XV := X1
  have ZV := Z1
  have BV := B1
  clear c9 c10 c4 f1 f4 X1 Z1 B1
  generalize V = WV at XV ZV BV c1 ⊢
  obtain ⟨At, ct, et⟩ := own_len H0.out.t
  obtain ⟨Av, cv, ev⟩ := own_len H0.out.v
  have ET := Lib.hid et
  have EV := Lib.hid ev
  have WO := Lib.hid (fun (W : World) (hW : Below w.heap.size w W) => without_any x.tch x.vts W (own_step H0.out.t hW) (own_step H0.out.v hW) HSH.out.all HVS.out.all (by have := HSH.out.len; omega) (by have := HVS.out.len; omega))
  rw [et, ev] at WO
  have c9 : WV.cell? ⟨g, 9, none⟩ = some (.slice At x.tch.length ct) := by rw [← et]; exact XV.out.cell 9
  have c10 : WV.cell? ⟨g, 10, none⟩ = some (.slice Av x.vts.length cv) := by rw [← ev]; exact XV.out.cell 10
  clear et ev
  obtain ⟨lw, hlw⟩ : ∃ lw, withoutL x.tch x.vts = lw := ⟨_, rfl⟩
  rw [hlw] at WO HW
  clear hlw
  have d0 : decide ((0 : Int) < (lw.length : Int)) = true := by have := List.length_pos_iff.2 HW.out; simp; omega
  have d0' : decide (0 < lw.length) = true := by have := List.length_pos_iff.2 HW.out; simp; omega
  have OY := Lib.hid (show (trc x s).all (·.oneCell') = true from H0.out.one)
  go_wp2_with (first
    | (go_at_call 26; refine (WO.out _ BV.out).mono ?_; rintro e W2 ⟨r2, rfl, hr2, hb2⟩; obtain ⟨A2, c2, rfl⟩ := own_len hr2; have X2 := Lib.hid (XV.out.here hb2); have Z2 := Lib.hid (ZV.out.here hb2); have B2 := Lib.hid (stepB BV.out hb2); have f1 := (XV.out.here hb2).frozen 1; have f4 := (XV.out.here hb2).frozen 4; have k1 : W2.cell? ⟨g, 1, none⟩ = some (.int .i64 x.st) := (XV.out.here hb2).cell 1; have k4 : W2.cell? ⟨g, 4, none⟩ = some (.bool x.op) := (XV.out.here hb2).cell 4; clear hr2 hb2)
    | (refine wpList_load_row rfl 30 (.tmp 1) rfl g rfl 30 (trc x s) (0, 0) _ X2.out Try.underlying30 rfl (tr_info _ _) ?_)
    | (refine wpList_store_mid (by rfl) 30 (.tmp 2) (.tmp 22) (by rfl) (g + 1) 0 (trc x s) (by rfl) (by rfl) (Z2.out.there (Nat.le_refl 13)) (tr_info _ _) OY.out ?_))
  exact bodyPost_ret (v := .tuple #[.agg (trc x s), .slice none 0 0]) (results_cell_and rfl rfl rfl (tr_load (Z2.out.put (trc x s) rfl))) rfl ⟨_, rfl, World.ownsRow_nil _ _ _ _, Below.setCells (by have := HG.out; omega) _ _ _ B2.out⟩
theorem goOn_any {B : Nat} (x : Tr) (s : Sl) (w : World) (h : Tm w B x s) (ht : Shs x.tch) (hv : Shs x.vts) (hst : x.st = 1 ∨ x.st = 2) :
    Calls Try.prog 37 #[.agg (trc x s)] w fun e w' => ∃ u, e = .returned (.tuple #[.agg (trc (goOnL x).1 s), u]) ∧ MsgR w' w.heap.size u (goOnL x).2 ∧ Below w.heap.size w w' := by
  rcases hst with h1 | h2
  · by_cases hne : x.tch = []
    · have e : goOnL x = (comL x, x.tch.map (newsL (comL x))) := by unfold goOnL; rw [if_neg (fun h => h.2 hne), if_neg (by rw [hne]; simp [withoutL])]
      rw [e]; exact goOn_n x s w h ht hv h1 hne
    · have e : goOnL x = (pre2 x, x.tch.map (newsL (pre2 x))) := by unfold goOnL; rw [if_pos ⟨h1, hne⟩]
      rw [e]; exact goOn_1 x s w h ht hv h1 hne
  · by_cases hw : withoutL x.tch x.vts = []
    · have e : goOnL x = (comL x, x.tch.map (newsL (comL x))) := by unfold goOnL; rw [if_neg (by omega), if_neg (fun h => h hw)]
      rw [e]; exact goOn_c x s w h ht hv h2 hw
    · have e : goOnL x = (x, []) := by unfold goOnL; rw [if_neg (by omega), if_pos hw]
      rw [e]; exact goOn_w x s w h ht hv h2 hw
end Go.Proofs.Ytopjkidekbfalaa
