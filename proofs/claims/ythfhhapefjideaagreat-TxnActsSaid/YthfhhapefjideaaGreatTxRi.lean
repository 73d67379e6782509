/- The document's Vote. -/
import Derived.Test.YthfhhapefjideaaGreatTxRh
namespace Go.Proofs.YthfhhapefjideaaGreat
open Go.RowKit
set_option linter.unusedVariables false
set_option linter.unusedSimpArgs false

set_option maxRecDepth 100000 in
set_option maxHeartbeats 8000000 in
theorem refVote_5 {B : Nat} (x : Tr) (s : Sl) (m : List Int) (hm : m.length = 28) (hf : isOf x m [5] = false) (w : World) (h : Tm w B x s) (ht : x.tch.length ≤ 900) :
    Calls Tryz.prog 30 #[.agg (trc x s), .agg (mc m)] w (ActP w (x, [], 5)) := by
  have X1 := Lib.hid (((Blk.new w 37 (trc x s)).alloc (.cells (mc m) 46)).alloc (.cells zTr 37))
  have P1 := Lib.hid ((Blk.new_at (w := w.alloc (.cells (trc x s) 37)) (n := w.heap.size + 1) (by simp) 46 (mc m)).alloc (.cells zTr 37))
  have Z1 := Lib.hid (show Blk (((w.alloc (.cells (trc x s) 37)).alloc (.cells (mc m) 46)).alloc (.cells zTr 37)) (w.heap.size + 2) 37 (trc noTr noSl) from Blk.new_at (by simp) _ _)
  have B1 := Lib.hid (((Joins.below_alloc1 w (.cells (trc x s) 37)).alloc (by simp <;> omega) (.cells (mc m) 46)).alloc (by simp <;> omega) (.cells zTr 37))
  have T1 := Lib.hid (h.step B1.out)
  have HT := Lib.hid ht
  have HM := Lib.hid hm
  have HI := Lib.hid (mc_info hm)
  clear hm
  have HF := Lib.hid hf
  clear hf
  clear h ht
  go_enter Tryz.func30, Tryz.ntmps30
  go_upto_region 1 with fail
  obtain ⟨g, hg⟩ : ∃ g, g = w.heap.size := ⟨_, rfl⟩
  have HG := Lib.hid hg
  rw [← hg] at X1 P1 Z1 ⊢
  clear hg
  generalize (((w.alloc (.cells (trc x s) 37)).alloc (.cells (mc m) 46)).alloc (.cells zTr 37)) = V1 at X1 P1 Z1 B1 T1 ⊢
  have hgl := X1.out.lt
  go_upto_region 2 with (first
    | (refine wpList_load_row rfl 37 (.tmp 2) rfl g rfl 37 (trc x s) (0, 0) _ X1.out Tryz.underlying37 rfl (tr_infoR _ _) ?_)
    | (refine wpList_load_row rfl 46 (.tmp 3) rfl (g + 1) rfl 46 (mc m) (0, 0) _ P1.out Tryz.underlying46 rfl HI.out ?_)
    | (go_at_call 51; refine (refForm_b x s m 5 false HM.out _ HF.out).mono ?_; rintro e V2 ⟨rfl, hb⟩; have X2 := Lib.hid (X1.out.here hb); have P2 := Lib.hid (P1.out.here hb); have Z2 := Lib.hid (Z1.out.here hb); have B2 := Lib.hid (stepB B1.out hb); have T2 := Lib.hid (T1.out.step hb); clear hb))
  go_wp2_with (first
    | (refine wpList_load_row rfl 37 (.tmp 2) rfl g rfl 37 (trc x s) (0, 0) _ X2.out Tryz.underlying37 rfl (tr_infoR _ _) ?_)
    | (refine wpList_store_mid (by rfl) 37 (.tmp 4) (.tmp 12) (by rfl) (g + 2) 0 (trc x s) (by rfl) (by rfl) (Z2.out.there (Nat.le_refl 13)) (tr_infoR _ _) T2.out.one ?_
       have R4 := Lib.hid (show Turn (fun k => k = g + 2) V2 (V2.setCells (g + 2) 0 (trc x s).toList) from Turn.setCells (S := fun k => k = g + 2) (fun _ => rfl) _ _ _ (Turn.refl _ _))
       have ZE := Lib.hid (Z2.out.put (trc x s) rfl)
       have TE := Lib.hid (T2.out.offBR Z2.out R4.out)
       have BE := Lib.hid (B2.out.trans (R4.out.below (B := w.heap.size) (fun k hk e => by have := HG.out; omega) B2.out.size))
       clear R4
       generalize V2.setCells (g + 2) 0 (trc x s).toList = WE at ZE TE BE ⊢))
  exact bodyPost_ret (v := .tuple #[.agg (trc x s), .slice none 0 0, .int .i64 5]) (results_and2 rfl rfl rfl rfl (tr_loadR ZE.out)) rfl ⟨s, _, rfl, TE.out.less (Nat.zero_le _), World.ownsRow_nil _ _ _ _, BE.out⟩
set_option maxRecDepth 100000 in
set_option maxHeartbeats 8000000 in
theorem refVote_11 {B : Nat} (x : Tr) (s : Sl) (m : List Int) (hm : m.length = 28) (hf : isOf x m [5] = true) (h1 : ¬ x.st = 2) (w : World) (h : Tm w B x s) (ht : x.tch.length ≤ 900) :
    Calls Tryz.prog 30 #[.agg (trc x s), .agg (mc m)] w (ActP w (x, [], 11)) := by
  have X1 := Lib.hid (((Blk.new w 37 (trc x s)).alloc (.cells (mc m) 46)).alloc (.cells zTr 37))
  have P1 := Lib.hid ((Blk.new_at (w := w.alloc (.cells (trc x s) 37)) (n := w.heap.size + 1) (by simp) 46 (mc m)).alloc (.cells zTr 37))
  have Z1 := Lib.hid (show Blk (((w.alloc (.cells (trc x s) 37)).alloc (.cells (mc m) 46)).alloc (.cells zTr 37)) (w.heap.size + 2) 37 (trc noTr noSl) from Blk.new_at (by simp) _ _)
  have B1 := Lib.hid (((Joins.below_alloc1 w (.cells (trc x s) 37)).alloc (by simp <;> omega) (.cells (mc m) 46)).alloc (by simp <;> omega) (.cells zTr 37))
  have T1 := Lib.hid (h.step B1.out)
  have HT := Lib.hid ht
  have HM := Lib.hid hm
  have HI := Lib.hid (mc_info hm)
  clear hm
  have HF := Lib.hid hf
  clear hf
  have e2 : (x.st != 2) = true := by simpa using h1
  clear h1
  clear h ht
  go_enter Tryz.func30, Tryz.ntmps30
  go_upto_region 1 with fail
  obtain ⟨g, hg⟩ : ∃ g, g = w.heap.size := ⟨_, rfl⟩
  have HG := Lib.hid hg
  rw [← hg] at X1 P1 Z1 ⊢
  clear hg
  generalize (((w.alloc (.cells (trc x s) 37)).alloc (.cells (mc m) 46)).alloc (.cells zTr 37)) = V1 at X1 P1 Z1 B1 T1 ⊢
  have hgl := X1.out.lt
  go_upto_region 3 with (first
    | (refine wpList_load_row rfl 37 (.tmp 2) rfl g rfl 37 (trc x s) (0, 0) _ X1.out Tryz.underlying37 rfl (tr_infoR _ _) ?_)
    | (refine wpList_load_row rfl 46 (.tmp 3) rfl (g + 1) rfl 46 (mc m) (0, 0) _ P1.out Tryz.underlying46 rfl HI.out ?_)
    | (go_at_call 51; refine (refForm_b x s m 5 true HM.out _ HF.out).mono ?_; rintro e V2 ⟨rfl, hb⟩; have X2 := Lib.hid (X1.out.here hb); have P2 := Lib.hid (P1.out.here hb); have Z2 := Lib.hid (Z1.out.here hb); have B2 := Lib.hid (stepB B1.out hb); have T2 := Lib.hid (T1.out.step hb); clear hb))
  have c1 : V2.cell? ⟨g, 1, none⟩ = some (.int .i64 x.st) := X2.out.cell 1
  go_upto_region 4 with fail
  go_wp2_with (first
    | (refine wpList_load_row rfl 37 (.tmp 2) rfl g rfl 37 (trc x s) (0, 0) _ X2.out Tryz.underlying37 rfl (tr_infoR _ _) ?_)
    | (refine wpList_store_mid (by rfl) 37 (.tmp 4) (.tmp 16) (by rfl) (g + 2) 0 (trc x s) (by rfl) (by rfl) (Z2.out.there (Nat.le_refl 13)) (tr_infoR _ _) T2.out.one ?_
       have R4 := Lib.hid (show Turn (fun k => k = g + 2) V2 (V2.setCells (g + 2) 0 (trc x s).toList) from Turn.setCells (S := fun k => k = g + 2) (fun _ => rfl) _ _ _ (Turn.refl _ _))
       have ZE := Lib.hid (Z2.out.put (trc x s) rfl)
       have TE := Lib.hid (T2.out.offBR Z2.out R4.out)
       have BE := Lib.hid (B2.out.trans (R4.out.below (B := w.heap.size) (fun k hk e => by have := HG.out; omega) B2.out.size))
       clear R4
       generalize V2.setCells (g + 2) 0 (trc x s).toList = WE at ZE TE BE ⊢))
  exact bodyPost_ret (v := .tuple #[.agg (trc x s), .slice none 0 0, .int .i64 11]) (results_and2 rfl rfl rfl rfl (tr_loadR ZE.out)) rfl ⟨s, _, rfl, TE.out.less (Nat.zero_le _), World.ownsRow_nil _ _ _ _, BE.out⟩
set_option maxRecDepth 100000 in
set_option maxHeartbeats 8000000 in
theorem refVote_10 {B : Nat} (x : Tr) (s : Sl) (m : List Int) (hm : m.length = 28) (hf : isOf x m [5] = true) (h1 : x.st = 2) (hc : x.tch.contains (fld m 1) = false) (w : World) (h : Tm w B x s) (ht : x.tch.length ≤ 900) :
    Calls Tryz.prog 30 #[.agg (trc x s), .agg (mc m)] w (ActP w (x, [], 10)) := by
  have X1 := Lib.hid (((Blk.new w 37 (trc x s)).alloc (.cells (mc m) 46)).alloc (.cells zTr 37))
  have P1 := Lib.hid ((Blk.new_at (w := w.alloc (.cells (trc x s) 37)) (n := w.heap.size + 1) (by simp) 46 (mc m)).alloc (.cells zTr 37))
  have Z1 := Lib.hid (show Blk (((w.alloc (.cells (trc x s) 37)).alloc (.cells (mc m) 46)).alloc (.cells zTr 37)) (w.heap.size + 2) 37 (trc noTr noSl) from Blk.new_at (by simp) _ _)
  have B1 := Lib.hid (((Joins.below_alloc1 w (.cells (trc x s) 37)).alloc (by simp <;> omega) (.cells (mc m) 46)).alloc (by simp <;> omega) (.cells zTr 37))
  have T1 := Lib.hid (h.step B1.out)
  have HT := Lib.hid ht
  have HM := Lib.hid hm
  have HI := Lib.hid (mc_info hm)
  clear hm
  have HF := Lib.hid hf
  clear hf
  have e2 : (x.st != 2) = false := by simpa using h1
  have H1 := Lib.hid h1
  clear h1
  have HC := Lib.hid hc
  clear hc
  clear h ht
  go_enter Tryz.func30, Tryz.ntmps30
  go_upto_region 1 with fail
  obtain ⟨g, hg⟩ : ∃ g, g = w.heap.size := ⟨_, rfl⟩
  have HG := Lib.hid hg
  rw [← hg] at X1 P1 Z1 ⊢
  clear hg
  generalize (((w.alloc (.cells (trc x s) 37)).alloc (.cells (mc m) 46)).alloc (.cells zTr 37)) = V1 at X1 P1 Z1 B1 T1 ⊢
  have hgl := X1.out.lt
  go_upto_region 3 with (first
    | (refine wpList_load_row rfl 37 (.tmp 2) rfl g rfl 37 (trc x s) (0, 0) _ X1.out Tryz.underlying37 rfl (tr_infoR _ _) ?_)
    | (refine wpList_load_row rfl 46 (.tmp 3) rfl (g + 1) rfl 46 (mc m) (0, 0) _ P1.out Tryz.underlying46 rfl HI.out ?_)
    | (go_at_call 51; refine (refForm_b x s m 5 true HM.out _ HF.out).mono ?_; rintro e V2 ⟨rfl, hb⟩; have X2 := Lib.hid (X1.out.here hb); have P2 := Lib.hid (P1.out.here hb); have Z2 := Lib.hid (Z1.out.here hb); have B2 := Lib.hid (stepB B1.out hb); have T2 := Lib.hid (T1.out.step hb); clear hb))
  have c1 : V2.cell? ⟨g, 1, none⟩ = some (.int .i64 x.st) := X2.out.cell 1
  obtain ⟨At, ct, et⟩ := own_len T2.out.t
  have RT := Lib.hid (show NumR V2 B (.slice At x.tch.length ct) x.tch from by rw [← et]; exact T2.out.t)
  have k9 : V2.cell? ⟨g, 9, none⟩ = some (.slice At x.tch.length ct) := by rw [← et]; exact X2.out.cell 9
  have k1 : V2.cell? ⟨g + 1, 1, none⟩ = some (.int .i64 (fld m 1)) := mc_cell HM.out P2.out (by omega)
  clear et
  obtain ⟨f1, hf1⟩ : ∃ f1, fld m 1 = f1 := ⟨_, rfl⟩
  rw [hf1] at k1 HC
  have HF1 := Lib.hid hf1
  clear hf1
  go_upto_region 6 with (first
    | (go_at_call 39; refine (refHas_b (B := B) f1 false HC.out _ RT.out (by have := HT.out; omega)).mono ?_; rintro e VV ⟨rfl, hv⟩; obtain rfl := hv.symm; clear hv))
  go_wp2_with (first
    | (refine wpList_load_row rfl 37 (.tmp 2) rfl g rfl 37 (trc x s) (0, 0) _ X2.out Tryz.underlying37 rfl (tr_infoR _ _) ?_)
    | (refine wpList_store_mid (by rfl) 37 (.tmp 4) (.tmp 23) (by rfl) (g + 2) 0 (trc x s) (by rfl) (by rfl) (Z2.out.there (Nat.le_refl 13)) (tr_infoR _ _) T2.out.one ?_
       have R4 := Lib.hid (show Turn (fun k => k = g + 2) V2 (V2.setCells (g + 2) 0 (trc x s).toList) from Turn.setCells (S := fun k => k = g + 2) (fun _ => rfl) _ _ _ (Turn.refl _ _))
       have ZE := Lib.hid (Z2.out.put (trc x s) rfl)
       have TE := Lib.hid (T2.out.offBR Z2.out R4.out)
       have BE := Lib.hid (B2.out.trans (R4.out.below (B := w.heap.size) (fun k hk e => by have := HG.out; omega) B2.out.size))
       clear R4
       generalize V2.setCells (g + 2) 0 (trc x s).toList = WE at ZE TE BE ⊢))
  exact bodyPost_ret (v := .tuple #[.agg (trc x s), .slice none 0 0, .int .i64 10]) (results_and2 rfl rfl rfl rfl (tr_loadR ZE.out)) rfl ⟨s, _, rfl, TE.out.less (Nat.zero_le _), World.ownsRow_nil _ _ _ _, BE.out⟩
set_option maxRecDepth 100000 in
set_option maxHeartbeats 8000000 in
theorem refVote_a {B : Nat} (x : Tr) (s : Sl) (m : List Int) (hm : m.length = 28) (hf : isOf x m [5] = true) (h1 : x.st = 2) (hc : x.tch.contains (fld m 1) = true) (h8 : fld m 8 = 0) (z : Tr) (hz : z = { x with st := 4, rs := 2, op := false }) (w : World) (h : Tm w B x s) (ht : x.tch.length ≤ 900) :
    Calls Tryz.prog 30 #[.agg (trc x s), .agg (mc m)] w (ActP w (z, eachL z 6 0 z.tch [], 0)) := by
  have X1 := Lib.hid (((Blk.new w 37 (trc x s)).alloc (.cells (mc m) 46)).alloc (.cells zTr 37))
  have P1 := Lib.hid ((Blk.new_at (w := w.alloc (.cells (trc x s) 37)) (n := w.heap.size + 1) (by simp) 46 (mc m)).alloc (.cells zTr 37))
  have Z1 := Lib.hid (show Blk (((w.alloc (.cells (trc x s) 37)).alloc (.cells (mc m) 46)).alloc (.cells zTr 37)) (w.heap.size + 2) 37 (trc noTr noSl) from Blk.new_at (by simp) _ _)
  have B1 := Lib.hid (((Joins.below_alloc1 w (.cells (trc x s) 37)).alloc (by simp <;> omega) (.cells (mc m) 46)).alloc (by simp <;> omega) (.cells zTr 37))
  have T1 := Lib.hid (h.step B1.out)
  have HT := Lib.hid ht
  have HM := Lib.hid hm
  have HI := Lib.hid (mc_info hm)
  clear hm
  have HF := Lib.hid hf
  clear hf
  have e2 : (x.st != 2) = false := by simpa using h1
  have H1 := Lib.hid h1
  clear h1
  have HC := Lib.hid hc
  clear hc
  have e8 : (fld m 8 == 0) = true := by simpa using h8
  have HZ := Lib.hid hz
  clear hz h8
  clear h ht
  go_enter Tryz.func30, Tryz.ntmps30
  go_upto_region 1 with fail
  obtain ⟨g, hg⟩ : ∃ g, g = w.heap.size := ⟨_, rfl⟩
  have HG := Lib.hid hg
  rw [← hg] at X1 P1 Z1 ⊢
  clear hg
  generalize (((w.alloc (.cells (trc x s) 37)).alloc (.cells (mc m) 46)).alloc (.cells zTr 37)) = V1 at X1 P1 Z1 B1 T1 ⊢
  have hgl := X1.out.lt
  go_upto_region 3 with (first
    | (refine wpList_load_row rfl 37 (.tmp 2) rfl g rfl 37 (trc x s) (0, 0) _ X1.out Tryz.underlying37 rfl (tr_infoR _ _) ?_)
    | (refine wpList_load_row rfl 46 (.tmp 3) rfl (g + 1) rfl 46 (mc m) (0, 0) _ P1.out Tryz.underlying46 rfl HI.out ?_)
    | (go_at_call 51; refine (refForm_b x s m 5 true HM.out _ HF.out).mono ?_; rintro e V2 ⟨rfl, hb⟩; have X2 := Lib.hid (X1.out.here hb); have P2 := Lib.hid (P1.out.here hb); have Z2 := Lib.hid (Z1.out.here hb); have B2 := Lib.hid (stepB B1.out hb); have T2 := Lib.hid (T1.out.step hb); clear hb))
  have c1 : V2.cell? ⟨g, 1, none⟩ = some (.int .i64 x.st) := X2.out.cell 1
  obtain ⟨At, ct, et⟩ := own_len T2.out.t
  have RT := Lib.hid (show NumR V2 B (.slice At x.tch.length ct) x.tch from by rw [← et]; exact T2.out.t)
  have k9 : V2.cell? ⟨g, 9, none⟩ = some (.slice At x.tch.length ct) := by rw [← et]; exact X2.out.cell 9
  have k1 : V2.cell? ⟨g + 1, 1, none⟩ = some (.int .i64 (fld m 1)) := mc_cell HM.out P2.out (by omega)
  clear et
  obtain ⟨f1, hf1⟩ : ∃ f1, fld m 1 = f1 := ⟨_, rfl⟩
  rw [hf1] at k1 HC
  have HF1 := Lib.hid hf1
  clear hf1
  have k8 : V2.cell? ⟨g + 1, 8, none⟩ = some (.int .i64 (fld m 8)) := mc_cell HM.out P2.out (by omega)
  have E8 := e8
  go_upto_region 8 with (first
    | (go_at_call 39; refine (refHas_b (B := B) f1 true HC.out _ RT.out (by have := HT.out; omega)).mono ?_; rintro e VV ⟨rfl, hv⟩; obtain rfl := hv.symm; clear hv))
  go_wp2_with (first
    | (refine wpList_load_row rfl 37 (.tmp 2) rfl g rfl 37 (trc x s) (0, 0) _ X2.out Tryz.underlying37 rfl (tr_infoR _ _) ?_)
    | (go_at_call 52; refine (refDecide_4 x z s 2 _ T2.out (by have := HT.out; omega) HZ.out).mono ?_; rintro e V3 ⟨s3, u3, rfl, ht3, hu3, hb3⟩; obtain ⟨Au3, cu3, rfl⟩ := own_len hu3; have Z3 := Lib.hid (Z2.out.here hb3); have B3 := Lib.hid (stepB B2.out hb3); have T3 := Lib.hid ht3; have U3 := Lib.hid (own_less hu3 B2.out.size); clear ht3 hu3 hb3)
    | (refine wpList_store_mid (by rfl) 37 (.tmp 4) (.tmp 29) (by rfl) (g + 2) 0 (trc z s3) (by rfl) (by rfl) (Z3.out.there (Nat.le_refl 13)) (tr_infoR _ _) T3.out.one ?_
       have R4 := Lib.hid (show Turn (fun k => k = g + 2) V3 (V3.setCells (g + 2) 0 (trc z s3).toList) from Turn.setCells (S := fun k => k = g + 2) (fun _ => rfl) _ _ _ (Turn.refl _ _))
       have ZE := Lib.hid (Z3.out.put (trc z s3) rfl)
       have TE := Lib.hid (T3.out.offBR Z3.out R4.out)
       have BE := Lib.hid (B3.out.trans (R4.out.below (B := w.heap.size) (fun k hk e => by have := HG.out; omega) B3.out.size))
       have UE := Lib.hid (own_offB U3.out Z3.out (by decide) R4.out)
       clear R4
       generalize V3.setCells (g + 2) 0 (trc z s3).toList = WE at ZE TE BE UE ⊢))
  exact bodyPost_ret (v := .tuple #[.agg (trc z s3), .slice Au3 (eachL z 6 0 z.tch []).length cu3, .int .i64 0]) (results_and2 rfl rfl rfl rfl (tr_loadR ZE.out)) rfl ⟨s3, _, rfl, TE.out.less (Nat.zero_le _), UE.out, BE.out⟩
theorem goOn_not {y : Tr} {n : Int} (h2 : y.st = 2) (h1 : n ∈ y.tch) (hn : y.vts.contains n = false) : goOnL y = (y, []) := by
  have : withoutL y.tch y.vts ≠ [] := fun e => by
    have := without_nil.1 e n h1
    simp at hn
    exact hn this
  unfold goOnL
  rw [if_neg (fun e => by omega), if_pos this]
theorem goOn_all {y : Tr} (h2 : y.st = 2) (h : ∀ j : Nat, j < y.tch.length → y.vts.contains (gd y.tch j) = true) : goOnL y = (comL y, y.tch.map (newsL (comL y))) := by
  have : withoutL y.tch y.vts = [] := without_nil.2 fun n hn => by
    obtain ⟨j, hj, e⟩ := List.getElem_of_mem hn
    have := h j hj
    rw [gd_get hj, e] at this
    simpa using this
  unfold goOnL
  rw [if_neg (fun e => by omega), if_neg (fun e => e this)]
set_option maxRecDepth 100000 in
set_option maxHeartbeats 8000000 in
theorem refVote_g {B : Nat} (x : Tr) (s : Sl) (m : List Int) (hm : m.length = 28) (hf : isOf x m [5] = true) (h1 : x.st = 2) (hr0 : x.rs = 0) (hc : x.tch.contains (fld m 1) = true) (h8 : ¬ fld m 8 = 0) (hv : Shs x.vts) (res : Tr × List (List Int)) (hres : goOnL (votX x (fld m 1)) = res) (w : World) (h : Tm w B x s) (ht : x.tch.length ≤ 900) :
    Calls Tryz.prog 30 #[.agg (trc x s), .agg (mc m)] w (ActP w (res.1, res.2, 0)) := by
  have X1 := Lib.hid (((Blk.new w 37 (trc x s)).alloc (.cells (mc m) 46)).alloc (.cells zTr 37))
  have P1 := Lib.hid ((Blk.new_at (w := w.alloc (.cells (trc x s) 37)) (n := w.heap.size + 1) (by simp) 46 (mc m)).alloc (.cells zTr 37))
  have Z1 := Lib.hid (show Blk (((w.alloc (.cells (trc x s) 37)).alloc (.cells (mc m) 46)).alloc (.cells zTr 37)) (w.heap.size + 2) 37 (trc noTr noSl) from Blk.new_at (by simp) _ _)
  have B1 := Lib.hid (((Joins.below_alloc1 w (.cells (trc x s) 37)).alloc (by simp <;> omega) (.cells (mc m) 46)).alloc (by simp <;> omega) (.cells zTr 37))
  have T1 := Lib.hid (h.step B1.out)
  have HT := Lib.hid ht
  have HM := Lib.hid hm
  have HI := Lib.hid (mc_info hm)
  clear hm
  have HF := Lib.hid hf
  clear hf
  have HRES := Lib.hid hres
  clear hres
  have HG0 := Lib.hid (show (votX x (fld m 1)).vts.length ≤ 1000 ∧ True from ⟨Nat.le_trans (ins_len _ _) (by have := hv.len; omega), trivial⟩)
  have HGN := Lib.hid (fun n h hn => goOn_not (y := votX x (fld m 1)) (n := n) h1 h hn)
  have HGA := Lib.hid (show (∀ j : Nat, j < (votX x (fld m 1)).tch.length → (votX x (fld m 1)).vts.contains (gd (votX x (fld m 1)).tch j) = true) → ∀ z : Tr, z = { votX x (fld m 1) with st := 3, rs := 0, op := false } → goOnL (votX x (fld m 1)) = (z, eachL z 6 1 z.tch []) from fun h z hz => by
    have ez : z = comL (votX x (fld m 1)) := by rw [hz]; unfold comL; rw [show (votX x (fld m 1)).rs = 0 from hr0]
    rw [goOn_all (y := votX x (fld m 1)) h1 h, ez, eachL_news (z := comL (votX x (fld m 1))) (k := 6) (cd := 1) rfl rfl, without_no]; rfl)
  have e2 : (x.st != 2) = false := by simpa using h1
  have H1 := Lib.hid h1
  clear h1
  have HC := Lib.hid hc
  clear hc
  have e8 : (fld m 8 == 0) = false := by simpa using h8
  have HV := Lib.hid hv
  clear hv h8 hr0
  clear h ht
  go_enter Tryz.func30, Tryz.ntmps30
  go_upto_region 1 with fail
  obtain ⟨g, hg⟩ : ∃ g, g = w.heap.size := ⟨_, rfl⟩
  have HG := Lib.hid hg
  rw [← hg] at X1 P1 Z1 ⊢
  clear hg
  generalize (((w.alloc (.cells (trc x s) 37)).alloc (.cells (mc m) 46)).alloc (.cells zTr 37)) = V1 at X1 P1 Z1 B1 T1 ⊢
  have hgl := X1.out.lt
  go_upto_region 3 with (first
    | (refine wpList_load_row rfl 37 (.tmp 2) rfl g rfl 37 (trc x s) (0, 0) _ X1.out Tryz.underlying37 rfl (tr_infoR _ _) ?_)
    | (refine wpList_load_row rfl 46 (.tmp 3) rfl (g + 1) rfl 46 (mc m) (0, 0) _ P1.out Tryz.underlying46 rfl HI.out ?_)
    | (go_at_call 51; refine (refForm_b x s m 5 true HM.out _ HF.out).mono ?_; rintro e V2 ⟨rfl, hb⟩; have X2 := Lib.hid (X1.out.here hb); have P2 := Lib.hid (P1.out.here hb); have Z2 := Lib.hid (Z1.out.here hb); have B2 := Lib.hid (stepB B1.out hb); have T2 := Lib.hid (T1.out.step hb); clear hb))
  have c1 : V2.cell? ⟨g, 1, none⟩ = some (.int .i64 x.st) := X2.out.cell 1
  obtain ⟨At, ct, et⟩ := own_len T2.out.t
  have RT := Lib.hid (show NumR V2 B (.slice At x.tch.length ct) x.tch from by rw [← et]; exact T2.out.t)
  have k9 : V2.cell? ⟨g, 9, none⟩ = some (.slice At x.tch.length ct) := by rw [← et]; exact X2.out.cell 9
  have k1 : V2.cell? ⟨g + 1, 1, none⟩ = some (.int .i64 (fld m 1)) := mc_cell HM.out P2.out (by omega)
  clear et
  obtain ⟨f1, hf1⟩ : ∃ f1, fld m 1 = f1 := ⟨_, rfl⟩
  rw [hf1] at k1 HC
  have HF1 := Lib.hid hf1
  clear hf1
  have k8 : V2.cell? ⟨g + 1, 8, none⟩ = some (.int .i64 (fld m 8)) := mc_cell HM.out P2.out (by omega)
  have E8 := e8
  have EF1 := HF1.out
  rw [EF1] at HG0 HGN HGA HRES
  clear EF1
  go_upto_region 9 with (first
    | (go_at_call 39; refine (refHas_b (B := B) f1 true HC.out _ RT.out (by have := HT.out; omega)).mono ?_; rintro e VV ⟨rfl, hv⟩; obtain rfl := hv.symm; clear hv))
  obtain ⟨Al, cl, el⟩ := own_len T2.out.v
  have RL := Lib.hid (show NumR V2 B (.slice Al x.vts.length cl) x.vts from by rw [← el]; exact T2.out.v)
  have kl : V2.cell? ⟨g, 10, none⟩ = some (.slice Al x.vts.length cl) := by rw [← el]; exact X2.out.cell 10
  clear el
  go_upto_region 10 with (go_at_call 50; refine (refWith_any f1 _ RL.out HV.out.ris (by have := HV.out.len; omega)).mono ?_; rintro e VW ⟨u, rfl, hu, hb⟩; have KL := Lib.hid kl; clear kl; obtain ⟨Au, cu, rfl⟩ := own_len hu; have UW := Lib.hid hu; clear hu; have kw : VW.cell? ⟨g, 10, none⟩ = some (.slice Al x.vts.length cl) := (hb.cell (p := ⟨g, 10, none⟩) X2.out.lt).trans KL.out; have kf := (X2.out.here hb).frozen 10; have SW := Lib.hid hb.size; have XW := Lib.hid (X2.out.here hb); have PW := Lib.hid (P2.out.here hb); have ZW := Lib.hid (Z2.out.here hb); have BW := Lib.hid (stepB B2.out hb); have TW := Lib.hid (T2.out.step hb); clear hb)
  have RV := Lib.hid (show Turn (fun k => k = g) VW (VW.setCell ⟨g, 10, none⟩ (.slice Au (ins f1 x.vts).length cu)) from (Turn.refl (fun k => k = g) VW).setCell (p := ⟨g, 10, none⟩) (fun _ => rfl) _)
  have XY := Lib.hid (show Blk (VW.setCell ⟨g, 10, none⟩ (.slice Au (ins f1 x.vts).length cu)) g 37 (trc (votX x f1) ⟨s.t, .slice Au (ins f1 x.vts).length cu, s.k, s.g⟩) from XW.out.set_ 10 _)
  have ZY := Lib.hid (ZW.out.turn RV.out (fun e => by have e : g + 2 = g := e; omega))
  have TY := Lib.hid (show Tm (VW.setCell ⟨g, 10, none⟩ (.slice Au (ins f1 x.vts).length cu)) 0 (votX x f1) ⟨s.t, .slice Au (ins f1 x.vts).length cu, s.k, s.g⟩ from by
    have := (TW.out.offBR XW.out RV.out).less (Nat.zero_le _)
    have hu := own_offB (own_less UW.out (Nat.zero_le _)) XW.out (by decide) RV.out
    exact ⟨this.t, hu, this.k, this.g⟩)
  have BY := Lib.hid (BW.out.trans (RV.out.below (B := w.heap.size) (fun k hk e => by have := HG.out; omega) BW.out.size))
  clear kw kf RV XW ZW TW BW UW
  generalize VW.setCell ⟨g, 10, none⟩ (.slice Au (ins f1 x.vts).length cu) = VY at XY ZY TY BY ⊢
  generalize (⟨s.t, .slice Au (ins f1 x.vts).length cu, s.k, s.g⟩ : Sl) = s' at XY TY ⊢
  have HTY := Lib.hid (show (votX x f1).tch.length ≤ 900 from HT.out)
  generalize votX x f1 = y at XY TY HG0 HGN HGA HTY HRES ⊢
  obtain ⟨At, ct, et, rt, _, _⟩ := own_rd TY.out.t
  obtain ⟨Ak, ck, ek⟩ := own_len TY.out.v
  have RY := Lib.hid rt
  have KR := Lib.hid (show NumR VY 0 (.slice Ak y.vts.length ck) y.vts from by rw [← ek]; exact TY.out.v)
  have x9 : VY.cell? ⟨g, 9, none⟩ = some (.slice At y.tch.length ct) := by rw [← et]; exact XY.out.cell 9
  have x10 : VY.cell? ⟨g, 10, none⟩ = some (.slice Ak y.vts.length ck) := by rw [← ek]; exact XY.out.cell 10
  have HVL := Lib.hid HG0.out.1
  clear rt et ek k9 k1 k8
  have hty9 := HTY.out
  go_upto_region 11 with fail
  go_loopw [7] (fun s7 wr => ∃ (i q : Nat), s7 = .int .i64 i ∧ i ≤ y.tch.length ∧ (∀ j : Nat, j < i → y.vts.contains (gd y.tch j) = true) ∧ wr = VY.drewN q) (fun s7 _ => y.tch.length - (RowKit.intOf s7).toNat)
  case atStart => exact ⟨0, 0, rfl, Nat.zero_le _, fun j hj => by omega, rfl⟩
  case round =>
    obtain ⟨i, q, rfl, hi, hno, rfl⟩ := hrel
    have HNO := Lib.hid hno
    clear hno
    by_cases hin : i < y.tch.length
    · obtain ⟨b, off, rfl, _, hct⟩ := int_cells RY.out (by omega)
      have k1 := hct i hin
      clear hct
      have d1 : decide ((i : Int) < (y.tch.length : Int)) = true := by simp; omega
      have HMEM := Lib.hid (show gd y.tch i ∈ y.tch from by rw [gd_get hin]; exact List.getElem_mem _)
      obtain ⟨n, hy⟩ : ∃ n, gd y.tch i = n := ⟨_, rfl⟩
      have HY := Lib.hid hy
      rw [hy] at k1
      clear hy
      obtain ⟨r, hr⟩ : ∃ r, y.vts.contains n = r := ⟨_, rfl⟩
      have HR := Lib.hid hr
      clear hr
      have HAS := Lib.hid (fun W h => refHas_b (B := 0) (v := .slice Ak y.vts.length ck) (l := y.vts) n r HR.out W h HVL.out)
      generalize y.vts.length = NK at x10 KR HAS
      go_upto_region 13 with fail
      refine wp_region_held_drew (S := fun w' => w'.cell? ⟨g, 9, none⟩ = some (.slice (some ⟨b, off, none⟩) y.tch.length ct) ∧ w'.cell? ⟨g, 10, none⟩ = some (.slice Ak NK ck) ∧ w'.cell? ⟨b, off + i, none⟩ = some (.int .i64 n)) (by kernel_rfl) ⟨x9, x10, k1⟩ (fun hHeld => ?_)
      refine wpAnyH_take (i := 0) (v := ?_) rfl (by kernel_rfl) (by kernel_rfl) (by kernel_rfl) (fun _ _ _ h => h) (Or.inl ⟨by rfl, ?_⟩) (by assumption) ?_
      rotate_left
      · (intro w0 hSw; (try dsimp only at hSw); go_simp; try with_reducible rfl)
      try simp only [List.getElem_toArray, List.getElem_cons_succ, List.getElem_cons_zero, Act.put, List.setIfInBounds_toArray, List.set_cons_zero, List.set_cons_succ]
      refine wpAnyH_take (i := 1) (v := ?_) rfl (by kernel_rfl) (by kernel_rfl) (by kernel_rfl) (fun _ _ _ h => h) (Or.inl ⟨by rfl, ?_⟩) (by assumption) ?_
      rotate_left
      · (intro w0 hSw; (try dsimp only at hSw); go_simp; try with_reducible rfl)
      try simp only [List.getElem_toArray, List.getElem_cons_succ, List.getElem_cons_zero, Act.put, List.setIfInBounds_toArray, List.set_cons_zero, List.set_cons_succ]
      refine wpAnyH_take (i := 2) (v := ?_) rfl (by kernel_rfl) (by kernel_rfl) (by kernel_rfl) (fun _ _ _ h => h) (Or.inl ⟨by rfl, ?_⟩) (by assumption) ?_
      rotate_left
      · (intro w0 hSw; (try dsimp only at hSw); go_simp; try with_reducible rfl)
      try simp only [List.getElem_toArray, List.getElem_cons_succ, List.getElem_cons_zero, Act.put, List.setIfInBounds_toArray, List.set_cons_zero, List.set_cons_succ]
      refine wpAnyH_take (i := 3) (v := ?_) rfl (by kernel_rfl) (by kernel_rfl) (by kernel_rfl) (fun _ _ _ h => h) (Or.inl ⟨by rfl, ?_⟩) (by assumption) ?_
      rotate_left
      · (intro w0 hSw; (try dsimp only at hSw); go_simp; try with_reducible rfl)
      try simp only [List.getElem_toArray, List.getElem_cons_succ, List.getElem_cons_zero, Act.put, List.setIfInBounds_toArray, List.set_cons_zero, List.set_cons_succ]
      refine wpAnyH_take (i := 4) (v := ?_) rfl (by kernel_rfl) (by kernel_rfl) (by kernel_rfl) (fun _ _ _ h => h) (Or.inl ⟨by rfl, ?_⟩) (by assumption) ?_
      rotate_left
      · (intro w0 hSw; (try dsimp only at hSw); go_simp; try with_reducible rfl)
      try simp only [List.getElem_toArray, List.getElem_cons_succ, List.getElem_cons_zero, Act.put, List.setIfInBounds_toArray, List.set_cons_zero, List.set_cons_succ]
      refine wpAnyH_take (i := 5) (v := ?_) rfl (by kernel_rfl) (by kernel_rfl) (by kernel_rfl) (fun _ _ _ h => h) (Or.inl ⟨by rfl, ?_⟩) (by assumption) ?_
      rotate_left
      · (intro w0 hSw; (try dsimp only at hSw); go_simp; try with_reducible rfl)
      try simp only [List.getElem_toArray, List.getElem_cons_succ, List.getElem_cons_zero, Act.put, List.setIfInBounds_toArray, List.set_cons_zero, List.set_cons_succ]
      refine wpAnyH_take (i := 6) (v := ?_) rfl (by kernel_rfl) (by kernel_rfl) (by kernel_rfl) (fun _ _ _ h => h) (Or.inl ⟨by rfl, ?_⟩) (by assumption) ?_
      rotate_left
      · (intro w0 hSw; (try dsimp only at hSw); go_simp; try with_reducible rfl)
      try simp only [List.getElem_toArray, List.getElem_cons_succ, List.getElem_cons_zero, Act.put, List.setIfInBounds_toArray, List.set_cons_zero, List.set_cons_succ]
      refine wpAnyH_ready (rs := [7]) (by kernel_rfl) (by simp) ?_
      refine AllReadyH.cons rfl (fun K hK => ?_) AllReadyH.nil
      go_simp
      refine (HAS.out _ (own_step KR.out (below_drewN (Below.refl _ _) (q + 1)))).mono ?_
      rintro e VX ⟨rfl, hv⟩
      subst hv
      try go_simp
      refine hK.out _ _ ⟨x9, x10, k1⟩ (fun hHeld => ?_)
      clear hK K
      refine wpAnyH_take (i := 8) (v := ?_) rfl (by kernel_rfl) (by kernel_rfl) (by kernel_rfl) (fun _ _ _ h => h) (Or.inl ⟨by rfl, ?_⟩) (by assumption) ?_
      rotate_left
      · (intro w0 hSw; (try dsimp only at hSw); go_simp; try with_reducible rfl)
      try simp only [List.getElem_toArray, List.getElem_cons_succ, List.getElem_cons_zero, Act.put, List.setIfInBounds_toArray, List.set_cons_zero, List.set_cons_succ]
      refine wpAnyH_done (by kernel_rfl) ?_ _
      clear hHeld
      cases r with
      | false =>
        obtain rfl : res = (y, []) := HRES.out.symm.trans (HGN.out n (by rw [← HY.out]; exact HMEM.out) HR.out)
        have BQ := Lib.hid (show Below VY.heap.size VY (VY.drewN (q + 1)) from below_drewN (Below.refl _ _) (q + 1))
        have XQ := Lib.hid (XY.out.here BQ.out)
        have ZQ := Lib.hid (ZY.out.here BQ.out)
        have TQ := Lib.hid (TY.out.step BQ.out)
        have BQ := Lib.hid (stepB BY.out BQ.out)
        clear x9 x10 k1
        generalize VY.drewN (q + 1) = VQ at XQ ZQ TQ BQ ⊢
        go_wp2_with (first
          | (refine wpList_load_row rfl 37 (.tmp 2) rfl g rfl 37 (trc y s') (0, 0) _ XQ.out Tryz.underlying37 rfl (tr_infoR _ _) ?_)
          | (refine wpList_store_mid (by rfl) 37 (.tmp 4) (.tmp 54) (by rfl) (g + 2) 0 (trc y s') (by rfl) (by rfl) (ZQ.out.there (Nat.le_refl 13)) (tr_infoR _ _) TQ.out.one ?_
             have R4 := Lib.hid (show Turn (fun k => k = g + 2) VQ (VQ.setCells (g + 2) 0 (trc y s').toList) from Turn.setCells (S := fun k => k = g + 2) (fun _ => rfl) _ _ _ (Turn.refl _ _))
             have ZE := Lib.hid (ZQ.out.put (trc y s') rfl)
             have TE := Lib.hid (TQ.out.offBR ZQ.out R4.out)
             have BE := Lib.hid (BQ.out.trans (R4.out.below (B := w.heap.size) (fun k hk e => by have := HG.out; omega) BQ.out.size))
             clear R4
             generalize VQ.setCells (g + 2) 0 (trc y s').toList = WE at ZE TE BE ⊢))
        exact bodyPost_ret (v := .tuple #[.agg (trc y s'), .slice none 0 0, .int .i64 0]) (results_and2 rfl rfl rfl rfl (tr_loadR ZE.out)) rfl ⟨s', _, rfl, TE.out.less (Nat.zero_le _), World.ownsRow_nil _ _ _ _, BE.out⟩
      | true =>
        go_wp2_with fail
        go_roundw
        case rel =>
          refine ⟨i + 1, _, by go_num, by omega, fun j hj => ?_, rfl⟩
          rcases Nat.lt_or_ge j i with h | h
          · exact HNO.out j h
          · obtain rfl : j = i := by omega
            rw [HY.out]; exact HR.out
        case measure => simp [RowKit.intOf]; omega
    · obtain rfl : i = y.tch.length := by omega
      have d1 : decide ((y.tch.length : Int) < (y.tch.length : Int)) = false := by simp
      obtain ⟨z, hz⟩ : ∃ z : Tr, z = { y with st := 3, rs := 0, op := false } := ⟨_, rfl⟩
      have HZ := Lib.hid hz
      obtain rfl : res = (z, eachL z 6 1 z.tch []) := HRES.out.symm.trans (HGA.out HNO.out z hz)
      clear hz
      have BQ := Lib.hid (show Below VY.heap.size VY (VY.drewN q) from below_drewN (Below.refl _ _) q)
      have XQ := Lib.hid (XY.out.here BQ.out)
      have ZQ := Lib.hid (ZY.out.here BQ.out)
      have TQ := Lib.hid (TY.out.step BQ.out)
      have BQ := Lib.hid (stepB BY.out BQ.out)
      have y9 : (VY.drewN q).cell? ⟨g, 9, none⟩ = some (.slice At y.tch.length ct) := x9
      clear x9 x10
      generalize VY.drewN q = VQ at XQ ZQ TQ BQ y9 ⊢
      have HT := HTY
      go_wp2_with (first
        | (refine wpList_load_row rfl 37 (.tmp 2) rfl g rfl 37 (trc y s') (0, 0) _ XQ.out Tryz.underlying37 rfl (tr_infoR _ _) ?_)
        | (go_at_call 52; refine (refDecide_3 y z s' 0 _ TQ.out (by have := HT.out; omega) HZ.out).mono ?_; rintro e V3 ⟨s3, u3, rfl, ht3, hu3, hb3⟩; obtain ⟨Au3, cu3, rfl⟩ := own_len hu3; have Z3 := Lib.hid (ZQ.out.here hb3); have B3 := Lib.hid (stepB BQ.out hb3); have T3 := Lib.hid ht3; have U3 := Lib.hid (own_less hu3 BQ.out.size); clear ht3 hu3 hb3)
        | (refine wpList_store_mid (by rfl) 37 (.tmp 4) (.tmp 57) (by rfl) (g + 2) 0 (trc z s3) (by rfl) (by rfl) (Z3.out.there (Nat.le_refl 13)) (tr_infoR _ _) T3.out.one ?_
           have R4 := Lib.hid (show Turn (fun k => k = g + 2) V3 (V3.setCells (g + 2) 0 (trc z s3).toList) from Turn.setCells (S := fun k => k = g + 2) (fun _ => rfl) _ _ _ (Turn.refl _ _))
           have ZE := Lib.hid (Z3.out.put (trc z s3) rfl)
           have TE := Lib.hid (T3.out.offBR Z3.out R4.out)
           have BE := Lib.hid (B3.out.trans (R4.out.below (B := w.heap.size) (fun k hk e => by have := HG.out; omega) B3.out.size))
           have UE := Lib.hid (own_offB U3.out Z3.out (by decide) R4.out)
           clear R4
           generalize V3.setCells (g + 2) 0 (trc z s3).toList = WE at ZE TE BE UE ⊢))
      exact bodyPost_ret (v := .tuple #[.agg (trc z s3), .slice Au3 (eachL z 6 1 z.tch []).length cu3, .int .i64 0]) (results_and2 rfl rfl rfl rfl (tr_loadR ZE.out)) rfl ⟨s3, _, rfl, TE.out.less (Nat.zero_le _), UE.out, BE.out⟩
theorem refVote_any {B : Nat} (x : Tr) (s : Sl) (m : List Int) (hm : m.length = 28) (w : World) (h : Tm w B x s) (ht : x.tch.length ≤ 900) (hv : Shs x.vts) (hr : x.st = 2 → x.rs = 0) :
    Calls Tryz.prog 30 #[.agg (trc x s), .agg (mc m)] w (ActP w (votL x m)) := by
  unfold votL
  split
  · rename_i hf; exact refVote_5 x s m hm hf w h ht
  · rename_i hf
    have hf : isOf x m [5] = true := by simpa using hf
    split
    · rename_i h1; exact refVote_11 x s m hm hf h1 w h ht
    · rename_i h1
      have h1 : x.st = 2 := by omega
      split
      · rename_i hc; exact refVote_10 x s m hm hf h1 hc w h ht
      · rename_i hc
        have hc : x.tch.contains (fld m 1) = true := by simpa using hc
        split
        · rename_i h8
          have e : abtL x 2 = (abtX x 2, x.tch.map (newsL (abtX x 2)), 0) := by unfold abtL; rw [if_neg (by omega), if_neg (by unfold decided; simp; omega)]
          rw [e, ← eachL_abt]
          exact refVote_a x s m hm hf h1 hc h8 (abtX x 2) rfl w h ht
        · rename_i h8
          exact refVote_g x s m hm hf h1 (hr h1) hc h8 hv _ rfl w h ht
end Go.Proofs.YthfhhapefjideaaGreat
