/- The document's Ack. -/
import Derived.Test.YthfhhapefjideaaGreatTxRg
namespace Go.Proofs.YthfhhapefjideaaGreat
open Go.RowKit
set_option linter.unusedVariables false
set_option linter.unusedSimpArgs false

/-- What a call of the document's that sends nothing leaves. -/
def ActQ (w : World) (y : Tr) (c : Int) (e : Ending) (w' : World) : Prop := ∃ s', e = .returned (.tuple #[.agg (trc y s'), .int .i64 c]) ∧ Tm w' 0 y s' ∧ Below w.heap.size w w'
theorem refForm_b (x : Tr) (s : Sl) (m : List Int) (k : Int) (b : Bool) (hm : m.length = 28) (w : World) (hb : isOf x m [k] = b) :
    Calls Tryz.prog 51 #[.agg (trc x s), .agg (mc m), .int .i64 k] w fun e w' => e = .returned (.bool b) ∧ Below w.heap.size w w' := by rw [← hb]; exact refForm_any x s m k hm w
set_option maxRecDepth 100000 in
set_option maxHeartbeats 8000000 in
theorem refAck_5 {B : Nat} (x : Tr) (s : Sl) (m : List Int) (hm : m.length = 28) (hf : isOf x m [7] = false) (w : World) (h : Tm w B x s) (ht : x.tch.length ≤ 900) :
    Calls Tryz.prog 32 #[.agg (trc x s), .agg (mc m)] w (ActQ w x 5) := by
  have X1 := Lib.hid (((Blk.new w 37 (trc x s)).alloc (.cells (mc m) 46)).alloc (.cells zTr 37))
  have P1 := Lib.hid ((Blk.new_at (w := w.alloc (.cells (trc x s) 37)) (n := w.heap.size + 1) (by simp) 46 (mc m)).alloc (.cells zTr 37))
  have Z1 := Lib.hid (show Blk (((w.alloc (.cells (trc x s) 37)).alloc (.cells (mc m) 46)).alloc (.cells zTr 37)) (w.heap.size + 2) 37 (trc noTr noSl) from Blk.new_at (by simp) _ _)
  have B1 := Lib.hid (((Joins.below_alloc1 w (.cells (trc x s) 37)).alloc (by simp <;> omega) (.cells (mc m) 46)).alloc (by simp <;> omega) (.cells zTr 37))
  have T1 := Lib.hid (h.step B1.out)
  have HT := Lib.hid ht
  have HM := Lib.hid hm
  have HI := Lib.hid (mc_info hm)
  clear hm
  have HF := Lib.hid hf
  clear hf
  clear h ht
  go_enter Tryz.func32, Tryz.ntmps32
  go_upto_region 1 with fail
  obtain ⟨g, hg⟩ : ∃ g, g = w.heap.size := ⟨_, rfl⟩
  have HG := Lib.hid hg
  rw [← hg] at X1 P1 Z1 ⊢
  clear hg
  generalize (((w.alloc (.cells (trc x s) 37)).alloc (.cells (mc m) 46)).alloc (.cells zTr 37)) = V1 at X1 P1 Z1 B1 T1 ⊢
  have hgl := X1.out.lt
  go_upto_region 2 with (first
    | (refine wpList_load_row rfl 37 (.tmp 2) rfl g rfl 37 (trc x s) (0, 0) _ X1.out Tryz.underlying37 rfl (tr_infoR _ _) ?_)
    | (refine wpList_load_row rfl 46 (.tmp 3) rfl (g + 1) rfl 46 (mc m) (0, 0) _ P1.out Tryz.underlying46 rfl HI.out ?_)
    | (go_at_call 51; refine (refForm_b x s m 7 false HM.out _ HF.out).mono ?_; rintro e V2 ⟨rfl, hb⟩; have X2 := Lib.hid (X1.out.here hb); have P2 := Lib.hid (P1.out.here hb); have Z2 := Lib.hid (Z1.out.here hb); have B2 := Lib.hid (stepB B1.out hb); have T2 := Lib.hid (T1.out.step hb); clear hb))
  go_wp2_with (first
    | (refine wpList_load_row rfl 37 (.tmp 2) rfl g rfl 37 (trc x s) (0, 0) _ X2.out Tryz.underlying37 rfl (tr_infoR _ _) ?_)
    | (refine wpList_store_mid (by rfl) 37 (.tmp 4) (.tmp 10) (by rfl) (g + 2) 0 (trc x s) (by rfl) (by rfl) (Z2.out.there (Nat.le_refl 13)) (tr_infoR _ _) T2.out.one ?_
       have R4 := Lib.hid (show Turn (fun k => k = g + 2) V2 (V2.setCells (g + 2) 0 (trc x s).toList) from Turn.setCells (S := fun k => k = g + 2) (fun _ => rfl) _ _ _ (Turn.refl _ _))
       have ZE := Lib.hid (Z2.out.put (trc x s) rfl)
       have TE := Lib.hid (T2.out.offBR Z2.out R4.out)
       have BE := Lib.hid (B2.out.trans (R4.out.below (B := w.heap.size) (fun k hk e => by have := HG.out; omega) B2.out.size))
       clear R4
       generalize V2.setCells (g + 2) 0 (trc x s).toList = WE at ZE TE BE ⊢))
  exact bodyPost_ret (v := .tuple #[.agg (trc x s), .int .i64 5]) (results_cell_and rfl rfl rfl (tr_loadR ZE.out)) rfl ⟨s, rfl, TE.out.less (Nat.zero_le _), BE.out⟩
set_option maxRecDepth 100000 in
set_option maxHeartbeats 8000000 in
theorem refAck_11 {B : Nat} (x : Tr) (s : Sl) (m : List Int) (hm : m.length = 28) (hf : isOf x m [7] = true) (hd : decided x = false) (w : World) (h : Tm w B x s) (ht : x.tch.length ≤ 900) :
    Calls Tryz.prog 32 #[.agg (trc x s), .agg (mc m)] w (ActQ w x 11) := by
  have X1 := Lib.hid (((Blk.new w 37 (trc x s)).alloc (.cells (mc m) 46)).alloc (.cells zTr 37))
  have P1 := Lib.hid ((Blk.new_at (w := w.alloc (.cells (trc x s) 37)) (n := w.heap.size + 1) (by simp) 46 (mc m)).alloc (.cells zTr 37))
  have Z1 := Lib.hid (show Blk (((w.alloc (.cells (trc x s) 37)).alloc (.cells (mc m) 46)).alloc (.cells zTr 37)) (w.heap.size + 2) 37 (trc noTr noSl) from Blk.new_at (by simp) _ _)
  have B1 := Lib.hid (((Joins.below_alloc1 w (.cells (trc x s) 37)).alloc (by simp <;> omega) (.cells (mc m) 46)).alloc (by simp <;> omega) (.cells zTr 37))
  have T1 := Lib.hid (h.step B1.out)
  have HT := Lib.hid ht
  have HM := Lib.hid hm
  have HI := Lib.hid (mc_info hm)
  clear hm
  have HF := Lib.hid hf
  clear hf
  have HD := Lib.hid hd
  clear hd
  clear h ht
  go_enter Tryz.func32, Tryz.ntmps32
  go_upto_region 1 with fail
  obtain ⟨g, hg⟩ : ∃ g, g = w.heap.size := ⟨_, rfl⟩
  have HG := Lib.hid hg
  rw [← hg] at X1 P1 Z1 ⊢
  clear hg
  generalize (((w.alloc (.cells (trc x s) 37)).alloc (.cells (mc m) 46)).alloc (.cells zTr 37)) = V1 at X1 P1 Z1 B1 T1 ⊢
  have hgl := X1.out.lt
  go_upto_region 3 with (first
    | (refine wpList_load_row rfl 37 (.tmp 2) rfl g rfl 37 (trc x s) (0, 0) _ X1.out Tryz.underlying37 rfl (tr_infoR _ _) ?_)
    | (refine wpList_load_row rfl 46 (.tmp 3) rfl (g + 1) rfl 46 (mc m) (0, 0) _ P1.out Tryz.underlying46 rfl HI.out ?_)
    | (go_at_call 51; refine (refForm_b x s m 7 true HM.out _ HF.out).mono ?_; rintro e V2 ⟨rfl, hb⟩; have X2 := Lib.hid (X1.out.here hb); have P2 := Lib.hid (P1.out.here hb); have Z2 := Lib.hid (Z1.out.here hb); have B2 := Lib.hid (stepB B1.out hb); have T2 := Lib.hid (T1.out.step hb); clear hb))
  go_upto_region 4 with (first
    | (refine wpList_load_row rfl 37 (.tmp 2) rfl g rfl 37 (trc x s) (0, 0) _ X2.out Tryz.underlying37 rfl (tr_infoR _ _) ?_)
    | (go_at_call 15; refine (refDecided_b x s _ false HD.out).mono ?_; rintro e V3 ⟨rfl, hb⟩; have X3 := Lib.hid (X2.out.here hb); have P3 := Lib.hid (P2.out.here hb); have Z3 := Lib.hid (Z2.out.here hb); have B3 := Lib.hid (stepB B2.out hb); have T3 := Lib.hid (T2.out.step hb); clear hb))
  go_wp2_with (first
    | (refine wpList_load_row rfl 37 (.tmp 2) rfl g rfl 37 (trc x s) (0, 0) _ X3.out Tryz.underlying37 rfl (tr_infoR _ _) ?_)
    | (refine wpList_store_mid (by rfl) 37 (.tmp 4) (.tmp 14) (by rfl) (g + 2) 0 (trc x s) (by rfl) (by rfl) (Z3.out.there (Nat.le_refl 13)) (tr_infoR _ _) T3.out.one ?_
       have R4 := Lib.hid (show Turn (fun k => k = g + 2) V3 (V3.setCells (g + 2) 0 (trc x s).toList) from Turn.setCells (S := fun k => k = g + 2) (fun _ => rfl) _ _ _ (Turn.refl _ _))
       have ZE := Lib.hid (Z3.out.put (trc x s) rfl)
       have TE := Lib.hid (T3.out.offBR Z3.out R4.out)
       have BE := Lib.hid (B3.out.trans (R4.out.below (B := w.heap.size) (fun k hk e => by have := HG.out; omega) B3.out.size))
       clear R4
       generalize V3.setCells (g + 2) 0 (trc x s).toList = WE at ZE TE BE ⊢))
  exact bodyPost_ret (v := .tuple #[.agg (trc x s), .int .i64 11]) (results_cell_and rfl rfl rfl (tr_loadR ZE.out)) rfl ⟨s, rfl, TE.out.less (Nat.zero_le _), BE.out⟩
set_option maxRecDepth 100000 in
set_option maxHeartbeats 8000000 in
theorem refAck_10 {B : Nat} (x : Tr) (s : Sl) (m : List Int) (hm : m.length = 28) (hf : isOf x m [7] = true) (hd : decided x = true) (hc : x.tch.contains (fld m 1) = false) (w : World) (h : Tm w B x s) (ht : x.tch.length ≤ 900) :
    Calls Tryz.prog 32 #[.agg (trc x s), .agg (mc m)] w (ActQ w x 10) := by
  have X1 := Lib.hid (((Blk.new w 37 (trc x s)).alloc (.cells (mc m) 46)).alloc (.cells zTr 37))
  have P1 := Lib.hid ((Blk.new_at (w := w.alloc (.cells (trc x s) 37)) (n := w.heap.size + 1) (by simp) 46 (mc m)).alloc (.cells zTr 37))
  have Z1 := Lib.hid (show Blk (((w.alloc (.cells (trc x s) 37)).alloc (.cells (mc m) 46)).alloc (.cells zTr 37)) (w.heap.size + 2) 37 (trc noTr noSl) from Blk.new_at (by simp) _ _)
  have B1 := Lib.hid (((Joins.below_alloc1 w (.cells (trc x s) 37)).alloc (by simp <;> omega) (.cells (mc m) 46)).alloc (by simp <;> omega) (.cells zTr 37))
  have T1 := Lib.hid (h.step B1.out)
  have HT := Lib.hid ht
  have HM := Lib.hid hm
  have HI := Lib.hid (mc_info hm)
  clear hm
  have HF := Lib.hid hf
  clear hf
  have HD := Lib.hid hd
  clear hd
  have HC := Lib.hid hc
  clear hc
  clear h ht
  go_enter Tryz.func32, Tryz.ntmps32
  go_upto_region 1 with fail
  obtain ⟨g, hg⟩ : ∃ g, g = w.heap.size := ⟨_, rfl⟩
  have HG := Lib.hid hg
  rw [← hg] at X1 P1 Z1 ⊢
  clear hg
  generalize (((w.alloc (.cells (trc x s) 37)).alloc (.cells (mc m) 46)).alloc (.cells zTr 37)) = V1 at X1 P1 Z1 B1 T1 ⊢
  have hgl := X1.out.lt
  go_upto_region 3 with (first
    | (refine wpList_load_row rfl 37 (.tmp 2) rfl g rfl 37 (trc x s) (0, 0) _ X1.out Tryz.underlying37 rfl (tr_infoR _ _) ?_)
    | (refine wpList_load_row rfl 46 (.tmp 3) rfl (g + 1) rfl 46 (mc m) (0, 0) _ P1.out Tryz.underlying46 rfl HI.out ?_)
    | (go_at_call 51; refine (refForm_b x s m 7 true HM.out _ HF.out).mono ?_; rintro e V2 ⟨rfl, hb⟩; have X2 := Lib.hid (X1.out.here hb); have P2 := Lib.hid (P1.out.here hb); have Z2 := Lib.hid (Z1.out.here hb); have B2 := Lib.hid (stepB B1.out hb); have T2 := Lib.hid (T1.out.step hb); clear hb))
  go_upto_region 5 with (first
    | (refine wpList_load_row rfl 37 (.tmp 2) rfl g rfl 37 (trc x s) (0, 0) _ X2.out Tryz.underlying37 rfl (tr_infoR _ _) ?_)
    | (go_at_call 15; refine (refDecided_b x s _ true HD.out).mono ?_; rintro e V3 ⟨rfl, hb⟩; have X3 := Lib.hid (X2.out.here hb); have P3 := Lib.hid (P2.out.here hb); have Z3 := Lib.hid (Z2.out.here hb); have B3 := Lib.hid (stepB B2.out hb); have T3 := Lib.hid (T2.out.step hb); clear hb))
  obtain ⟨At, ct, et⟩ := own_len T3.out.t
  have RT := Lib.hid (show NumR V3 B (.slice At x.tch.length ct) x.tch from by rw [← et]; exact T3.out.t)
  have k9 : V3.cell? ⟨g, 9, none⟩ = some (.slice At x.tch.length ct) := by rw [← et]; exact X3.out.cell 9
  have k1 : V3.cell? ⟨g + 1, 1, none⟩ = some (.int .i64 (fld m 1)) := mc_cell HM.out P3.out (by omega)
  clear et
  obtain ⟨f1, hf1⟩ : ∃ f1, fld m 1 = f1 := ⟨_, rfl⟩
  rw [hf1] at k1 HC
  have HF1 := Lib.hid hf1
  clear hf1
  go_upto_region 6 with (first
    | (go_at_call 39; refine (refHas_b (B := B) f1 false HC.out _ RT.out (by have := HT.out; omega)).mono ?_; rintro e VV ⟨rfl, hv⟩; obtain rfl := hv.symm; clear hv))
  go_wp2_with (first
    | (refine wpList_load_row rfl 37 (.tmp 2) rfl g rfl 37 (trc x s) (0, 0) _ X3.out Tryz.underlying37 rfl (tr_infoR _ _) ?_)
    | (refine wpList_store_mid (by rfl) 37 (.tmp 4) (.tmp 21) (by rfl) (g + 2) 0 (trc x s) (by rfl) (by rfl) (Z3.out.there (Nat.le_refl 13)) (tr_infoR _ _) T3.out.one ?_
       have R4 := Lib.hid (show Turn (fun k => k = g + 2) V3 (V3.setCells (g + 2) 0 (trc x s).toList) from Turn.setCells (S := fun k => k = g + 2) (fun _ => rfl) _ _ _ (Turn.refl _ _))
       have ZE := Lib.hid (Z3.out.put (trc x s) rfl)
       have TE := Lib.hid (T3.out.offBR Z3.out R4.out)
       have BE := Lib.hid (B3.out.trans (R4.out.below (B := w.heap.size) (fun k hk e => by have := HG.out; omega) B3.out.size))
       clear R4
       generalize V3.setCells (g + 2) 0 (trc x s).toList = WE at ZE TE BE ⊢))
  exact bodyPost_ret (v := .tuple #[.agg (trc x s), .int .i64 10]) (results_cell_and rfl rfl rfl (tr_loadR ZE.out)) rfl ⟨s, rfl, TE.out.less (Nat.zero_le _), BE.out⟩
set_option maxRecDepth 100000 in
set_option maxHeartbeats 8000000 in
theorem refAck_0 {B : Nat} (x : Tr) (s : Sl) (m : List Int) (hm : m.length = 28) (hf : isOf x m [7] = true) (hd : decided x = true) (hc : x.tch.contains (fld m 1) = true) (ha : Shs x.acks) (y : Tr) (hy : ackX x (fld m 1) = y) (w : World) (h : Tm w B x s) (ht : x.tch.length ≤ 900) :
    Calls Tryz.prog 32 #[.agg (trc x s), .agg (mc m)] w (ActQ w y 0) := by
  have X1 := Lib.hid (((Blk.new w 37 (trc x s)).alloc (.cells (mc m) 46)).alloc (.cells zTr 37))
  have P1 := Lib.hid ((Blk.new_at (w := w.alloc (.cells (trc x s) 37)) (n := w.heap.size + 1) (by simp) 46 (mc m)).alloc (.cells zTr 37))
  have Z1 := Lib.hid (show Blk (((w.alloc (.cells (trc x s) 37)).alloc (.cells (mc m) 46)).alloc (.cells zTr 37)) (w.heap.size + 2) 37 (trc noTr noSl) from Blk.new_at (by simp) _ _)
  have B1 := Lib.hid (((Joins.below_alloc1 w (.cells (trc x s) 37)).alloc (by simp <;> omega) (.cells (mc m) 46)).alloc (by simp <;> omega) (.cells zTr 37))
  have T1 := Lib.hid (h.step B1.out)
  have HT := Lib.hid ht
  have HM := Lib.hid hm
  have HI := Lib.hid (mc_info hm)
  clear hm
  have HF := Lib.hid hf
  clear hf
  have HD := Lib.hid hd
  clear hd
  have HC := Lib.hid hc
  clear hc
  have HA := Lib.hid ha
  have HY := Lib.hid hy
  clear ha hy
  clear h ht
  go_enter Tryz.func32, Tryz.ntmps32
  go_upto_region 1 with fail
  obtain ⟨g, hg⟩ : ∃ g, g = w.heap.size := ⟨_, rfl⟩
  have HG := Lib.hid hg
  rw [← hg] at X1 P1 Z1 ⊢
  clear hg
  generalize (((w.alloc (.cells (trc x s) 37)).alloc (.cells (mc m) 46)).alloc (.cells zTr 37)) = V1 at X1 P1 Z1 B1 T1 ⊢
  have hgl := X1.out.lt
  go_upto_region 3 with (first
    | (refine wpList_load_row rfl 37 (.tmp 2) rfl g rfl 37 (trc x s) (0, 0) _ X1.out Tryz.underlying37 rfl (tr_infoR _ _) ?_)
    | (refine wpList_load_row rfl 46 (.tmp 3) rfl (g + 1) rfl 46 (mc m) (0, 0) _ P1.out Tryz.underlying46 rfl HI.out ?_)
    | (go_at_call 51; refine (refForm_b x s m 7 true HM.out _ HF.out).mono ?_; rintro e V2 ⟨rfl, hb⟩; have X2 := Lib.hid (X1.out.here hb); have P2 := Lib.hid (P1.out.here hb); have Z2 := Lib.hid (Z1.out.here hb); have B2 := Lib.hid (stepB B1.out hb); have T2 := Lib.hid (T1.out.step hb); clear hb))
  go_upto_region 5 with (first
    | (refine wpList_load_row rfl 37 (.tmp 2) rfl g rfl 37 (trc x s) (0, 0) _ X2.out Tryz.underlying37 rfl (tr_infoR _ _) ?_)
    | (go_at_call 15; refine (refDecided_b x s _ true HD.out).mono ?_; rintro e V3 ⟨rfl, hb⟩; have X3 := Lib.hid (X2.out.here hb); have P3 := Lib.hid (P2.out.here hb); have Z3 := Lib.hid (Z2.out.here hb); have B3 := Lib.hid (stepB B2.out hb); have T3 := Lib.hid (T2.out.step hb); clear hb))
  obtain ⟨At, ct, et⟩ := own_len T3.out.t
  have RT := Lib.hid (show NumR V3 B (.slice At x.tch.length ct) x.tch from by rw [← et]; exact T3.out.t)
  have k9 : V3.cell? ⟨g, 9, none⟩ = some (.slice At x.tch.length ct) := by rw [← et]; exact X3.out.cell 9
  have k1 : V3.cell? ⟨g + 1, 1, none⟩ = some (.int .i64 (fld m 1)) := mc_cell HM.out P3.out (by omega)
  clear et
  obtain ⟨f1, hf1⟩ : ∃ f1, fld m 1 = f1 := ⟨_, rfl⟩
  rw [hf1] at k1 HC
  have HF1 := Lib.hid hf1
  clear hf1
  rw [HF1.out] at HY
  go_upto_region 7 with (first
    | (go_at_call 39; refine (refHas_b (B := B) f1 true HC.out _ RT.out (by have := HT.out; omega)).mono ?_; rintro e VV ⟨rfl, hv⟩; obtain rfl := hv.symm; clear hv))
  obtain ⟨Al, cl, el⟩ := own_len T3.out.k
  have RL := Lib.hid (show NumR V3 B (.slice Al x.acks.length cl) x.acks from by rw [← el]; exact T3.out.k)
  have kl : V3.cell? ⟨g, 11, none⟩ = some (.slice Al x.acks.length cl) := by rw [← el]; exact X3.out.cell 11
  clear el
  go_upto_region 8 with (go_at_call 50; refine (refWith_any f1 _ RL.out HA.out.ris (by have := HA.out.len; omega)).mono ?_; rintro e VW ⟨u, rfl, hu, hb⟩; have KL := Lib.hid kl; clear kl; obtain ⟨Au, cu, rfl⟩ := own_len hu; have UW := Lib.hid hu; clear hu; have kw : VW.cell? ⟨g, 11, none⟩ = some (.slice Al x.acks.length cl) := (hb.cell (p := ⟨g, 11, none⟩) X3.out.lt).trans KL.out; have kf := (X3.out.here hb).frozen 11; have SW := Lib.hid hb.size; have XW := Lib.hid (X3.out.here hb); have PW := Lib.hid (P3.out.here hb); have ZW := Lib.hid (Z3.out.here hb); have BW := Lib.hid (stepB B3.out hb); have TW := Lib.hid (T3.out.step hb); clear hb)
  have RV := Lib.hid (show Turn (fun k => k = g) VW (VW.setCell ⟨g, 11, none⟩ (.slice Au (ins f1 x.acks).length cu)) from (Turn.refl (fun k => k = g) VW).setCell (p := ⟨g, 11, none⟩) (fun _ => rfl) _)
  have XY := Lib.hid (show Blk (VW.setCell ⟨g, 11, none⟩ (.slice Au (ins f1 x.acks).length cu)) g 37 (trc (ackX x f1) ⟨s.t, s.v, .slice Au (ins f1 x.acks).length cu, s.g⟩) from XW.out.set_ 11 _)
  have ZY := Lib.hid (ZW.out.turn RV.out (fun e => by have e : g + 2 = g := e; omega))
  have TY := Lib.hid (show Tm (VW.setCell ⟨g, 11, none⟩ (.slice Au (ins f1 x.acks).length cu)) 0 (ackX x f1) ⟨s.t, s.v, .slice Au (ins f1 x.acks).length cu, s.g⟩ from by
    have := (TW.out.offBR XW.out RV.out).less (Nat.zero_le _)
    have hu := own_offB (own_less UW.out (Nat.zero_le _)) XW.out (by decide) RV.out
    exact ⟨this.t, this.v, hu, this.g⟩)
  have BY := Lib.hid (BW.out.trans (RV.out.below (B := w.heap.size) (fun k hk e => by have := HG.out; omega) BW.out.size))
  clear kw kf RV XW ZW TW BW UW
  generalize VW.setCell ⟨g, 11, none⟩ (.slice Au (ins f1 x.acks).length cu) = VY at XY ZY TY BY ⊢
  generalize (⟨s.t, s.v, .slice Au (ins f1 x.acks).length cu, s.g⟩ : Sl) = s' at XY TY ⊢
  rw [HY.out] at XY TY
  go_wp2_with (first
    | (refine wpList_load_row rfl 37 (.tmp 2) rfl g rfl 37 (trc y s') (0, 0) _ XY.out Tryz.underlying37 rfl (tr_infoR _ _) ?_)
    | (refine wpList_store_mid (by rfl) 37 (.tmp 4) (.tmp 28) (by rfl) (g + 2) 0 (trc y s') (by rfl) (by rfl) (ZY.out.there (Nat.le_refl 13)) (tr_infoR _ _) TY.out.one ?_
       have R4 := Lib.hid (show Turn (fun k => k = g + 2) VY (VY.setCells (g + 2) 0 (trc y s').toList) from Turn.setCells (S := fun k => k = g + 2) (fun _ => rfl) _ _ _ (Turn.refl _ _))
       have ZE := Lib.hid (ZY.out.put (trc y s') rfl)
       have TE := Lib.hid (TY.out.offBR ZY.out R4.out)
       have BE := Lib.hid (BY.out.trans (R4.out.below (B := w.heap.size) (fun k hk e => by have := HG.out; omega) BY.out.size))
       clear R4
       generalize VY.setCells (g + 2) 0 (trc y s').toList = WE at ZE TE BE ⊢))
  exact bodyPost_ret (v := .tuple #[.agg (trc y s'), .int .i64 0]) (results_cell_and rfl rfl rfl (tr_loadR ZE.out)) rfl ⟨s', rfl, TE.out.less (Nat.zero_le _), BE.out⟩
theorem refAck_any {B : Nat} (x : Tr) (s : Sl) (m : List Int) (hm : m.length = 28) (w : World) (h : Tm w B x s) (ht : x.tch.length ≤ 900) (ha : Shs x.acks) :
    Calls Tryz.prog 32 #[.agg (trc x s), .agg (mc m)] w (ActQ w (ackL x m).1 (ackL x m).2.2) := by
  unfold ackL
  split
  · rename_i hf; exact refAck_5 x s m hm hf w h ht
  · rename_i hf
    have hf : isOf x m [7] = true := by simpa using hf
    split
    · rename_i hd; exact refAck_11 x s m hm hf hd w h ht
    · rename_i hd
      have hd : decided x = true := by simpa using hd
      split
      · rename_i hc; exact refAck_10 x s m hm hf hd hc w h ht
      · rename_i hc
        exact refAck_0 x s m hm hf hd (by simpa using hc) ha _ rfl w h ht
end Go.Proofs.YthfhhapefjideaaGreat
