/- The document's Answered. -/
import Derived.Test.YthfhhapefjideaaGreatTxRi
namespace Go.Proofs.YthfhhapefjideaaGreat
open Go.RowKit
set_option linter.unusedVariables false
set_option linter.unusedSimpArgs false

theorem isOf_two (x : Tr) (m : List Int) : isOf x m [2, 3] = (isOf x m [2] || isOf x m [3]) := by
  unfold isOf
  cases h : (decide (fld m 3 = x.tx) && mayB m) <;> simp
theorem own_emptyN (V : World) {base size : Nat} (t : TypeId) (hb : base ≤ V.heap.size) : (V.alloc (.cells #[] t)).ownsRow base t size (.slice (some ⟨V.heap.size, 0, none⟩) 0 0) 0 [] :=
  ⟨by simp, .inr ⟨_, _, #[], rfl, hb, Blk.new V t #[], Nat.le_refl _, by simp only [maxLen]; omega, by simp, by simp⟩⟩
theorem readsG_blk {w : World} {g size : Nat} {t : TypeId} {l : List Int} (h : Blk w g t (ints l).toArray) (hl : l.length = size) : Reads w w.heap.size size (some ⟨g, 0, none⟩) 1 (ints l) :=
  ⟨by rw [ints_length]; omega, fun _ => ⟨_, rfl, h.lt, fun j u hu => by
    have h1 := h.cell j
    have h2 : (⟨g, 0, none⟩ : Addr).add j = ⟨g, j, none⟩ := by unfold Addr.add; split <;> simp_all
    rw [h2, h1]; simpa using hu⟩⟩
set_option maxRecDepth 100000 in
set_option maxHeartbeats 8000000 in
theorem refAns_5 {B : Nat} (x : Tr) (s : Sl) (m : List Int) (hm : m.length = 28) (hf : isOf x m [2] = false) (hf3 : isOf x m [3] = false) (w : World) (h : Tm w B x s) (ht : x.tch.length ≤ 900) :
    Calls Tryz.prog 28 #[.agg (trc x s), .agg (mc m)] w (ActQ w x 5) := by
  have X1 := Lib.hid (((Blk.new w 37 (trc x s)).alloc (.cells (mc m) 46)).alloc (.cells zTr 37))
  have P1 := Lib.hid ((Blk.new_at (w := w.alloc (.cells (trc x s) 37)) (n := w.heap.size + 1) (by simp) 46 (mc m)).alloc (.cells zTr 37))
  have Z1 := Lib.hid (show Blk (((w.alloc (.cells (trc x s) 37)).alloc (.cells (mc m) 46)).alloc (.cells zTr 37)) (w.heap.size + 2) 37 (trc noTr noSl) from Blk.new_at (by simp) _ _)
  have B1 := Lib.hid (((Joins.below_alloc1 w (.cells (trc x s) 37)).alloc (by simp <;> omega) (.cells (mc m) 46)).alloc (by simp <;> omega) (.cells zTr 37))
  have T1 := Lib.hid (h.step B1.out)
  have HT := Lib.hid ht
  have HM := Lib.hid hm
  have HI := Lib.hid (mc_info hm)
  clear hm
  have HF := Lib.hid hf
  have HF3 := Lib.hid hf3
  clear hf hf3
  clear h ht
  go_enter Tryz.func28, Tryz.ntmps28
  go_upto_region 1 with fail
  obtain ⟨g, hg⟩ : ∃ g, g = w.heap.size := ⟨_, rfl⟩
  have HG := Lib.hid hg
  rw [← hg] at X1 P1 Z1 ⊢
  clear hg
  generalize (((w.alloc (.cells (trc x s) 37)).alloc (.cells (mc m) 46)).alloc (.cells zTr 37)) = V1 at X1 P1 Z1 B1 T1 ⊢
  have hgl := X1.out.lt
  have TOK1 := Lib.hid True.intro
  go_upto_region 2 with (first
    | (refine wpList_load_row rfl 37 (.tmp 2) rfl g rfl 37 (trc x s) (0, 0) _ X1.out Tryz.underlying37 rfl (tr_infoR _ _) ?_)
    | (refine wpList_load_row rfl 46 (.tmp 3) rfl (g + 1) rfl 46 (mc m) (0, 0) _ P1.out Tryz.underlying46 rfl HI.out ?_)
    | (have _t := TOK1; go_at_call 51; refine (refForm_b x s m 2 false HM.out _ HF.out).mono ?_; rintro e V2 ⟨rfl, hb⟩; have X2 := Lib.hid (X1.out.here hb); have P2 := Lib.hid (P1.out.here hb); have Z2 := Lib.hid (Z1.out.here hb); have B2 := Lib.hid (stepB B1.out hb); have T2 := Lib.hid (T1.out.step hb); clear hb; clear _t TOK1; have TOK2 := Lib.hid True.intro)
    | (have _t := TOK2; refine wpList_load_row_g (by rfl) 37 (.tmp 2) rfl g rfl 37 (trc x s) (0, 0) _ X2.out Tryz.underlying37 rfl (tr_infoR _ _) ?_)
    | (have _t := TOK2; refine wpList_load_row_g (by rfl) 46 (.tmp 3) rfl (g + 1) rfl 46 (mc m) (0, 0) _ P2.out Tryz.underlying46 rfl HI.out ?_)
    | (have _t := TOK2; go_at_call 51; refine (refForm_b x s m 3 false HM.out _ HF3.out).mono ?_; rintro e V3 ⟨rfl, hb⟩; have X3 := Lib.hid (X2.out.here hb); have P3 := Lib.hid (P2.out.here hb); have Z3 := Lib.hid (Z2.out.here hb); have B3 := Lib.hid (stepB B2.out hb); have T3 := Lib.hid (T2.out.step hb); clear hb))
  go_wp2_with (first
    | (refine wpList_load_row rfl 37 (.tmp 2) rfl g rfl 37 (trc x s) (0, 0) _ X3.out Tryz.underlying37 rfl (tr_infoR _ _) ?_)
    | (refine wpList_store_mid (by rfl) 37 (.tmp 4) (.tmp 16) (by rfl) (g + 2) 0 (trc x s) (by rfl) (by rfl) (Z3.out.there (Nat.le_refl 13)) (tr_infoR _ _) T3.out.one ?_
       have R4 := Lib.hid (show Turn (fun k => k = g + 2) V3 (V3.setCells (g + 2) 0 (trc x s).toList) from Turn.setCells (S := fun k => k = g + 2) (fun _ => rfl) _ _ _ (Turn.refl _ _))
       have ZE := Lib.hid (Z3.out.put (trc x s) rfl)
       have TE := Lib.hid (T3.out.offBR Z3.out R4.out)
       have BE := Lib.hid (B3.out.trans (R4.out.below (B := w.heap.size) (fun k hk e => by have := HG.out; omega) B3.out.size))
       clear R4
       generalize V3.setCells (g + 2) 0 (trc x s).toList = WE at ZE TE BE ⊢))
  exact bodyPost_ret (v := .tuple #[.agg (trc x s), .int .i64 5]) (results_cell_and rfl rfl rfl (tr_loadR ZE.out)) rfl ⟨s, rfl, TE.out.less (Nat.zero_le _), BE.out⟩
set_option maxRecDepth 100000 in
set_option maxHeartbeats 8000000 in
theorem refAns_11a {B : Nat} (x : Tr) (s : Sl) (m : List Int) (hm : m.length = 28) (hf : isOf x m [2] = true) (h1 : ¬ x.st = 1) (w : World) (h : Tm w B x s) (ht : x.tch.length ≤ 900) :
    Calls Tryz.prog 28 #[.agg (trc x s), .agg (mc m)] w (ActQ w x 11) := by
  have X1 := Lib.hid (((Blk.new w 37 (trc x s)).alloc (.cells (mc m) 46)).alloc (.cells zTr 37))
  have P1 := Lib.hid ((Blk.new_at (w := w.alloc (.cells (trc x s) 37)) (n := w.heap.size + 1) (by simp) 46 (mc m)).alloc (.cells zTr 37))
  have Z1 := Lib.hid (show Blk (((w.alloc (.cells (trc x s) 37)).alloc (.cells (mc m) 46)).alloc (.cells zTr 37)) (w.heap.size + 2) 37 (trc noTr noSl) from Blk.new_at (by simp) _ _)
  have B1 := Lib.hid (((Joins.below_alloc1 w (.cells (trc x s) 37)).alloc (by simp <;> omega) (.cells (mc m) 46)).alloc (by simp <;> omega) (.cells zTr 37))
  have T1 := Lib.hid (h.step B1.out)
  have HT := Lib.hid ht
  have HM := Lib.hid hm
  have HI := Lib.hid (mc_info hm)
  clear hm
  have HF := Lib.hid hf
  clear hf
  have e1 : (x.st != 1) = true := by simpa using h1
  clear h1
  clear h ht
  go_enter Tryz.func28, Tryz.ntmps28
  go_upto_region 1 with fail
  obtain ⟨g, hg⟩ : ∃ g, g = w.heap.size := ⟨_, rfl⟩
  have HG := Lib.hid hg
  rw [← hg] at X1 P1 Z1 ⊢
  clear hg
  generalize (((w.alloc (.cells (trc x s) 37)).alloc (.cells (mc m) 46)).alloc (.cells zTr 37)) = V1 at X1 P1 Z1 B1 T1 ⊢
  have hgl := X1.out.lt
  go_upto_region 3 with (first
    | (refine wpList_load_row rfl 37 (.tmp 2) rfl g rfl 37 (trc x s) (0, 0) _ X1.out Tryz.underlying37 rfl (tr_infoR _ _) ?_)
    | (refine wpList_load_row rfl 46 (.tmp 3) rfl (g + 1) rfl 46 (mc m) (0, 0) _ P1.out Tryz.underlying46 rfl HI.out ?_)
    | (go_at_call 51; refine (refForm_b x s m 2 true HM.out _ HF.out).mono ?_; rintro e V2 ⟨rfl, hb⟩; have X2 := Lib.hid (X1.out.here hb); have P2 := Lib.hid (P1.out.here hb); have Z2 := Lib.hid (Z1.out.here hb); have B2 := Lib.hid (stepB B1.out hb); have T2 := Lib.hid (T1.out.step hb); clear hb))
  have c1 : V2.cell? ⟨g, 1, none⟩ = some (.int .i64 x.st) := X2.out.cell 1
  go_upto_region 4 with fail
  go_wp2_with (first
    | (refine wpList_load_row rfl 37 (.tmp 2) rfl g rfl 37 (trc x s) (0, 0) _ X2.out Tryz.underlying37 rfl (tr_infoR _ _) ?_)
    | (refine wpList_store_mid (by rfl) 37 (.tmp 4) (.tmp 20) (by rfl) (g + 2) 0 (trc x s) (by rfl) (by rfl) (Z2.out.there (Nat.le_refl 13)) (tr_infoR _ _) T2.out.one ?_
       have R4 := Lib.hid (show Turn (fun k => k = g + 2) V2 (V2.setCells (g + 2) 0 (trc x s).toList) from Turn.setCells (S := fun k => k = g + 2) (fun _ => rfl) _ _ _ (Turn.refl _ _))
       have ZE := Lib.hid (Z2.out.put (trc x s) rfl)
       have TE := Lib.hid (T2.out.offBR Z2.out R4.out)
       have BE := Lib.hid (B2.out.trans (R4.out.below (B := w.heap.size) (fun k hk e => by have := HG.out; omega) B2.out.size))
       clear R4
       generalize V2.setCells (g + 2) 0 (trc x s).toList = WE at ZE TE BE ⊢))
  exact bodyPost_ret (v := .tuple #[.agg (trc x s), .int .i64 11]) (results_cell_and rfl rfl rfl (tr_loadR ZE.out)) rfl ⟨s, rfl, TE.out.less (Nat.zero_le _), BE.out⟩
set_option maxRecDepth 100000 in
set_option maxHeartbeats 8000000 in
theorem refAns_14ia {B : Nat} (x : Tr) (s : Sl) (m : List Int) (hm : m.length = 28) (hf : isOf x m [2] = true) (h1 : x.st = 1) (ho : x.op = false) (w : World) (h : Tm w B x s) (ht : x.tch.length ≤ 900) :
    Calls Tryz.prog 28 #[.agg (trc x s), .agg (mc m)] w (ActQ w x 14) := by
  have X1 := Lib.hid (((Blk.new w 37 (trc x s)).alloc (.cells (mc m) 46)).alloc (.cells zTr 37))
  have P1 := Lib.hid ((Blk.new_at (w := w.alloc (.cells (trc x s) 37)) (n := w.heap.size + 1) (by simp) 46 (mc m)).alloc (.cells zTr 37))
  have Z1 := Lib.hid (show Blk (((w.alloc (.cells (trc x s) 37)).alloc (.cells (mc m) 46)).alloc (.cells zTr 37)) (w.heap.size + 2) 37 (trc noTr noSl) from Blk.new_at (by simp) _ _)
  have B1 := Lib.hid (((Joins.below_alloc1 w (.cells (trc x s) 37)).alloc (by simp <;> omega) (.cells (mc m) 46)).alloc (by simp <;> omega) (.cells zTr 37))
  have T1 := Lib.hid (h.step B1.out)
  have HT := Lib.hid ht
  have HM := Lib.hid hm
  have HI := Lib.hid (mc_info hm)
  clear hm
  have HF := Lib.hid hf
  clear hf
  have e1 : (x.st != 1) = false := by simpa using h1
  clear h1
  have HO := Lib.hid ho
  clear ho
  clear h ht
  go_enter Tryz.func28, Tryz.ntmps28
  go_upto_region 1 with fail
  obtain ⟨g, hg⟩ : ∃ g, g = w.heap.size := ⟨_, rfl⟩
  have HG := Lib.hid hg
  rw [← hg] at X1 P1 Z1 ⊢
  clear hg
  generalize (((w.alloc (.cells (trc x s) 37)).alloc (.cells (mc m) 46)).alloc (.cells zTr 37)) = V1 at X1 P1 Z1 B1 T1 ⊢
  have hgl := X1.out.lt
  go_upto_region 3 with (first
    | (refine wpList_load_row rfl 37 (.tmp 2) rfl g rfl 37 (trc x s) (0, 0) _ X1.out Tryz.underlying37 rfl (tr_infoR _ _) ?_)
    | (refine wpList_load_row rfl 46 (.tmp 3) rfl (g + 1) rfl 46 (mc m) (0, 0) _ P1.out Tryz.underlying46 rfl HI.out ?_)
    | (go_at_call 51; refine (refForm_b x s m 2 true HM.out _ HF.out).mono ?_; rintro e V2 ⟨rfl, hb⟩; have X2 := Lib.hid (X1.out.here hb); have P2 := Lib.hid (P1.out.here hb); have Z2 := Lib.hid (Z1.out.here hb); have B2 := Lib.hid (stepB B1.out hb); have T2 := Lib.hid (T1.out.step hb); clear hb))
  have c1 : V2.cell? ⟨g, 1, none⟩ = some (.int .i64 x.st) := X2.out.cell 1
  have c4 : V2.cell? ⟨g, 4, none⟩ = some (.bool false) := by rw [← HO.out]; exact X2.out.cell 4
  have c3 : V2.cell? ⟨g, 3, none⟩ = some (.int .i64 x.sq) := X2.out.cell 3
  have c5 : V2.cell? ⟨g, 5, none⟩ = some (.int .i64 x.sh) := X2.out.cell 5
  have c6 : V2.cell? ⟨g, 6, none⟩ = some (.int .i64 x.a0) := X2.out.cell 6
  have c7 : V2.cell? ⟨g, 7, none⟩ = some (.int .i64 x.a1) := X2.out.cell 7
  have m0 : V2.cell? ⟨g + 1, 0, none⟩ = some (.int .i64 (fld m 0)) := mc_cell HM.out P2.out (by omega)
  have m1 : V2.cell? ⟨g + 1, 1, none⟩ = some (.int .i64 (fld m 1)) := mc_cell HM.out P2.out (by omega)
  have m4 : V2.cell? ⟨g + 1, 4, none⟩ = some (.int .i64 (fld m 4)) := mc_cell HM.out P2.out (by omega)
  have m5 : V2.cell? ⟨g + 1, 5, none⟩ = some (.int .i64 (fld m 5)) := mc_cell HM.out P2.out (by omega)
  have m6 : V2.cell? ⟨g + 1, 6, none⟩ = some (.int .i64 (fld m 6)) := mc_cell HM.out P2.out (by omega)
  go_upto_region 6 with fail
  go_wp2_with (first
    | (refine wpList_load_row rfl 37 (.tmp 2) rfl g rfl 37 (trc x s) (0, 0) _ X2.out Tryz.underlying37 rfl (tr_infoR _ _) ?_)
    | (refine wpList_store_mid (by rfl) 37 (.tmp 4) (.tmp 50) (by rfl) (g + 2) 0 (trc x s) (by rfl) (by rfl) (Z2.out.there (Nat.le_refl 13)) (tr_infoR _ _) T2.out.one ?_
       have R4 := Lib.hid (show Turn (fun k => k = g + 2) V2 (V2.setCells (g + 2) 0 (trc x s).toList) from Turn.setCells (S := fun k => k = g + 2) (fun _ => rfl) _ _ _ (Turn.refl _ _))
       have ZE := Lib.hid (Z2.out.put (trc x s) rfl)
       have TE := Lib.hid (T2.out.offBR Z2.out R4.out)
       have BE := Lib.hid (B2.out.trans (R4.out.below (B := w.heap.size) (fun k hk e => by have := HG.out; omega) B2.out.size))
       clear R4
       generalize V2.setCells (g + 2) 0 (trc x s).toList = WE at ZE TE BE ⊢))
  exact bodyPost_ret (v := .tuple #[.agg (trc x s), .int .i64 14]) (results_cell_and rfl rfl rfl (tr_loadR ZE.out)) rfl ⟨s, rfl, TE.out.less (Nat.zero_le _), BE.out⟩
set_option maxRecDepth 100000 in
set_option maxHeartbeats 8000000 in
theorem refAns_14sa {B : Nat} (x : Tr) (s : Sl) (m : List Int) (hm : m.length = 28) (hf : isOf x m [2] = true) (h1 : x.st = 1) (ho : x.op = true) (hs : fld m 4 ≠ x.sq) (w : World) (h : Tm w B x s) (ht : x.tch.length ≤ 900) :
    Calls Tryz.prog 28 #[.agg (trc x s), .agg (mc m)] w (ActQ w x 14) := by
  have X1 := Lib.hid (((Blk.new w 37 (trc x s)).alloc (.cells (mc m) 46)).alloc (.cells zTr 37))
  have P1 := Lib.hid ((Blk.new_at (w := w.alloc (.cells (trc x s) 37)) (n := w.heap.size + 1) (by simp) 46 (mc m)).alloc (.cells zTr 37))
  have Z1 := Lib.hid (show Blk (((w.alloc (.cells (trc x s) 37)).alloc (.cells (mc m) 46)).alloc (.cells zTr 37)) (w.heap.size + 2) 37 (trc noTr noSl) from Blk.new_at (by simp) _ _)
  have B1 := Lib.hid (((Joins.below_alloc1 w (.cells (trc x s) 37)).alloc (by simp <;> omega) (.cells (mc m) 46)).alloc (by simp <;> omega) (.cells zTr 37))
  have T1 := Lib.hid (h.step B1.out)
  have HT := Lib.hid ht
  have HM := Lib.hid hm
  have HI := Lib.hid (mc_info hm)
  clear hm
  have HF := Lib.hid hf
  clear hf
  have e1 : (x.st != 1) = false := by simpa using h1
  clear h1
  have HO := Lib.hid ho
  clear ho
  have e4 : (x.sq != fld m 4) = true := by simp; omega
  clear hs
  clear h ht
  go_enter Tryz.func28, Tryz.ntmps28
  go_upto_region 1 with fail
  obtain ⟨g, hg⟩ : ∃ g, g = w.heap.size := ⟨_, rfl⟩
  have HG := Lib.hid hg
  rw [← hg] at X1 P1 Z1 ⊢
  clear hg
  generalize (((w.alloc (.cells (trc x s) 37)).alloc (.cells (mc m) 46)).alloc (.cells zTr 37)) = V1 at X1 P1 Z1 B1 T1 ⊢
  have hgl := X1.out.lt
  go_upto_region 3 with (first
    | (refine wpList_load_row rfl 37 (.tmp 2) rfl g rfl 37 (trc x s) (0, 0) _ X1.out Tryz.underlying37 rfl (tr_infoR _ _) ?_)
    | (refine wpList_load_row rfl 46 (.tmp 3) rfl (g + 1) rfl 46 (mc m) (0, 0) _ P1.out Tryz.underlying46 rfl HI.out ?_)
    | (go_at_call 51; refine (refForm_b x s m 2 true HM.out _ HF.out).mono ?_; rintro e V2 ⟨rfl, hb⟩; have X2 := Lib.hid (X1.out.here hb); have P2 := Lib.hid (P1.out.here hb); have Z2 := Lib.hid (Z1.out.here hb); have B2 := Lib.hid (stepB B1.out hb); have T2 := Lib.hid (T1.out.step hb); clear hb))
  have c1 : V2.cell? ⟨g, 1, none⟩ = some (.int .i64 x.st) := X2.out.cell 1
  have c4 : V2.cell? ⟨g, 4, none⟩ = some (.bool true) := by rw [← HO.out]; exact X2.out.cell 4
  have c3 : V2.cell? ⟨g, 3, none⟩ = some (.int .i64 x.sq) := X2.out.cell 3
  have c5 : V2.cell? ⟨g, 5, none⟩ = some (.int .i64 x.sh) := X2.out.cell 5
  have c6 : V2.cell? ⟨g, 6, none⟩ = some (.int .i64 x.a0) := X2.out.cell 6
  have c7 : V2.cell? ⟨g, 7, none⟩ = some (.int .i64 x.a1) := X2.out.cell 7
  have m0 : V2.cell? ⟨g + 1, 0, none⟩ = some (.int .i64 (fld m 0)) := mc_cell HM.out P2.out (by omega)
  have m1 : V2.cell? ⟨g + 1, 1, none⟩ = some (.int .i64 (fld m 1)) := mc_cell HM.out P2.out (by omega)
  have m4 : V2.cell? ⟨g + 1, 4, none⟩ = some (.int .i64 (fld m 4)) := mc_cell HM.out P2.out (by omega)
  have m5 : V2.cell? ⟨g + 1, 5, none⟩ = some (.int .i64 (fld m 5)) := mc_cell HM.out P2.out (by omega)
  have m6 : V2.cell? ⟨g + 1, 6, none⟩ = some (.int .i64 (fld m 6)) := mc_cell HM.out P2.out (by omega)
  go_upto_region 6 with fail
  go_wp2_with (first
    | (refine wpList_load_row rfl 37 (.tmp 2) rfl g rfl 37 (trc x s) (0, 0) _ X2.out Tryz.underlying37 rfl (tr_infoR _ _) ?_)
    | (refine wpList_store_mid (by rfl) 37 (.tmp 4) (.tmp 50) (by rfl) (g + 2) 0 (trc x s) (by rfl) (by rfl) (Z2.out.there (Nat.le_refl 13)) (tr_infoR _ _) T2.out.one ?_
       have R4 := Lib.hid (show Turn (fun k => k = g + 2) V2 (V2.setCells (g + 2) 0 (trc x s).toList) from Turn.setCells (S := fun k => k = g + 2) (fun _ => rfl) _ _ _ (Turn.refl _ _))
       have ZE := Lib.hid (Z2.out.put (trc x s) rfl)
       have TE := Lib.hid (T2.out.offBR Z2.out R4.out)
       have BE := Lib.hid (B2.out.trans (R4.out.below (B := w.heap.size) (fun k hk e => by have := HG.out; omega) B2.out.size))
       clear R4
       generalize V2.setCells (g + 2) 0 (trc x s).toList = WE at ZE TE BE ⊢))
  exact bodyPost_ret (v := .tuple #[.agg (trc x s), .int .i64 14]) (results_cell_and rfl rfl rfl (tr_loadR ZE.out)) rfl ⟨s, rfl, TE.out.less (Nat.zero_le _), BE.out⟩
set_option maxRecDepth 100000 in
set_option maxHeartbeats 8000000 in
theorem refAns_14ha {B : Nat} (x : Tr) (s : Sl) (m : List Int) (hm : m.length = 28) (hf : isOf x m [2] = true) (h1 : x.st = 1) (ho : x.op = true) (hs : fld m 4 = x.sq) (hh : fld m 1 ≠ x.sh) (w : World) (h : Tm w B x s) (ht : x.tch.length ≤ 900) :
    Calls Tryz.prog 28 #[.agg (trc x s), .agg (mc m)] w (ActQ w x 14) := by
  have X1 := Lib.hid (((Blk.new w 37 (trc x s)).alloc (.cells (mc m) 46)).alloc (.cells zTr 37))
  have P1 := Lib.hid ((Blk.new_at (w := w.alloc (.cells (trc x s) 37)) (n := w.heap.size + 1) (by simp) 46 (mc m)).alloc (.cells zTr 37))
  have Z1 := Lib.hid (show Blk (((w.alloc (.cells (trc x s) 37)).alloc (.cells (mc m) 46)).alloc (.cells zTr 37)) (w.heap.size + 2) 37 (trc noTr noSl) from Blk.new_at (by simp) _ _)
  have B1 := Lib.hid (((Joins.below_alloc1 w (.cells (trc x s) 37)).alloc (by simp <;> omega) (.cells (mc m) 46)).alloc (by simp <;> omega) (.cells zTr 37))
  have T1 := Lib.hid (h.step B1.out)
  have HT := Lib.hid ht
  have HM := Lib.hid hm
  have HI := Lib.hid (mc_info hm)
  clear hm
  have HF := Lib.hid hf
  clear hf
  have e1 : (x.st != 1) = false := by simpa using h1
  clear h1
  have HO := Lib.hid ho
  clear ho
  have e4 : (x.sq != fld m 4) = false := by simp; omega
  have e5 : (x.sh != fld m 1) = true := by simp; omega
  clear hs hh
  clear h ht
  go_enter Tryz.func28, Tryz.ntmps28
  go_upto_region 1 with fail
  obtain ⟨g, hg⟩ : ∃ g, g = w.heap.size := ⟨_, rfl⟩
  have HG := Lib.hid hg
  rw [← hg] at X1 P1 Z1 ⊢
  clear hg
  generalize (((w.alloc (.cells (trc x s) 37)).alloc (.cells (mc m) 46)).alloc (.cells zTr 37)) = V1 at X1 P1 Z1 B1 T1 ⊢
  have hgl := X1.out.lt
  go_upto_region 3 with (first
    | (refine wpList_load_row rfl 37 (.tmp 2) rfl g rfl 37 (trc x s) (0, 0) _ X1.out Tryz.underlying37 rfl (tr_infoR _ _) ?_)
    | (refine wpList_load_row rfl 46 (.tmp 3) rfl (g + 1) rfl 46 (mc m) (0, 0) _ P1.out Tryz.underlying46 rfl HI.out ?_)
    | (go_at_call 51; refine (refForm_b x s m 2 true HM.out _ HF.out).mono ?_; rintro e V2 ⟨rfl, hb⟩; have X2 := Lib.hid (X1.out.here hb); have P2 := Lib.hid (P1.out.here hb); have Z2 := Lib.hid (Z1.out.here hb); have B2 := Lib.hid (stepB B1.out hb); have T2 := Lib.hid (T1.out.step hb); clear hb))
  have c1 : V2.cell? ⟨g, 1, none⟩ = some (.int .i64 x.st) := X2.out.cell 1
  have c4 : V2.cell? ⟨g, 4, none⟩ = some (.bool true) := by rw [← HO.out]; exact X2.out.cell 4
  have c3 : V2.cell? ⟨g, 3, none⟩ = some (.int .i64 x.sq) := X2.out.cell 3
  have c5 : V2.cell? ⟨g, 5, none⟩ = some (.int .i64 x.sh) := X2.out.cell 5
  have c6 : V2.cell? ⟨g, 6, none⟩ = some (.int .i64 x.a0) := X2.out.cell 6
  have c7 : V2.cell? ⟨g, 7, none⟩ = some (.int .i64 x.a1) := X2.out.cell 7
  have m0 : V2.cell? ⟨g + 1, 0, none⟩ = some (.int .i64 (fld m 0)) := mc_cell HM.out P2.out (by omega)
  have m1 : V2.cell? ⟨g + 1, 1, none⟩ = some (.int .i64 (fld m 1)) := mc_cell HM.out P2.out (by omega)
  have m4 : V2.cell? ⟨g + 1, 4, none⟩ = some (.int .i64 (fld m 4)) := mc_cell HM.out P2.out (by omega)
  have m5 : V2.cell? ⟨g + 1, 5, none⟩ = some (.int .i64 (fld m 5)) := mc_cell HM.out P2.out (by omega)
  have m6 : V2.cell? ⟨g + 1, 6, none⟩ = some (.int .i64 (fld m 6)) := mc_cell HM.out P2.out (by omega)
  go_upto_region 6 with fail
  go_wp2_with (first
    | (refine wpList_load_row rfl 37 (.tmp 2) rfl g rfl 37 (trc x s) (0, 0) _ X2.out Tryz.underlying37 rfl (tr_infoR _ _) ?_)
    | (refine wpList_store_mid (by rfl) 37 (.tmp 4) (.tmp 50) (by rfl) (g + 2) 0 (trc x s) (by rfl) (by rfl) (Z2.out.there (Nat.le_refl 13)) (tr_infoR _ _) T2.out.one ?_
       have R4 := Lib.hid (show Turn (fun k => k = g + 2) V2 (V2.setCells (g + 2) 0 (trc x s).toList) from Turn.setCells (S := fun k => k = g + 2) (fun _ => rfl) _ _ _ (Turn.refl _ _))
       have ZE := Lib.hid (Z2.out.put (trc x s) rfl)
       have TE := Lib.hid (T2.out.offBR Z2.out R4.out)
       have BE := Lib.hid (B2.out.trans (R4.out.below (B := w.heap.size) (fun k hk e => by have := HG.out; omega) B2.out.size))
       clear R4
       generalize V2.setCells (g + 2) 0 (trc x s).toList = WE at ZE TE BE ⊢))
  exact bodyPost_ret (v := .tuple #[.agg (trc x s), .int .i64 14]) (results_cell_and rfl rfl rfl (tr_loadR ZE.out)) rfl ⟨s, rfl, TE.out.less (Nat.zero_le _), BE.out⟩
set_option maxRecDepth 100000 in
set_option maxHeartbeats 8000000 in
theorem refAns_14ta {B : Nat} (x : Tr) (s : Sl) (m : List Int) (hm : m.length = 28) (hf : isOf x m [2] = true) (h1 : x.st = 1) (ho : x.op = true) (hs : fld m 4 = x.sq) (hh : fld m 1 = x.sh) (hk : fld m 0 = 2) (ha : ¬ (fld m 5 = x.a0 ∧ fld m 6 = x.a1)) (w : World) (h : Tm w B x s) (ht : x.tch.length ≤ 900) :
    Calls Tryz.prog 28 #[.agg (trc x s), .agg (mc m)] w (ActQ w x 14) := by
  have X1 := Lib.hid (((Blk.new w 37 (trc x s)).alloc (.cells (mc m) 46)).alloc (.cells zTr 37))
  have P1 := Lib.hid ((Blk.new_at (w := w.alloc (.cells (trc x s) 37)) (n := w.heap.size + 1) (by simp) 46 (mc m)).alloc (.cells zTr 37))
  have Z1 := Lib.hid (show Blk (((w.alloc (.cells (trc x s) 37)).alloc (.cells (mc m) 46)).alloc (.cells zTr 37)) (w.heap.size + 2) 37 (trc noTr noSl) from Blk.new_at (by simp) _ _)
  have B1 := Lib.hid (((Joins.below_alloc1 w (.cells (trc x s) 37)).alloc (by simp <;> omega) (.cells (mc m) 46)).alloc (by simp <;> omega) (.cells zTr 37))
  have T1 := Lib.hid (h.step B1.out)
  have HT := Lib.hid ht
  have HM := Lib.hid hm
  have HI := Lib.hid (mc_info hm)
  clear hm
  have HF := Lib.hid hf
  clear hf
  have e1 : (x.st != 1) = false := by simpa using h1
  clear h1
  have HO := Lib.hid ho
  clear ho
  have e4 : (x.sq != fld m 4) = false := by simp; omega
  have e5 : (x.sh != fld m 1) = false := by simp; omega
  have e0 : (fld m 0 == 2) = true := by simpa using hk
  have he : ∀ W, (binOp .neq 25 (.agg #[.int .i64 x.a0, .int .i64 x.a1]) (.agg #[.int .i64 (fld m 5), .int .i64 (fld m 6)])).run Tryz.prog W = .ok (.bool true) W := fun W => by rw [neq_res]; rw [decide_eq_false (fun e => ha ⟨e.1.symm, e.2.symm⟩)]; rfl
  clear hs hh hk ha
  clear h ht
  go_enter Tryz.func28, Tryz.ntmps28
  go_upto_region 1 with fail
  obtain ⟨g, hg⟩ : ∃ g, g = w.heap.size := ⟨_, rfl⟩
  have HG := Lib.hid hg
  rw [← hg] at X1 P1 Z1 ⊢
  clear hg
  generalize (((w.alloc (.cells (trc x s) 37)).alloc (.cells (mc m) 46)).alloc (.cells zTr 37)) = V1 at X1 P1 Z1 B1 T1 ⊢
  have hgl := X1.out.lt
  go_upto_region 3 with (first
    | (refine wpList_load_row rfl 37 (.tmp 2) rfl g rfl 37 (trc x s) (0, 0) _ X1.out Tryz.underlying37 rfl (tr_infoR _ _) ?_)
    | (refine wpList_load_row rfl 46 (.tmp 3) rfl (g + 1) rfl 46 (mc m) (0, 0) _ P1.out Tryz.underlying46 rfl HI.out ?_)
    | (go_at_call 51; refine (refForm_b x s m 2 true HM.out _ HF.out).mono ?_; rintro e V2 ⟨rfl, hb⟩; have X2 := Lib.hid (X1.out.here hb); have P2 := Lib.hid (P1.out.here hb); have Z2 := Lib.hid (Z1.out.here hb); have B2 := Lib.hid (stepB B1.out hb); have T2 := Lib.hid (T1.out.step hb); clear hb))
  have c1 : V2.cell? ⟨g, 1, none⟩ = some (.int .i64 x.st) := X2.out.cell 1
  have c4 : V2.cell? ⟨g, 4, none⟩ = some (.bool true) := by rw [← HO.out]; exact X2.out.cell 4
  have c3 : V2.cell? ⟨g, 3, none⟩ = some (.int .i64 x.sq) := X2.out.cell 3
  have c5 : V2.cell? ⟨g, 5, none⟩ = some (.int .i64 x.sh) := X2.out.cell 5
  have c6 : V2.cell? ⟨g, 6, none⟩ = some (.int .i64 x.a0) := X2.out.cell 6
  have c7 : V2.cell? ⟨g, 7, none⟩ = some (.int .i64 x.a1) := X2.out.cell 7
  have m0 : V2.cell? ⟨g + 1, 0, none⟩ = some (.int .i64 (fld m 0)) := mc_cell HM.out P2.out (by omega)
  have m1 : V2.cell? ⟨g + 1, 1, none⟩ = some (.int .i64 (fld m 1)) := mc_cell HM.out P2.out (by omega)
  have m4 : V2.cell? ⟨g + 1, 4, none⟩ = some (.int .i64 (fld m 4)) := mc_cell HM.out P2.out (by omega)
  have m5 : V2.cell? ⟨g + 1, 5, none⟩ = some (.int .i64 (fld m 5)) := mc_cell HM.out P2.out (by omega)
  have m6 : V2.cell? ⟨g + 1, 6, none⟩ = some (.int .i64 (fld m 6)) := mc_cell HM.out P2.out (by omega)
  go_upto_region 6 with fail
  go_wp2_with (first
    | (refine wpList_load_row rfl 37 (.tmp 2) rfl g rfl 37 (trc x s) (0, 0) _ X2.out Tryz.underlying37 rfl (tr_infoR _ _) ?_)
    | (refine wpList_store_mid (by rfl) 37 (.tmp 4) (.tmp 50) (by rfl) (g + 2) 0 (trc x s) (by rfl) (by rfl) (Z2.out.there (Nat.le_refl 13)) (tr_infoR _ _) T2.out.one ?_
       have R4 := Lib.hid (show Turn (fun k => k = g + 2) V2 (V2.setCells (g + 2) 0 (trc x s).toList) from Turn.setCells (S := fun k => k = g + 2) (fun _ => rfl) _ _ _ (Turn.refl _ _))
       have ZE := Lib.hid (Z2.out.put (trc x s) rfl)
       have TE := Lib.hid (T2.out.offBR Z2.out R4.out)
       have BE := Lib.hid (B2.out.trans (R4.out.below (B := w.heap.size) (fun k hk e => by have := HG.out; omega) B2.out.size))
       clear R4
       generalize V2.setCells (g + 2) 0 (trc x s).toList = WE at ZE TE BE ⊢))
  exact bodyPost_ret (v := .tuple #[.agg (trc x s), .int .i64 14]) (results_cell_and rfl rfl rfl (tr_loadR ZE.out)) rfl ⟨s, rfl, TE.out.less (Nat.zero_le _), BE.out⟩
set_option maxRecDepth 100000 in
set_option maxHeartbeats 8000000 in
theorem refAns_0a {B : Nat} (x : Tr) (s : Sl) (m : List Int) (hm : m.length = 28) (hf : isOf x m [2] = true) (h1 : x.st = 1) (ho : x.op = true) (hs : fld m 4 = x.sq) (hh : fld m 1 = x.sh) (hk : fld m 0 = 2) (ha : fld m 5 = x.a0 ∧ fld m 6 = x.a1) (hgl : x.got.length ≤ 1000) (y : Tr) (hy : { x with op := false, got := x.got ++ [grantL m] } = y) (w : World) (h : Tm w B x s) (ht : x.tch.length ≤ 900) :
    Calls Tryz.prog 28 #[.agg (trc x s), .agg (mc m)] w (ActQ w y 0) := by
  have X1 := Lib.hid (((Blk.new w 37 (trc x s)).alloc (.cells (mc m) 46)).alloc (.cells zTr 37))
  have P1 := Lib.hid ((Blk.new_at (w := w.alloc (.cells (trc x s) 37)) (n := w.heap.size + 1) (by simp) 46 (mc m)).alloc (.cells zTr 37))
  have Z1 := Lib.hid (show Blk (((w.alloc (.cells (trc x s) 37)).alloc (.cells (mc m) 46)).alloc (.cells zTr 37)) (w.heap.size + 2) 37 (trc noTr noSl) from Blk.new_at (by simp) _ _)
  have B1 := Lib.hid (((Joins.below_alloc1 w (.cells (trc x s) 37)).alloc (by simp <;> omega) (.cells (mc m) 46)).alloc (by simp <;> omega) (.cells zTr 37))
  have T1 := Lib.hid (h.step B1.out)
  have HT := Lib.hid ht
  have HM := Lib.hid hm
  have HI := Lib.hid (mc_info hm)
  clear hm
  have HF := Lib.hid hf
  clear hf
  have e1 : (x.st != 1) = false := by simpa using h1
  clear h1
  have HO := Lib.hid ho
  clear ho
  have e4 : (x.sq != fld m 4) = false := by simp; omega
  have e5 : (x.sh != fld m 1) = false := by simp; omega
  have e0 : (fld m 0 == 2) = true := by simpa using hk
  have he : ∀ W, (binOp .neq 25 (.agg #[.int .i64 x.a0, .int .i64 x.a1]) (.agg #[.int .i64 (fld m 5), .int .i64 (fld m 6)])).run Tryz.prog W = .ok (.bool false) W := fun W => by rw [neq_res]; rw [decide_eq_true ⟨ha.1.symm, ha.2.symm⟩]; rfl
  have HGL := Lib.hid hgl
  have HY := Lib.hid hy
  clear hs hh hk ha hgl hy
  clear h ht
  go_enter Tryz.func28, Tryz.ntmps28
  go_upto_region 1 with fail
  obtain ⟨g, hg⟩ : ∃ g, g = w.heap.size := ⟨_, rfl⟩
  have HG := Lib.hid hg
  rw [← hg] at X1 P1 Z1 ⊢
  clear hg
  generalize (((w.alloc (.cells (trc x s) 37)).alloc (.cells (mc m) 46)).alloc (.cells zTr 37)) = V1 at X1 P1 Z1 B1 T1 ⊢
  have hgl := X1.out.lt
  go_upto_region 3 with (first
    | (refine wpList_load_row rfl 37 (.tmp 2) rfl g rfl 37 (trc x s) (0, 0) _ X1.out Tryz.underlying37 rfl (tr_infoR _ _) ?_)
    | (refine wpList_load_row rfl 46 (.tmp 3) rfl (g + 1) rfl 46 (mc m) (0, 0) _ P1.out Tryz.underlying46 rfl HI.out ?_)
    | (go_at_call 51; refine (refForm_b x s m 2 true HM.out _ HF.out).mono ?_; rintro e V2 ⟨rfl, hb⟩; have X2 := Lib.hid (X1.out.here hb); have P2 := Lib.hid (P1.out.here hb); have Z2 := Lib.hid (Z1.out.here hb); have B2 := Lib.hid (stepB B1.out hb); have T2 := Lib.hid (T1.out.step hb); clear hb))
  have c1 : V2.cell? ⟨g, 1, none⟩ = some (.int .i64 x.st) := X2.out.cell 1
  have c4 : V2.cell? ⟨g, 4, none⟩ = some (.bool true) := by rw [← HO.out]; exact X2.out.cell 4
  have c3 : V2.cell? ⟨g, 3, none⟩ = some (.int .i64 x.sq) := X2.out.cell 3
  have c5 : V2.cell? ⟨g, 5, none⟩ = some (.int .i64 x.sh) := X2.out.cell 5
  have c6 : V2.cell? ⟨g, 6, none⟩ = some (.int .i64 x.a0) := X2.out.cell 6
  have c7 : V2.cell? ⟨g, 7, none⟩ = some (.int .i64 x.a1) := X2.out.cell 7
  have m0 : V2.cell? ⟨g + 1, 0, none⟩ = some (.int .i64 (fld m 0)) := mc_cell HM.out P2.out (by omega)
  have m1 : V2.cell? ⟨g + 1, 1, none⟩ = some (.int .i64 (fld m 1)) := mc_cell HM.out P2.out (by omega)
  have m4 : V2.cell? ⟨g + 1, 4, none⟩ = some (.int .i64 (fld m 4)) := mc_cell HM.out P2.out (by omega)
  have m5 : V2.cell? ⟨g + 1, 5, none⟩ = some (.int .i64 (fld m 5)) := mc_cell HM.out P2.out (by omega)
  have m6 : V2.cell? ⟨g + 1, 6, none⟩ = some (.int .i64 (fld m 6)) := mc_cell HM.out P2.out (by omega)
  go_upto_region 7 with fail
  clear c1 c3 c4 c5 c6 c7 m1 m4 m5 m6
  have c4 : V2.cell? ⟨g, 4, none⟩ = some (.bool true) := by rw [← HO.out]; exact X2.out.cell 4
  have f4 := X2.out.frozen 4
  go_upto_region 8 with fail
  have RV := Lib.hid (show Turn (fun k => k = g) V2 (V2.setCell ⟨g, 4, none⟩ (.bool false)) from (Turn.refl (fun k => k = g) V2).setCell (p := ⟨g, 4, none⟩) (fun _ => rfl) _)
  have XY := Lib.hid (show Blk (V2.setCell ⟨g, 4, none⟩ (.bool false)) g 37 (trc { x with op := false } s) from X2.out.set_ 4 _)
  have PY := Lib.hid (P2.out.turn RV.out (fun e => by have e : g + 1 = g := e; omega))
  have ZY := Lib.hid (Z2.out.turn RV.out (fun e => by have e : g + 2 = g := e; omega))
  have TY := Lib.hid (show Tm (V2.setCell ⟨g, 4, none⟩ (.bool false)) B { x with op := false } s from by
    have := T2.out.offBR X2.out RV.out
    exact ⟨this.t, this.v, this.k, this.g⟩)
  have BY := Lib.hid (B2.out.trans (RV.out.below (B := w.heap.size) (fun k hk e => by have := HG.out; omega) B2.out.size))
  clear c4 f4 RV m0
  generalize V2.setCell ⟨g, 4, none⟩ (.bool false) = VY at XY PY ZY TY BY ⊢
  have m0 : VY.cell? ⟨g + 1, 0, none⟩ = some (.int .i64 (fld m 0)) := mc_cell HM.out PY.out (by omega)
  go_upto_region 9 with fail
  have m3 := mc_cell HM.out PY.out (i := 3) (by omega)
  have m4 := mc_cell HM.out PY.out (i := 4) (by omega)
  have m5 := mc_cell HM.out PY.out (i := 5) (by omega)
  have m6 := mc_cell HM.out PY.out (i := 6) (by omega)
  have m7 := mc_cell HM.out PY.out (i := 7) (by omega)
  have GL := Lib.hid (show grantL m = [fld m 3, fld m 4, fld m 5, fld m 6, fld m 7] from rfl)
  generalize fld m 3 = p3 at m3 GL
  generalize fld m 4 = p4 at m4 GL
  generalize fld m 5 = p5 at m5 GL
  generalize fld m 6 = p6 at m6 GL
  generalize fld m 7 = p7 at m7 GL
  clear m0
  obtain ⟨Ag, cg, eg, rg, _, _⟩ := own_rd TY.out.g
  have RG := Lib.hid (show Reads VY VY.heap.size 5 Ag x.got.length (ints x.got.flatten) from rg)
  have x12 : VY.cell? ⟨g, 12, none⟩ = some (.slice Ag x.got.length cg) := by rw [← show s.g = .slice Ag x.got.length cg from eg]; exact XY.out.cell 12
  clear rg eg
  have KP := Lib.hid (show ∀ Y, Below VY.heap.size VY Y → (Y.cell? ⟨g, 12, none⟩ = some (.slice Ag x.got.length cg) ∧ Y.cell? ⟨g + 1, 3, none⟩ = some (.int .i64 p3) ∧ Y.cell? ⟨g + 1, 4, none⟩ = some (.int .i64 p4) ∧ Y.cell? ⟨g + 1, 5, none⟩ = some (.int .i64 p5) ∧ Y.cell? ⟨g + 1, 6, none⟩ = some (.int .i64 p6) ∧ Y.cell? ⟨g + 1, 7, none⟩ = some (.int .i64 p7)) from fun Y hy =>
    ⟨(hy.cell (p := ⟨g, 12, none⟩) XY.out.lt).trans x12, (hy.cell (p := ⟨g + 1, 3, none⟩) PY.out.lt).trans m3, (hy.cell (p := ⟨g + 1, 4, none⟩) PY.out.lt).trans m4, (hy.cell (p := ⟨g + 1, 5, none⟩) PY.out.lt).trans m5, (hy.cell (p := ⟨g + 1, 6, none⟩) PY.out.lt).trans m6, (hy.cell (p := ⟨g + 1, 7, none⟩) PY.out.lt).trans m7⟩)
  clear x12 m3 m4 m5 m6 m7
  obtain ⟨i0, hi0, hz0, hz1, hz2⟩ := info_parts info_grant
  have FIN := Lib.hid (show ∀ (W : World) (A9 : Option Addr) (c9 : Nat), Below VY.heap.size VY W → W.ownsRow VY.heap.size 85 5 (.slice A9 (x.got.length + 1) c9) (x.got.length + 1) (ints (x.got ++ [grantL m]).flatten) →
      Blk (W.setCell ⟨g, 12, none⟩ (.slice A9 (x.got.length + 1) c9)) g 37 (trc { x with op := false, got := x.got ++ [grantL m] } ⟨s.t, s.v, s.k, .slice A9 (x.got.length + 1) c9⟩) ∧
      Blk (W.setCell ⟨g, 12, none⟩ (.slice A9 (x.got.length + 1) c9)) (g + 2) 37 (trc noTr noSl) ∧
      Tm (W.setCell ⟨g, 12, none⟩ (.slice A9 (x.got.length + 1) c9)) 0 { x with op := false, got := x.got ++ [grantL m] } ⟨s.t, s.v, s.k, .slice A9 (x.got.length + 1) c9⟩ ∧
      Below w.heap.size w (W.setCell ⟨g, 12, none⟩ (.slice A9 (x.got.length + 1) c9)) from fun W A9 c9 hb ho => by
    have RV : Turn (fun k => k = g) W (W.setCell ⟨g, 12, none⟩ (.slice A9 (x.got.length + 1) c9)) := (Turn.refl (fun k => k = g) W).setCell (p := ⟨g, 12, none⟩) (fun _ => rfl) _
    have hX := XY.out.here hb
    have hT := ((TY.out.step hb).less (Nat.zero_le _)).offBR hX RV
    refine ⟨hX.set_ 12 _, (ZY.out.here hb).turn RV (fun e => by have e : g + 2 = g := e; omega), ⟨hT.t, hT.v, hT.k, ?_⟩, (stepB BY.out hb).trans (RV.below (B := w.heap.size) (fun k hk e => by have := HG.out; omega) (Nat.le_trans BY.out.size hb.size))⟩
    have := own_offB (own_less ho (Nat.zero_le _)) hX (by decide) RV
    show World.ownsRow _ _ _ _ _ (x.got ++ [grantL m]).length _
    rw [show (x.got ++ [grantL m]).length = x.got.length + 1 by simp]
    exact this)
  refine wp_region_till 16 (fun w' => w'.cell? ⟨g, 12, none⟩ = some (.slice Ag x.got.length cg) ∧ w'.cell? ⟨g + 1, 3, none⟩ = some (.int .i64 p3) ∧ w'.cell? ⟨g + 1, 4, none⟩ = some (.int .i64 p4) ∧ w'.cell? ⟨g + 1, 5, none⟩ = some (.int .i64 p5) ∧ w'.cell? ⟨g + 1, 6, none⟩ = some (.int .i64 p6) ∧ w'.cell? ⟨g + 1, 7, none⟩ = some (.int .i64 p7)) (by kernel_rfl) (KP.out _ (Below.refl _ _).drew) (fun hHeld => ?_)
  refine wpTill_take (i := 1) (v := ?_) rfl (by kernel_rfl) (by kernel_rfl) (by kernel_rfl) (by kernel_rfl) (fun _ _ _ h => h) (Or.inl ⟨by rfl, ?_⟩) (by assumption) ?_
  rotate_left
  · (intro w0 hSw; (try dsimp only at hSw); go_simp; try with_reducible rfl)
  try simp only [List.getElem_toArray, List.getElem_cons_succ, List.getElem_cons_zero, Act.put, List.setIfInBounds_toArray, List.set_cons_zero, List.set_cons_succ]
  refine wpTill_take (i := 2) (v := ?_) rfl (by kernel_rfl) (by kernel_rfl) (by kernel_rfl) (by kernel_rfl) (fun _ _ _ h => h) (Or.inl ⟨by rfl, ?_⟩) (by assumption) ?_
  rotate_left
  · (intro w0 hSw; (try dsimp only at hSw); go_simp; try with_reducible rfl)
  try simp only [List.getElem_toArray, List.getElem_cons_succ, List.getElem_cons_zero, Act.put, List.setIfInBounds_toArray, List.set_cons_zero, List.set_cons_succ]
  refine wpTill_take (i := 4) (v := ?_) rfl (by kernel_rfl) (by kernel_rfl) (by kernel_rfl) (by kernel_rfl) (fun _ _ _ h => h) (Or.inl ⟨by rfl, ?_⟩) (by assumption) ?_
  rotate_left
  · (intro w0 hSw; (try dsimp only at hSw); go_simp; try with_reducible rfl)
  try simp only [List.getElem_toArray, List.getElem_cons_succ, List.getElem_cons_zero, Act.put, List.setIfInBounds_toArray, List.set_cons_zero, List.set_cons_succ]
  refine wpTill_take (i := 5) (v := ?_) rfl (by kernel_rfl) (by kernel_rfl) (by kernel_rfl) (by kernel_rfl) (fun _ _ _ h => h) (Or.inl ⟨by rfl, ?_⟩) (by assumption) ?_
  rotate_left
  · (intro w0 hSw; (try dsimp only at hSw); go_simp; try with_reducible rfl)
  try simp only [List.getElem_toArray, List.getElem_cons_succ, List.getElem_cons_zero, Act.put, List.setIfInBounds_toArray, List.set_cons_zero, List.set_cons_succ]
  refine wpTill_take (i := 6) (v := ?_) rfl (by kernel_rfl) (by kernel_rfl) (by kernel_rfl) (by kernel_rfl) (fun _ _ _ h => h) (Or.inl ⟨by rfl, ?_⟩) (by assumption) ?_
  rotate_left
  · (intro w0 hSw; (try dsimp only at hSw); go_simp; try with_reducible rfl)
  try simp only [List.getElem_toArray, List.getElem_cons_succ, List.getElem_cons_zero, Act.put, List.setIfInBounds_toArray, List.set_cons_zero, List.set_cons_succ]
  refine wpTill_take (i := 7) (v := ?_) rfl (by kernel_rfl) (by kernel_rfl) (by kernel_rfl) (by kernel_rfl) (fun _ _ _ h => h) (Or.inl ⟨by rfl, ?_⟩) (by assumption) ?_
  rotate_left
  · (intro w0 hSw; (try dsimp only at hSw); go_simp; try with_reducible rfl)
  try simp only [List.getElem_toArray, List.getElem_cons_succ, List.getElem_cons_zero, Act.put, List.setIfInBounds_toArray, List.set_cons_zero, List.set_cons_succ]
  refine wpTill_take (i := 8) (v := ?_) rfl (by kernel_rfl) (by kernel_rfl) (by kernel_rfl) (by kernel_rfl) (fun _ _ _ h => h) (Or.inl ⟨by rfl, ?_⟩) (by assumption) ?_
  rotate_left
  · (intro w0 hSw; (try dsimp only at hSw); go_simp; try with_reducible rfl)
  try simp only [List.getElem_toArray, List.getElem_cons_succ, List.getElem_cons_zero, Act.put, List.setIfInBounds_toArray, List.set_cons_zero, List.set_cons_succ]
  refine wpTill_take (i := 9) (v := ?_) rfl (by kernel_rfl) (by kernel_rfl) (by kernel_rfl) (by kernel_rfl) (fun _ _ _ h => h) (Or.inl ⟨by rfl, ?_⟩) (by assumption) ?_
  rotate_left
  · (intro w0 hSw; (try dsimp only at hSw); go_simp; try with_reducible rfl)
  try simp only [List.getElem_toArray, List.getElem_cons_succ, List.getElem_cons_zero, Act.put, List.setIfInBounds_toArray, List.set_cons_zero, List.set_cons_succ]
  refine wpTill_take (i := 10) (v := ?_) rfl (by kernel_rfl) (by kernel_rfl) (by kernel_rfl) (by kernel_rfl) (fun _ _ _ h => h) (Or.inl ⟨by rfl, ?_⟩) (by assumption) ?_
  rotate_left
  · (intro w0 hSw; (try dsimp only at hSw); go_simp; try with_reducible rfl)
  try simp only [List.getElem_toArray, List.getElem_cons_succ, List.getElem_cons_zero, Act.put, List.setIfInBounds_toArray, List.set_cons_zero, List.set_cons_succ]
  refine wpTill_take (i := 11) (v := ?_) rfl (by kernel_rfl) (by kernel_rfl) (by kernel_rfl) (by kernel_rfl) (fun _ _ _ h => h) (Or.inl ⟨by rfl, ?_⟩) (by assumption) ?_
  rotate_left
  · (intro w0 hSw; (try dsimp only at hSw); go_simp; try with_reducible rfl)
  try simp only [List.getElem_toArray, List.getElem_cons_succ, List.getElem_cons_zero, Act.put, List.setIfInBounds_toArray, List.set_cons_zero, List.set_cons_succ]
  refine wpTill_take (i := 12) (v := ?_) rfl (by kernel_rfl) (by kernel_rfl) (by kernel_rfl) (by kernel_rfl) (fun _ _ _ h => h) (Or.inl ⟨by rfl, ?_⟩) (by assumption) ?_
  rotate_left
  · (intro w0 hSw; (try dsimp only at hSw); go_simp; try with_reducible rfl)
  try simp only [List.getElem_toArray, List.getElem_cons_succ, List.getElem_cons_zero, Act.put, List.setIfInBounds_toArray, List.set_cons_zero, List.set_cons_succ]
  have BD := Lib.hid (show Below VY.heap.size VY VY.drew from (Below.refl _ _).drew)
  generalize VY.drew = WA at BD hHeld ⊢
  refine wpTill_ready (rs := [0, 13]) (by kernel_rfl) (by simp) ?_
  refine AllTill.cons rfl (fun K hK => ?_) (AllTill.cons rfl (fun K hK => ?_) AllTill.nil)
  · go_simp
    have RWAa := Lib.hid (own_emptyN (base := VY.heap.size) (size := 5) WA 85 BD.out.size)
    have BWAa := Lib.hid (BD.out.alloc BD.out.size (.cells #[] 85))
    refine hK.out _ _ (KP.out _ BWAa.out) (fun hHeld => ?_)
    clear hK K
    obtain ⟨rb, hrb⟩ : ∃ rb, rb = WA.heap.size := ⟨_, rfl⟩
    rw [← hrb] at RWAa ⊢
    clear hrb
    generalize WA.alloc (.cells #[] 85) = WAa at RWAa BWAa hHeld ⊢
    refine wpTill_ready (rs := [3, 13]) (by kernel_rfl) (by simp) ?_
    refine AllTill.cons rfl (fun K hK => ?_) (AllTill.cons rfl (fun K hK => ?_) AllTill.nil)
    · refine step_append_any _ rfl (.tmp 55) (.tmp 57) _ rfl VY.heap.size 85 i0 _ 5 40 Tryz.underlying28 hi0 hz0 hz1 hz2 rfl (by omega) (.slice (some ⟨rb, 0, none⟩) 0 0) 0 [] rfl RWAa.out VY.heap.size Ag x.got.length cg (ints x.got.flatten) rfl (RG.out.below BWAa.out) (ints_one _) (by have := HGL.out; simp only [maxLen]; omega) (by have := HGL.out; omega) BWAa.out.size ?_
      intro vWAab WAab hown hg _
      rw [Nat.zero_add, List.nil_append] at hown
      have RWAab := Lib.hid hown
      have BWAab := Lib.hid (BWAa.out.grown hg BWAa.out.size (fun q hq => (own_ge RWAa.out hq).1))
      clear hown hg
      refine hK.out _ _ (KP.out _ BWAab.out) (fun hHeld => ?_)
      clear hK K
      refine wpTill_ready (rs := [13]) (by kernel_rfl) (by simp) ?_
      refine AllTill.cons rfl (fun K hK => ?_) AllTill.nil
      go_simp
      have NWAabc := Lib.hid (show Blk (WAab.alloc (.cells #[.int .i64 p3, .int .i64 p4, .int .i64 p5, .int .i64 p6, .int .i64 p7] 85)) WAab.heap.size 85 (ints [p3, p4, p5, p6, p7]).toArray from Blk.new _ _ _)
      have BWAabc := Lib.hid (BWAab.out.alloc BWAab.out.size (.cells #[.int .i64 p3, .int .i64 p4, .int .i64 p5, .int .i64 p6, .int .i64 p7] 85))
      have RWAabc := Lib.hid (World.ownsRow.alloc RWAab.out (.cells #[.int .i64 p3, .int .i64 p4, .int .i64 p5, .int .i64 p6, .int .i64 p7] 85))
      refine hK.out _ _ (KP.out _ BWAabc.out) (fun hHeld => ?_)
      clear hK K
      obtain ⟨nb, hnb⟩ : ∃ nb, nb = WAab.heap.size := ⟨_, rfl⟩
      rw [← hnb] at NWAabc ⊢
      clear hnb
      generalize WAab.alloc (.cells #[.int .i64 p3, .int .i64 p4, .int .i64 p5, .int .i64 p6, .int .i64 p7] 85) = WAabc at RWAabc NWAabc BWAabc hHeld ⊢
      refine wpTill_ready (rs := [14]) (by kernel_rfl) (by simp) ?_
      refine AllTill.cons rfl (fun K hK => ?_) AllTill.nil
      refine step_append_any _ rfl (.tmp 58) (.tmp 68) _ rfl VY.heap.size 85 i0 _ 5 40 Tryz.underlying28 hi0 hz0 hz1 hz2 rfl (by omega) vWAab x.got.length _ rfl RWAabc.out _ _ 1 1 (ints [p3, p4, p5, p6, p7]) rfl (readsG_blk NWAabc.out rfl) (ints_one _) (by have := HGL.out; simp only [maxLen]; omega) (by have := HGL.out; omega) BWAabc.out.size ?_
      intro v9 W9 hown hg _
      obtain ⟨A9, c9, rfl⟩ := own_len hown
      have B9 := Lib.hid (BWAabc.out.grown hg BWAabc.out.size (fun q hq => (own_ge RWAabc.out hq).1))
      rw [show ints x.got.flatten ++ ints [p3, p4, p5, p6, p7] = ints (x.got ++ [grantL m]).flatten from by rw [GL.out]; simp [ints]] at hown
      obtain ⟨hx9, hz9, ht9, hb9⟩ := FIN.out W9 A9 c9 B9.out hown
      have X9 := Lib.hid hx9
      have Z9 := Lib.hid hz9
      have T9 := Lib.hid ht9
      have C9 := Lib.hid hb9
      clear hown hg hx9 hz9 ht9 hb9
      refine hK.out _ _ (KP.out _ B9.out) (fun hHeld => ?_)
      clear hK K
      have k12 : W9.cell? ⟨g, 12, none⟩ = some (.slice Ag x.got.length cg) := (KP.out _ B9.out).1
      have f12 := (XY.out.here B9.out).frozen 12
      refine wpTill_take (i := 15) (v := ?_) rfl (by kernel_rfl) (by kernel_rfl) (by kernel_rfl) (by kernel_rfl) (fun _ _ _ h => h) (Or.inl ⟨by rfl, ?_⟩) (by assumption) ?_
      rotate_left
      · (intro w0 hSw; (try dsimp only at hSw); go_simp; try with_reducible rfl)
      try simp only [List.getElem_toArray, List.getElem_cons_succ, List.getElem_cons_zero, Act.put, List.setIfInBounds_toArray, List.set_cons_zero, List.set_cons_succ]
      refine wpTill_ready (rs := [16]) (by kernel_rfl) (by simp) ?_
      refine AllTill.last rfl (of_decide_eq_true (by kernel_rfl)) (fun K hK => ?_)
      go_simp
      refine hK.out _ _ ?_
      clear hK K
      refine wpTill_done (by kernel_rfl) ?_ _
      clear k12 f12 hHeld
      generalize W9.setCell ⟨g, 12, none⟩ (.slice A9 (x.got.length + 1) c9) = VE at X9 Z9 T9 C9 ⊢
      generalize (⟨s.t, s.v, s.k, .slice A9 (x.got.length + 1) c9⟩ : Sl) = s' at X9 T9
      rw [HY.out] at X9 T9
      go_wp2_with (first
        | (refine wpList_load_row rfl 37 (.tmp 2) rfl g rfl 37 (trc y s') (0, 0) _ X9.out Tryz.underlying37 rfl (tr_infoR _ _) ?_)
        | (refine wpList_store_mid (by rfl) 37 (.tmp 4) (.tmp 71) (by rfl) (g + 2) 0 (trc y s') (by rfl) (by rfl) (Z9.out.there (Nat.le_refl 13)) (tr_infoR _ _) T9.out.one ?_
           have R4 := Lib.hid (show Turn (fun k => k = g + 2) VE (VE.setCells (g + 2) 0 (trc y s').toList) from Turn.setCells (S := fun k => k = g + 2) (fun _ => rfl) _ _ _ (Turn.refl _ _))
           have ZE := Lib.hid (Z9.out.put (trc y s') rfl)
           have TE := Lib.hid (T9.out.offBR Z9.out R4.out)
           have BE := Lib.hid (C9.out.trans (R4.out.below (B := w.heap.size) (fun k hk e => by have := HG.out; omega) C9.out.size))
           clear R4
           generalize VE.setCells (g + 2) 0 (trc y s').toList = WE at ZE TE BE ⊢))
      exact bodyPost_ret (v := .tuple #[.agg (trc y s'), .int .i64 0]) (results_cell_and rfl rfl rfl (tr_loadR ZE.out)) rfl ⟨s', rfl, TE.out.less (Nat.zero_le _), BE.out⟩
    · go_simp
      have NWAac := Lib.hid (show Blk (WAa.alloc (.cells #[.int .i64 p3, .int .i64 p4, .int .i64 p5, .int .i64 p6, .int .i64 p7] 85)) WAa.heap.size 85 (ints [p3, p4, p5, p6, p7]).toArray from Blk.new _ _ _)
      have BWAac := Lib.hid (BWAa.out.alloc BWAa.out.size (.cells #[.int .i64 p3, .int .i64 p4, .int .i64 p5, .int .i64 p6, .int .i64 p7] 85))
      have RWAac := Lib.hid (World.ownsRow.alloc RWAa.out (.cells #[.int .i64 p3, .int .i64 p4, .int .i64 p5, .int .i64 p6, .int .i64 p7] 85))
      refine hK.out _ _ (KP.out _ BWAac.out) (fun hHeld => ?_)
      clear hK K
      obtain ⟨nb, hnb⟩ : ∃ nb, nb = WAa.heap.size := ⟨_, rfl⟩
      rw [← hnb] at NWAac ⊢
      have NE := Lib.hid (show rb ≠ nb from fun e => by have h : rb < WAa.heap.size := (own_ge RWAa.out rfl).2; omega)
      clear hnb
      generalize WAa.alloc (.cells #[.int .i64 p3, .int .i64 p4, .int .i64 p5, .int .i64 p6, .int .i64 p7] 85) = WAac at RWAac NWAac BWAac hHeld ⊢
      refine wpTill_ready (rs := [3]) (by kernel_rfl) (by simp) ?_
      refine AllTill.cons rfl (fun K hK => ?_) AllTill.nil
      refine step_append_any _ rfl (.tmp 55) (.tmp 57) _ rfl VY.heap.size 85 i0 _ 5 40 Tryz.underlying28 hi0 hz0 hz1 hz2 rfl (by omega) (.slice (some ⟨rb, 0, none⟩) 0 0) 0 [] rfl RWAac.out VY.heap.size Ag x.got.length cg (ints x.got.flatten) rfl (RG.out.below BWAac.out) (ints_one _) (by have := HGL.out; simp only [maxLen]; omega) (by have := HGL.out; omega) BWAac.out.size ?_
      intro vWAacb WAacb hown hg _
      rw [Nat.zero_add, List.nil_append] at hown
      have RWAacb := Lib.hid hown
      have BWAacb := Lib.hid (BWAac.out.grown hg BWAac.out.size (fun q hq => (own_ge RWAac.out hq).1))
      have NWAacb := Lib.hid (NWAac.out.grown hg (fun e => NE.out (by injection e)))
      clear hown hg
      refine hK.out _ _ (KP.out _ BWAacb.out) (fun hHeld => ?_)
      clear hK K
      refine wpTill_ready (rs := [14]) (by kernel_rfl) (by simp) ?_
      refine AllTill.cons rfl (fun K hK => ?_) AllTill.nil
      refine step_append_any _ rfl (.tmp 58) (.tmp 68) _ rfl VY.heap.size 85 i0 _ 5 40 Tryz.underlying28 hi0 hz0 hz1 hz2 rfl (by omega) vWAacb x.got.length _ rfl RWAacb.out _ _ 1 1 (ints [p3, p4, p5, p6, p7]) rfl (readsG_blk NWAacb.out rfl) (ints_one _) (by have := HGL.out; simp only [maxLen]; omega) (by have := HGL.out; omega) BWAacb.out.size ?_
      intro v9 W9 hown hg _
      obtain ⟨A9, c9, rfl⟩ := own_len hown
      have B9 := Lib.hid (BWAacb.out.grown hg BWAacb.out.size (fun q hq => (own_ge RWAacb.out hq).1))
      rw [show ints x.got.flatten ++ ints [p3, p4, p5, p6, p7] = ints (x.got ++ [grantL m]).flatten from by rw [GL.out]; simp [ints]] at hown
      obtain ⟨hx9, hz9, ht9, hb9⟩ := FIN.out W9 A9 c9 B9.out hown
      have X9 := Lib.hid hx9
      have Z9 := Lib.hid hz9
      have T9 := Lib.hid ht9
      have C9 := Lib.hid hb9
      clear hown hg hx9 hz9 ht9 hb9
      refine hK.out _ _ (KP.out _ B9.out) (fun hHeld => ?_)
      clear hK K
      have k12 : W9.cell? ⟨g, 12, none⟩ = some (.slice Ag x.got.length cg) := (KP.out _ B9.out).1
      have f12 := (XY.out.here B9.out).frozen 12
      refine wpTill_take (i := 15) (v := ?_) rfl (by kernel_rfl) (by kernel_rfl) (by kernel_rfl) (by kernel_rfl) (fun _ _ _ h => h) (Or.inl ⟨by rfl, ?_⟩) (by assumption) ?_
      rotate_left
      · (intro w0 hSw; (try dsimp only at hSw); go_simp; try with_reducible rfl)
      try simp only [List.getElem_toArray, List.getElem_cons_succ, List.getElem_cons_zero, Act.put, List.setIfInBounds_toArray, List.set_cons_zero, List.set_cons_succ]
      refine wpTill_ready (rs := [16]) (by kernel_rfl) (by simp) ?_
      refine AllTill.last rfl (of_decide_eq_true (by kernel_rfl)) (fun K hK => ?_)
      go_simp
      refine hK.out _ _ ?_
      clear hK K
      refine wpTill_done (by kernel_rfl) ?_ _
      clear k12 f12 hHeld
      generalize W9.setCell ⟨g, 12, none⟩ (.slice A9 (x.got.length + 1) c9) = VE at X9 Z9 T9 C9 ⊢
      generalize (⟨s.t, s.v, s.k, .slice A9 (x.got.length + 1) c9⟩ : Sl) = s' at X9 T9
      rw [HY.out] at X9 T9
      go_wp2_with (first
        | (refine wpList_load_row rfl 37 (.tmp 2) rfl g rfl 37 (trc y s') (0, 0) _ X9.out Tryz.underlying37 rfl (tr_infoR _ _) ?_)
        | (refine wpList_store_mid (by rfl) 37 (.tmp 4) (.tmp 71) (by rfl) (g + 2) 0 (trc y s') (by rfl) (by rfl) (Z9.out.there (Nat.le_refl 13)) (tr_infoR _ _) T9.out.one ?_
           have R4 := Lib.hid (show Turn (fun k => k = g + 2) VE (VE.setCells (g + 2) 0 (trc y s').toList) from Turn.setCells (S := fun k => k = g + 2) (fun _ => rfl) _ _ _ (Turn.refl _ _))
           have ZE := Lib.hid (Z9.out.put (trc y s') rfl)
           have TE := Lib.hid (T9.out.offBR Z9.out R4.out)
           have BE := Lib.hid (C9.out.trans (R4.out.below (B := w.heap.size) (fun k hk e => by have := HG.out; omega) C9.out.size))
           clear R4
           generalize VE.setCells (g + 2) 0 (trc y s').toList = WE at ZE TE BE ⊢))
      exact bodyPost_ret (v := .tuple #[.agg (trc y s'), .int .i64 0]) (results_cell_and rfl rfl rfl (tr_loadR ZE.out)) rfl ⟨s', rfl, TE.out.less (Nat.zero_le _), BE.out⟩
  · go_simp
    have NWAc := Lib.hid (show Blk (WA.alloc (.cells #[.int .i64 p3, .int .i64 p4, .int .i64 p5, .int .i64 p6, .int .i64 p7] 85)) WA.heap.size 85 (ints [p3, p4, p5, p6, p7]).toArray from Blk.new _ _ _)
    have BWAc := Lib.hid (BD.out.alloc BD.out.size (.cells #[.int .i64 p3, .int .i64 p4, .int .i64 p5, .int .i64 p6, .int .i64 p7] 85))
    refine hK.out _ _ (KP.out _ BWAc.out) (fun hHeld => ?_)
    clear hK K
    obtain ⟨nb, hnb⟩ : ∃ nb, nb = WA.heap.size := ⟨_, rfl⟩
    rw [← hnb] at NWAc ⊢
    clear hnb
    generalize WA.alloc (.cells #[.int .i64 p3, .int .i64 p4, .int .i64 p5, .int .i64 p6, .int .i64 p7] 85) = WAc at NWAc BWAc hHeld ⊢
    refine wpTill_ready (rs := [0]) (by kernel_rfl) (by simp) ?_
    refine AllTill.cons rfl (fun K hK => ?_) AllTill.nil
    go_simp
    have RWAca := Lib.hid (own_emptyN (base := VY.heap.size) (size := 5) WAc 85 BWAc.out.size)
    have BWAca := Lib.hid (BWAc.out.alloc BWAc.out.size (.cells #[] 85))
    have NWAca := Lib.hid (NWAc.out.alloc (.cells #[] 85))
    refine hK.out _ _ (KP.out _ BWAca.out) (fun hHeld => ?_)
    clear hK K
    obtain ⟨rb, hrb⟩ : ∃ rb, rb = WAc.heap.size := ⟨_, rfl⟩
    rw [← hrb] at RWAca ⊢
    have NE := Lib.hid (show rb ≠ nb from fun e => by have := NWAc.out.lt; omega)
    clear hrb
    generalize WAc.alloc (.cells #[] 85) = WAca at RWAca BWAca NWAca hHeld ⊢
    refine wpTill_ready (rs := [3]) (by kernel_rfl) (by simp) ?_
    refine AllTill.cons rfl (fun K hK => ?_) AllTill.nil
    refine step_append_any _ rfl (.tmp 55) (.tmp 57) _ rfl VY.heap.size 85 i0 _ 5 40 Tryz.underlying28 hi0 hz0 hz1 hz2 rfl (by omega) (.slice (some ⟨rb, 0, none⟩) 0 0) 0 [] rfl RWAca.out VY.heap.size Ag x.got.length cg (ints x.got.flatten) rfl (RG.out.below BWAca.out) (ints_one _) (by have := HGL.out; simp only [maxLen]; omega) (by have := HGL.out; omega) BWAca.out.size ?_
    intro vWAcab WAcab hown hg _
    rw [Nat.zero_add, List.nil_append] at hown
    have RWAcab := Lib.hid hown
    have BWAcab := Lib.hid (BWAca.out.grown hg BWAca.out.size (fun q hq => (own_ge RWAca.out hq).1))
    have NWAcab := Lib.hid (NWAca.out.grown hg (fun e => NE.out (by injection e)))
    clear hown hg
    refine hK.out _ _ (KP.out _ BWAcab.out) (fun hHeld => ?_)
    clear hK K
    refine wpTill_ready (rs := [14]) (by kernel_rfl) (by simp) ?_
    refine AllTill.cons rfl (fun K hK => ?_) AllTill.nil
    refine step_append_any _ rfl (.tmp 58) (.tmp 68) _ rfl VY.heap.size 85 i0 _ 5 40 Tryz.underlying28 hi0 hz0 hz1 hz2 rfl (by omega) vWAcab x.got.length _ rfl RWAcab.out _ _ 1 1 (ints [p3, p4, p5, p6, p7]) rfl (readsG_blk NWAcab.out rfl) (ints_one _) (by have := HGL.out; simp only [maxLen]; omega) (by have := HGL.out; omega) BWAcab.out.size ?_
    intro v9 W9 hown hg _
    obtain ⟨A9, c9, rfl⟩ := own_len hown
    have B9 := Lib.hid (BWAcab.out.grown hg BWAcab.out.size (fun q hq => (own_ge RWAcab.out hq).1))
    rw [show ints x.got.flatten ++ ints [p3, p4, p5, p6, p7] = ints (x.got ++ [grantL m]).flatten from by rw [GL.out]; simp [ints]] at hown
    obtain ⟨hx9, hz9, ht9, hb9⟩ := FIN.out W9 A9 c9 B9.out hown
    have X9 := Lib.hid hx9
    have Z9 := Lib.hid hz9
    have T9 := Lib.hid ht9
    have C9 := Lib.hid hb9
    clear hown hg hx9 hz9 ht9 hb9
    refine hK.out _ _ (KP.out _ B9.out) (fun hHeld => ?_)
    clear hK K
    have k12 : W9.cell? ⟨g, 12, none⟩ = some (.slice Ag x.got.length cg) := (KP.out _ B9.out).1
    have f12 := (XY.out.here B9.out).frozen 12
    refine wpTill_take (i := 15) (v := ?_) rfl (by kernel_rfl) (by kernel_rfl) (by kernel_rfl) (by kernel_rfl) (fun _ _ _ h => h) (Or.inl ⟨by rfl, ?_⟩) (by assumption) ?_
    rotate_left
    · (intro w0 hSw; (try dsimp only at hSw); go_simp; try with_reducible rfl)
    try simp only [List.getElem_toArray, List.getElem_cons_succ, List.getElem_cons_zero, Act.put, List.setIfInBounds_toArray, List.set_cons_zero, List.set_cons_succ]
    refine wpTill_ready (rs := [16]) (by kernel_rfl) (by simp) ?_
    refine AllTill.last rfl (of_decide_eq_true (by kernel_rfl)) (fun K hK => ?_)
    go_simp
    refine hK.out _ _ ?_
    clear hK K
    refine wpTill_done (by kernel_rfl) ?_ _
    clear k12 f12 hHeld
    generalize W9.setCell ⟨g, 12, none⟩ (.slice A9 (x.got.length + 1) c9) = VE at X9 Z9 T9 C9 ⊢
    generalize (⟨s.t, s.v, s.k, .slice A9 (x.got.length + 1) c9⟩ : Sl) = s' at X9 T9
    rw [HY.out] at X9 T9
    go_wp2_with (first
      | (refine wpList_load_row rfl 37 (.tmp 2) rfl g rfl 37 (trc y s') (0, 0) _ X9.out Tryz.underlying37 rfl (tr_infoR _ _) ?_)
      | (refine wpList_store_mid (by rfl) 37 (.tmp 4) (.tmp 71) (by rfl) (g + 2) 0 (trc y s') (by rfl) (by rfl) (Z9.out.there (Nat.le_refl 13)) (tr_infoR _ _) T9.out.one ?_
         have R4 := Lib.hid (show Turn (fun k => k = g + 2) VE (VE.setCells (g + 2) 0 (trc y s').toList) from Turn.setCells (S := fun k => k = g + 2) (fun _ => rfl) _ _ _ (Turn.refl _ _))
         have ZE := Lib.hid (Z9.out.put (trc y s') rfl)
         have TE := Lib.hid (T9.out.offBR Z9.out R4.out)
         have BE := Lib.hid (C9.out.trans (R4.out.below (B := w.heap.size) (fun k hk e => by have := HG.out; omega) C9.out.size))
         clear R4
         generalize VE.setCells (g + 2) 0 (trc y s').toList = WE at ZE TE BE ⊢))
    exact bodyPost_ret (v := .tuple #[.agg (trc y s'), .int .i64 0]) (results_cell_and rfl rfl rfl (tr_loadR ZE.out)) rfl ⟨s', rfl, TE.out.less (Nat.zero_le _), BE.out⟩
set_option maxRecDepth 100000 in
set_option maxHeartbeats 8000000 in
theorem refAns_11b {B : Nat} (x : Tr) (s : Sl) (m : List Int) (hm : m.length = 28) (hf : isOf x m [2] = false) (hf3 : isOf x m [3] = true) (h1 : ¬ x.st = 1) (w : World) (h : Tm w B x s) (ht : x.tch.length ≤ 900) :
    Calls Tryz.prog 28 #[.agg (trc x s), .agg (mc m)] w (ActQ w x 11) := by
  have X1 := Lib.hid (((Blk.new w 37 (trc x s)).alloc (.cells (mc m) 46)).alloc (.cells zTr 37))
  have P1 := Lib.hid ((Blk.new_at (w := w.alloc (.cells (trc x s) 37)) (n := w.heap.size + 1) (by simp) 46 (mc m)).alloc (.cells zTr 37))
  have Z1 := Lib.hid (show Blk (((w.alloc (.cells (trc x s) 37)).alloc (.cells (mc m) 46)).alloc (.cells zTr 37)) (w.heap.size + 2) 37 (trc noTr noSl) from Blk.new_at (by simp) _ _)
  have B1 := Lib.hid (((Joins.below_alloc1 w (.cells (trc x s) 37)).alloc (by simp <;> omega) (.cells (mc m) 46)).alloc (by simp <;> omega) (.cells zTr 37))
  have T1 := Lib.hid (h.step B1.out)
  have HT := Lib.hid ht
  have HM := Lib.hid hm
  have HI := Lib.hid (mc_info hm)
  clear hm
  have HF := Lib.hid hf
  have HF3 := Lib.hid hf3
  clear hf hf3
  have e1 : (x.st != 1) = true := by simpa using h1
  clear h1
  clear h ht
  go_enter Tryz.func28, Tryz.ntmps28
  go_upto_region 1 with fail
  obtain ⟨g, hg⟩ : ∃ g, g = w.heap.size := ⟨_, rfl⟩
  have HG := Lib.hid hg
  rw [← hg] at X1 P1 Z1 ⊢
  clear hg
  generalize (((w.alloc (.cells (trc x s) 37)).alloc (.cells (mc m) 46)).alloc (.cells zTr 37)) = V1 at X1 P1 Z1 B1 T1 ⊢
  have hgl := X1.out.lt
  have TOK1 := Lib.hid True.intro
  go_upto_region 3 with (first
    | (refine wpList_load_row rfl 37 (.tmp 2) rfl g rfl 37 (trc x s) (0, 0) _ X1.out Tryz.underlying37 rfl (tr_infoR _ _) ?_)
    | (refine wpList_load_row rfl 46 (.tmp 3) rfl (g + 1) rfl 46 (mc m) (0, 0) _ P1.out Tryz.underlying46 rfl HI.out ?_)
    | (have _t := TOK1; go_at_call 51; refine (refForm_b x s m 2 false HM.out _ HF.out).mono ?_; rintro e V2 ⟨rfl, hb⟩; have X2 := Lib.hid (X1.out.here hb); have P2 := Lib.hid (P1.out.here hb); have Z2 := Lib.hid (Z1.out.here hb); have B2 := Lib.hid (stepB B1.out hb); have T2 := Lib.hid (T1.out.step hb); clear hb; clear _t TOK1; have TOK2 := Lib.hid True.intro)
    | (have _t := TOK2; refine wpList_load_row_g (by rfl) 37 (.tmp 2) rfl g rfl 37 (trc x s) (0, 0) _ X2.out Tryz.underlying37 rfl (tr_infoR _ _) ?_)
    | (have _t := TOK2; refine wpList_load_row_g (by rfl) 46 (.tmp 3) rfl (g + 1) rfl 46 (mc m) (0, 0) _ P2.out Tryz.underlying46 rfl HI.out ?_)
    | (have _t := TOK2; go_at_call 51; refine (refForm_b x s m 3 true HM.out _ HF3.out).mono ?_; rintro e V3 ⟨rfl, hb⟩; have X3 := Lib.hid (X2.out.here hb); have P3 := Lib.hid (P2.out.here hb); have Z3 := Lib.hid (Z2.out.here hb); have B3 := Lib.hid (stepB B2.out hb); have T3 := Lib.hid (T2.out.step hb); clear hb))
  have c1 : V3.cell? ⟨g, 1, none⟩ = some (.int .i64 x.st) := X3.out.cell 1
  go_upto_region 4 with fail
  go_wp2_with (first
    | (refine wpList_load_row rfl 37 (.tmp 2) rfl g rfl 37 (trc x s) (0, 0) _ X3.out Tryz.underlying37 rfl (tr_infoR _ _) ?_)
    | (refine wpList_store_mid (by rfl) 37 (.tmp 4) (.tmp 20) (by rfl) (g + 2) 0 (trc x s) (by rfl) (by rfl) (Z3.out.there (Nat.le_refl 13)) (tr_infoR _ _) T3.out.one ?_
       have R4 := Lib.hid (show Turn (fun k => k = g + 2) V3 (V3.setCells (g + 2) 0 (trc x s).toList) from Turn.setCells (S := fun k => k = g + 2) (fun _ => rfl) _ _ _ (Turn.refl _ _))
       have ZE := Lib.hid (Z3.out.put (trc x s) rfl)
       have TE := Lib.hid (T3.out.offBR Z3.out R4.out)
       have BE := Lib.hid (B3.out.trans (R4.out.below (B := w.heap.size) (fun k hk e => by have := HG.out; omega) B3.out.size))
       clear R4
       generalize V3.setCells (g + 2) 0 (trc x s).toList = WE at ZE TE BE ⊢))
  exact bodyPost_ret (v := .tuple #[.agg (trc x s), .int .i64 11]) (results_cell_and rfl rfl rfl (tr_loadR ZE.out)) rfl ⟨s, rfl, TE.out.less (Nat.zero_le _), BE.out⟩
set_option maxRecDepth 100000 in
set_option maxHeartbeats 8000000 in
theorem refAns_14ib {B : Nat} (x : Tr) (s : Sl) (m : List Int) (hm : m.length = 28) (hf : isOf x m [2] = false) (hf3 : isOf x m [3] = true) (h1 : x.st = 1) (ho : x.op = false) (w : World) (h : Tm w B x s) (ht : x.tch.length ≤ 900) :
    Calls Tryz.prog 28 #[.agg (trc x s), .agg (mc m)] w (ActQ w x 14) := by
  have X1 := Lib.hid (((Blk.new w 37 (trc x s)).alloc (.cells (mc m) 46)).alloc (.cells zTr 37))
  have P1 := Lib.hid ((Blk.new_at (w := w.alloc (.cells (trc x s) 37)) (n := w.heap.size + 1) (by simp) 46 (mc m)).alloc (.cells zTr 37))
  have Z1 := Lib.hid (show Blk (((w.alloc (.cells (trc x s) 37)).alloc (.cells (mc m) 46)).alloc (.cells zTr 37)) (w.heap.size + 2) 37 (trc noTr noSl) from Blk.new_at (by simp) _ _)
  have B1 := Lib.hid (((Joins.below_alloc1 w (.cells (trc x s) 37)).alloc (by simp <;> omega) (.cells (mc m) 46)).alloc (by simp <;> omega) (.cells zTr 37))
  have T1 := Lib.hid (h.step B1.out)
  have HT := Lib.hid ht
  have HM := Lib.hid hm
  have HI := Lib.hid (mc_info hm)
  clear hm
  have HF := Lib.hid hf
  have HF3 := Lib.hid hf3
  clear hf hf3
  have e1 : (x.st != 1) = false := by simpa using h1
  clear h1
  have HO := Lib.hid ho
  clear ho
  clear h ht
  go_enter Tryz.func28, Tryz.ntmps28
  go_upto_region 1 with fail
  obtain ⟨g, hg⟩ : ∃ g, g = w.heap.size := ⟨_, rfl⟩
  have HG := Lib.hid hg
  rw [← hg] at X1 P1 Z1 ⊢
  clear hg
  generalize (((w.alloc (.cells (trc x s) 37)).alloc (.cells (mc m) 46)).alloc (.cells zTr 37)) = V1 at X1 P1 Z1 B1 T1 ⊢
  have hgl := X1.out.lt
  have TOK1 := Lib.hid True.intro
  go_upto_region 3 with (first
    | (refine wpList_load_row rfl 37 (.tmp 2) rfl g rfl 37 (trc x s) (0, 0) _ X1.out Tryz.underlying37 rfl (tr_infoR _ _) ?_)
    | (refine wpList_load_row rfl 46 (.tmp 3) rfl (g + 1) rfl 46 (mc m) (0, 0) _ P1.out Tryz.underlying46 rfl HI.out ?_)
    | (have _t := TOK1; go_at_call 51; refine (refForm_b x s m 2 false HM.out _ HF.out).mono ?_; rintro e V2 ⟨rfl, hb⟩; have X2 := Lib.hid (X1.out.here hb); have P2 := Lib.hid (P1.out.here hb); have Z2 := Lib.hid (Z1.out.here hb); have B2 := Lib.hid (stepB B1.out hb); have T2 := Lib.hid (T1.out.step hb); clear hb; clear _t TOK1; have TOK2 := Lib.hid True.intro)
    | (have _t := TOK2; refine wpList_load_row_g (by rfl) 37 (.tmp 2) rfl g rfl 37 (trc x s) (0, 0) _ X2.out Tryz.underlying37 rfl (tr_infoR _ _) ?_)
    | (have _t := TOK2; refine wpList_load_row_g (by rfl) 46 (.tmp 3) rfl (g + 1) rfl 46 (mc m) (0, 0) _ P2.out Tryz.underlying46 rfl HI.out ?_)
    | (have _t := TOK2; go_at_call 51; refine (refForm_b x s m 3 true HM.out _ HF3.out).mono ?_; rintro e V3 ⟨rfl, hb⟩; have X3 := Lib.hid (X2.out.here hb); have P3 := Lib.hid (P2.out.here hb); have Z3 := Lib.hid (Z2.out.here hb); have B3 := Lib.hid (stepB B2.out hb); have T3 := Lib.hid (T2.out.step hb); clear hb))
  have c1 : V3.cell? ⟨g, 1, none⟩ = some (.int .i64 x.st) := X3.out.cell 1
  have c4 : V3.cell? ⟨g, 4, none⟩ = some (.bool false) := by rw [← HO.out]; exact X3.out.cell 4
  have c3 : V3.cell? ⟨g, 3, none⟩ = some (.int .i64 x.sq) := X3.out.cell 3
  have c5 : V3.cell? ⟨g, 5, none⟩ = some (.int .i64 x.sh) := X3.out.cell 5
  have c6 : V3.cell? ⟨g, 6, none⟩ = some (.int .i64 x.a0) := X3.out.cell 6
  have c7 : V3.cell? ⟨g, 7, none⟩ = some (.int .i64 x.a1) := X3.out.cell 7
  have m0 : V3.cell? ⟨g + 1, 0, none⟩ = some (.int .i64 (fld m 0)) := mc_cell HM.out P3.out (by omega)
  have m1 : V3.cell? ⟨g + 1, 1, none⟩ = some (.int .i64 (fld m 1)) := mc_cell HM.out P3.out (by omega)
  have m4 : V3.cell? ⟨g + 1, 4, none⟩ = some (.int .i64 (fld m 4)) := mc_cell HM.out P3.out (by omega)
  have m5 : V3.cell? ⟨g + 1, 5, none⟩ = some (.int .i64 (fld m 5)) := mc_cell HM.out P3.out (by omega)
  have m6 : V3.cell? ⟨g + 1, 6, none⟩ = some (.int .i64 (fld m 6)) := mc_cell HM.out P3.out (by omega)
  go_upto_region 6 with fail
  go_wp2_with (first
    | (refine wpList_load_row rfl 37 (.tmp 2) rfl g rfl 37 (trc x s) (0, 0) _ X3.out Tryz.underlying37 rfl (tr_infoR _ _) ?_)
    | (refine wpList_store_mid (by rfl) 37 (.tmp 4) (.tmp 50) (by rfl) (g + 2) 0 (trc x s) (by rfl) (by rfl) (Z3.out.there (Nat.le_refl 13)) (tr_infoR _ _) T3.out.one ?_
       have R4 := Lib.hid (show Turn (fun k => k = g + 2) V3 (V3.setCells (g + 2) 0 (trc x s).toList) from Turn.setCells (S := fun k => k = g + 2) (fun _ => rfl) _ _ _ (Turn.refl _ _))
       have ZE := Lib.hid (Z3.out.put (trc x s) rfl)
       have TE := Lib.hid (T3.out.offBR Z3.out R4.out)
       have BE := Lib.hid (B3.out.trans (R4.out.below (B := w.heap.size) (fun k hk e => by have := HG.out; omega) B3.out.size))
       clear R4
       generalize V3.setCells (g + 2) 0 (trc x s).toList = WE at ZE TE BE ⊢))
  exact bodyPost_ret (v := .tuple #[.agg (trc x s), .int .i64 14]) (results_cell_and rfl rfl rfl (tr_loadR ZE.out)) rfl ⟨s, rfl, TE.out.less (Nat.zero_le _), BE.out⟩
set_option maxRecDepth 100000 in
set_option maxHeartbeats 8000000 in
theorem refAns_14sb {B : Nat} (x : Tr) (s : Sl) (m : List Int) (hm : m.length = 28) (hf : isOf x m [2] = false) (hf3 : isOf x m [3] = true) (h1 : x.st = 1) (ho : x.op = true) (hs : fld m 4 ≠ x.sq) (w : World) (h : Tm w B x s) (ht : x.tch.length ≤ 900) :
    Calls Tryz.prog 28 #[.agg (trc x s), .agg (mc m)] w (ActQ w x 14) := by
  have X1 := Lib.hid (((Blk.new w 37 (trc x s)).alloc (.cells (mc m) 46)).alloc (.cells zTr 37))
  have P1 := Lib.hid ((Blk.new_at (w := w.alloc (.cells (trc x s) 37)) (n := w.heap.size + 1) (by simp) 46 (mc m)).alloc (.cells zTr 37))
  have Z1 := Lib.hid (show Blk (((w.alloc (.cells (trc x s) 37)).alloc (.cells (mc m) 46)).alloc (.cells zTr 37)) (w.heap.size + 2) 37 (trc noTr noSl) from Blk.new_at (by simp) _ _)
  have B1 := Lib.hid (((Joins.below_alloc1 w (.cells (trc x s) 37)).alloc (by simp <;> omega) (.cells (mc m) 46)).alloc (by simp <;> omega) (.cells zTr 37))
  have T1 := Lib.hid (h.step B1.out)
  have HT := Lib.hid ht
  have HM := Lib.hid hm
  have HI := Lib.hid (mc_info hm)
  clear hm
  have HF := Lib.hid hf
  have HF3 := Lib.hid hf3
  clear hf hf3
  have e1 : (x.st != 1) = false := by simpa using h1
  clear h1
  have HO := Lib.hid ho
  clear ho
  have e4 : (x.sq != fld m 4) = true := by simp; omega
  clear hs
  clear h ht
  go_enter Tryz.func28, Tryz.ntmps28
  go_upto_region 1 with fail
  obtain ⟨g, hg⟩ : ∃ g, g = w.heap.size := ⟨_, rfl⟩
  have HG := Lib.hid hg
  rw [← hg] at X1 P1 Z1 ⊢
  clear hg
  generalize (((w.alloc (.cells (trc x s) 37)).alloc (.cells (mc m) 46)).alloc (.cells zTr 37)) = V1 at X1 P1 Z1 B1 T1 ⊢
  have hgl := X1.out.lt
  have TOK1 := Lib.hid True.intro
  go_upto_region 3 with (first
    | (refine wpList_load_row rfl 37 (.tmp 2) rfl g rfl 37 (trc x s) (0, 0) _ X1.out Tryz.underlying37 rfl (tr_infoR _ _) ?_)
    | (refine wpList_load_row rfl 46 (.tmp 3) rfl (g + 1) rfl 46 (mc m) (0, 0) _ P1.out Tryz.underlying46 rfl HI.out ?_)
    | (have _t := TOK1; go_at_call 51; refine (refForm_b x s m 2 false HM.out _ HF.out).mono ?_; rintro e V2 ⟨rfl, hb⟩; have X2 := Lib.hid (X1.out.here hb); have P2 := Lib.hid (P1.out.here hb); have Z2 := Lib.hid (Z1.out.here hb); have B2 := Lib.hid (stepB B1.out hb); have T2 := Lib.hid (T1.out.step hb); clear hb; clear _t TOK1; have TOK2 := Lib.hid True.intro)
    | (have _t := TOK2; refine wpList_load_row_g (by rfl) 37 (.tmp 2) rfl g rfl 37 (trc x s) (0, 0) _ X2.out Tryz.underlying37 rfl (tr_infoR _ _) ?_)
    | (have _t := TOK2; refine wpList_load_row_g (by rfl) 46 (.tmp 3) rfl (g + 1) rfl 46 (mc m) (0, 0) _ P2.out Tryz.underlying46 rfl HI.out ?_)
    | (have _t := TOK2; go_at_call 51; refine (refForm_b x s m 3 true HM.out _ HF3.out).mono ?_; rintro e V3 ⟨rfl, hb⟩; have X3 := Lib.hid (X2.out.here hb); have P3 := Lib.hid (P2.out.here hb); have Z3 := Lib.hid (Z2.out.here hb); have B3 := Lib.hid (stepB B2.out hb); have T3 := Lib.hid (T2.out.step hb); clear hb))
  have c1 : V3.cell? ⟨g, 1, none⟩ = some (.int .i64 x.st) := X3.out.cell 1
  have c4 : V3.cell? ⟨g, 4, none⟩ = some (.bool true) := by rw [← HO.out]; exact X3.out.cell 4
  have c3 : V3.cell? ⟨g, 3, none⟩ = some (.int .i64 x.sq) := X3.out.cell 3
  have c5 : V3.cell? ⟨g, 5, none⟩ = some (.int .i64 x.sh) := X3.out.cell 5
  have c6 : V3.cell? ⟨g, 6, none⟩ = some (.int .i64 x.a0) := X3.out.cell 6
  have c7 : V3.cell? ⟨g, 7, none⟩ = some (.int .i64 x.a1) := X3.out.cell 7
  have m0 : V3.cell? ⟨g + 1, 0, none⟩ = some (.int .i64 (fld m 0)) := mc_cell HM.out P3.out (by omega)
  have m1 : V3.cell? ⟨g + 1, 1, none⟩ = some (.int .i64 (fld m 1)) := mc_cell HM.out P3.out (by omega)
  have m4 : V3.cell? ⟨g + 1, 4, none⟩ = some (.int .i64 (fld m 4)) := mc_cell HM.out P3.out (by omega)
  have m5 : V3.cell? ⟨g + 1, 5, none⟩ = some (.int .i64 (fld m 5)) := mc_cell HM.out P3.out (by omega)
  have m6 : V3.cell? ⟨g + 1, 6, none⟩ = some (.int .i64 (fld m 6)) := mc_cell HM.out P3.out (by omega)
  go_upto_region 6 with fail
  go_wp2_with (first
    | (refine wpList_load_row rfl 37 (.tmp 2) rfl g rfl 37 (trc x s) (0, 0) _ X3.out Tryz.underlying37 rfl (tr_infoR _ _) ?_)
    | (refine wpList_store_mid (by rfl) 37 (.tmp 4) (.tmp 50) (by rfl) (g + 2) 0 (trc x s) (by rfl) (by rfl) (Z3.out.there (Nat.le_refl 13)) (tr_infoR _ _) T3.out.one ?_
       have R4 := Lib.hid (show Turn (fun k => k = g + 2) V3 (V3.setCells (g + 2) 0 (trc x s).toList) from Turn.setCells (S := fun k => k = g + 2) (fun _ => rfl) _ _ _ (Turn.refl _ _))
       have ZE := Lib.hid (Z3.out.put (trc x s) rfl)
       have TE := Lib.hid (T3.out.offBR Z3.out R4.out)
       have BE := Lib.hid (B3.out.trans (R4.out.below (B := w.heap.size) (fun k hk e => by have := HG.out; omega) B3.out.size))
       clear R4
       generalize V3.setCells (g + 2) 0 (trc x s).toList = WE at ZE TE BE ⊢))
  exact bodyPost_ret (v := .tuple #[.agg (trc x s), .int .i64 14]) (results_cell_and rfl rfl rfl (tr_loadR ZE.out)) rfl ⟨s, rfl, TE.out.less (Nat.zero_le _), BE.out⟩
set_option maxRecDepth 100000 in
set_option maxHeartbeats 8000000 in
theorem refAns_14hb {B : Nat} (x : Tr) (s : Sl) (m : List Int) (hm : m.length = 28) (hf : isOf x m [2] = false) (hf3 : isOf x m [3] = true) (h1 : x.st = 1) (ho : x.op = true) (hs : fld m 4 = x.sq) (hh : fld m 1 ≠ x.sh) (w : World) (h : Tm w B x s) (ht : x.tch.length ≤ 900) :
    Calls Tryz.prog 28 #[.agg (trc x s), .agg (mc m)] w (ActQ w x 14) := by
  have X1 := Lib.hid (((Blk.new w 37 (trc x s)).alloc (.cells (mc m) 46)).alloc (.cells zTr 37))
  have P1 := Lib.hid ((Blk.new_at (w := w.alloc (.cells (trc x s) 37)) (n := w.heap.size + 1) (by simp) 46 (mc m)).alloc (.cells zTr 37))
  have Z1 := Lib.hid (show Blk (((w.alloc (.cells (trc x s) 37)).alloc (.cells (mc m) 46)).alloc (.cells zTr 37)) (w.heap.size + 2) 37 (trc noTr noSl) from Blk.new_at (by simp) _ _)
  have B1 := Lib.hid (((Joins.below_alloc1 w (.cells (trc x s) 37)).alloc (by simp <;> omega) (.cells (mc m) 46)).alloc (by simp <;> omega) (.cells zTr 37))
  have T1 := Lib.hid (h.step B1.out)
  have HT := Lib.hid ht
  have HM := Lib.hid hm
  have HI := Lib.hid (mc_info hm)
  clear hm
  have HF := Lib.hid hf
  have HF3 := Lib.hid hf3
  clear hf hf3
  have e1 : (x.st != 1) = false := by simpa using h1
  clear h1
  have HO := Lib.hid ho
  clear ho
  have e4 : (x.sq != fld m 4) = false := by simp; omega
  have e5 : (x.sh != fld m 1) = true := by simp; omega
  clear hs hh
  clear h ht
  go_enter Tryz.func28, Tryz.ntmps28
  go_upto_region 1 with fail
  obtain ⟨g, hg⟩ : ∃ g, g = w.heap.size := ⟨_, rfl⟩
  have HG := Lib.hid hg
  rw [← hg] at X1 P1 Z1 ⊢
  clear hg
  generalize (((w.alloc (.cells (trc x s) 37)).alloc (.cells (mc m) 46)).alloc (.cells zTr 37)) = V1 at X1 P1 Z1 B1 T1 ⊢
  have hgl := X1.out.lt
  have TOK1 := Lib.hid True.intro
  go_upto_region 3 with (first
    | (refine wpList_load_row rfl 37 (.tmp 2) rfl g rfl 37 (trc x s) (0, 0) _ X1.out Tryz.underlying37 rfl (tr_infoR _ _) ?_)
    | (refine wpList_load_row rfl 46 (.tmp 3) rfl (g + 1) rfl 46 (mc m) (0, 0) _ P1.out Tryz.underlying46 rfl HI.out ?_)
    | (have _t := TOK1; go_at_call 51; refine (refForm_b x s m 2 false HM.out _ HF.out).mono ?_; rintro e V2 ⟨rfl, hb⟩; have X2 := Lib.hid (X1.out.here hb); have P2 := Lib.hid (P1.out.here hb); have Z2 := Lib.hid (Z1.out.here hb); have B2 := Lib.hid (stepB B1.out hb); have T2 := Lib.hid (T1.out.step hb); clear hb; clear _t TOK1; have TOK2 := Lib.hid True.intro)
    | (have _t := TOK2; refine wpList_load_row_g (by rfl) 37 (.tmp 2) rfl g rfl 37 (trc x s) (0, 0) _ X2.out Tryz.underlying37 rfl (tr_infoR _ _) ?_)
    | (have _t := TOK2; refine wpList_load_row_g (by rfl) 46 (.tmp 3) rfl (g + 1) rfl 46 (mc m) (0, 0) _ P2.out Tryz.underlying46 rfl HI.out ?_)
    | (have _t := TOK2; go_at_call 51; refine (refForm_b x s m 3 true HM.out _ HF3.out).mono ?_; rintro e V3 ⟨rfl, hb⟩; have X3 := Lib.hid (X2.out.here hb); have P3 := Lib.hid (P2.out.here hb); have Z3 := Lib.hid (Z2.out.here hb); have B3 := Lib.hid (stepB B2.out hb); have T3 := Lib.hid (T2.out.step hb); clear hb))
  have c1 : V3.cell? ⟨g, 1, none⟩ = some (.int .i64 x.st) := X3.out.cell 1
  have c4 : V3.cell? ⟨g, 4, none⟩ = some (.bool true) := by rw [← HO.out]; exact X3.out.cell 4
  have c3 : V3.cell? ⟨g, 3, none⟩ = some (.int .i64 x.sq) := X3.out.cell 3
  have c5 : V3.cell? ⟨g, 5, none⟩ = some (.int .i64 x.sh) := X3.out.cell 5
  have c6 : V3.cell? ⟨g, 6, none⟩ = some (.int .i64 x.a0) := X3.out.cell 6
  have c7 : V3.cell? ⟨g, 7, none⟩ = some (.int .i64 x.a1) := X3.out.cell 7
  have m0 : V3.cell? ⟨g + 1, 0, none⟩ = some (.int .i64 (fld m 0)) := mc_cell HM.out P3.out (by omega)
  have m1 : V3.cell? ⟨g + 1, 1, none⟩ = some (.int .i64 (fld m 1)) := mc_cell HM.out P3.out (by omega)
  have m4 : V3.cell? ⟨g + 1, 4, none⟩ = some (.int .i64 (fld m 4)) := mc_cell HM.out P3.out (by omega)
  have m5 : V3.cell? ⟨g + 1, 5, none⟩ = some (.int .i64 (fld m 5)) := mc_cell HM.out P3.out (by omega)
  have m6 : V3.cell? ⟨g + 1, 6, none⟩ = some (.int .i64 (fld m 6)) := mc_cell HM.out P3.out (by omega)
  go_upto_region 6 with fail
  go_wp2_with (first
    | (refine wpList_load_row rfl 37 (.tmp 2) rfl g rfl 37 (trc x s) (0, 0) _ X3.out Tryz.underlying37 rfl (tr_infoR _ _) ?_)
    | (refine wpList_store_mid (by rfl) 37 (.tmp 4) (.tmp 50) (by rfl) (g + 2) 0 (trc x s) (by rfl) (by rfl) (Z3.out.there (Nat.le_refl 13)) (tr_infoR _ _) T3.out.one ?_
       have R4 := Lib.hid (show Turn (fun k => k = g + 2) V3 (V3.setCells (g + 2) 0 (trc x s).toList) from Turn.setCells (S := fun k => k = g + 2) (fun _ => rfl) _ _ _ (Turn.refl _ _))
       have ZE := Lib.hid (Z3.out.put (trc x s) rfl)
       have TE := Lib.hid (T3.out.offBR Z3.out R4.out)
       have BE := Lib.hid (B3.out.trans (R4.out.below (B := w.heap.size) (fun k hk e => by have := HG.out; omega) B3.out.size))
       clear R4
       generalize V3.setCells (g + 2) 0 (trc x s).toList = WE at ZE TE BE ⊢))
  exact bodyPost_ret (v := .tuple #[.agg (trc x s), .int .i64 14]) (results_cell_and rfl rfl rfl (tr_loadR ZE.out)) rfl ⟨s, rfl, TE.out.less (Nat.zero_le _), BE.out⟩
set_option maxRecDepth 100000 in
set_option maxHeartbeats 8000000 in
theorem refAns_0b {B : Nat} (x : Tr) (s : Sl) (m : List Int) (hm : m.length = 28) (hf : isOf x m [2] = false) (hf3 : isOf x m [3] = true) (h1 : x.st = 1) (ho : x.op = true) (hs : fld m 4 = x.sq) (hh : fld m 1 = x.sh) (hk : ¬ fld m 0 = 2) (y : Tr) (hy : { x with op := false } = y) (w : World) (h : Tm w B x s) (ht : x.tch.length ≤ 900) :
    Calls Tryz.prog 28 #[.agg (trc x s), .agg (mc m)] w (ActQ w y 0) := by
  have X1 := Lib.hid (((Blk.new w 37 (trc x s)).alloc (.cells (mc m) 46)).alloc (.cells zTr 37))
  have P1 := Lib.hid ((Blk.new_at (w := w.alloc (.cells (trc x s) 37)) (n := w.heap.size + 1) (by simp) 46 (mc m)).alloc (.cells zTr 37))
  have Z1 := Lib.hid (show Blk (((w.alloc (.cells (trc x s) 37)).alloc (.cells (mc m) 46)).alloc (.cells zTr 37)) (w.heap.size + 2) 37 (trc noTr noSl) from Blk.new_at (by simp) _ _)
  have B1 := Lib.hid (((Joins.below_alloc1 w (.cells (trc x s) 37)).alloc (by simp <;> omega) (.cells (mc m) 46)).alloc (by simp <;> omega) (.cells zTr 37))
  have T1 := Lib.hid (h.step B1.out)
  have HT := Lib.hid ht
  have HM := Lib.hid hm
  have HI := Lib.hid (mc_info hm)
  clear hm
  have HF := Lib.hid hf
  have HF3 := Lib.hid hf3
  clear hf hf3
  have e1 : (x.st != 1) = false := by simpa using h1
  clear h1
  have HO := Lib.hid ho
  clear ho
  have e4 : (x.sq != fld m 4) = false := by simp; omega
  have e5 : (x.sh != fld m 1) = false := by simp; omega
  have e0 : (fld m 0 == 2) = false := by simpa using hk
  have HY := Lib.hid hy
  clear hs hh hk hy
  clear h ht
  go_enter Tryz.func28, Tryz.ntmps28
  go_upto_region 1 with fail
  obtain ⟨g, hg⟩ : ∃ g, g = w.heap.size := ⟨_, rfl⟩
  have HG := Lib.hid hg
  rw [← hg] at X1 P1 Z1 ⊢
  clear hg
  generalize (((w.alloc (.cells (trc x s) 37)).alloc (.cells (mc m) 46)).alloc (.cells zTr 37)) = V1 at X1 P1 Z1 B1 T1 ⊢
  have hgl := X1.out.lt
  have TOK1 := Lib.hid True.intro
  go_upto_region 3 with (first
    | (refine wpList_load_row rfl 37 (.tmp 2) rfl g rfl 37 (trc x s) (0, 0) _ X1.out Tryz.underlying37 rfl (tr_infoR _ _) ?_)
    | (refine wpList_load_row rfl 46 (.tmp 3) rfl (g + 1) rfl 46 (mc m) (0, 0) _ P1.out Tryz.underlying46 rfl HI.out ?_)
    | (have _t := TOK1; go_at_call 51; refine (refForm_b x s m 2 false HM.out _ HF.out).mono ?_; rintro e V2 ⟨rfl, hb⟩; have X2 := Lib.hid (X1.out.here hb); have P2 := Lib.hid (P1.out.here hb); have Z2 := Lib.hid (Z1.out.here hb); have B2 := Lib.hid (stepB B1.out hb); have T2 := Lib.hid (T1.out.step hb); clear hb; clear _t TOK1; have TOK2 := Lib.hid True.intro)
    | (have _t := TOK2; refine wpList_load_row_g (by rfl) 37 (.tmp 2) rfl g rfl 37 (trc x s) (0, 0) _ X2.out Tryz.underlying37 rfl (tr_infoR _ _) ?_)
    | (have _t := TOK2; refine wpList_load_row_g (by rfl) 46 (.tmp 3) rfl (g + 1) rfl 46 (mc m) (0, 0) _ P2.out Tryz.underlying46 rfl HI.out ?_)
    | (have _t := TOK2; go_at_call 51; refine (refForm_b x s m 3 true HM.out _ HF3.out).mono ?_; rintro e V3 ⟨rfl, hb⟩; have X3 := Lib.hid (X2.out.here hb); have P3 := Lib.hid (P2.out.here hb); have Z3 := Lib.hid (Z2.out.here hb); have B3 := Lib.hid (stepB B2.out hb); have T3 := Lib.hid (T2.out.step hb); clear hb))
  have c1 : V3.cell? ⟨g, 1, none⟩ = some (.int .i64 x.st) := X3.out.cell 1
  have c4 : V3.cell? ⟨g, 4, none⟩ = some (.bool true) := by rw [← HO.out]; exact X3.out.cell 4
  have c3 : V3.cell? ⟨g, 3, none⟩ = some (.int .i64 x.sq) := X3.out.cell 3
  have c5 : V3.cell? ⟨g, 5, none⟩ = some (.int .i64 x.sh) := X3.out.cell 5
  have c6 : V3.cell? ⟨g, 6, none⟩ = some (.int .i64 x.a0) := X3.out.cell 6
  have c7 : V3.cell? ⟨g, 7, none⟩ = some (.int .i64 x.a1) := X3.out.cell 7
  have m0 : V3.cell? ⟨g + 1, 0, none⟩ = some (.int .i64 (fld m 0)) := mc_cell HM.out P3.out (by omega)
  have m1 : V3.cell? ⟨g + 1, 1, none⟩ = some (.int .i64 (fld m 1)) := mc_cell HM.out P3.out (by omega)
  have m4 : V3.cell? ⟨g + 1, 4, none⟩ = some (.int .i64 (fld m 4)) := mc_cell HM.out P3.out (by omega)
  have m5 : V3.cell? ⟨g + 1, 5, none⟩ = some (.int .i64 (fld m 5)) := mc_cell HM.out P3.out (by omega)
  have m6 : V3.cell? ⟨g + 1, 6, none⟩ = some (.int .i64 (fld m 6)) := mc_cell HM.out P3.out (by omega)
  go_upto_region 7 with fail
  clear c1 c3 c4 c5 c6 c7 m1 m4 m5 m6
  have c4 : V3.cell? ⟨g, 4, none⟩ = some (.bool true) := by rw [← HO.out]; exact X3.out.cell 4
  have f4 := X3.out.frozen 4
  go_upto_region 8 with fail
  have RV := Lib.hid (show Turn (fun k => k = g) V3 (V3.setCell ⟨g, 4, none⟩ (.bool false)) from (Turn.refl (fun k => k = g) V3).setCell (p := ⟨g, 4, none⟩) (fun _ => rfl) _)
  have XY := Lib.hid (show Blk (V3.setCell ⟨g, 4, none⟩ (.bool false)) g 37 (trc { x with op := false } s) from X3.out.set_ 4 _)
  have PY := Lib.hid (P3.out.turn RV.out (fun e => by have e : g + 1 = g := e; omega))
  have ZY := Lib.hid (Z3.out.turn RV.out (fun e => by have e : g + 2 = g := e; omega))
  have TY := Lib.hid (show Tm (V3.setCell ⟨g, 4, none⟩ (.bool false)) B { x with op := false } s from by
    have := T3.out.offBR X3.out RV.out
    exact ⟨this.t, this.v, this.k, this.g⟩)
  have BY := Lib.hid (B3.out.trans (RV.out.below (B := w.heap.size) (fun k hk e => by have := HG.out; omega) B3.out.size))
  clear c4 f4 RV m0
  generalize V3.setCell ⟨g, 4, none⟩ (.bool false) = VY at XY PY ZY TY BY ⊢
  have m0 : VY.cell? ⟨g + 1, 0, none⟩ = some (.int .i64 (fld m 0)) := mc_cell HM.out PY.out (by omega)
  rw [HY.out] at XY TY
  go_wp2_with (first
    | (refine wpList_load_row rfl 37 (.tmp 2) rfl g rfl 37 (trc y s) (0, 0) _ XY.out Tryz.underlying37 rfl (tr_infoR _ _) ?_)
    | (refine wpList_store_mid (by rfl) 37 (.tmp 4) (.tmp 71) (by rfl) (g + 2) 0 (trc y s) (by rfl) (by rfl) (ZY.out.there (Nat.le_refl 13)) (tr_infoR _ _) TY.out.one ?_
       have R4 := Lib.hid (show Turn (fun k => k = g + 2) VY (VY.setCells (g + 2) 0 (trc y s).toList) from Turn.setCells (S := fun k => k = g + 2) (fun _ => rfl) _ _ _ (Turn.refl _ _))
       have ZE := Lib.hid (ZY.out.put (trc y s) rfl)
       have TE := Lib.hid (TY.out.offBR ZY.out R4.out)
       have BE := Lib.hid (BY.out.trans (R4.out.below (B := w.heap.size) (fun k hk e => by have := HG.out; omega) BY.out.size))
       clear R4
       generalize VY.setCells (g + 2) 0 (trc y s).toList = WE at ZE TE BE ⊢))
  exact bodyPost_ret (v := .tuple #[.agg (trc y s), .int .i64 0]) (results_cell_and rfl rfl rfl (tr_loadR ZE.out)) rfl ⟨s, rfl, TE.out.less (Nat.zero_le _), BE.out⟩
theorem isOf_k {x : Tr} {m : List Int} {k : Int} (h : isOf x m [k] = true) : fld m 0 = k := by
  rw [isOf_one] at h
  simp only [Bool.and_eq_true] at h
  simpa using h.1
theorem refAns_any {B : Nat} (x : Tr) (s : Sl) (m : List Int) (hm : m.length = 28) (w : World) (h : Tm w B x s) (ht : x.tch.length ≤ 900) (hgl : x.got.length ≤ 1000) :
    Calls Tryz.prog 28 #[.agg (trc x s), .agg (mc m)] w (ActQ w (ansL x m).1 (ansL x m).2.2) := by
  unfold ansL
  cases hf : isOf x m [2] with
  | true =>
    rw [if_neg (by rw [isOf_two, hf]; simp)]
    have hk := isOf_k hf
    by_cases h1 : x.st = 1
    · rw [if_neg (fun e => e h1)]
      unfold stale
      cases ho : x.op with
      | false => exact refAns_14ia x s m hm hf h1 ho w h ht
      | true =>
        by_cases hs : fld m 4 = x.sq
        · by_cases hh : fld m 1 = x.sh
          · by_cases ha : fld m 5 = x.a0 ∧ fld m 6 = x.a1
            · rw [if_neg (by simp [hs, hh, ha])]
              have := refAns_0a x s m hm hf h1 ho hs hh hk ha hgl _ rfl w h ht
              unfold ansX
              rw [if_pos hk]
              exact this
            · rw [if_pos (by simp only [hs, hh, hk]; simp [ha])]
              exact refAns_14ta x s m hm hf h1 ho hs hh hk ha w h ht
          · rw [if_pos (by simp [hh])]
            exact refAns_14ha x s m hm hf h1 ho hs hh w h ht
        · rw [if_pos (by simp [hs])]
          exact refAns_14sa x s m hm hf h1 ho hs w h ht
    · rw [if_pos h1]
      exact refAns_11a x s m hm hf h1 w h ht
  | false =>
    cases hf3 : isOf x m [3] with
    | false =>
      rw [if_pos (by rw [isOf_two, hf, hf3]; rfl)]
      exact refAns_5 x s m hm hf hf3 w h ht
    | true =>
      rw [if_neg (by rw [isOf_two, hf3]; simp)]
      have hk3 := isOf_k hf3
      have hk : ¬ fld m 0 = 2 := by omega
      by_cases h1 : x.st = 1
      · rw [if_neg (fun e => e h1)]
        unfold stale
        cases ho : x.op with
        | false => exact refAns_14ib x s m hm hf hf3 h1 ho w h ht
        | true =>
          by_cases hs : fld m 4 = x.sq
          · by_cases hh : fld m 1 = x.sh
            · rw [if_neg (by simp [hs, hh, hk])]
              have := refAns_0b x s m hm hf hf3 h1 ho hs hh hk _ rfl w h ht
              unfold ansX
              rw [if_neg hk]
              exact this
            · rw [if_pos (by simp [hh])]
              exact refAns_14hb x s m hm hf hf3 h1 ho hs hh w h ht
          · rw [if_pos (by simp [hs])]
            exact refAns_14sb x s m hm hf hf3 h1 ho hs w h ht
      · rw [if_pos h1]
        exact refAns_11b x s m hm hf hf3 h1 w h ht
end Go.Proofs.YthfhhapefjideaaGreat
