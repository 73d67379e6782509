/- The law's wanted: the document's answer to what happens. -/
import Derived.Test.YthfhhapefjideaaGreatTxRl
namespace Go.Proofs.YthfhhapefjideaaGreat
open Go.RowKit
set_option linter.unusedVariables false
set_option linter.unusedSimpArgs false

set_option maxRecDepth 100000 in
set_option maxHeartbeats 8000000 in
theorem wanted_0 {B k : Nat} (x : Tr) (s : Sl) (a : List Int) (ha : a.length = 33) (w : World) (h : Tm w B x s) (ok : TrOk x k) (hkk : k ≤ 900) (hk : fld a 0 = 0) (y : Tr) (ms : List (List Int)) (c : Int) (hy : actL x a = (y, ms, c)) :
    Calls Tryz.prog 10 #[.agg (trc x s), .agg (mc a)] w (ActP w (y, ms, c)) := by
  have X1 := Lib.hid (((Blk.new w 37 (trc x s)).alloc (.cells (mc a) 48)).alloc (.cells zTr 37))
  have P1 := Lib.hid ((Blk.new_at (w := w.alloc (.cells (trc x s) 37)) (n := w.heap.size + 1) (by simp) 48 (mc a)).alloc (.cells zTr 37))
  have Z1 := Lib.hid (show Blk (((w.alloc (.cells (trc x s) 37)).alloc (.cells (mc a) 48)).alloc (.cells zTr 37)) (w.heap.size + 2) 37 (trc noTr noSl) from Blk.new_at (by simp) _ _)
  have B1 := Lib.hid (((Joins.below_alloc1 w (.cells (trc x s) 37)).alloc (by simp <;> omega) (.cells (mc a) 48)).alloc (by simp <;> omega) (.cells zTr 37))
  have T1 := Lib.hid (h.step B1.out)
  have OK := Lib.hid ok
  have HKK := Lib.hid hkk
  have HA := Lib.hid ha
  have HD := Lib.hid (act_drop ha)
  have HMI := Lib.hid (show (Tryz.prog.info? 46).map (·.size) = some (ints (a.drop 5)).length from by have := mc_info (act_drop ha); simpa [mc] using this)
  have HY := Lib.hid hy
  have e0 : (fld a 0 == 0) = true := by simp; omega
  have HK := Lib.hid hk
  clear h ok hkk ha hy hk
  go_enter Tryz.func10, Tryz.ntmps10
  go_upto_region 1 with fail
  obtain ⟨g, hg⟩ : ∃ g, g = w.heap.size := ⟨_, rfl⟩
  have HG := Lib.hid hg
  rw [← hg] at X1 P1 Z1 ⊢
  clear hg
  generalize (((w.alloc (.cells (trc x s) 37)).alloc (.cells (mc a) 48)).alloc (.cells zTr 37)) = V1 at X1 P1 Z1 B1 T1 ⊢
  have hgl := X1.out.lt
  have a0 := act_cell HA.out P1.out (i := 0) (by omega)
  have a1 := act_cell HA.out P1.out (i := 1) (by omega)
  have a2 := act_cell HA.out P1.out (i := 2) (by omega)
  have a3 := act_cell HA.out P1.out (i := 3) (by omega)
  have a4 := act_cell HA.out P1.out (i := 4) (by omega)
  have AM := Lib.hid (act_msg HA.out P1.out)
  have hyy := HY.out
  unfold actL at hyy
  rw [if_pos HK.out] at hyy
  have CO := Lib.hid (refAsk_any x s (fld a 2) (fld a 3) (fld a 1) (fld a 4) V1 T1.out OK.out.tch OK.out.sq.1)
  rw [hyy] at CO
  clear hyy HY
  go_upto_region 16 with (first
    | (refine wpList_load_row rfl 37 (.tmp 2) rfl g rfl 37 (trc x s) (0, 0) _ X1.out Tryz.underlying37 rfl (tr_infoR _ _) ?_)
    | (go_at_call 27; refine CO.out.mono ?_; rintro e V2 ⟨s2, u, rfl, ht2, hu2, hb2⟩; obtain ⟨Au, cu, rfl⟩ := own_len hu2; have T2 := Lib.hid ht2; have U2 := Lib.hid (own_less hu2 B1.out.size); have X2 := Lib.hid (X1.out.here hb2); have Z2 := Lib.hid (Z1.out.here hb2); have B2 := Lib.hid (stepB B1.out hb2); clear ht2 hb2)
    | (refine wpList_store_mid (by rfl) 37 (.tmp 2) (.tmp 22) (by rfl) g 0 (trc y s2) (by rfl) (by rfl) (X2.out.there (Nat.le_refl 13)) (tr_infoR _ _) T2.out.one ?_
       have R4 := Lib.hid (show Turn (fun k => k = g) V2 (V2.setCells g 0 (trc y s2).toList) from Turn.setCells (S := fun k => k = g) (fun _ => rfl) _ _ _ (Turn.refl _ _))
       have X3 := Lib.hid (X2.out.put (trc y s2) rfl)
       have Z3 := Lib.hid (Z2.out.turn R4.out (fun e => by have e : g + 2 = g := e; omega))
       have T3 := Lib.hid (T2.out.offBR X2.out R4.out)
       have B3 := Lib.hid (B2.out.trans (R4.out.below (B := w.heap.size) (fun k hk e => by have := HG.out; omega) B2.out.size))
       have U3 := Lib.hid (own_offB U2.out X2.out (by decide) R4.out)
       clear R4
       generalize V2.setCells g 0 (trc y s2).toList = V3 at X3 Z3 T3 B3 U3 ⊢))
  go_wp2_with (first
    | (refine wpList_load_row rfl 37 (.tmp 2) rfl g rfl 37 (trc y s2) (0, 0) _ X3.out Tryz.underlying37 rfl (tr_infoR _ _) ?_)
    | (refine wpList_store_mid (by rfl) 37 (.tmp 4) (.tmp 71) (by rfl) (g + 2) 0 (trc y s2) (by rfl) (by rfl) (Z3.out.there (Nat.le_refl 13)) (tr_infoR _ _) T3.out.one ?_
       have R4 := Lib.hid (show Turn (fun k => k = g + 2) V3 (V3.setCells (g + 2) 0 (trc y s2).toList) from Turn.setCells (S := fun k => k = g + 2) (fun _ => rfl) _ _ _ (Turn.refl _ _))
       have ZE := Lib.hid (Z3.out.put (trc y s2) rfl)
       have TE := Lib.hid (T3.out.offBR Z3.out R4.out)
       have BE := Lib.hid (B3.out.trans (R4.out.below (B := w.heap.size) (fun k hk e => by have := HG.out; omega) B3.out.size))
       have UE := Lib.hid (own_offB U3.out Z3.out (by decide) R4.out)
       clear R4
       generalize V3.setCells (g + 2) 0 (trc y s2).toList = WE at ZE TE BE UE ⊢))
  exact bodyPost_ret (v := .tuple #[.agg (trc y s2), .slice Au ms.length cu, .int .i64 c]) (results_and2 rfl rfl rfl rfl (tr_loadR ZE.out)) rfl ⟨s2, _, rfl, TE.out.less (Nat.zero_le _), UE.out, BE.out⟩
set_option maxRecDepth 100000 in
set_option maxHeartbeats 8000000 in
theorem wanted_1 {B k : Nat} (x : Tr) (s : Sl) (a : List Int) (ha : a.length = 33) (w : World) (h : Tm w B x s) (ok : TrOk x k) (hkk : k ≤ 900) (hk : fld a 0 = 1) (y : Tr) (ms : List (List Int)) (c : Int) (hy : actL x a = (y, ms, c)) :
    Calls Tryz.prog 10 #[.agg (trc x s), .agg (mc a)] w (ActP w (y, ms, c)) := by
  have X1 := Lib.hid (((Blk.new w 37 (trc x s)).alloc (.cells (mc a) 48)).alloc (.cells zTr 37))
  have P1 := Lib.hid ((Blk.new_at (w := w.alloc (.cells (trc x s) 37)) (n := w.heap.size + 1) (by simp) 48 (mc a)).alloc (.cells zTr 37))
  have Z1 := Lib.hid (show Blk (((w.alloc (.cells (trc x s) 37)).alloc (.cells (mc a) 48)).alloc (.cells zTr 37)) (w.heap.size + 2) 37 (trc noTr noSl) from Blk.new_at (by simp) _ _)
  have B1 := Lib.hid (((Joins.below_alloc1 w (.cells (trc x s) 37)).alloc (by simp <;> omega) (.cells (mc a) 48)).alloc (by simp <;> omega) (.cells zTr 37))
  have T1 := Lib.hid (h.step B1.out)
  have OK := Lib.hid ok
  have HKK := Lib.hid hkk
  have HA := Lib.hid ha
  have HD := Lib.hid (act_drop ha)
  have HMI := Lib.hid (show (Tryz.prog.info? 46).map (·.size) = some (ints (a.drop 5)).length from by have := mc_info (act_drop ha); simpa [mc] using this)
  have HY := Lib.hid hy
  have e0 : (fld a 0 == 0) = false := by simp; omega
  have e1 : (fld a 0 == 1) = true := by simp; omega
  have HK := Lib.hid hk
  clear h ok hkk ha hy hk
  go_enter Tryz.func10, Tryz.ntmps10
  go_upto_region 1 with fail
  obtain ⟨g, hg⟩ : ∃ g, g = w.heap.size := ⟨_, rfl⟩
  have HG := Lib.hid hg
  rw [← hg] at X1 P1 Z1 ⊢
  clear hg
  generalize (((w.alloc (.cells (trc x s) 37)).alloc (.cells (mc a) 48)).alloc (.cells zTr 37)) = V1 at X1 P1 Z1 B1 T1 ⊢
  have hgl := X1.out.lt
  have a0 := act_cell HA.out P1.out (i := 0) (by omega)
  have a1 := act_cell HA.out P1.out (i := 1) (by omega)
  have a2 := act_cell HA.out P1.out (i := 2) (by omega)
  have a3 := act_cell HA.out P1.out (i := 3) (by omega)
  have a4 := act_cell HA.out P1.out (i := 4) (by omega)
  have AM := Lib.hid (act_msg HA.out P1.out)
  have hyy := HY.out
  unfold actL at hyy
  rw [if_neg (by have := HK.out; omega)] at hyy
  rw [if_pos HK.out] at hyy
  have CO := Lib.hid (refAns_any x s (a.drop 5) HD.out V1 T1.out (by have := OK.out.tch.len; omega) (by have := OK.out.len; have := HKK.out; omega))
  rw [hyy] at CO
  obtain rfl : ms = [] := by have := ansL_nil x (a.drop 5); rw [hyy] at this; exact this
  clear hyy HY
  go_upto_region 16 with (first
    | (refine wpList_load_row rfl 37 (.tmp 2) rfl g rfl 37 (trc x s) (0, 0) _ X1.out Tryz.underlying37 rfl (tr_infoR _ _) ?_)
    | (refine wpList_load_cells rfl 46 (.tmp 29) rfl ⟨g + 1, 5, none⟩ rfl (ints (a.drop 5)) _ AM.out Tryz.underlying46 rfl HMI.out ?_)
    | (go_at_call 28; refine CO.out.mono ?_; rintro e V2 ⟨s2, rfl, ht2, hb2⟩; have T2 := Lib.hid ht2; have X2 := Lib.hid (X1.out.here hb2); have Z2 := Lib.hid (Z1.out.here hb2); have B2 := Lib.hid (stepB B1.out hb2); clear ht2 hb2)
    | (refine wpList_store_mid (by rfl) 37 (.tmp 2) (.tmp 32) (by rfl) g 0 (trc y s2) (by rfl) (by rfl) (X2.out.there (Nat.le_refl 13)) (tr_infoR _ _) T2.out.one ?_
       have R4 := Lib.hid (show Turn (fun k => k = g) V2 (V2.setCells g 0 (trc y s2).toList) from Turn.setCells (S := fun k => k = g) (fun _ => rfl) _ _ _ (Turn.refl _ _))
       have X3 := Lib.hid (X2.out.put (trc y s2) rfl)
       have Z3 := Lib.hid (Z2.out.turn R4.out (fun e => by have e : g + 2 = g := e; omega))
       have T3 := Lib.hid (T2.out.offBR X2.out R4.out)
       have B3 := Lib.hid (B2.out.trans (R4.out.below (B := w.heap.size) (fun k hk e => by have := HG.out; omega) B2.out.size))
       skip
       clear R4
       generalize V2.setCells g 0 (trc y s2).toList = V3 at X3 Z3 T3 B3 ⊢))
  go_wp2_with (first
    | (refine wpList_load_row rfl 37 (.tmp 2) rfl g rfl 37 (trc y s2) (0, 0) _ X3.out Tryz.underlying37 rfl (tr_infoR _ _) ?_)
    | (refine wpList_store_mid (by rfl) 37 (.tmp 4) (.tmp 71) (by rfl) (g + 2) 0 (trc y s2) (by rfl) (by rfl) (Z3.out.there (Nat.le_refl 13)) (tr_infoR _ _) T3.out.one ?_
       have R4 := Lib.hid (show Turn (fun k => k = g + 2) V3 (V3.setCells (g + 2) 0 (trc y s2).toList) from Turn.setCells (S := fun k => k = g + 2) (fun _ => rfl) _ _ _ (Turn.refl _ _))
       have ZE := Lib.hid (Z3.out.put (trc y s2) rfl)
       have TE := Lib.hid (T3.out.offBR Z3.out R4.out)
       have BE := Lib.hid (B3.out.trans (R4.out.below (B := w.heap.size) (fun k hk e => by have := HG.out; omega) B3.out.size))
       clear R4
       generalize V3.setCells (g + 2) 0 (trc y s2).toList = WE at ZE TE BE ⊢))
  exact bodyPost_ret (v := .tuple #[.agg (trc y s2), .slice none 0 0, .int .i64 c]) (results_and2 rfl rfl rfl rfl (tr_loadR ZE.out)) rfl ⟨s2, _, rfl, TE.out.less (Nat.zero_le _), World.ownsRow_nil _ _ _ _, BE.out⟩
set_option maxRecDepth 100000 in
set_option maxHeartbeats 8000000 in
theorem wanted_2 {B k : Nat} (x : Tr) (s : Sl) (a : List Int) (ha : a.length = 33) (w : World) (h : Tm w B x s) (ok : TrOk x k) (hkk : k ≤ 900) (hk : fld a 0 = 2) (y : Tr) (ms : List (List Int)) (c : Int) (hy : actL x a = (y, ms, c)) :
    Calls Tryz.prog 10 #[.agg (trc x s), .agg (mc a)] w (ActP w (y, ms, c)) := by
  have X1 := Lib.hid (((Blk.new w 37 (trc x s)).alloc (.cells (mc a) 48)).alloc (.cells zTr 37))
  have P1 := Lib.hid ((Blk.new_at (w := w.alloc (.cells (trc x s) 37)) (n := w.heap.size + 1) (by simp) 48 (mc a)).alloc (.cells zTr 37))
  have Z1 := Lib.hid (show Blk (((w.alloc (.cells (trc x s) 37)).alloc (.cells (mc a) 48)).alloc (.cells zTr 37)) (w.heap.size + 2) 37 (trc noTr noSl) from Blk.new_at (by simp) _ _)
  have B1 := Lib.hid (((Joins.below_alloc1 w (.cells (trc x s) 37)).alloc (by simp <;> omega) (.cells (mc a) 48)).alloc (by simp <;> omega) (.cells zTr 37))
  have T1 := Lib.hid (h.step B1.out)
  have OK := Lib.hid ok
  have HKK := Lib.hid hkk
  have HA := Lib.hid ha
  have HD := Lib.hid (act_drop ha)
  have HMI := Lib.hid (show (Tryz.prog.info? 46).map (·.size) = some (ints (a.drop 5)).length from by have := mc_info (act_drop ha); simpa [mc] using this)
  have HY := Lib.hid hy
  have e0 : (fld a 0 == 0) = false := by simp; omega
  have e1 : (fld a 0 == 1) = false := by simp; omega
  have e2 : (fld a 0 == 2) = true := by simp; omega
  have HK := Lib.hid hk
  clear h ok hkk ha hy hk
  go_enter Tryz.func10, Tryz.ntmps10
  go_upto_region 1 with fail
  obtain ⟨g, hg⟩ : ∃ g, g = w.heap.size := ⟨_, rfl⟩
  have HG := Lib.hid hg
  rw [← hg] at X1 P1 Z1 ⊢
  clear hg
  generalize (((w.alloc (.cells (trc x s) 37)).alloc (.cells (mc a) 48)).alloc (.cells zTr 37)) = V1 at X1 P1 Z1 B1 T1 ⊢
  have hgl := X1.out.lt
  have a0 := act_cell HA.out P1.out (i := 0) (by omega)
  have a1 := act_cell HA.out P1.out (i := 1) (by omega)
  have a2 := act_cell HA.out P1.out (i := 2) (by omega)
  have a3 := act_cell HA.out P1.out (i := 3) (by omega)
  have a4 := act_cell HA.out P1.out (i := 4) (by omega)
  have AM := Lib.hid (act_msg HA.out P1.out)
  have hyy := HY.out
  unfold actL at hyy
  rw [if_neg (by have := HK.out; omega)] at hyy
  rw [if_neg (by have := HK.out; omega)] at hyy
  rw [if_pos HK.out] at hyy
  have CO := Lib.hid (refFinish_any x s V1 T1.out (by have := OK.out.tch.len; omega) (fun h1 => OK.out.rs0 (by omega)))
  rw [hyy] at CO
  clear hyy HY
  go_upto_region 16 with (first
    | (refine wpList_load_row rfl 37 (.tmp 2) rfl g rfl 37 (trc x s) (0, 0) _ X1.out Tryz.underlying37 rfl (tr_infoR _ _) ?_)
    | (go_at_call 29; refine CO.out.mono ?_; rintro e V2 ⟨s2, u, rfl, ht2, hu2, hb2⟩; obtain ⟨Au, cu, rfl⟩ := own_len hu2; have T2 := Lib.hid ht2; have U2 := Lib.hid (own_less hu2 B1.out.size); have X2 := Lib.hid (X1.out.here hb2); have Z2 := Lib.hid (Z1.out.here hb2); have B2 := Lib.hid (stepB B1.out hb2); clear ht2 hb2)
    | (refine wpList_store_mid (by rfl) 37 (.tmp 2) (.tmp 39) (by rfl) g 0 (trc y s2) (by rfl) (by rfl) (X2.out.there (Nat.le_refl 13)) (tr_infoR _ _) T2.out.one ?_
       have R4 := Lib.hid (show Turn (fun k => k = g) V2 (V2.setCells g 0 (trc y s2).toList) from Turn.setCells (S := fun k => k = g) (fun _ => rfl) _ _ _ (Turn.refl _ _))
       have X3 := Lib.hid (X2.out.put (trc y s2) rfl)
       have Z3 := Lib.hid (Z2.out.turn R4.out (fun e => by have e : g + 2 = g := e; omega))
       have T3 := Lib.hid (T2.out.offBR X2.out R4.out)
       have B3 := Lib.hid (B2.out.trans (R4.out.below (B := w.heap.size) (fun k hk e => by have := HG.out; omega) B2.out.size))
       have U3 := Lib.hid (own_offB U2.out X2.out (by decide) R4.out)
       clear R4
       generalize V2.setCells g 0 (trc y s2).toList = V3 at X3 Z3 T3 B3 U3 ⊢))
  go_wp2_with (first
    | (refine wpList_load_row rfl 37 (.tmp 2) rfl g rfl 37 (trc y s2) (0, 0) _ X3.out Tryz.underlying37 rfl (tr_infoR _ _) ?_)
    | (refine wpList_store_mid (by rfl) 37 (.tmp 4) (.tmp 71) (by rfl) (g + 2) 0 (trc y s2) (by rfl) (by rfl) (Z3.out.there (Nat.le_refl 13)) (tr_infoR _ _) T3.out.one ?_
       have R4 := Lib.hid (show Turn (fun k => k = g + 2) V3 (V3.setCells (g + 2) 0 (trc y s2).toList) from Turn.setCells (S := fun k => k = g + 2) (fun _ => rfl) _ _ _ (Turn.refl _ _))
       have ZE := Lib.hid (Z3.out.put (trc y s2) rfl)
       have TE := Lib.hid (T3.out.offBR Z3.out R4.out)
       have BE := Lib.hid (B3.out.trans (R4.out.below (B := w.heap.size) (fun k hk e => by have := HG.out; omega) B3.out.size))
       have UE := Lib.hid (own_offB U3.out Z3.out (by decide) R4.out)
       clear R4
       generalize V3.setCells (g + 2) 0 (trc y s2).toList = WE at ZE TE BE UE ⊢))
  exact bodyPost_ret (v := .tuple #[.agg (trc y s2), .slice Au ms.length cu, .int .i64 c]) (results_and2 rfl rfl rfl rfl (tr_loadR ZE.out)) rfl ⟨s2, _, rfl, TE.out.less (Nat.zero_le _), UE.out, BE.out⟩
set_option maxRecDepth 100000 in
set_option maxHeartbeats 8000000 in
theorem wanted_3 {B k : Nat} (x : Tr) (s : Sl) (a : List Int) (ha : a.length = 33) (w : World) (h : Tm w B x s) (ok : TrOk x k) (hkk : k ≤ 900) (hk : fld a 0 = 3) (y : Tr) (ms : List (List Int)) (c : Int) (hy : actL x a = (y, ms, c)) :
    Calls Tryz.prog 10 #[.agg (trc x s), .agg (mc a)] w (ActP w (y, ms, c)) := by
  have X1 := Lib.hid (((Blk.new w 37 (trc x s)).alloc (.cells (mc a) 48)).alloc (.cells zTr 37))
  have P1 := Lib.hid ((Blk.new_at (w := w.alloc (.cells (trc x s) 37)) (n := w.heap.size + 1) (by simp) 48 (mc a)).alloc (.cells zTr 37))
  have Z1 := Lib.hid (show Blk (((w.alloc (.cells (trc x s) 37)).alloc (.cells (mc a) 48)).alloc (.cells zTr 37)) (w.heap.size + 2) 37 (trc noTr noSl) from Blk.new_at (by simp) _ _)
  have B1 := Lib.hid (((Joins.below_alloc1 w (.cells (trc x s) 37)).alloc (by simp <;> omega) (.cells (mc a) 48)).alloc (by simp <;> omega) (.cells zTr 37))
  have T1 := Lib.hid (h.step B1.out)
  have OK := Lib.hid ok
  have HKK := Lib.hid hkk
  have HA := Lib.hid ha
  have HD := Lib.hid (act_drop ha)
  have HMI := Lib.hid (show (Tryz.prog.info? 46).map (·.size) = some (ints (a.drop 5)).length from by have := mc_info (act_drop ha); simpa [mc] using this)
  have HY := Lib.hid hy
  have e0 : (fld a 0 == 0) = false := by simp; omega
  have e1 : (fld a 0 == 1) = false := by simp; omega
  have e2 : (fld a 0 == 2) = false := by simp; omega
  have e3 : (fld a 0 == 3) = true := by simp; omega
  have HK := Lib.hid hk
  clear h ok hkk ha hy hk
  go_enter Tryz.func10, Tryz.ntmps10
  go_upto_region 1 with fail
  obtain ⟨g, hg⟩ : ∃ g, g = w.heap.size := ⟨_, rfl⟩
  have HG := Lib.hid hg
  rw [← hg] at X1 P1 Z1 ⊢
  clear hg
  generalize (((w.alloc (.cells (trc x s) 37)).alloc (.cells (mc a) 48)).alloc (.cells zTr 37)) = V1 at X1 P1 Z1 B1 T1 ⊢
  have hgl := X1.out.lt
  have a0 := act_cell HA.out P1.out (i := 0) (by omega)
  have a1 := act_cell HA.out P1.out (i := 1) (by omega)
  have a2 := act_cell HA.out P1.out (i := 2) (by omega)
  have a3 := act_cell HA.out P1.out (i := 3) (by omega)
  have a4 := act_cell HA.out P1.out (i := 4) (by omega)
  have AM := Lib.hid (act_msg HA.out P1.out)
  have hyy := HY.out
  unfold actL at hyy
  rw [if_neg (by have := HK.out; omega)] at hyy
  rw [if_neg (by have := HK.out; omega)] at hyy
  rw [if_neg (by have := HK.out; omega)] at hyy
  rw [if_pos HK.out] at hyy
  have CO := Lib.hid (refVote_any x s (a.drop 5) HD.out V1 T1.out (by have := OK.out.tch.len; omega) OK.out.vts (fun h2 => OK.out.rs0 (by omega)))
  rw [hyy] at CO
  clear hyy HY
  go_upto_region 16 with (first
    | (refine wpList_load_row rfl 37 (.tmp 2) rfl g rfl 37 (trc x s) (0, 0) _ X1.out Tryz.underlying37 rfl (tr_infoR _ _) ?_)
    | (refine wpList_load_cells rfl 46 (.tmp 46) rfl ⟨g + 1, 5, none⟩ rfl (ints (a.drop 5)) _ AM.out Tryz.underlying46 rfl HMI.out ?_)
    | (go_at_call 30; refine CO.out.mono ?_; rintro e V2 ⟨s2, u, rfl, ht2, hu2, hb2⟩; obtain ⟨Au, cu, rfl⟩ := own_len hu2; have T2 := Lib.hid ht2; have U2 := Lib.hid (own_less hu2 B1.out.size); have X2 := Lib.hid (X1.out.here hb2); have Z2 := Lib.hid (Z1.out.here hb2); have B2 := Lib.hid (stepB B1.out hb2); clear ht2 hb2)
    | (refine wpList_store_mid (by rfl) 37 (.tmp 2) (.tmp 49) (by rfl) g 0 (trc y s2) (by rfl) (by rfl) (X2.out.there (Nat.le_refl 13)) (tr_infoR _ _) T2.out.one ?_
       have R4 := Lib.hid (show Turn (fun k => k = g) V2 (V2.setCells g 0 (trc y s2).toList) from Turn.setCells (S := fun k => k = g) (fun _ => rfl) _ _ _ (Turn.refl _ _))
       have X3 := Lib.hid (X2.out.put (trc y s2) rfl)
       have Z3 := Lib.hid (Z2.out.turn R4.out (fun e => by have e : g + 2 = g := e; omega))
       have T3 := Lib.hid (T2.out.offBR X2.out R4.out)
       have B3 := Lib.hid (B2.out.trans (R4.out.below (B := w.heap.size) (fun k hk e => by have := HG.out; omega) B2.out.size))
       have U3 := Lib.hid (own_offB U2.out X2.out (by decide) R4.out)
       clear R4
       generalize V2.setCells g 0 (trc y s2).toList = V3 at X3 Z3 T3 B3 U3 ⊢))
  go_wp2_with (first
    | (refine wpList_load_row rfl 37 (.tmp 2) rfl g rfl 37 (trc y s2) (0, 0) _ X3.out Tryz.underlying37 rfl (tr_infoR _ _) ?_)
    | (refine wpList_store_mid (by rfl) 37 (.tmp 4) (.tmp 71) (by rfl) (g + 2) 0 (trc y s2) (by rfl) (by rfl) (Z3.out.there (Nat.le_refl 13)) (tr_infoR _ _) T3.out.one ?_
       have R4 := Lib.hid (show Turn (fun k => k = g + 2) V3 (V3.setCells (g + 2) 0 (trc y s2).toList) from Turn.setCells (S := fun k => k = g + 2) (fun _ => rfl) _ _ _ (Turn.refl _ _))
       have ZE := Lib.hid (Z3.out.put (trc y s2) rfl)
       have TE := Lib.hid (T3.out.offBR Z3.out R4.out)
       have BE := Lib.hid (B3.out.trans (R4.out.below (B := w.heap.size) (fun k hk e => by have := HG.out; omega) B3.out.size))
       have UE := Lib.hid (own_offB U3.out Z3.out (by decide) R4.out)
       clear R4
       generalize V3.setCells (g + 2) 0 (trc y s2).toList = WE at ZE TE BE UE ⊢))
  exact bodyPost_ret (v := .tuple #[.agg (trc y s2), .slice Au ms.length cu, .int .i64 c]) (results_and2 rfl rfl rfl rfl (tr_loadR ZE.out)) rfl ⟨s2, _, rfl, TE.out.less (Nat.zero_le _), UE.out, BE.out⟩
set_option maxRecDepth 100000 in
set_option maxHeartbeats 8000000 in
theorem wanted_4 {B k : Nat} (x : Tr) (s : Sl) (a : List Int) (ha : a.length = 33) (w : World) (h : Tm w B x s) (ok : TrOk x k) (hkk : k ≤ 900) (hk : fld a 0 = 4) (y : Tr) (ms : List (List Int)) (c : Int) (hy : actL x a = (y, ms, c)) :
    Calls Tryz.prog 10 #[.agg (trc x s), .agg (mc a)] w (ActP w (y, ms, c)) := by
  have X1 := Lib.hid (((Blk.new w 37 (trc x s)).alloc (.cells (mc a) 48)).alloc (.cells zTr 37))
  have P1 := Lib.hid ((Blk.new_at (w := w.alloc (.cells (trc x s) 37)) (n := w.heap.size + 1) (by simp) 48 (mc a)).alloc (.cells zTr 37))
  have Z1 := Lib.hid (show Blk (((w.alloc (.cells (trc x s) 37)).alloc (.cells (mc a) 48)).alloc (.cells zTr 37)) (w.heap.size + 2) 37 (trc noTr noSl) from Blk.new_at (by simp) _ _)
  have B1 := Lib.hid (((Joins.below_alloc1 w (.cells (trc x s) 37)).alloc (by simp <;> omega) (.cells (mc a) 48)).alloc (by simp <;> omega) (.cells zTr 37))
  have T1 := Lib.hid (h.step B1.out)
  have OK := Lib.hid ok
  have HKK := Lib.hid hkk
  have HA := Lib.hid ha
  have HD := Lib.hid (act_drop ha)
  have HMI := Lib.hid (show (Tryz.prog.info? 46).map (·.size) = some (ints (a.drop 5)).length from by have := mc_info (act_drop ha); simpa [mc] using this)
  have HY := Lib.hid hy
  have e0 : (fld a 0 == 0) = false := by simp; omega
  have e1 : (fld a 0 == 1) = false := by simp; omega
  have e2 : (fld a 0 == 2) = false := by simp; omega
  have e3 : (fld a 0 == 3) = false := by simp; omega
  have e4 : (fld a 0 == 4) = true := by simp; omega
  have HK := Lib.hid hk
  clear h ok hkk ha hy hk
  go_enter Tryz.func10, Tryz.ntmps10
  go_upto_region 1 with fail
  obtain ⟨g, hg⟩ : ∃ g, g = w.heap.size := ⟨_, rfl⟩
  have HG := Lib.hid hg
  rw [← hg] at X1 P1 Z1 ⊢
  clear hg
  generalize (((w.alloc (.cells (trc x s) 37)).alloc (.cells (mc a) 48)).alloc (.cells zTr 37)) = V1 at X1 P1 Z1 B1 T1 ⊢
  have hgl := X1.out.lt
  have a0 := act_cell HA.out P1.out (i := 0) (by omega)
  have a1 := act_cell HA.out P1.out (i := 1) (by omega)
  have a2 := act_cell HA.out P1.out (i := 2) (by omega)
  have a3 := act_cell HA.out P1.out (i := 3) (by omega)
  have a4 := act_cell HA.out P1.out (i := 4) (by omega)
  have AM := Lib.hid (act_msg HA.out P1.out)
  have hyy := HY.out
  unfold actL at hyy
  rw [if_neg (by have := HK.out; omega)] at hyy
  rw [if_neg (by have := HK.out; omega)] at hyy
  rw [if_neg (by have := HK.out; omega)] at hyy
  rw [if_neg (by have := HK.out; omega)] at hyy
  rw [if_pos HK.out] at hyy
  have CO := Lib.hid (refAbort_any x s (fld a 1) V1 T1.out (by have := OK.out.tch.len; omega))
  rw [hyy] at CO
  clear hyy HY
  go_upto_region 16 with (first
    | (refine wpList_load_row rfl 37 (.tmp 2) rfl g rfl 37 (trc x s) (0, 0) _ X1.out Tryz.underlying37 rfl (tr_infoR _ _) ?_)
    | (go_at_call 31; refine CO.out.mono ?_; rintro e V2 ⟨s2, u, rfl, ht2, hu2, hb2⟩; obtain ⟨Au, cu, rfl⟩ := own_len hu2; have T2 := Lib.hid ht2; have U2 := Lib.hid (own_less hu2 B1.out.size); have X2 := Lib.hid (X1.out.here hb2); have Z2 := Lib.hid (Z1.out.here hb2); have B2 := Lib.hid (stepB B1.out hb2); clear ht2 hb2)
    | (refine wpList_store_mid (by rfl) 37 (.tmp 2) (.tmp 59) (by rfl) g 0 (trc y s2) (by rfl) (by rfl) (X2.out.there (Nat.le_refl 13)) (tr_infoR _ _) T2.out.one ?_
       have R4 := Lib.hid (show Turn (fun k => k = g) V2 (V2.setCells g 0 (trc y s2).toList) from Turn.setCells (S := fun k => k = g) (fun _ => rfl) _ _ _ (Turn.refl _ _))
       have X3 := Lib.hid (X2.out.put (trc y s2) rfl)
       have Z3 := Lib.hid (Z2.out.turn R4.out (fun e => by have e : g + 2 = g := e; omega))
       have T3 := Lib.hid (T2.out.offBR X2.out R4.out)
       have B3 := Lib.hid (B2.out.trans (R4.out.below (B := w.heap.size) (fun k hk e => by have := HG.out; omega) B2.out.size))
       have U3 := Lib.hid (own_offB U2.out X2.out (by decide) R4.out)
       clear R4
       generalize V2.setCells g 0 (trc y s2).toList = V3 at X3 Z3 T3 B3 U3 ⊢))
  go_wp2_with (first
    | (refine wpList_load_row rfl 37 (.tmp 2) rfl g rfl 37 (trc y s2) (0, 0) _ X3.out Tryz.underlying37 rfl (tr_infoR _ _) ?_)
    | (refine wpList_store_mid (by rfl) 37 (.tmp 4) (.tmp 71) (by rfl) (g + 2) 0 (trc y s2) (by rfl) (by rfl) (Z3.out.there (Nat.le_refl 13)) (tr_infoR _ _) T3.out.one ?_
       have R4 := Lib.hid (show Turn (fun k => k = g + 2) V3 (V3.setCells (g + 2) 0 (trc y s2).toList) from Turn.setCells (S := fun k => k = g + 2) (fun _ => rfl) _ _ _ (Turn.refl _ _))
       have ZE := Lib.hid (Z3.out.put (trc y s2) rfl)
       have TE := Lib.hid (T3.out.offBR Z3.out R4.out)
       have BE := Lib.hid (B3.out.trans (R4.out.below (B := w.heap.size) (fun k hk e => by have := HG.out; omega) B3.out.size))
       have UE := Lib.hid (own_offB U3.out Z3.out (by decide) R4.out)
       clear R4
       generalize V3.setCells (g + 2) 0 (trc y s2).toList = WE at ZE TE BE UE ⊢))
  exact bodyPost_ret (v := .tuple #[.agg (trc y s2), .slice Au ms.length cu, .int .i64 c]) (results_and2 rfl rfl rfl rfl (tr_loadR ZE.out)) rfl ⟨s2, _, rfl, TE.out.less (Nat.zero_le _), UE.out, BE.out⟩
set_option maxRecDepth 100000 in
set_option maxHeartbeats 8000000 in
theorem wanted_5 {B k : Nat} (x : Tr) (s : Sl) (a : List Int) (ha : a.length = 33) (w : World) (h : Tm w B x s) (ok : TrOk x k) (hkk : k ≤ 900) (hk : fld a 0 = 5) (y : Tr) (ms : List (List Int)) (c : Int) (hy : actL x a = (y, ms, c)) :
    Calls Tryz.prog 10 #[.agg (trc x s), .agg (mc a)] w (ActP w (y, ms, c)) := by
  have X1 := Lib.hid (((Blk.new w 37 (trc x s)).alloc (.cells (mc a) 48)).alloc (.cells zTr 37))
  have P1 := Lib.hid ((Blk.new_at (w := w.alloc (.cells (trc x s) 37)) (n := w.heap.size + 1) (by simp) 48 (mc a)).alloc (.cells zTr 37))
  have Z1 := Lib.hid (show Blk (((w.alloc (.cells (trc x s) 37)).alloc (.cells (mc a) 48)).alloc (.cells zTr 37)) (w.heap.size + 2) 37 (trc noTr noSl) from Blk.new_at (by simp) _ _)
  have B1 := Lib.hid (((Joins.below_alloc1 w (.cells (trc x s) 37)).alloc (by simp <;> omega) (.cells (mc a) 48)).alloc (by simp <;> omega) (.cells zTr 37))
  have T1 := Lib.hid (h.step B1.out)
  have OK := Lib.hid ok
  have HKK := Lib.hid hkk
  have HA := Lib.hid ha
  have HD := Lib.hid (act_drop ha)
  have HMI := Lib.hid (show (Tryz.prog.info? 46).map (·.size) = some (ints (a.drop 5)).length from by have := mc_info (act_drop ha); simpa [mc] using this)
  have HY := Lib.hid hy
  have e0 : (fld a 0 == 0) = false := by simp; omega
  have e1 : (fld a 0 == 1) = false := by simp; omega
  have e2 : (fld a 0 == 2) = false := by simp; omega
  have e3 : (fld a 0 == 3) = false := by simp; omega
  have e4 : (fld a 0 == 4) = false := by simp; omega
  have e5 : (fld a 0 == 5) = true := by simp; omega
  have HK := Lib.hid hk
  clear h ok hkk ha hy hk
  go_enter Tryz.func10, Tryz.ntmps10
  go_upto_region 1 with fail
  obtain ⟨g, hg⟩ : ∃ g, g = w.heap.size := ⟨_, rfl⟩
  have HG := Lib.hid hg
  rw [← hg] at X1 P1 Z1 ⊢
  clear hg
  generalize (((w.alloc (.cells (trc x s) 37)).alloc (.cells (mc a) 48)).alloc (.cells zTr 37)) = V1 at X1 P1 Z1 B1 T1 ⊢
  have hgl := X1.out.lt
  have a0 := act_cell HA.out P1.out (i := 0) (by omega)
  have a1 := act_cell HA.out P1.out (i := 1) (by omega)
  have a2 := act_cell HA.out P1.out (i := 2) (by omega)
  have a3 := act_cell HA.out P1.out (i := 3) (by omega)
  have a4 := act_cell HA.out P1.out (i := 4) (by omega)
  have AM := Lib.hid (act_msg HA.out P1.out)
  have hyy := HY.out
  unfold actL at hyy
  rw [if_neg (by have := HK.out; omega)] at hyy
  rw [if_neg (by have := HK.out; omega)] at hyy
  rw [if_neg (by have := HK.out; omega)] at hyy
  rw [if_neg (by have := HK.out; omega)] at hyy
  rw [if_neg (by have := HK.out; omega)] at hyy
  rw [if_pos HK.out] at hyy
  have CO := Lib.hid (refAck_any x s (a.drop 5) HD.out V1 T1.out (by have := OK.out.tch.len; omega) OK.out.acks)
  rw [hyy] at CO
  obtain rfl : ms = [] := by have := ackL_nil x (a.drop 5); rw [hyy] at this; exact this
  clear hyy HY
  go_upto_region 16 with (first
    | (refine wpList_load_row rfl 37 (.tmp 2) rfl g rfl 37 (trc x s) (0, 0) _ X1.out Tryz.underlying37 rfl (tr_infoR _ _) ?_)
    | (refine wpList_load_cells rfl 46 (.tmp 66) rfl ⟨g + 1, 5, none⟩ rfl (ints (a.drop 5)) _ AM.out Tryz.underlying46 rfl HMI.out ?_)
    | (go_at_call 32; refine CO.out.mono ?_; rintro e V2 ⟨s2, rfl, ht2, hb2⟩; have T2 := Lib.hid ht2; have X2 := Lib.hid (X1.out.here hb2); have Z2 := Lib.hid (Z1.out.here hb2); have B2 := Lib.hid (stepB B1.out hb2); clear ht2 hb2)
    | (refine wpList_store_mid (by rfl) 37 (.tmp 2) (.tmp 69) (by rfl) g 0 (trc y s2) (by rfl) (by rfl) (X2.out.there (Nat.le_refl 13)) (tr_infoR _ _) T2.out.one ?_
       have R4 := Lib.hid (show Turn (fun k => k = g) V2 (V2.setCells g 0 (trc y s2).toList) from Turn.setCells (S := fun k => k = g) (fun _ => rfl) _ _ _ (Turn.refl _ _))
       have X3 := Lib.hid (X2.out.put (trc y s2) rfl)
       have Z3 := Lib.hid (Z2.out.turn R4.out (fun e => by have e : g + 2 = g := e; omega))
       have T3 := Lib.hid (T2.out.offBR X2.out R4.out)
       have B3 := Lib.hid (B2.out.trans (R4.out.below (B := w.heap.size) (fun k hk e => by have := HG.out; omega) B2.out.size))
       skip
       clear R4
       generalize V2.setCells g 0 (trc y s2).toList = V3 at X3 Z3 T3 B3 ⊢))
  go_wp2_with (first
    | (refine wpList_load_row rfl 37 (.tmp 2) rfl g rfl 37 (trc y s2) (0, 0) _ X3.out Tryz.underlying37 rfl (tr_infoR _ _) ?_)
    | (refine wpList_store_mid (by rfl) 37 (.tmp 4) (.tmp 71) (by rfl) (g + 2) 0 (trc y s2) (by rfl) (by rfl) (Z3.out.there (Nat.le_refl 13)) (tr_infoR _ _) T3.out.one ?_
       have R4 := Lib.hid (show Turn (fun k => k = g + 2) V3 (V3.setCells (g + 2) 0 (trc y s2).toList) from Turn.setCells (S := fun k => k = g + 2) (fun _ => rfl) _ _ _ (Turn.refl _ _))
       have ZE := Lib.hid (Z3.out.put (trc y s2) rfl)
       have TE := Lib.hid (T3.out.offBR Z3.out R4.out)
       have BE := Lib.hid (B3.out.trans (R4.out.below (B := w.heap.size) (fun k hk e => by have := HG.out; omega) B3.out.size))
       clear R4
       generalize V3.setCells (g + 2) 0 (trc y s2).toList = WE at ZE TE BE ⊢))
  exact bodyPost_ret (v := .tuple #[.agg (trc y s2), .slice none 0 0, .int .i64 c]) (results_and2 rfl rfl rfl rfl (tr_loadR ZE.out)) rfl ⟨s2, _, rfl, TE.out.less (Nat.zero_le _), World.ownsRow_nil _ _ _ _, BE.out⟩
set_option maxRecDepth 100000 in
set_option maxHeartbeats 8000000 in
theorem wanted_6 {B k : Nat} (x : Tr) (s : Sl) (a : List Int) (ha : a.length = 33) (w : World) (h : Tm w B x s) (ok : TrOk x k) (hkk : k ≤ 900) (hk : fld a 0 < 0 ∨ 5 < fld a 0) (y : Tr) (ms : List (List Int)) (c : Int) (hy : actL x a = (y, ms, c)) :
    Calls Tryz.prog 10 #[.agg (trc x s), .agg (mc a)] w (ActP w (y, ms, c)) := by
  have X1 := Lib.hid (((Blk.new w 37 (trc x s)).alloc (.cells (mc a) 48)).alloc (.cells zTr 37))
  have P1 := Lib.hid ((Blk.new_at (w := w.alloc (.cells (trc x s) 37)) (n := w.heap.size + 1) (by simp) 48 (mc a)).alloc (.cells zTr 37))
  have Z1 := Lib.hid (show Blk (((w.alloc (.cells (trc x s) 37)).alloc (.cells (mc a) 48)).alloc (.cells zTr 37)) (w.heap.size + 2) 37 (trc noTr noSl) from Blk.new_at (by simp) _ _)
  have B1 := Lib.hid (((Joins.below_alloc1 w (.cells (trc x s) 37)).alloc (by simp <;> omega) (.cells (mc a) 48)).alloc (by simp <;> omega) (.cells zTr 37))
  have T1 := Lib.hid (h.step B1.out)
  have OK := Lib.hid ok
  have HKK := Lib.hid hkk
  have HA := Lib.hid ha
  have HD := Lib.hid (act_drop ha)
  have HMI := Lib.hid (show (Tryz.prog.info? 46).map (·.size) = some (ints (a.drop 5)).length from by have := mc_info (act_drop ha); simpa [mc] using this)
  have HY := Lib.hid hy
  have e0 : (fld a 0 == 0) = false := by simp; omega
  have e1 : (fld a 0 == 1) = false := by simp; omega
  have e2 : (fld a 0 == 2) = false := by simp; omega
  have e3 : (fld a 0 == 3) = false := by simp; omega
  have e4 : (fld a 0 == 4) = false := by simp; omega
  have e5 : (fld a 0 == 5) = false := by simp; omega
  have HK := Lib.hid hk
  clear h ok hkk ha hy hk
  go_enter Tryz.func10, Tryz.ntmps10
  go_upto_region 1 with fail
  obtain ⟨g, hg⟩ : ∃ g, g = w.heap.size := ⟨_, rfl⟩
  have HG := Lib.hid hg
  rw [← hg] at X1 P1 Z1 ⊢
  clear hg
  generalize (((w.alloc (.cells (trc x s) 37)).alloc (.cells (mc a) 48)).alloc (.cells zTr 37)) = V1 at X1 P1 Z1 B1 T1 ⊢
  have hgl := X1.out.lt
  have a0 := act_cell HA.out P1.out (i := 0) (by omega)
  have a1 := act_cell HA.out P1.out (i := 1) (by omega)
  have a2 := act_cell HA.out P1.out (i := 2) (by omega)
  have a3 := act_cell HA.out P1.out (i := 3) (by omega)
  have a4 := act_cell HA.out P1.out (i := 4) (by omega)
  have AM := Lib.hid (act_msg HA.out P1.out)
  have hyy := HY.out
  unfold actL at hyy
  rw [if_neg (by have := HK.out; omega), if_neg (by have := HK.out; omega), if_neg (by have := HK.out; omega), if_neg (by have := HK.out; omega), if_neg (by have := HK.out; omega), if_neg (by have := HK.out; omega)] at hyy
  injection hyy with hy1 hy2
  injection hy2 with hy2 hy3
  subst hy1 hy2 hy3
  go_upto_region 16 with fail
  go_wp2_with (first
    | (refine wpList_load_row rfl 37 (.tmp 2) rfl g rfl 37 (trc x s) (0, 0) _ X1.out Tryz.underlying37 rfl (tr_infoR _ _) ?_)
    | (refine wpList_store_mid (by rfl) 37 (.tmp 4) (.tmp 71) (by rfl) (g + 2) 0 (trc x s) (by rfl) (by rfl) (Z1.out.there (Nat.le_refl 13)) (tr_infoR _ _) T1.out.one ?_
       have R4 := Lib.hid (show Turn (fun k => k = g + 2) V1 (V1.setCells (g + 2) 0 (trc x s).toList) from Turn.setCells (S := fun k => k = g + 2) (fun _ => rfl) _ _ _ (Turn.refl _ _))
       have ZE := Lib.hid (Z1.out.put (trc x s) rfl)
       have TE := Lib.hid (T1.out.offBR Z1.out R4.out)
       have BE := Lib.hid (B1.out.trans (R4.out.below (B := w.heap.size) (fun k hk e => by have := HG.out; omega) B1.out.size))
       clear R4
       generalize V1.setCells (g + 2) 0 (trc x s).toList = WE at ZE TE BE ⊢))
  exact bodyPost_ret (v := .tuple #[.agg (trc x s), .slice none 0 0, .int .i64 0]) (results_and2 rfl rfl rfl rfl (tr_loadR ZE.out)) rfl ⟨s, _, rfl, TE.out.less (Nat.zero_le _), World.ownsRow_nil _ _ _ _, BE.out⟩
theorem wanted_any {B k : Nat} (x : Tr) (s : Sl) (a : List Int) (ha : a.length = 33) (w : World) (h : Tm w B x s) (ok : TrOk x k) (hkk : k ≤ 900) (y : Tr) (ms : List (List Int)) (c : Int) (hy : actL x a = (y, ms, c)) :
    Calls Tryz.prog 10 #[.agg (trc x s), .agg (mc a)] w (ActP w (y, ms, c)) := by
  by_cases h0 : fld a 0 = 0
  · exact wanted_0 x s a ha w h ok hkk h0 y ms c hy
  by_cases h1 : fld a 0 = 1
  · exact wanted_1 x s a ha w h ok hkk h1 y ms c hy
  by_cases h2 : fld a 0 = 2
  · exact wanted_2 x s a ha w h ok hkk h2 y ms c hy
  by_cases h3 : fld a 0 = 3
  · exact wanted_3 x s a ha w h ok hkk h3 y ms c hy
  by_cases h4 : fld a 0 = 4
  · exact wanted_4 x s a ha w h ok hkk h4 y ms c hy
  by_cases h5 : fld a 0 = 5
  · exact wanted_5 x s a ha w h ok hkk h5 y ms c hy
  exact wanted_6 x s a ha w h ok hkk (by omega) y ms c hy
end Go.Proofs.YthfhhapefjideaaGreat
