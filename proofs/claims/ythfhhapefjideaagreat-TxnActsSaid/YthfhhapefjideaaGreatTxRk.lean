/- The document's Ask. -/
import Derived.Test.YthfhhapefjideaaGreatTxRj
namespace Go.Proofs.YthfhhapefjideaaGreat
open Go.RowKit
set_option linter.unusedVariables false
set_option linter.unusedSimpArgs false

theorem rokD_b (t r : Int) (b : Bool) (h : resB t r = b) (w : World) : Calls Tryz.prog 49 #[.agg #[.int .i64 t, .int .i64 r]] w fun e w' => e = .returned (.bool b) ∧ Below w.heap.size w w' := by rw [← h]; exact rokD_any t r w
theorem own_flat1 (V : World) (t : TypeId) (q : List Int) {B size : Nat} (hB : B ≤ V.heap.size) (hq : q.length = size) (hs : size ≤ 1000) : (V.alloc (.cells (ints q).toArray t)).ownsRow B t size (.slice (some ⟨V.heap.size, 0, none⟩) 1 1) 1 (ints q) := by
  subst hq
  exact ⟨by rw [ints_length]; omega, .inr ⟨_, _, (ints q).toArray, rfl, hB, Blk.new V t _, Nat.le_refl _, by simp only [maxLen]; omega, by simp [ints_length], by rw [List.take_of_length_le (by simp [ints_length])]⟩⟩
theorem refLock_q (x : Tr) (s : Sl) (q : List Int) (hq : lockL x x.sh = q) (w : World) :
    Calls Tryz.prog 37 #[.agg (trc x s)] w fun e w' => e = .returned (.agg (mc q)) ∧ Below w.heap.size w w' := by rw [← hq]; exact refLock_any x s w
set_option maxRecDepth 100000 in
set_option maxHeartbeats 8000000 in
theorem refAsk_1a {B : Nat} (x : Tr) (s : Sl) (a0 a1 sh md : Int) (h0 : sh < 1) (w : World) (h : Tm w B x s) (ht : x.tch.length ≤ 900) :
    Calls Tryz.prog 27 #[.agg (trc x s), .int .i64 sh, .agg #[.int .i64 a0, .int .i64 a1], .int .i64 md] w (ActP w (x, [], 1)) := by
  have X1 := Lib.hid (((Blk.new w 37 (trc x s)).alloc (.cells #[.int .i64 a0, .int .i64 a1] 25)).alloc (.cells zTr 37))
  have P1 := Lib.hid ((Blk.new_at (w := w.alloc (.cells (trc x s) 37)) (n := w.heap.size + 1) (by simp) 25 #[.int .i64 a0, .int .i64 a1]).alloc (.cells zTr 37))
  have Z1 := Lib.hid (show Blk (((w.alloc (.cells (trc x s) 37)).alloc (.cells #[.int .i64 a0, .int .i64 a1] 25)).alloc (.cells zTr 37)) (w.heap.size + 2) 37 (trc noTr noSl) from Blk.new_at (by simp) _ _)
  have B1 := Lib.hid (((Joins.below_alloc1 w (.cells (trc x s) 37)).alloc (by simp <;> omega) (.cells #[.int .i64 a0, .int .i64 a1] 25)).alloc (by simp <;> omega) (.cells zTr 37))
  have T1 := Lib.hid (h.step B1.out)
  have HT := Lib.hid ht
  have d0 : decide (sh < 1) = true := by simpa using h0
  clear h0
  clear h ht
  go_enter Tryz.func27, Tryz.ntmps27
  go_upto_region 1 with fail
  obtain ⟨g, hg⟩ : ∃ g, g = w.heap.size := ⟨_, rfl⟩
  have HG := Lib.hid hg
  rw [← hg] at X1 P1 Z1 ⊢
  clear hg
  generalize (((w.alloc (.cells (trc x s) 37)).alloc (.cells #[.int .i64 a0, .int .i64 a1] 25)).alloc (.cells zTr 37)) = V1 at X1 P1 Z1 B1 T1 ⊢
  have hgl := X1.out.lt
  go_upto_region 2 with fail
  go_wp2_with (first
    | (refine wpList_load_row rfl 37 (.tmp 4) rfl g rfl 37 (trc x s) (0, 0) _ X1.out Tryz.underlying37 rfl (tr_infoR _ _) ?_)
    | (refine wpList_store_mid (by rfl) 37 (.tmp 8) (.tmp 30) (by rfl) (g + 2) 0 (trc x s) (by rfl) (by rfl) (Z1.out.there (Nat.le_refl 13)) (tr_infoR _ _) T1.out.one ?_
       have R4 := Lib.hid (show Turn (fun k => k = g + 2) V1 (V1.setCells (g + 2) 0 (trc x s).toList) from Turn.setCells (S := fun k => k = g + 2) (fun _ => rfl) _ _ _ (Turn.refl _ _))
       have ZE := Lib.hid (Z1.out.put (trc x s) rfl)
       have TE := Lib.hid (T1.out.offBR Z1.out R4.out)
       have BE := Lib.hid (B1.out.trans (R4.out.below (B := w.heap.size) (fun k hk e => by have := HG.out; omega) B1.out.size))
       clear R4
       generalize V1.setCells (g + 2) 0 (trc x s).toList = WE at ZE TE BE ⊢))
  exact bodyPost_ret (v := .tuple #[.agg (trc x s), .slice none 0 0, .int .i64 1]) (results_and2 rfl rfl rfl rfl (tr_loadR ZE.out)) rfl ⟨s, _, rfl, TE.out.less (Nat.zero_le _), World.ownsRow_nil _ _ _ _, BE.out⟩
set_option maxRecDepth 100000 in
set_option maxHeartbeats 8000000 in
theorem refAsk_1b {B : Nat} (x : Tr) (s : Sl) (a0 a1 sh md : Int) (h0 : ¬ sh < 1) (h1 : 64 < sh) (w : World) (h : Tm w B x s) (ht : x.tch.length ≤ 900) :
    Calls Tryz.prog 27 #[.agg (trc x s), .int .i64 sh, .agg #[.int .i64 a0, .int .i64 a1], .int .i64 md] w (ActP w (x, [], 1)) := by
  have X1 := Lib.hid (((Blk.new w 37 (trc x s)).alloc (.cells #[.int .i64 a0, .int .i64 a1] 25)).alloc (.cells zTr 37))
  have P1 := Lib.hid ((Blk.new_at (w := w.alloc (.cells (trc x s) 37)) (n := w.heap.size + 1) (by simp) 25 #[.int .i64 a0, .int .i64 a1]).alloc (.cells zTr 37))
  have Z1 := Lib.hid (show Blk (((w.alloc (.cells (trc x s) 37)).alloc (.cells #[.int .i64 a0, .int .i64 a1] 25)).alloc (.cells zTr 37)) (w.heap.size + 2) 37 (trc noTr noSl) from Blk.new_at (by simp) _ _)
  have B1 := Lib.hid (((Joins.below_alloc1 w (.cells (trc x s) 37)).alloc (by simp <;> omega) (.cells #[.int .i64 a0, .int .i64 a1] 25)).alloc (by simp <;> omega) (.cells zTr 37))
  have T1 := Lib.hid (h.step B1.out)
  have HT := Lib.hid ht
  have d0 : decide (sh < 1) = false := by simpa using h0
  have d1 : decide (64 < sh) = true := by simpa using h1
  clear h0 h1
  clear h ht
  go_enter Tryz.func27, Tryz.ntmps27
  go_upto_region 1 with fail
  obtain ⟨g, hg⟩ : ∃ g, g = w.heap.size := ⟨_, rfl⟩
  have HG := Lib.hid hg
  rw [← hg] at X1 P1 Z1 ⊢
  clear hg
  generalize (((w.alloc (.cells (trc x s) 37)).alloc (.cells #[.int .i64 a0, .int .i64 a1] 25)).alloc (.cells zTr 37)) = V1 at X1 P1 Z1 B1 T1 ⊢
  have hgl := X1.out.lt
  go_upto_region 2 with fail
  go_wp2_with (first
    | (refine wpList_load_row rfl 37 (.tmp 4) rfl g rfl 37 (trc x s) (0, 0) _ X1.out Tryz.underlying37 rfl (tr_infoR _ _) ?_)
    | (refine wpList_store_mid (by rfl) 37 (.tmp 8) (.tmp 30) (by rfl) (g + 2) 0 (trc x s) (by rfl) (by rfl) (Z1.out.there (Nat.le_refl 13)) (tr_infoR _ _) T1.out.one ?_
       have R4 := Lib.hid (show Turn (fun k => k = g + 2) V1 (V1.setCells (g + 2) 0 (trc x s).toList) from Turn.setCells (S := fun k => k = g + 2) (fun _ => rfl) _ _ _ (Turn.refl _ _))
       have ZE := Lib.hid (Z1.out.put (trc x s) rfl)
       have TE := Lib.hid (T1.out.offBR Z1.out R4.out)
       have BE := Lib.hid (B1.out.trans (R4.out.below (B := w.heap.size) (fun k hk e => by have := HG.out; omega) B1.out.size))
       clear R4
       generalize V1.setCells (g + 2) 0 (trc x s).toList = WE at ZE TE BE ⊢))
  exact bodyPost_ret (v := .tuple #[.agg (trc x s), .slice none 0 0, .int .i64 1]) (results_and2 rfl rfl rfl rfl (tr_loadR ZE.out)) rfl ⟨s, _, rfl, TE.out.less (Nat.zero_le _), World.ownsRow_nil _ _ _ _, BE.out⟩
set_option maxRecDepth 100000 in
set_option maxHeartbeats 8000000 in
theorem refAsk_1c {B : Nat} (x : Tr) (s : Sl) (a0 a1 sh md : Int) (h0 : ¬ sh < 1) (h1 : ¬ 64 < sh) (hr : resB a0 a1 = false) (w : World) (h : Tm w B x s) (ht : x.tch.length ≤ 900) :
    Calls Tryz.prog 27 #[.agg (trc x s), .int .i64 sh, .agg #[.int .i64 a0, .int .i64 a1], .int .i64 md] w (ActP w (x, [], 1)) := by
  have X1 := Lib.hid (((Blk.new w 37 (trc x s)).alloc (.cells #[.int .i64 a0, .int .i64 a1] 25)).alloc (.cells zTr 37))
  have P1 := Lib.hid ((Blk.new_at (w := w.alloc (.cells (trc x s) 37)) (n := w.heap.size + 1) (by simp) 25 #[.int .i64 a0, .int .i64 a1]).alloc (.cells zTr 37))
  have Z1 := Lib.hid (show Blk (((w.alloc (.cells (trc x s) 37)).alloc (.cells #[.int .i64 a0, .int .i64 a1] 25)).alloc (.cells zTr 37)) (w.heap.size + 2) 37 (trc noTr noSl) from Blk.new_at (by simp) _ _)
  have B1 := Lib.hid (((Joins.below_alloc1 w (.cells (trc x s) 37)).alloc (by simp <;> omega) (.cells #[.int .i64 a0, .int .i64 a1] 25)).alloc (by simp <;> omega) (.cells zTr 37))
  have T1 := Lib.hid (h.step B1.out)
  have HT := Lib.hid ht
  have d0 : decide (sh < 1) = false := by simpa using h0
  have d1 : decide (64 < sh) = false := by simpa using h1
  have HR := Lib.hid hr
  clear h0 h1 hr
  clear h ht
  go_enter Tryz.func27, Tryz.ntmps27
  go_upto_region 1 with fail
  obtain ⟨g, hg⟩ : ∃ g, g = w.heap.size := ⟨_, rfl⟩
  have HG := Lib.hid hg
  rw [← hg] at X1 P1 Z1 ⊢
  clear hg
  generalize (((w.alloc (.cells (trc x s) 37)).alloc (.cells #[.int .i64 a0, .int .i64 a1] 25)).alloc (.cells zTr 37)) = V1 at X1 P1 Z1 B1 T1 ⊢
  have hgl := X1.out.lt
  have p0 : V1.cell? ⟨g + 1, 0, none⟩ = some (.int .i64 a0) := P1.out.cell 0
  have p1 : V1.cell? ⟨g + 1, 1, none⟩ = some (.int .i64 a1) := P1.out.cell 1
  go_upto_region 2 with (first
    | (go_at_call 49; refine (rokD_b a0 a1 false HR.out _).mono ?_; rintro e V2 ⟨rfl, hb⟩; have X2 := Lib.hid (X1.out.here hb); have P2 := Lib.hid (P1.out.here hb); have Z2 := Lib.hid (Z1.out.here hb); have B2 := Lib.hid (stepB B1.out hb); have T2 := Lib.hid (T1.out.step hb); clear hb))
  go_wp2_with (first
    | (refine wpList_load_row rfl 37 (.tmp 4) rfl g rfl 37 (trc x s) (0, 0) _ X2.out Tryz.underlying37 rfl (tr_infoR _ _) ?_)
    | (refine wpList_store_mid (by rfl) 37 (.tmp 8) (.tmp 30) (by rfl) (g + 2) 0 (trc x s) (by rfl) (by rfl) (Z2.out.there (Nat.le_refl 13)) (tr_infoR _ _) T2.out.one ?_
       have R4 := Lib.hid (show Turn (fun k => k = g + 2) V2 (V2.setCells (g + 2) 0 (trc x s).toList) from Turn.setCells (S := fun k => k = g + 2) (fun _ => rfl) _ _ _ (Turn.refl _ _))
       have ZE := Lib.hid (Z2.out.put (trc x s) rfl)
       have TE := Lib.hid (T2.out.offBR Z2.out R4.out)
       have BE := Lib.hid (B2.out.trans (R4.out.below (B := w.heap.size) (fun k hk e => by have := HG.out; omega) B2.out.size))
       clear R4
       generalize V2.setCells (g + 2) 0 (trc x s).toList = WE at ZE TE BE ⊢))
  exact bodyPost_ret (v := .tuple #[.agg (trc x s), .slice none 0 0, .int .i64 1]) (results_and2 rfl rfl rfl rfl (tr_loadR ZE.out)) rfl ⟨s, _, rfl, TE.out.less (Nat.zero_le _), World.ownsRow_nil _ _ _ _, BE.out⟩
set_option maxRecDepth 100000 in
set_option maxHeartbeats 8000000 in
theorem refAsk_1d {B : Nat} (x : Tr) (s : Sl) (a0 a1 sh md : Int) (h0 : ¬ sh < 1) (h1 : ¬ 64 < sh) (hr : resB a0 a1 = true) (h2 : md < 1) (w : World) (h : Tm w B x s) (ht : x.tch.length ≤ 900) :
    Calls Tryz.prog 27 #[.agg (trc x s), .int .i64 sh, .agg #[.int .i64 a0, .int .i64 a1], .int .i64 md] w (ActP w (x, [], 1)) := by
  have X1 := Lib.hid (((Blk.new w 37 (trc x s)).alloc (.cells #[.int .i64 a0, .int .i64 a1] 25)).alloc (.cells zTr 37))
  have P1 := Lib.hid ((Blk.new_at (w := w.alloc (.cells (trc x s) 37)) (n := w.heap.size + 1) (by simp) 25 #[.int .i64 a0, .int .i64 a1]).alloc (.cells zTr 37))
  have Z1 := Lib.hid (show Blk (((w.alloc (.cells (trc x s) 37)).alloc (.cells #[.int .i64 a0, .int .i64 a1] 25)).alloc (.cells zTr 37)) (w.heap.size + 2) 37 (trc noTr noSl) from Blk.new_at (by simp) _ _)
  have B1 := Lib.hid (((Joins.below_alloc1 w (.cells (trc x s) 37)).alloc (by simp <;> omega) (.cells #[.int .i64 a0, .int .i64 a1] 25)).alloc (by simp <;> omega) (.cells zTr 37))
  have T1 := Lib.hid (h.step B1.out)
  have HT := Lib.hid ht
  have d0 : decide (sh < 1) = false := by simpa using h0
  have d1 : decide (64 < sh) = false := by simpa using h1
  have HR := Lib.hid hr
  have d2 : decide (md < 1) = true := by simpa using h2
  clear h0 h1 hr h2
  clear h ht
  go_enter Tryz.func27, Tryz.ntmps27
  go_upto_region 1 with fail
  obtain ⟨g, hg⟩ : ∃ g, g = w.heap.size := ⟨_, rfl⟩
  have HG := Lib.hid hg
  rw [← hg] at X1 P1 Z1 ⊢
  clear hg
  generalize (((w.alloc (.cells (trc x s) 37)).alloc (.cells #[.int .i64 a0, .int .i64 a1] 25)).alloc (.cells zTr 37)) = V1 at X1 P1 Z1 B1 T1 ⊢
  have hgl := X1.out.lt
  have p0 : V1.cell? ⟨g + 1, 0, none⟩ = some (.int .i64 a0) := P1.out.cell 0
  have p1 : V1.cell? ⟨g + 1, 1, none⟩ = some (.int .i64 a1) := P1.out.cell 1
  go_upto_region 2 with (first
    | (go_at_call 49; refine (rokD_b a0 a1 true HR.out _).mono ?_; rintro e V2 ⟨rfl, hb⟩; have X2 := Lib.hid (X1.out.here hb); have P2 := Lib.hid (P1.out.here hb); have Z2 := Lib.hid (Z1.out.here hb); have B2 := Lib.hid (stepB B1.out hb); have T2 := Lib.hid (T1.out.step hb); clear hb))
  go_wp2_with (first
    | (refine wpList_load_row rfl 37 (.tmp 4) rfl g rfl 37 (trc x s) (0, 0) _ X2.out Tryz.underlying37 rfl (tr_infoR _ _) ?_)
    | (refine wpList_store_mid (by rfl) 37 (.tmp 8) (.tmp 30) (by rfl) (g + 2) 0 (trc x s) (by rfl) (by rfl) (Z2.out.there (Nat.le_refl 13)) (tr_infoR _ _) T2.out.one ?_
       have R4 := Lib.hid (show Turn (fun k => k = g + 2) V2 (V2.setCells (g + 2) 0 (trc x s).toList) from Turn.setCells (S := fun k => k = g + 2) (fun _ => rfl) _ _ _ (Turn.refl _ _))
       have ZE := Lib.hid (Z2.out.put (trc x s) rfl)
       have TE := Lib.hid (T2.out.offBR Z2.out R4.out)
       have BE := Lib.hid (B2.out.trans (R4.out.below (B := w.heap.size) (fun k hk e => by have := HG.out; omega) B2.out.size))
       clear R4
       generalize V2.setCells (g + 2) 0 (trc x s).toList = WE at ZE TE BE ⊢))
  exact bodyPost_ret (v := .tuple #[.agg (trc x s), .slice none 0 0, .int .i64 1]) (results_and2 rfl rfl rfl rfl (tr_loadR ZE.out)) rfl ⟨s, _, rfl, TE.out.less (Nat.zero_le _), World.ownsRow_nil _ _ _ _, BE.out⟩
set_option maxRecDepth 100000 in
set_option maxHeartbeats 8000000 in
theorem refAsk_1e {B : Nat} (x : Tr) (s : Sl) (a0 a1 sh md : Int) (h0 : ¬ sh < 1) (h1 : ¬ 64 < sh) (hr : resB a0 a1 = true) (h2 : ¬ md < 1) (h3 : 4 < md) (w : World) (h : Tm w B x s) (ht : x.tch.length ≤ 900) :
    Calls Tryz.prog 27 #[.agg (trc x s), .int .i64 sh, .agg #[.int .i64 a0, .int .i64 a1], .int .i64 md] w (ActP w (x, [], 1)) := by
  have X1 := Lib.hid (((Blk.new w 37 (trc x s)).alloc (.cells #[.int .i64 a0, .int .i64 a1] 25)).alloc (.cells zTr 37))
  have P1 := Lib.hid ((Blk.new_at (w := w.alloc (.cells (trc x s) 37)) (n := w.heap.size + 1) (by simp) 25 #[.int .i64 a0, .int .i64 a1]).alloc (.cells zTr 37))
  have Z1 := Lib.hid (show Blk (((w.alloc (.cells (trc x s) 37)).alloc (.cells #[.int .i64 a0, .int .i64 a1] 25)).alloc (.cells zTr 37)) (w.heap.size + 2) 37 (trc noTr noSl) from Blk.new_at (by simp) _ _)
  have B1 := Lib.hid (((Joins.below_alloc1 w (.cells (trc x s) 37)).alloc (by simp <;> omega) (.cells #[.int .i64 a0, .int .i64 a1] 25)).alloc (by simp <;> omega) (.cells zTr 37))
  have T1 := Lib.hid (h.step B1.out)
  have HT := Lib.hid ht
  have d0 : decide (sh < 1) = false := by simpa using h0
  have d1 : decide (64 < sh) = false := by simpa using h1
  have HR := Lib.hid hr
  have d2 : decide (md < 1) = false := by simpa using h2
  have d3 : decide (4 < md) = true := by simpa using h3
  clear h0 h1 hr h2 h3
  clear h ht
  go_enter Tryz.func27, Tryz.ntmps27
  go_upto_region 1 with fail
  obtain ⟨g, hg⟩ : ∃ g, g = w.heap.size := ⟨_, rfl⟩
  have HG := Lib.hid hg
  rw [← hg] at X1 P1 Z1 ⊢
  clear hg
  generalize (((w.alloc (.cells (trc x s) 37)).alloc (.cells #[.int .i64 a0, .int .i64 a1] 25)).alloc (.cells zTr 37)) = V1 at X1 P1 Z1 B1 T1 ⊢
  have hgl := X1.out.lt
  have p0 : V1.cell? ⟨g + 1, 0, none⟩ = some (.int .i64 a0) := P1.out.cell 0
  have p1 : V1.cell? ⟨g + 1, 1, none⟩ = some (.int .i64 a1) := P1.out.cell 1
  go_upto_region 2 with (first
    | (go_at_call 49; refine (rokD_b a0 a1 true HR.out _).mono ?_; rintro e V2 ⟨rfl, hb⟩; have X2 := Lib.hid (X1.out.here hb); have P2 := Lib.hid (P1.out.here hb); have Z2 := Lib.hid (Z1.out.here hb); have B2 := Lib.hid (stepB B1.out hb); have T2 := Lib.hid (T1.out.step hb); clear hb))
  go_wp2_with (first
    | (refine wpList_load_row rfl 37 (.tmp 4) rfl g rfl 37 (trc x s) (0, 0) _ X2.out Tryz.underlying37 rfl (tr_infoR _ _) ?_)
    | (refine wpList_store_mid (by rfl) 37 (.tmp 8) (.tmp 30) (by rfl) (g + 2) 0 (trc x s) (by rfl) (by rfl) (Z2.out.there (Nat.le_refl 13)) (tr_infoR _ _) T2.out.one ?_
       have R4 := Lib.hid (show Turn (fun k => k = g + 2) V2 (V2.setCells (g + 2) 0 (trc x s).toList) from Turn.setCells (S := fun k => k = g + 2) (fun _ => rfl) _ _ _ (Turn.refl _ _))
       have ZE := Lib.hid (Z2.out.put (trc x s) rfl)
       have TE := Lib.hid (T2.out.offBR Z2.out R4.out)
       have BE := Lib.hid (B2.out.trans (R4.out.below (B := w.heap.size) (fun k hk e => by have := HG.out; omega) B2.out.size))
       clear R4
       generalize V2.setCells (g + 2) 0 (trc x s).toList = WE at ZE TE BE ⊢))
  exact bodyPost_ret (v := .tuple #[.agg (trc x s), .slice none 0 0, .int .i64 1]) (results_and2 rfl rfl rfl rfl (tr_loadR ZE.out)) rfl ⟨s, _, rfl, TE.out.less (Nat.zero_le _), World.ownsRow_nil _ _ _ _, BE.out⟩
set_option maxRecDepth 100000 in
set_option maxHeartbeats 8000000 in
theorem refAsk_11 {B : Nat} (x : Tr) (s : Sl) (a0 a1 sh md : Int) (h0 : ¬ sh < 1) (h1 : ¬ 64 < sh) (hr : resB a0 a1 = true) (h2 : ¬ md < 1) (h3 : ¬ 4 < md) (h4 : ¬ x.st = 1) (w : World) (h : Tm w B x s) (ht : x.tch.length ≤ 900) :
    Calls Tryz.prog 27 #[.agg (trc x s), .int .i64 sh, .agg #[.int .i64 a0, .int .i64 a1], .int .i64 md] w (ActP w (x, [], 11)) := by
  have X1 := Lib.hid (((Blk.new w 37 (trc x s)).alloc (.cells #[.int .i64 a0, .int .i64 a1] 25)).alloc (.cells zTr 37))
  have P1 := Lib.hid ((Blk.new_at (w := w.alloc (.cells (trc x s) 37)) (n := w.heap.size + 1) (by simp) 25 #[.int .i64 a0, .int .i64 a1]).alloc (.cells zTr 37))
  have Z1 := Lib.hid (show Blk (((w.alloc (.cells (trc x s) 37)).alloc (.cells #[.int .i64 a0, .int .i64 a1] 25)).alloc (.cells zTr 37)) (w.heap.size + 2) 37 (trc noTr noSl) from Blk.new_at (by simp) _ _)
  have B1 := Lib.hid (((Joins.below_alloc1 w (.cells (trc x s) 37)).alloc (by simp <;> omega) (.cells #[.int .i64 a0, .int .i64 a1] 25)).alloc (by simp <;> omega) (.cells zTr 37))
  have T1 := Lib.hid (h.step B1.out)
  have HT := Lib.hid ht
  have d0 : decide (sh < 1) = false := by simpa using h0
  have d1 : decide (64 < sh) = false := by simpa using h1
  have HR := Lib.hid hr
  have d2 : decide (md < 1) = false := by simpa using h2
  have d3 : decide (4 < md) = false := by simpa using h3
  have e1 : (x.st != 1) = true := by simpa using h4
  clear h0 h1 hr h2 h3 h4
  clear h ht
  go_enter Tryz.func27, Tryz.ntmps27
  go_upto_region 1 with fail
  obtain ⟨g, hg⟩ : ∃ g, g = w.heap.size := ⟨_, rfl⟩
  have HG := Lib.hid hg
  rw [← hg] at X1 P1 Z1 ⊢
  clear hg
  generalize (((w.alloc (.cells (trc x s) 37)).alloc (.cells #[.int .i64 a0, .int .i64 a1] 25)).alloc (.cells zTr 37)) = V1 at X1 P1 Z1 B1 T1 ⊢
  have hgl := X1.out.lt
  have p0 : V1.cell? ⟨g + 1, 0, none⟩ = some (.int .i64 a0) := P1.out.cell 0
  have p1 : V1.cell? ⟨g + 1, 1, none⟩ = some (.int .i64 a1) := P1.out.cell 1
  go_upto_region 3 with (first
    | (go_at_call 49; refine (rokD_b a0 a1 true HR.out _).mono ?_; rintro e V2 ⟨rfl, hb⟩; have X2 := Lib.hid (X1.out.here hb); have P2 := Lib.hid (P1.out.here hb); have Z2 := Lib.hid (Z1.out.here hb); have B2 := Lib.hid (stepB B1.out hb); have T2 := Lib.hid (T1.out.step hb); clear hb))
  clear p0 p1
  have c1 : V2.cell? ⟨g, 1, none⟩ = some (.int .i64 x.st) := X2.out.cell 1
  go_upto_region 4 with fail
  go_wp2_with (first
    | (refine wpList_load_row rfl 37 (.tmp 4) rfl g rfl 37 (trc x s) (0, 0) _ X2.out Tryz.underlying37 rfl (tr_infoR _ _) ?_)
    | (refine wpList_store_mid (by rfl) 37 (.tmp 8) (.tmp 34) (by rfl) (g + 2) 0 (trc x s) (by rfl) (by rfl) (Z2.out.there (Nat.le_refl 13)) (tr_infoR _ _) T2.out.one ?_
       have R4 := Lib.hid (show Turn (fun k => k = g + 2) V2 (V2.setCells (g + 2) 0 (trc x s).toList) from Turn.setCells (S := fun k => k = g + 2) (fun _ => rfl) _ _ _ (Turn.refl _ _))
       have ZE := Lib.hid (Z2.out.put (trc x s) rfl)
       have TE := Lib.hid (T2.out.offBR Z2.out R4.out)
       have BE := Lib.hid (B2.out.trans (R4.out.below (B := w.heap.size) (fun k hk e => by have := HG.out; omega) B2.out.size))
       clear R4
       generalize V2.setCells (g + 2) 0 (trc x s).toList = WE at ZE TE BE ⊢))
  exact bodyPost_ret (v := .tuple #[.agg (trc x s), .slice none 0 0, .int .i64 11]) (results_and2 rfl rfl rfl rfl (tr_loadR ZE.out)) rfl ⟨s, _, rfl, TE.out.less (Nat.zero_le _), World.ownsRow_nil _ _ _ _, BE.out⟩
set_option maxRecDepth 100000 in
set_option maxHeartbeats 8000000 in
theorem refAsk_8 {B : Nat} (x : Tr) (s : Sl) (a0 a1 sh md : Int) (h0 : ¬ sh < 1) (h1 : ¬ 64 < sh) (hr : resB a0 a1 = true) (h2 : ¬ md < 1) (h3 : ¬ 4 < md) (h4 : x.st = 1) (h5 : x.op = true) (w : World) (h : Tm w B x s) (ht : x.tch.length ≤ 900) :
    Calls Tryz.prog 27 #[.agg (trc x s), .int .i64 sh, .agg #[.int .i64 a0, .int .i64 a1], .int .i64 md] w (ActP w (x, [], 8)) := by
  have X1 := Lib.hid (((Blk.new w 37 (trc x s)).alloc (.cells #[.int .i64 a0, .int .i64 a1] 25)).alloc (.cells zTr 37))
  have P1 := Lib.hid ((Blk.new_at (w := w.alloc (.cells (trc x s) 37)) (n := w.heap.size + 1) (by simp) 25 #[.int .i64 a0, .int .i64 a1]).alloc (.cells zTr 37))
  have Z1 := Lib.hid (show Blk (((w.alloc (.cells (trc x s) 37)).alloc (.cells #[.int .i64 a0, .int .i64 a1] 25)).alloc (.cells zTr 37)) (w.heap.size + 2) 37 (trc noTr noSl) from Blk.new_at (by simp) _ _)
  have B1 := Lib.hid (((Joins.below_alloc1 w (.cells (trc x s) 37)).alloc (by simp <;> omega) (.cells #[.int .i64 a0, .int .i64 a1] 25)).alloc (by simp <;> omega) (.cells zTr 37))
  have T1 := Lib.hid (h.step B1.out)
  have HT := Lib.hid ht
  have d0 : decide (sh < 1) = false := by simpa using h0
  have d1 : decide (64 < sh) = false := by simpa using h1
  have HR := Lib.hid hr
  have d2 : decide (md < 1) = false := by simpa using h2
  have d3 : decide (4 < md) = false := by simpa using h3
  have e1 : (x.st != 1) = false := by simpa using h4
  have HO := Lib.hid h5
  clear h0 h1 hr h2 h3 h4 h5
  clear h ht
  go_enter Tryz.func27, Tryz.ntmps27
  go_upto_region 1 with fail
  obtain ⟨g, hg⟩ : ∃ g, g = w.heap.size := ⟨_, rfl⟩
  have HG := Lib.hid hg
  rw [← hg] at X1 P1 Z1 ⊢
  clear hg
  generalize (((w.alloc (.cells (trc x s) 37)).alloc (.cells #[.int .i64 a0, .int .i64 a1] 25)).alloc (.cells zTr 37)) = V1 at X1 P1 Z1 B1 T1 ⊢
  have hgl := X1.out.lt
  have p0 : V1.cell? ⟨g + 1, 0, none⟩ = some (.int .i64 a0) := P1.out.cell 0
  have p1 : V1.cell? ⟨g + 1, 1, none⟩ = some (.int .i64 a1) := P1.out.cell 1
  go_upto_region 3 with (first
    | (go_at_call 49; refine (rokD_b a0 a1 true HR.out _).mono ?_; rintro e V2 ⟨rfl, hb⟩; have X2 := Lib.hid (X1.out.here hb); have P2 := Lib.hid (P1.out.here hb); have Z2 := Lib.hid (Z1.out.here hb); have B2 := Lib.hid (stepB B1.out hb); have T2 := Lib.hid (T1.out.step hb); clear hb))
  clear p0 p1
  have c1 : V2.cell? ⟨g, 1, none⟩ = some (.int .i64 x.st) := X2.out.cell 1
  have c4 : V2.cell? ⟨g, 4, none⟩ = some (.bool true) := by rw [← HO.out]; exact X2.out.cell 4
  go_upto_region 6 with fail
  go_wp2_with (first
    | (refine wpList_load_row rfl 37 (.tmp 4) rfl g rfl 37 (trc x s) (0, 0) _ X2.out Tryz.underlying37 rfl (tr_infoR _ _) ?_)
    | (refine wpList_store_mid (by rfl) 37 (.tmp 8) (.tmp 37) (by rfl) (g + 2) 0 (trc x s) (by rfl) (by rfl) (Z2.out.there (Nat.le_refl 13)) (tr_infoR _ _) T2.out.one ?_
       have R4 := Lib.hid (show Turn (fun k => k = g + 2) V2 (V2.setCells (g + 2) 0 (trc x s).toList) from Turn.setCells (S := fun k => k = g + 2) (fun _ => rfl) _ _ _ (Turn.refl _ _))
       have ZE := Lib.hid (Z2.out.put (trc x s) rfl)
       have TE := Lib.hid (T2.out.offBR Z2.out R4.out)
       have BE := Lib.hid (B2.out.trans (R4.out.below (B := w.heap.size) (fun k hk e => by have := HG.out; omega) B2.out.size))
       clear R4
       generalize V2.setCells (g + 2) 0 (trc x s).toList = WE at ZE TE BE ⊢))
  exact bodyPost_ret (v := .tuple #[.agg (trc x s), .slice none 0 0, .int .i64 8]) (results_and2 rfl rfl rfl rfl (tr_loadR ZE.out)) rfl ⟨s, _, rfl, TE.out.less (Nat.zero_le _), World.ownsRow_nil _ _ _ _, BE.out⟩
set_option maxRecDepth 100000 in
set_option maxHeartbeats 8000000 in
theorem refAsk_6 {B : Nat} (x : Tr) (s : Sl) (a0 a1 sh md : Int) (h0 : ¬ sh < 1) (h1 : ¬ 64 < sh) (hr : resB a0 a1 = true) (h2 : ¬ md < 1) (h3 : ¬ 4 < md) (h4 : x.st = 1) (h5 : x.op = false) (h6 : 1048576 ≤ x.sq) (w : World) (h : Tm w B x s) (ht : x.tch.length ≤ 900) :
    Calls Tryz.prog 27 #[.agg (trc x s), .int .i64 sh, .agg #[.int .i64 a0, .int .i64 a1], .int .i64 md] w (ActP w (x, [], 6)) := by
  have X1 := Lib.hid (((Blk.new w 37 (trc x s)).alloc (.cells #[.int .i64 a0, .int .i64 a1] 25)).alloc (.cells zTr 37))
  have P1 := Lib.hid ((Blk.new_at (w := w.alloc (.cells (trc x s) 37)) (n := w.heap.size + 1) (by simp) 25 #[.int .i64 a0, .int .i64 a1]).alloc (.cells zTr 37))
  have Z1 := Lib.hid (show Blk (((w.alloc (.cells (trc x s) 37)).alloc (.cells #[.int .i64 a0, .int .i64 a1] 25)).alloc (.cells zTr 37)) (w.heap.size + 2) 37 (trc noTr noSl) from Blk.new_at (by simp) _ _)
  have B1 := Lib.hid (((Joins.below_alloc1 w (.cells (trc x s) 37)).alloc (by simp <;> omega) (.cells #[.int .i64 a0, .int .i64 a1] 25)).alloc (by simp <;> omega) (.cells zTr 37))
  have T1 := Lib.hid (h.step B1.out)
  have HT := Lib.hid ht
  have d0 : decide (sh < 1) = false := by simpa using h0
  have d1 : decide (64 < sh) = false := by simpa using h1
  have HR := Lib.hid hr
  have d2 : decide (md < 1) = false := by simpa using h2
  have d3 : decide (4 < md) = false := by simpa using h3
  have e1 : (x.st != 1) = false := by simpa using h4
  have HO := Lib.hid h5
  have d6 : decide (1048576 ≤ x.sq) = true := by simpa using h6
  clear h0 h1 hr h2 h3 h4 h5 h6
  clear h ht
  go_enter Tryz.func27, Tryz.ntmps27
  go_upto_region 1 with fail
  obtain ⟨g, hg⟩ : ∃ g, g = w.heap.size := ⟨_, rfl⟩
  have HG := Lib.hid hg
  rw [← hg] at X1 P1 Z1 ⊢
  clear hg
  generalize (((w.alloc (.cells (trc x s) 37)).alloc (.cells #[.int .i64 a0, .int .i64 a1] 25)).alloc (.cells zTr 37)) = V1 at X1 P1 Z1 B1 T1 ⊢
  have hgl := X1.out.lt
  have p0 : V1.cell? ⟨g + 1, 0, none⟩ = some (.int .i64 a0) := P1.out.cell 0
  have p1 : V1.cell? ⟨g + 1, 1, none⟩ = some (.int .i64 a1) := P1.out.cell 1
  go_upto_region 3 with (first
    | (go_at_call 49; refine (rokD_b a0 a1 true HR.out _).mono ?_; rintro e V2 ⟨rfl, hb⟩; have X2 := Lib.hid (X1.out.here hb); have P2 := Lib.hid (P1.out.here hb); have Z2 := Lib.hid (Z1.out.here hb); have B2 := Lib.hid (stepB B1.out hb); have T2 := Lib.hid (T1.out.step hb); clear hb))
  clear p0 p1
  have c1 : V2.cell? ⟨g, 1, none⟩ = some (.int .i64 x.st) := X2.out.cell 1
  have c4 : V2.cell? ⟨g, 4, none⟩ = some (.bool false) := by rw [← HO.out]; exact X2.out.cell 4
  have c3 : V2.cell? ⟨g, 3, none⟩ = some (.int .i64 x.sq) := X2.out.cell 3
  go_upto_region 8 with fail
  go_wp2_with (first
    | (refine wpList_load_row rfl 37 (.tmp 4) rfl g rfl 37 (trc x s) (0, 0) _ X2.out Tryz.underlying37 rfl (tr_infoR _ _) ?_)
    | (refine wpList_store_mid (by rfl) 37 (.tmp 8) (.tmp 41) (by rfl) (g + 2) 0 (trc x s) (by rfl) (by rfl) (Z2.out.there (Nat.le_refl 13)) (tr_infoR _ _) T2.out.one ?_
       have R4 := Lib.hid (show Turn (fun k => k = g + 2) V2 (V2.setCells (g + 2) 0 (trc x s).toList) from Turn.setCells (S := fun k => k = g + 2) (fun _ => rfl) _ _ _ (Turn.refl _ _))
       have ZE := Lib.hid (Z2.out.put (trc x s) rfl)
       have TE := Lib.hid (T2.out.offBR Z2.out R4.out)
       have BE := Lib.hid (B2.out.trans (R4.out.below (B := w.heap.size) (fun k hk e => by have := HG.out; omega) B2.out.size))
       clear R4
       generalize V2.setCells (g + 2) 0 (trc x s).toList = WE at ZE TE BE ⊢))
  exact bodyPost_ret (v := .tuple #[.agg (trc x s), .slice none 0 0, .int .i64 6]) (results_and2 rfl rfl rfl rfl (tr_loadR ZE.out)) rfl ⟨s, _, rfl, TE.out.less (Nat.zero_le _), World.ownsRow_nil _ _ _ _, BE.out⟩
set_option maxRecDepth 100000 in
set_option maxHeartbeats 8000000 in
theorem refAsk_0 {B : Nat} (x : Tr) (s : Sl) (a0 a1 sh md : Int) (h0 : ¬ sh < 1) (h1 : ¬ 64 < sh) (hr : resB a0 a1 = true) (h2 : ¬ md < 1) (h3 : ¬ 4 < md) (h4 : x.st = 1) (h5 : x.op = false) (h6 : ¬ 1048576 ≤ x.sq) (hq0 : 0 ≤ x.sq) (hts : Shs x.tch) (y : Tr) (hy : askX x sh a0 a1 md = y) (w : World) (h : Tm w B x s) (ht : x.tch.length ≤ 900) :
    Calls Tryz.prog 27 #[.agg (trc x s), .int .i64 sh, .agg #[.int .i64 a0, .int .i64 a1], .int .i64 md] w (ActP w (y, [lockL y sh], 0)) := by
  have X1 := Lib.hid (((Blk.new w 37 (trc x s)).alloc (.cells #[.int .i64 a0, .int .i64 a1] 25)).alloc (.cells zTr 37))
  have P1 := Lib.hid ((Blk.new_at (w := w.alloc (.cells (trc x s) 37)) (n := w.heap.size + 1) (by simp) 25 #[.int .i64 a0, .int .i64 a1]).alloc (.cells zTr 37))
  have Z1 := Lib.hid (show Blk (((w.alloc (.cells (trc x s) 37)).alloc (.cells #[.int .i64 a0, .int .i64 a1] 25)).alloc (.cells zTr 37)) (w.heap.size + 2) 37 (trc noTr noSl) from Blk.new_at (by simp) _ _)
  have B1 := Lib.hid (((Joins.below_alloc1 w (.cells (trc x s) 37)).alloc (by simp <;> omega) (.cells #[.int .i64 a0, .int .i64 a1] 25)).alloc (by simp <;> omega) (.cells zTr 37))
  have T1 := Lib.hid (h.step B1.out)
  have HT := Lib.hid ht
  have d0 : decide (sh < 1) = false := by simpa using h0
  have d1 : decide (64 < sh) = false := by simpa using h1
  have HR := Lib.hid hr
  have d2 : decide (md < 1) = false := by simpa using h2
  have d3 : decide (4 < md) = false := by simpa using h3
  have e1 : (x.st != 1) = false := by simpa using h4
  have HO := Lib.hid h5
  have d6 : decide (1048576 ≤ x.sq) = false := by simpa using h6
  have hwr : IntKind.i64.wrap (x.sq + 1) = x.sq + 1 := IntWalk.i64_in _ (by omega)
  have HTS := Lib.hid hts
  have HYY := Lib.hid hy
  clear h0 h1 hr h2 h3 h4 h5 h6 hq0 hts hy
  clear h ht
  go_enter Tryz.func27, Tryz.ntmps27
  go_upto_region 1 with fail
  obtain ⟨g, hg⟩ : ∃ g, g = w.heap.size := ⟨_, rfl⟩
  have HG := Lib.hid hg
  rw [← hg] at X1 P1 Z1 ⊢
  clear hg
  generalize (((w.alloc (.cells (trc x s) 37)).alloc (.cells #[.int .i64 a0, .int .i64 a1] 25)).alloc (.cells zTr 37)) = V1 at X1 P1 Z1 B1 T1 ⊢
  have hgl := X1.out.lt
  have p0 : V1.cell? ⟨g + 1, 0, none⟩ = some (.int .i64 a0) := P1.out.cell 0
  have p1 : V1.cell? ⟨g + 1, 1, none⟩ = some (.int .i64 a1) := P1.out.cell 1
  go_upto_region 3 with (first
    | (go_at_call 49; refine (rokD_b a0 a1 true HR.out _).mono ?_; rintro e V2 ⟨rfl, hb⟩; have X2 := Lib.hid (X1.out.here hb); have P2 := Lib.hid (P1.out.here hb); have Z2 := Lib.hid (Z1.out.here hb); have B2 := Lib.hid (stepB B1.out hb); have T2 := Lib.hid (T1.out.step hb); clear hb))
  clear p0 p1
  have c1 : V2.cell? ⟨g, 1, none⟩ = some (.int .i64 x.st) := X2.out.cell 1
  have c4 : V2.cell? ⟨g, 4, none⟩ = some (.bool false) := by rw [← HO.out]; exact X2.out.cell 4
  have c3 : V2.cell? ⟨g, 3, none⟩ = some (.int .i64 x.sq) := X2.out.cell 3
  have f3 := X2.out.frozen 3
  go_upto_region 10 with fail
  have RV := Lib.hid (show Turn (fun k => k = g) V2 (V2.setCell ⟨g, 3, none⟩ (.int .i64 (x.sq + 1))) from ((Turn.refl (fun k => k = g) V2).setCell (p := ⟨g, 3, none⟩) (fun _ => rfl) _))
  have XA := Lib.hid (show Blk (V2.setCell ⟨g, 3, none⟩ (.int .i64 (x.sq + 1))) g 37 (trc { x with sq := x.sq + 1 } s) from (X2.out.set_ 3 _))
  have PA := Lib.hid (P2.out.turn RV.out (fun e => by have e : g + 1 = g := e; omega))
  have ZA := Lib.hid (Z2.out.turn RV.out (fun e => by have e : g + 2 = g := e; omega))
  have TA := Lib.hid (show Tm (V2.setCell ⟨g, 3, none⟩ (.int .i64 (x.sq + 1))) B { x with sq := x.sq + 1 } s from by
    have := T2.out.offBR X2.out RV.out
    exact ⟨this.t, this.v, this.k, this.g⟩)
  have BA := Lib.hid (B2.out.trans (RV.out.below (B := w.heap.size) (fun k hk e => by have := HG.out; omega) B2.out.size))
  clear RV X2 P2 Z2 T2 B2 c1 c4 c3 f3 e1 d6 hwr
  generalize V2.setCell ⟨g, 3, none⟩ (.int .i64 (x.sq + 1)) = VA at XA PA ZA TA BA ⊢
  have c4 : VA.cell? ⟨g, 4, none⟩ = some (.bool x.op) := XA.out.cell 4
  have f4 := XA.out.frozen 4
  have c5 : VA.cell? ⟨g, 5, none⟩ = some (.int .i64 x.sh) := XA.out.cell 5
  have f5 := XA.out.frozen 5
  go_upto_region 12 with fail
  have RV := Lib.hid (show Turn (fun k => k = g) VA ((VA.setCell ⟨g, 4, none⟩ (.bool true)).setCell ⟨g, 5, none⟩ (.int .i64 sh)) from (((Turn.refl (fun k => k = g) VA).setCell (p := ⟨g, 4, none⟩) (fun _ => rfl) _).setCell (p := ⟨g, 5, none⟩) (fun _ => rfl) _))
  have XC := Lib.hid (show Blk ((VA.setCell ⟨g, 4, none⟩ (.bool true)).setCell ⟨g, 5, none⟩ (.int .i64 sh)) g 37 (trc { x with sq := x.sq + 1, op := true, sh := sh } s) from ((XA.out.set_ 4 _).set_ 5 _))
  have PC := Lib.hid (PA.out.turn RV.out (fun e => by have e : g + 1 = g := e; omega))
  have ZC := Lib.hid (ZA.out.turn RV.out (fun e => by have e : g + 2 = g := e; omega))
  have TC := Lib.hid (show Tm ((VA.setCell ⟨g, 4, none⟩ (.bool true)).setCell ⟨g, 5, none⟩ (.int .i64 sh)) B { x with sq := x.sq + 1, op := true, sh := sh } s from by
    have := TA.out.offBR XA.out RV.out
    exact ⟨this.t, this.v, this.k, this.g⟩)
  have BC := Lib.hid (BA.out.trans (RV.out.below (B := w.heap.size) (fun k hk e => by have := HG.out; omega) BA.out.size))
  clear RV XA PA ZA TA BA c4 f4 c5 f5
  generalize (VA.setCell ⟨g, 4, none⟩ (.bool true)).setCell ⟨g, 5, none⟩ (.int .i64 sh) = VC at XC PC ZC TC BC ⊢
  have p0 : VC.cell? ⟨g + 1, 0, none⟩ = some (.int .i64 a0) := PC.out.cell 0
  have p1 : VC.cell? ⟨g + 1, 1, none⟩ = some (.int .i64 a1) := PC.out.cell 1
  have c6 : VC.cell? ⟨g, 6, none⟩ = some (.int .i64 x.a0) := XC.out.cell 6
  have f6 := XC.out.frozen 6
  have c7 : VC.cell? ⟨g, 7, none⟩ = some (.int .i64 x.a1) := XC.out.cell 7
  have f7 := XC.out.frozen 7
  go_upto_region 13 with fail
  have RV := Lib.hid (show Turn (fun k => k = g) VC ((VC.setCell ⟨g, 6, none⟩ (.int .i64 a0)).setCell ⟨g, 7, none⟩ (.int .i64 a1)) from (((Turn.refl (fun k => k = g) VC).setCell (p := ⟨g, 6, none⟩) (fun _ => rfl) _).setCell (p := ⟨g, 7, none⟩) (fun _ => rfl) _))
  have XD := Lib.hid (show Blk ((VC.setCell ⟨g, 6, none⟩ (.int .i64 a0)).setCell ⟨g, 7, none⟩ (.int .i64 a1)) g 37 (trc { x with sq := x.sq + 1, op := true, sh := sh, a0 := a0, a1 := a1 } s) from ((XC.out.set_ 6 _).set_ 7 _))
  have PD := Lib.hid (PC.out.turn RV.out (fun e => by have e : g + 1 = g := e; omega))
  have ZD := Lib.hid (ZC.out.turn RV.out (fun e => by have e : g + 2 = g := e; omega))
  have TD := Lib.hid (show Tm ((VC.setCell ⟨g, 6, none⟩ (.int .i64 a0)).setCell ⟨g, 7, none⟩ (.int .i64 a1)) B { x with sq := x.sq + 1, op := true, sh := sh, a0 := a0, a1 := a1 } s from by
    have := TC.out.offBR XC.out RV.out
    exact ⟨this.t, this.v, this.k, this.g⟩)
  have BD := Lib.hid (BC.out.trans (RV.out.below (B := w.heap.size) (fun k hk e => by have := HG.out; omega) BC.out.size))
  clear RV XC PC ZC TC BC c6 f6 c7 f7 p0 p1
  generalize (VC.setCell ⟨g, 6, none⟩ (.int .i64 a0)).setCell ⟨g, 7, none⟩ (.int .i64 a1) = VD at XD PD ZD TD BD ⊢
  have c8 : VD.cell? ⟨g, 8, none⟩ = some (.int .i64 x.md) := XD.out.cell 8
  have f8 := XD.out.frozen 8
  go_upto_region 14 with fail
  have RV := Lib.hid (show Turn (fun k => k = g) VD (VD.setCell ⟨g, 8, none⟩ (.int .i64 md)) from ((Turn.refl (fun k => k = g) VD).setCell (p := ⟨g, 8, none⟩) (fun _ => rfl) _))
  have XE := Lib.hid (show Blk (VD.setCell ⟨g, 8, none⟩ (.int .i64 md)) g 37 (trc { x with sq := x.sq + 1, op := true, sh := sh, a0 := a0, a1 := a1, md := md } s) from (XD.out.set_ 8 _))
  have PE := Lib.hid (PD.out.turn RV.out (fun e => by have e : g + 1 = g := e; omega))
  have ZE := Lib.hid (ZD.out.turn RV.out (fun e => by have e : g + 2 = g := e; omega))
  have TE := Lib.hid (show Tm (VD.setCell ⟨g, 8, none⟩ (.int .i64 md)) B { x with sq := x.sq + 1, op := true, sh := sh, a0 := a0, a1 := a1, md := md } s from by
    have := TD.out.offBR XD.out RV.out
    exact ⟨this.t, this.v, this.k, this.g⟩)
  have BE := Lib.hid (BD.out.trans (RV.out.below (B := w.heap.size) (fun k hk e => by have := HG.out; omega) BD.out.size))
  clear RV XD PD ZD TD BD c8 f8
  generalize VD.setCell ⟨g, 8, none⟩ (.int .i64 md) = VE at XE PE ZE TE BE ⊢
  obtain ⟨Al, cl, el⟩ := own_len TE.out.t
  have RL := Lib.hid (show NumR VE B (.slice Al x.tch.length cl) x.tch from by rw [← show s.t = .slice Al x.tch.length cl from el]; exact TE.out.t)
  have kl : VE.cell? ⟨g, 9, none⟩ = some (.slice Al x.tch.length cl) := by rw [← show s.t = .slice Al x.tch.length cl from el]; exact XE.out.cell 9
  clear el
  go_upto_region 15 with (go_at_call 50; refine (refWith_any sh _ RL.out HTS.out.ris (by have := HTS.out.len; omega)).mono ?_; rintro e VW ⟨u, rfl, hu, hb⟩; have KL := Lib.hid kl; clear kl; obtain ⟨Au, cu, rfl⟩ := own_len hu; have UW := Lib.hid hu; clear hu; have kw : VW.cell? ⟨g, 9, none⟩ = some (.slice Al x.tch.length cl) := (hb.cell (p := ⟨g, 9, none⟩) XE.out.lt).trans KL.out; have kf := (XE.out.here hb).frozen 9; have XW := Lib.hid (XE.out.here hb); have PW := Lib.hid (PE.out.here hb); have ZW := Lib.hid (ZE.out.here hb); have BW := Lib.hid (stepB BE.out hb); have TW := Lib.hid (TE.out.step hb); clear hb)
  have RV := Lib.hid (show Turn (fun k => k = g) VW (VW.setCell ⟨g, 9, none⟩ (.slice Au (ins sh x.tch).length cu)) from (Turn.refl (fun k => k = g) VW).setCell (p := ⟨g, 9, none⟩) (fun _ => rfl) _)
  have XY := Lib.hid (show Blk (VW.setCell ⟨g, 9, none⟩ (.slice Au (ins sh x.tch).length cu)) g 37 (trc (askX x sh a0 a1 md) ⟨.slice Au (ins sh x.tch).length cu, s.v, s.k, s.g⟩) from XW.out.set_ 9 _)
  have ZY := Lib.hid (ZW.out.turn RV.out (fun e => by have e : g + 2 = g := e; omega))
  have TY := Lib.hid (show Tm (VW.setCell ⟨g, 9, none⟩ (.slice Au (ins sh x.tch).length cu)) 0 (askX x sh a0 a1 md) ⟨.slice Au (ins sh x.tch).length cu, s.v, s.k, s.g⟩ from by
    have := (TW.out.offBR XW.out RV.out).less (Nat.zero_le _)
    have hu := own_offB (own_less UW.out (Nat.zero_le _)) XW.out (by decide) RV.out
    exact ⟨hu, this.v, this.k, this.g⟩)
  have BY := Lib.hid (BW.out.trans (RV.out.below (B := w.heap.size) (fun k hk e => by have := HG.out; omega) BW.out.size))
  clear kw kf RV XW PW ZW TW BW UW XE PE ZE TE BE RL KL
  generalize VW.setCell ⟨g, 9, none⟩ (.slice Au (ins sh x.tch).length cu) = VY at XY ZY TY BY ⊢
  generalize (⟨.slice Au (ins sh x.tch).length cu, s.v, s.k, s.g⟩ : Sl) = s' at XY TY
  have hy := HYY.out
  obtain ⟨q, hq⟩ : ∃ q, lockL y y.sh = q := ⟨_, rfl⟩
  have HQ := Lib.hid hq
  have LQ := Lib.hid (show q.length = 28 from by rw [← hq]; rfl)
  have EQ := Lib.hid (show lockL y sh = q from by rw [← hq, ← hy]; rfl)
  rw [hy] at XY TY
  clear hy hq
  have FL := Lib.hid (show [q].flatten = q from by simp)
  have hgl := XY.out.lt
  refine wp_region_held_drew (S := fun w' => Blk w' g 37 (trc y s')) (by kernel_rfl) XY.out.drew (fun hHeld => ?_)
  have BD := Lib.hid (show Below VY.heap.size VY VY.drew from (Below.refl _ _).drew)
  generalize VY.drew = W1 at BD hHeld ⊢
  refine wpAnyH_take (i := 0) (v := .agg (trc y s')) rfl (by kernel_rfl) (by kernel_rfl) (by kernel_rfl) (fun _ _ _ h => h) (Or.inl ⟨by rfl, fun w0 hSw => exec_load (x := .tmp 4) rfl rfl (tr_loadR hSw)⟩) (by assumption) ?_
  try simp only [List.getElem_toArray, List.getElem_cons_succ, List.getElem_cons_zero, Act.put, List.setIfInBounds_toArray, List.set_cons_zero, List.set_cons_succ]
  refine wpAnyH_take (i := 1) (v := .agg (trc y s')) rfl (by kernel_rfl) (by kernel_rfl) (by kernel_rfl) (fun _ _ _ h => h) (Or.inl ⟨by rfl, fun w0 hSw => exec_load (x := .tmp 4) rfl rfl (tr_loadR hSw)⟩) (by assumption) ?_
  try simp only [List.getElem_toArray, List.getElem_cons_succ, List.getElem_cons_zero, Act.put, List.setIfInBounds_toArray, List.set_cons_zero, List.set_cons_succ]
  refine wpAnyH_ready (rs := [2]) (by kernel_rfl) (by simp) ?_
  refine AllReadyH.cons rfl (fun K hK => ?_) AllReadyH.nil
  go_simp
  refine (refLock_q y s' q HQ.out _).mono ?_
  rintro e W2 ⟨rfl, hb⟩
  try go_simp
  have B2 := Lib.hid (BD.out.trans (hb.mono BD.out.size))
  clear hb
  refine hK.out _ _ (XY.out.here B2.out) (fun hHeld => ?_)
  clear hK K
  refine wpAnyH_ready (rs := [3, 4]) (by kernel_rfl) (by simp) ?_
  refine AllReadyH.cons rfl (fun K hK => ?_) (AllReadyH.cons rfl (fun K hK => ?_) AllReadyH.nil)
  · refine step_build_msgs (by rfl) 1 _ rfl [q] (fun z hz => by rw [List.mem_singleton.1 hz]; exact LQ.out) rfl (by omega) (by rfl) ?_
    rw [FL.out]
    have O9 := Lib.hid (own_flat1 W2 46 q (B := VY.heap.size) (size := 28) B2.out.size LQ.out (by omega))
    have B3 := Lib.hid (B2.out.alloc B2.out.size (.cells (ints q).toArray 46))
    refine hK.out _ _ (XY.out.here B3.out) (fun hHeld => ?_)
    clear hK K
    obtain ⟨rb, hrb⟩ : ∃ rb, rb = W2.heap.size := ⟨_, rfl⟩
    rw [← hrb] at O9 ⊢
    clear hrb
    generalize W2.alloc (.cells (ints q).toArray 46) = W3 at O9 B3 hHeld ⊢
    refine wpAnyH_ready (rs := [4]) (by kernel_rfl) (by simp) ?_
    refine AllReadyH.cons rfl (fun K hK => ?_) AllReadyH.nil
    have ZH := Lib.hid (ZY.out.here B3.out)
    refine step_store_mid (by rfl) 37 (.tmp 8) (.tmp 58) rfl (g + 2) 0 (trc y s') rfl rfl (ZH.out.there (Nat.le_refl 13)) (tr_infoR _ _) TY.out.one ?_
    have R4 := Lib.hid (show Turn (fun k => k = g + 2) W3 (W3.setCells (g + 2) 0 (trc y s').toList) from Turn.setCells (S := fun k => k = g + 2) (fun _ => rfl) _ _ _ (Turn.refl _ _))
    have Z4 := Lib.hid (ZH.out.put (trc y s') rfl)
    have X4 := Lib.hid ((XY.out.here B3.out).turn R4.out (fun e => by have e : g = g + 2 := e; omega))
    have T4 := Lib.hid ((TY.out.step B3.out).offBR ZH.out R4.out)
    have E4 := Lib.hid ((stepB BY.out B3.out).trans (R4.out.below (B := w.heap.size) (fun k hk e => by have := HG.out; omega) (Nat.le_trans BY.out.size B3.out.size)))
    have U4 := Lib.hid (own_offB O9.out ZH.out (by decide) R4.out)
    clear R4
    refine hK.out _ _ X4.out (fun hHeld => ?_)
    clear hK K
    generalize W3.setCells (g + 2) 0 (trc y s').toList = W4 at Z4 X4 T4 E4 U4 hHeld ⊢
    refine wpAnyH_take (i := 5) (v := ?_) rfl (by kernel_rfl) (by kernel_rfl) (by kernel_rfl) (fun _ _ _ h => h) (Or.inl ⟨by rfl, ?_⟩) (by assumption) ?_
    rotate_left
    · (intro w0 hSw; (try dsimp only at hSw); go_simp; try with_reducible rfl)
    try simp only [List.getElem_toArray, List.getElem_cons_succ, List.getElem_cons_zero, Act.put, List.setIfInBounds_toArray, List.set_cons_zero, List.set_cons_succ]
    refine wpAnyH_take (i := 6) (v := ?_) rfl (by kernel_rfl) (by kernel_rfl) (by kernel_rfl) (fun _ _ _ h => h) (Or.inl ⟨by rfl, ?_⟩) (by assumption) ?_
    rotate_left
    · (intro w0 hSw; (try dsimp only at hSw); go_simp; try with_reducible rfl)
    try simp only [List.getElem_toArray, List.getElem_cons_succ, List.getElem_cons_zero, Act.put, List.setIfInBounds_toArray, List.set_cons_zero, List.set_cons_succ]
    refine wpAnyH_done (by kernel_rfl) ?_ _
    clear hHeld
    go_wp2_with fail
    exact bodyPost_ret (v := .tuple #[.agg (trc y s'), .slice (some ⟨rb, 0, none⟩) 1 1, .int .i64 0]) (results_and2 rfl rfl rfl rfl (tr_loadR Z4.out)) rfl ⟨s', _, rfl, T4.out, by
      have hu := own_less U4.out (base' := w.heap.size) BY.out.size
      show World.ownsRow _ _ _ _ _ 1 (ints [lockL y sh].flatten)
      rw [EQ.out, FL.out]
      exact hu, E4.out⟩
  · have ZH := Lib.hid (ZY.out.here B2.out)
    refine step_store_mid (by rfl) 37 (.tmp 8) (.tmp 58) rfl (g + 2) 0 (trc y s') rfl rfl (ZH.out.there (Nat.le_refl 13)) (tr_infoR _ _) TY.out.one ?_
    have R4 := Lib.hid (show Turn (fun k => k = g + 2) W2 (W2.setCells (g + 2) 0 (trc y s').toList) from Turn.setCells (S := fun k => k = g + 2) (fun _ => rfl) _ _ _ (Turn.refl _ _))
    have Z4 := Lib.hid (ZH.out.put (trc y s') rfl)
    have X4 := Lib.hid ((XY.out.here B2.out).turn R4.out (fun e => by have e : g = g + 2 := e; omega))
    have T4 := Lib.hid ((TY.out.step B2.out).offBR ZH.out R4.out)
    have E4 := Lib.hid ((stepB BY.out B2.out).trans (R4.out.below (B := w.heap.size) (fun k hk e => by have := HG.out; omega) (Nat.le_trans BY.out.size B2.out.size)))
    have S4 := Lib.hid (Nat.le_trans B2.out.size R4.out.size)
    clear R4
    refine hK.out _ _ X4.out (fun hHeld => ?_)
    clear hK K
    generalize W2.setCells (g + 2) 0 (trc y s').toList = W3 at Z4 X4 T4 E4 S4 hHeld ⊢
    refine wpAnyH_ready (rs := [3]) (by kernel_rfl) (by simp) ?_
    refine AllReadyH.cons rfl (fun K hK => ?_) AllReadyH.nil
    refine step_build_msgs (by rfl) 1 _ rfl [q] (fun z hz => by rw [List.mem_singleton.1 hz]; exact LQ.out) rfl (by omega) (by rfl) ?_
    rw [FL.out]
    have U4 := Lib.hid (own_flat1 W3 46 q (B := VY.heap.size) (size := 28) S4.out LQ.out (by omega))
    have Z4 := Lib.hid (Z4.out.alloc (.cells (ints q).toArray 46))
    have X4 := Lib.hid (X4.out.alloc (.cells (ints q).toArray 46))
    have T4 := Lib.hid (T4.out.step (Joins.below_alloc1 W3 (.cells (ints q).toArray 46)))
    have E4 := Lib.hid (stepA E4.out (.cells (ints q).toArray 46))
    refine hK.out _ _ X4.out (fun hHeld => ?_)
    clear hK K
    obtain ⟨rb, hrb⟩ : ∃ rb, rb = W3.heap.size := ⟨_, rfl⟩
    rw [← hrb] at U4 ⊢
    clear hrb
    generalize W3.alloc (.cells (ints q).toArray 46) = W4 at Z4 X4 T4 E4 U4 hHeld ⊢
    refine wpAnyH_take (i := 5) (v := ?_) rfl (by kernel_rfl) (by kernel_rfl) (by kernel_rfl) (fun _ _ _ h => h) (Or.inl ⟨by rfl, ?_⟩) (by assumption) ?_
    rotate_left
    · (intro w0 hSw; (try dsimp only at hSw); go_simp; try with_reducible rfl)
    try simp only [List.getElem_toArray, List.getElem_cons_succ, List.getElem_cons_zero, Act.put, List.setIfInBounds_toArray, List.set_cons_zero, List.set_cons_succ]
    refine wpAnyH_take (i := 6) (v := ?_) rfl (by kernel_rfl) (by kernel_rfl) (by kernel_rfl) (fun _ _ _ h => h) (Or.inl ⟨by rfl, ?_⟩) (by assumption) ?_
    rotate_left
    · (intro w0 hSw; (try dsimp only at hSw); go_simp; try with_reducible rfl)
    try simp only [List.getElem_toArray, List.getElem_cons_succ, List.getElem_cons_zero, Act.put, List.setIfInBounds_toArray, List.set_cons_zero, List.set_cons_succ]
    refine wpAnyH_done (by kernel_rfl) ?_ _
    clear hHeld
    go_wp2_with fail
    exact bodyPost_ret (v := .tuple #[.agg (trc y s'), .slice (some ⟨rb, 0, none⟩) 1 1, .int .i64 0]) (results_and2 rfl rfl rfl rfl (tr_loadR Z4.out)) rfl ⟨s', _, rfl, T4.out, by
      have hu := own_less U4.out (base' := w.heap.size) BY.out.size
      show World.ownsRow _ _ _ _ _ 1 (ints [lockL y sh].flatten)
      rw [EQ.out, FL.out]
      exact hu, E4.out⟩
theorem refAsk_any {B : Nat} (x : Tr) (s : Sl) (a0 a1 sh md : Int) (w : World) (h : Tm w B x s) (ht : Shs x.tch) (hq0 : 0 ≤ x.sq) :
    Calls Tryz.prog 27 #[.agg (trc x s), .int .i64 sh, .agg #[.int .i64 a0, .int .i64 a1], .int .i64 md] w (ActP w (askL x sh a0 a1 md)) := by
  have h900 : x.tch.length ≤ 900 := by have := ht.len; omega
  unfold askL
  by_cases h1 : sh < 1
  · rw [if_pos (.inl h1)]; exact refAsk_1a x s a0 a1 sh md h1 w h h900
  by_cases h2 : 64 < sh
  · rw [if_pos (.inr (.inl h2))]; exact refAsk_1b x s a0 a1 sh md h1 h2 w h h900
  cases hr : resB a0 a1 with
  | false => rw [if_pos (.inr (.inr (.inl hr)))]; exact refAsk_1c x s a0 a1 sh md h1 h2 hr w h h900
  | true =>
    by_cases h3 : md < 1
    · rw [if_pos (.inr (.inr (.inr (.inl h3))))]; exact refAsk_1d x s a0 a1 sh md h1 h2 hr h3 w h h900
    by_cases h4 : 4 < md
    · rw [if_pos (.inr (.inr (.inr (.inr h4))))]; exact refAsk_1e x s a0 a1 sh md h1 h2 hr h3 h4 w h h900
    rw [if_neg (show ¬ badAsk sh a0 a1 md from by unfold badAsk; rw [hr]; simp; omega)]
    by_cases h5 : x.st = 1
    · rw [if_neg (fun e => e h5)]
      by_cases h6 : x.op = true
      · rw [if_pos h6]; exact refAsk_8 x s a0 a1 sh md h1 h2 hr h3 h4 h5 h6 w h h900
      · rw [if_neg h6]
        have h6 : x.op = false := by simpa using h6
        by_cases h7 : 1048576 ≤ x.sq
        · rw [if_pos h7]; exact refAsk_6 x s a0 a1 sh md h1 h2 hr h3 h4 h5 h6 h7 w h h900
        · rw [if_neg h7]; exact refAsk_0 x s a0 a1 sh md h1 h2 hr h3 h4 h5 h6 h7 hq0 ht _ rfl w h h900
    · rw [if_pos h5]; exact refAsk_11 x s a0 a1 sh md h1 h2 hr h3 h4 h5 w h h900
end Go.Proofs.YthfhhapefjideaaGreat
