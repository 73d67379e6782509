/- A transaction: Answered, Ack. -/
import Derived.Test.YtadnlannbafjpaaGreatQTxI
import Derived.Test.YtadnlannbafjpaaGreatQTxM
namespace Go.Proofs.YtadnlannbafjpaaGreat
open Go.RowKit
set_option linter.unusedVariables false
set_option linter.unusedSimpArgs false
theorem isOf_b {B : Nat} {v : Value} {ks : List Int} (x : Tr) (s : Sl) (m : List Int) (hm : m.length = 28) (w : World) (h : NumR w B v ks) (hn : ks.length ≤ 1000) (r : Bool) (hr : isOf x m ks = r) :
   Calls Tryz.prog 143 #[.agg (trc x s), .agg (mc m), v] w fun e w' => e = .returned (.bool r) ∧ Below w.heap.size w w' := by rw [← hr]; exact isOf_any x s m hm w h hn
theorem isStale_b (x : Tr) (s : Sl) (m : List Int) (hm : m.length = 28) (w : World) (r : Bool) (hr : stale x m = r) :
   Calls Tryz.prog 144 #[.agg (trc x s), .agg (mc m)] w fun e w' => e = .returned (.bool r) ∧ Below w.heap.size w w' := by rw [← hr]; exact isStale_any x s m hm w
set_option maxRecDepth 100000 in
set_option maxHeartbeats 8000000 in
theorem answered_5 {B : Nat} (x : Tr) (s : Sl) (m : List Int) (w : World) (h : Tm w B x s) (hs : Short x) (hm : m.length = 28) (hf : isOf x m [2, 3] = false) :
   Calls Tryz.prog 104 #[.agg (trc x s), .agg (mc m)] w (Post2 w (x, [], 5)) := by
 have X1 := Lib.hid (((Blk.new w 62 (trc x s)).alloc (.cells (mc m) 45)).alloc (.cells zTr 62))
 have M1 := Lib.hid ((Blk.new_at (w := w.alloc (.cells (trc x s) 62)) (n := w.heap.size + 1) (by simp) 45 (mc m)).alloc (.cells zTr 62))
 have Z1 := Lib.hid (Blk.new_at (w := (w.alloc (.cells (trc x s) 62)).alloc (.cells (mc m) 45)) (n := w.heap.size + 2) (by simp) 62 zTr)
 have B1 := Lib.hid (((Joins.below_alloc1 w (.cells (trc x s) 62)).alloc (by simp <;> omega) (.cells (mc m) 45)).alloc (by simp <;> omega) (.cells zTr 62))
 have SZ := Lib.hid (show (((w.alloc (.cells (trc x s) 62)).alloc (.cells (mc m) 45)).alloc (.cells zTr 62)).heap.size = w.heap.size + 3 from by simp)
 have H1 := Lib.hid (h.step B1.out)
 have HS := Lib.hid hs
 have HL := Lib.hid hm
 have HI := Lib.hid (mc_info hm)
 have HF := Lib.hid hf
 clear hf
 clear h hs hm
 go_enter Tryz.func104, Tryz.ntmps104
 go_upto_region 1 with fail
 obtain ⟨g, hg⟩ : ∃ g, g = w.heap.size := ⟨_, rfl⟩
 have HG := Lib.hid hg
 rw [← hg] at X1 M1 Z1 SZ ⊢
 clear hg
 generalize ((w.alloc (.cells (trc x s) 62)).alloc (.cells (mc m) 45)).alloc (.cells zTr 62) = V at X1 M1 Z1 B1 H1 SZ ⊢
 go_upto_region 2 with (first
   | (refine wpList_load_row rfl 62 (.tmp 2) rfl g rfl 62 (trc x s) (0, 0) _ X1.out Tryz.underlying62 rfl (tr_info _ _) ?_)
   | (go_at_call 90; refine (own_any x s _ H1.out HS.out).mono ?_; rintro e W1 ⟨s1, rfl, ht, hn, hb⟩; have T1 := Lib.hid ht; have N1 := Lib.hid hn; have E1 := Lib.hid hb; have XX := Lib.hid (X1.out.here hb); clear ht hn hb)
   | (refine wpList_store_mid (by rfl) 62 (.tmp 2) (.tmp 7) (by rfl) g 0 (trc x s1) (by rfl) (by rfl) (XX.out.there (Nat.le_refl 13)) (tr_info _ _) T1.out.one ?_))
 have ET := Lib.hid (show Turn (fun k => k = g) W1 (W1.setCells g 0 (trc x s1).toList) from Turn.setCells (S := fun k => k = g) (fun _ => rfl) _ _ _ (Turn.refl _ _))
 have XV := Lib.hid (show Blk (W1.setCells g 0 (trc x s1).toList) g 62 (trc x s1) from XX.out.put (trc x s1) rfl)
 have ZV := Lib.hid ((Z1.out.here E1.out).turn ET.out (by omega))
 have MV := Lib.hid ((M1.out.here E1.out).turn ET.out (by omega))
 have BV := Lib.hid ((B1.out.trans (E1.out.mono B1.out.size)).trans (ET.out.below (B := w.heap.size) (fun k hk e => by have := HG.out; omega) (Nat.le_trans B1.out.size E1.out.size)))
 obtain ⟨b0, hb0⟩ : ∃ b0, b0 = V.heap.size := ⟨_, rfl⟩
 have GV := Lib.hid (show b0 = g + 3 from hb0.trans SZ.out)
 rw [← hb0] at T1
 have TV := Lib.hid (T1.out.turn ET.out (fun k hk _ e => by have := GV.out; omega))
 have LV := Lib.hid (show b0 ≤ (W1.setCells g 0 (trc x s1).toList).heap.size from by rw [hb0]; exact Nat.le_trans E1.out.size ET.out.size)
 clear hb0 X1 Z1 M1 B1 H1 SZ T1 E1 XX ET
 generalize W1.setCells g 0 (trc x s1).toList = WV at XV ZV MV BV TV LV ⊢
 go_upto_region 3 with (first
   | (refine wpList_load_row rfl 62 (.tmp 2) rfl g rfl 62 (trc x s1) (0, 0) _ XV.out Tryz.underlying62 rfl (tr_info _ _) ?_)
   | (refine wpList_load_row rfl 45 (.tmp 3) rfl (g + 1) rfl 45 (mc m) (0, 0) _ MV.out Tryz.underlying45 rfl HI.out ?_)
   | (go_at_call 143; refine (isOf_b x s1 m HL.out _ (own_ints WV 3 [2, 3] (B := 0) (n := 2) (Nat.zero_le _) rfl (by simp)) (by simp) false HF.out).mono ?_; rintro e W2 ⟨rfl, hb1⟩; have hb2 : Below WV.heap.size WV W2 := (Joins.below_alloc1 WV _).trans (hb1.mono (by simp)); clear hb1; have XV := Lib.hid (XV.out.here hb2); have ZV := Lib.hid (ZV.out.here hb2); have MV := Lib.hid (MV.out.here hb2); have TV := Lib.hid (TV.out.step hb2); have BV := Lib.hid (stepB BV.out hb2); have LV := Lib.hid (Nat.le_trans LV.out hb2.size); clear hb2))
 generalize W2 = WV at XV ZV MV TV BV LV ⊢
 go_wp2_with (first
   | (refine wpList_load_row rfl 62 (.tmp 2) rfl g rfl 62 (trc x s1) (0, 0) _ XV.out Tryz.underlying62 rfl (tr_info _ _) ?_)
   | (refine wpList_store_mid (op := { dst := none, op := .store 62 (.tmp 4) (.tmp 14), type := 0, pos := _, after := _, guard := none }) (by rfl) 62 (.tmp 4) (.tmp 14) (by rfl) (g + 2) 0 (trc x s1) (by rfl) (by rfl) (ZV.out.there (Nat.le_refl 13)) (tr_info _ _) TV.out.one ?_))
 exact bodyPost_ret (v := .tuple #[.agg (trc x s1), errno 5]) (results_cell_and rfl rfl rfl (tr_load (ZV.out.put (trc x s1) rfl))) rfl ⟨s1, rfl, (Tm.turn TV.out (Turn.setCells (S := fun k => k = g + 2) (fun _ => rfl) _ _ _ (Turn.refl _ _)) (fun k hk _ e => by have := GV.out; omega)).less (by have := HG.out; have := GV.out; omega), Below.setCells (by have := HG.out; omega) _ _ _ BV.out⟩
set_option maxRecDepth 100000 in
set_option maxHeartbeats 8000000 in
theorem answered_11 {B : Nat} (x : Tr) (s : Sl) (m : List Int) (w : World) (h : Tm w B x s) (hs : Short x) (hm : m.length = 28) (hf : isOf x m [2, 3] = true) (h1 : ¬ x.st = 1) :
   Calls Tryz.prog 104 #[.agg (trc x s), .agg (mc m)] w (Post2 w (x, [], 11)) := by
 have X1 := Lib.hid (((Blk.new w 62 (trc x s)).alloc (.cells (mc m) 45)).alloc (.cells zTr 62))
 have M1 := Lib.hid ((Blk.new_at (w := w.alloc (.cells (trc x s) 62)) (n := w.heap.size + 1) (by simp) 45 (mc m)).alloc (.cells zTr 62))
 have Z1 := Lib.hid (Blk.new_at (w := (w.alloc (.cells (trc x s) 62)).alloc (.cells (mc m) 45)) (n := w.heap.size + 2) (by simp) 62 zTr)
 have B1 := Lib.hid (((Joins.below_alloc1 w (.cells (trc x s) 62)).alloc (by simp <;> omega) (.cells (mc m) 45)).alloc (by simp <;> omega) (.cells zTr 62))
 have SZ := Lib.hid (show (((w.alloc (.cells (trc x s) 62)).alloc (.cells (mc m) 45)).alloc (.cells zTr 62)).heap.size = w.heap.size + 3 from by simp)
 have H1 := Lib.hid (h.step B1.out)
 have HS := Lib.hid hs
 have HL := Lib.hid hm
 have HI := Lib.hid (mc_info hm)
 have HF := Lib.hid hf
 have e1 : (x.st != 1) = true := by simpa using h1
 clear hf h1
 clear h hs hm
 go_enter Tryz.func104, Tryz.ntmps104
 go_upto_region 1 with fail
 obtain ⟨g, hg⟩ : ∃ g, g = w.heap.size := ⟨_, rfl⟩
 have HG := Lib.hid hg
 rw [← hg] at X1 M1 Z1 SZ ⊢
 clear hg
 generalize ((w.alloc (.cells (trc x s) 62)).alloc (.cells (mc m) 45)).alloc (.cells zTr 62) = V at X1 M1 Z1 B1 H1 SZ ⊢
 go_upto_region 2 with (first
   | (refine wpList_load_row rfl 62 (.tmp 2) rfl g rfl 62 (trc x s) (0, 0) _ X1.out Tryz.underlying62 rfl (tr_info _ _) ?_)
   | (go_at_call 90; refine (own_any x s _ H1.out HS.out).mono ?_; rintro e W1 ⟨s1, rfl, ht, hn, hb⟩; have T1 := Lib.hid ht; have N1 := Lib.hid hn; have E1 := Lib.hid hb; have XX := Lib.hid (X1.out.here hb); clear ht hn hb)
   | (refine wpList_store_mid (by rfl) 62 (.tmp 2) (.tmp 7) (by rfl) g 0 (trc x s1) (by rfl) (by rfl) (XX.out.there (Nat.le_refl 13)) (tr_info _ _) T1.out.one ?_))
 have ET := Lib.hid (show Turn (fun k => k = g) W1 (W1.setCells g 0 (trc x s1).toList) from Turn.setCells (S := fun k => k = g) (fun _ => rfl) _ _ _ (Turn.refl _ _))
 have XV := Lib.hid (show Blk (W1.setCells g 0 (trc x s1).toList) g 62 (trc x s1) from XX.out.put (trc x s1) rfl)
 have ZV := Lib.hid ((Z1.out.here E1.out).turn ET.out (by omega))
 have MV := Lib.hid ((M1.out.here E1.out).turn ET.out (by omega))
 have BV := Lib.hid ((B1.out.trans (E1.out.mono B1.out.size)).trans (ET.out.below (B := w.heap.size) (fun k hk e => by have := HG.out; omega) (Nat.le_trans B1.out.size E1.out.size)))
 obtain ⟨b0, hb0⟩ : ∃ b0, b0 = V.heap.size := ⟨_, rfl⟩
 have GV := Lib.hid (show b0 = g + 3 from hb0.trans SZ.out)
 rw [← hb0] at T1
 have TV := Lib.hid (T1.out.turn ET.out (fun k hk _ e => by have := GV.out; omega))
 have LV := Lib.hid (show b0 ≤ (W1.setCells g 0 (trc x s1).toList).heap.size from by rw [hb0]; exact Nat.le_trans E1.out.size ET.out.size)
 clear hb0 X1 Z1 M1 B1 H1 SZ T1 E1 XX ET
 generalize W1.setCells g 0 (trc x s1).toList = WV at XV ZV MV BV TV LV ⊢
 go_upto_region 4 with (first
   | (refine wpList_load_row rfl 62 (.tmp 2) rfl g rfl 62 (trc x s1) (0, 0) _ XV.out Tryz.underlying62 rfl (tr_info _ _) ?_)
   | (refine wpList_load_row rfl 45 (.tmp 3) rfl (g + 1) rfl 45 (mc m) (0, 0) _ MV.out Tryz.underlying45 rfl HI.out ?_)
   | (go_at_call 143; refine (isOf_b x s1 m HL.out _ (own_ints WV 3 [2, 3] (B := 0) (n := 2) (Nat.zero_le _) rfl (by simp)) (by simp) true HF.out).mono ?_; rintro e W2 ⟨rfl, hb1⟩; have hb2 : Below WV.heap.size WV W2 := (Joins.below_alloc1 WV _).trans (hb1.mono (by simp)); clear hb1; have XV := Lib.hid (XV.out.here hb2); have ZV := Lib.hid (ZV.out.here hb2); have MV := Lib.hid (MV.out.here hb2); have TV := Lib.hid (TV.out.step hb2); have BV := Lib.hid (stepB BV.out hb2); have LV := Lib.hid (Nat.le_trans LV.out hb2.size); clear hb2))
 generalize W2 = WV at XV ZV MV TV BV LV ⊢
 have c1 : WV.cell? ⟨g, 1, none⟩ = some (.int .i64 x.st) := XV.out.cell 1
 go_wp2_with (first
   | (refine wpList_load_row rfl 62 (.tmp 2) rfl g rfl 62 (trc x s1) (0, 0) _ XV.out Tryz.underlying62 rfl (tr_info _ _) ?_)
   | (refine wpList_store_mid (op := { dst := none, op := .store 62 (.tmp 4) (.tmp 20), type := 0, pos := _, after := _, guard := none }) (by rfl) 62 (.tmp 4) (.tmp 20) (by rfl) (g + 2) 0 (trc x s1) (by rfl) (by rfl) (ZV.out.there (Nat.le_refl 13)) (tr_info _ _) TV.out.one ?_))
 exact bodyPost_ret (v := .tuple #[.agg (trc x s1), errno 11]) (results_cell_and rfl rfl rfl (tr_load (ZV.out.put (trc x s1) rfl))) rfl ⟨s1, rfl, (Tm.turn TV.out (Turn.setCells (S := fun k => k = g + 2) (fun _ => rfl) _ _ _ (Turn.refl _ _)) (fun k hk _ e => by have := GV.out; omega)).less (by have := HG.out; have := GV.out; omega), Below.setCells (by have := HG.out; omega) _ _ _ BV.out⟩
set_option maxRecDepth 100000 in
set_option maxHeartbeats 8000000 in
theorem answered_14 {B : Nat} (x : Tr) (s : Sl) (m : List Int) (w : World) (h : Tm w B x s) (hs : Short x) (hm : m.length = 28) (hf : isOf x m [2, 3] = true) (h1 : x.st = 1) (hst : stale x m = true) :
   Calls Tryz.prog 104 #[.agg (trc x s), .agg (mc m)] w (Post2 w (x, [], 14)) := by
 have X1 := Lib.hid (((Blk.new w 62 (trc x s)).alloc (.cells (mc m) 45)).alloc (.cells zTr 62))
 have M1 := Lib.hid ((Blk.new_at (w := w.alloc (.cells (trc x s) 62)) (n := w.heap.size + 1) (by simp) 45 (mc m)).alloc (.cells zTr 62))
 have Z1 := Lib.hid (Blk.new_at (w := (w.alloc (.cells (trc x s) 62)).alloc (.cells (mc m) 45)) (n := w.heap.size + 2) (by simp) 62 zTr)
 have B1 := Lib.hid (((Joins.below_alloc1 w (.cells (trc x s) 62)).alloc (by simp <;> omega) (.cells (mc m) 45)).alloc (by simp <;> omega) (.cells zTr 62))
 have SZ := Lib.hid (show (((w.alloc (.cells (trc x s) 62)).alloc (.cells (mc m) 45)).alloc (.cells zTr 62)).heap.size = w.heap.size + 3 from by simp)
 have H1 := Lib.hid (h.step B1.out)
 have HS := Lib.hid hs
 have HL := Lib.hid hm
 have HI := Lib.hid (mc_info hm)
 have HF := Lib.hid hf
 have e1 : (x.st != 1) = false := by simpa using h1
 have HT := Lib.hid hst
 clear hf h1 hst
 clear h hs hm
 go_enter Tryz.func104, Tryz.ntmps104
 go_upto_region 1 with fail
 obtain ⟨g, hg⟩ : ∃ g, g = w.heap.size := ⟨_, rfl⟩
 have HG := Lib.hid hg
 rw [← hg] at X1 M1 Z1 SZ ⊢
 clear hg
 generalize ((w.alloc (.cells (trc x s) 62)).alloc (.cells (mc m) 45)).alloc (.cells zTr 62) = V at X1 M1 Z1 B1 H1 SZ ⊢
 go_upto_region 2 with (first
   | (refine wpList_load_row rfl 62 (.tmp 2) rfl g rfl 62 (trc x s) (0, 0) _ X1.out Tryz.underlying62 rfl (tr_info _ _) ?_)
   | (go_at_call 90; refine (own_any x s _ H1.out HS.out).mono ?_; rintro e W1 ⟨s1, rfl, ht, hn, hb⟩; have T1 := Lib.hid ht; have N1 := Lib.hid hn; have E1 := Lib.hid hb; have XX := Lib.hid (X1.out.here hb); clear ht hn hb)
   | (refine wpList_store_mid (by rfl) 62 (.tmp 2) (.tmp 7) (by rfl) g 0 (trc x s1) (by rfl) (by rfl) (XX.out.there (Nat.le_refl 13)) (tr_info _ _) T1.out.one ?_))
 have ET := Lib.hid (show Turn (fun k => k = g) W1 (W1.setCells g 0 (trc x s1).toList) from Turn.setCells (S := fun k => k = g) (fun _ => rfl) _ _ _ (Turn.refl _ _))
 have XV := Lib.hid (show Blk (W1.setCells g 0 (trc x s1).toList) g 62 (trc x s1) from XX.out.put (trc x s1) rfl)
 have ZV := Lib.hid ((Z1.out.here E1.out).turn ET.out (by omega))
 have MV := Lib.hid ((M1.out.here E1.out).turn ET.out (by omega))
 have BV := Lib.hid ((B1.out.trans (E1.out.mono B1.out.size)).trans (ET.out.below (B := w.heap.size) (fun k hk e => by have := HG.out; omega) (Nat.le_trans B1.out.size E1.out.size)))
 obtain ⟨b0, hb0⟩ : ∃ b0, b0 = V.heap.size := ⟨_, rfl⟩
 have GV := Lib.hid (show b0 = g + 3 from hb0.trans SZ.out)
 rw [← hb0] at T1
 have TV := Lib.hid (T1.out.turn ET.out (fun k hk _ e => by have := GV.out; omega))
 have LV := Lib.hid (show b0 ≤ (W1.setCells g 0 (trc x s1).toList).heap.size from by rw [hb0]; exact Nat.le_trans E1.out.size ET.out.size)
 clear hb0 X1 Z1 M1 B1 H1 SZ T1 E1 XX ET
 generalize W1.setCells g 0 (trc x s1).toList = WV at XV ZV MV BV TV LV ⊢
 go_upto_region 4 with (first
   | (refine wpList_load_row rfl 62 (.tmp 2) rfl g rfl 62 (trc x s1) (0, 0) _ XV.out Tryz.underlying62 rfl (tr_info _ _) ?_)
   | (refine wpList_load_row rfl 45 (.tmp 3) rfl (g + 1) rfl 45 (mc m) (0, 0) _ MV.out Tryz.underlying45 rfl HI.out ?_)
   | (go_at_call 143; refine (isOf_b x s1 m HL.out _ (own_ints WV 3 [2, 3] (B := 0) (n := 2) (Nat.zero_le _) rfl (by simp)) (by simp) true HF.out).mono ?_; rintro e W2 ⟨rfl, hb1⟩; have hb2 : Below WV.heap.size WV W2 := (Joins.below_alloc1 WV _).trans (hb1.mono (by simp)); clear hb1; have XV := Lib.hid (XV.out.here hb2); have ZV := Lib.hid (ZV.out.here hb2); have MV := Lib.hid (MV.out.here hb2); have TV := Lib.hid (TV.out.step hb2); have BV := Lib.hid (stepB BV.out hb2); have LV := Lib.hid (Nat.le_trans LV.out hb2.size); clear hb2))
 generalize W2 = WV at XV ZV MV TV BV LV ⊢
 have c1 : WV.cell? ⟨g, 1, none⟩ = some (.int .i64 x.st) := XV.out.cell 1
 go_upto_region 7 with (first
   | (refine wpList_load_row rfl 62 (.tmp 2) rfl g rfl 62 (trc x s1) (0, 0) _ XV.out Tryz.underlying62 rfl (tr_info _ _) ?_)
   | (refine wpList_load_row rfl 45 (.tmp 3) rfl (g + 1) rfl 45 (mc m) (0, 0) _ MV.out Tryz.underlying45 rfl HI.out ?_)
   | (go_at_call 144; refine (isStale_b x s1 m HL.out _ true HT.out).mono ?_; rintro e W2 ⟨rfl, hb2⟩; have XV := Lib.hid (XV.out.here hb2); have ZV := Lib.hid (ZV.out.here hb2); have MV := Lib.hid (MV.out.here hb2); have TV := Lib.hid (TV.out.step hb2); have BV := Lib.hid (stepB BV.out hb2); have LV := Lib.hid (Nat.le_trans LV.out hb2.size); clear hb2))
 clear c1
 generalize W2 = WV at XV ZV MV TV BV LV ⊢
 go_wp2_with (first
   | (refine wpList_load_row rfl 62 (.tmp 2) rfl g rfl 62 (trc x s1) (0, 0) _ XV.out Tryz.underlying62 rfl (tr_info _ _) ?_)
   | (refine wpList_store_mid (op := { dst := none, op := .store 62 (.tmp 4) (.tmp 26), type := 0, pos := _, after := _, guard := none }) (by rfl) 62 (.tmp 4) (.tmp 26) (by rfl) (g + 2) 0 (trc x s1) (by rfl) (by rfl) (ZV.out.there (Nat.le_refl 13)) (tr_info _ _) TV.out.one ?_))
 exact bodyPost_ret (v := .tuple #[.agg (trc x s1), errno 14]) (results_cell_and rfl rfl rfl (tr_load (ZV.out.put (trc x s1) rfl))) rfl ⟨s1, rfl, (Tm.turn TV.out (Turn.setCells (S := fun k => k = g + 2) (fun _ => rfl) _ _ _ (Turn.refl _ _)) (fun k hk _ e => by have := GV.out; omega)).less (by have := HG.out; have := GV.out; omega), Below.setCells (by have := HG.out; omega) _ _ _ BV.out⟩
set_option maxRecDepth 100000 in
set_option maxHeartbeats 8000000 in
theorem answered_n {B : Nat} (x : Tr) (s : Sl) (m : List Int) (w : World) (h : Tm w B x s) (hs : Short x) (hm : m.length = 28) (hf : isOf x m [2, 3] = true) (h1 : x.st = 1) (hst : stale x m = false) (hk : ¬ fld m 0 = 2) :
   Calls Tryz.prog 104 #[.agg (trc x s), .agg (mc m)] w (Post2 w ({ x with op := false }, [], 0)) := by
 have X1 := Lib.hid (((Blk.new w 62 (trc x s)).alloc (.cells (mc m) 45)).alloc (.cells zTr 62))
 have M1 := Lib.hid ((Blk.new_at (w := w.alloc (.cells (trc x s) 62)) (n := w.heap.size + 1) (by simp) 45 (mc m)).alloc (.cells zTr 62))
 have Z1 := Lib.hid (Blk.new_at (w := (w.alloc (.cells (trc x s) 62)).alloc (.cells (mc m) 45)) (n := w.heap.size + 2) (by simp) 62 zTr)
 have B1 := Lib.hid (((Joins.below_alloc1 w (.cells (trc x s) 62)).alloc (by simp <;> omega) (.cells (mc m) 45)).alloc (by simp <;> omega) (.cells zTr 62))
 have SZ := Lib.hid (show (((w.alloc (.cells (trc x s) 62)).alloc (.cells (mc m) 45)).alloc (.cells zTr 62)).heap.size = w.heap.size + 3 from by simp)
 have H1 := Lib.hid (h.step B1.out)
 have HS := Lib.hid hs
 have HL := Lib.hid hm
 have HI := Lib.hid (mc_info hm)
 have HF := Lib.hid hf
 have e1 : (x.st != 1) = false := by simpa using h1
 have HT := Lib.hid hst
 have e0 : (fld m 0 == 2) = false := by simpa using hk
 clear hf h1 hst hk
 clear h hs hm
 go_enter Tryz.func104, Tryz.ntmps104
 go_upto_region 1 with fail
 obtain ⟨g, hg⟩ : ∃ g, g = w.heap.size := ⟨_, rfl⟩
 have HG := Lib.hid hg
 rw [← hg] at X1 M1 Z1 SZ ⊢
 clear hg
 generalize ((w.alloc (.cells (trc x s) 62)).alloc (.cells (mc m) 45)).alloc (.cells zTr 62) = V at X1 M1 Z1 B1 H1 SZ ⊢
 go_upto_region 2 with (first
   | (refine wpList_load_row rfl 62 (.tmp 2) rfl g rfl 62 (trc x s) (0, 0) _ X1.out Tryz.underlying62 rfl (tr_info _ _) ?_)
   | (go_at_call 90; refine (own_any x s _ H1.out HS.out).mono ?_; rintro e W1 ⟨s1, rfl, ht, hn, hb⟩; have T1 := Lib.hid ht; have N1 := Lib.hid hn; have E1 := Lib.hid hb; have XX := Lib.hid (X1.out.here hb); clear ht hn hb)
   | (refine wpList_store_mid (by rfl) 62 (.tmp 2) (.tmp 7) (by rfl) g 0 (trc x s1) (by rfl) (by rfl) (XX.out.there (Nat.le_refl 13)) (tr_info _ _) T1.out.one ?_))
 have ET := Lib.hid (show Turn (fun k => k = g) W1 (W1.setCells g 0 (trc x s1).toList) from Turn.setCells (S := fun k => k = g) (fun _ => rfl) _ _ _ (Turn.refl _ _))
 have XV := Lib.hid (show Blk (W1.setCells g 0 (trc x s1).toList) g 62 (trc x s1) from XX.out.put (trc x s1) rfl)
 have ZV := Lib.hid ((Z1.out.here E1.out).turn ET.out (by omega))
 have MV := Lib.hid ((M1.out.here E1.out).turn ET.out (by omega))
 have BV := Lib.hid ((B1.out.trans (E1.out.mono B1.out.size)).trans (ET.out.below (B := w.heap.size) (fun k hk e => by have := HG.out; omega) (Nat.le_trans B1.out.size E1.out.size)))
 obtain ⟨b0, hb0⟩ : ∃ b0, b0 = V.heap.size := ⟨_, rfl⟩
 have GV := Lib.hid (show b0 = g + 3 from hb0.trans SZ.out)
 rw [← hb0] at T1
 have TV := Lib.hid (T1.out.turn ET.out (fun k hk _ e => by have := GV.out; omega))
 have LV := Lib.hid (show b0 ≤ (W1.setCells g 0 (trc x s1).toList).heap.size from by rw [hb0]; exact Nat.le_trans E1.out.size ET.out.size)
 clear hb0 X1 Z1 M1 B1 H1 SZ T1 E1 XX ET
 generalize W1.setCells g 0 (trc x s1).toList = WV at XV ZV MV BV TV LV ⊢
 go_upto_region 4 with (first
   | (refine wpList_load_row rfl 62 (.tmp 2) rfl g rfl 62 (trc x s1) (0, 0) _ XV.out Tryz.underlying62 rfl (tr_info _ _) ?_)
   | (refine wpList_load_row rfl 45 (.tmp 3) rfl (g + 1) rfl 45 (mc m) (0, 0) _ MV.out Tryz.underlying45 rfl HI.out ?_)
   | (go_at_call 143; refine (isOf_b x s1 m HL.out _ (own_ints WV 3 [2, 3] (B := 0) (n := 2) (Nat.zero_le _) rfl (by simp)) (by simp) true HF.out).mono ?_; rintro e W2 ⟨rfl, hb1⟩; have hb2 : Below WV.heap.size WV W2 := (Joins.below_alloc1 WV _).trans (hb1.mono (by simp)); clear hb1; have XV := Lib.hid (XV.out.here hb2); have ZV := Lib.hid (ZV.out.here hb2); have MV := Lib.hid (MV.out.here hb2); have TV := Lib.hid (TV.out.step hb2); have BV := Lib.hid (stepB BV.out hb2); have LV := Lib.hid (Nat.le_trans LV.out hb2.size); clear hb2))
 generalize W2 = WV at XV ZV MV TV BV LV ⊢
 have c1 : WV.cell? ⟨g, 1, none⟩ = some (.int .i64 x.st) := XV.out.cell 1
 go_upto_region 8 with (first
   | (refine wpList_load_row rfl 62 (.tmp 2) rfl g rfl 62 (trc x s1) (0, 0) _ XV.out Tryz.underlying62 rfl (tr_info _ _) ?_)
   | (refine wpList_load_row rfl 45 (.tmp 3) rfl (g + 1) rfl 45 (mc m) (0, 0) _ MV.out Tryz.underlying45 rfl HI.out ?_)
   | (go_at_call 144; refine (isStale_b x s1 m HL.out _ false HT.out).mono ?_; rintro e W2 ⟨rfl, hb2⟩; have XV := Lib.hid (XV.out.here hb2); have ZV := Lib.hid (ZV.out.here hb2); have MV := Lib.hid (MV.out.here hb2); have TV := Lib.hid (TV.out.step hb2); have BV := Lib.hid (stepB BV.out hb2); have LV := Lib.hid (Nat.le_trans LV.out hb2.size); clear hb2))
 clear c1
 generalize W2 = WV at XV ZV MV TV BV LV ⊢
 have hmv := MV.out.lt
 have hzv := ZV.out.lt
 have hxv := XV.out.lt
 have c4 : WV.cell? ⟨g, 4, none⟩ = some (.bool x.op) := XV.out.cell 4
 have f4 := XV.out.frozen 4
 have EW := Lib.hid ((Turn.refl (fun k => k = g) WV).setCell (p := ⟨g, 4, none⟩) (fun _ => rfl) (.bool false))
 have XW := Lib.hid (show Blk (WV.setCell ⟨g, 4, none⟩ (.bool false)) g 62 (trc { x with op := false } s1) from XV.out.set_ 4 _)
 have ZW := Lib.hid (ZV.out.turn EW.out (by omega))
 have MW := Lib.hid (MV.out.turn EW.out (by omega))
 have TW := Lib.hid (show Tm (WV.setCell ⟨g, 4, none⟩ (.bool false)) b0 { x with op := false } s1 from have h := TV.out.turn EW.out (fun k hk _ e => by have := GV.out; omega); ⟨h.t, h.v, h.k, h.g⟩)
 have BW := Lib.hid (BV.out.trans (EW.out.below (B := w.heap.size) (fun k hk e => by have := HG.out; omega) BV.out.size))
 have LW := Lib.hid (Nat.le_trans LV.out EW.out.size)
 go_upto_region 9 with fail
 clear c4 f4 XV ZV MV TV BV LV EW hmv hzv hxv
 generalize WV.setCell ⟨g, 4, none⟩ (.bool false) = WY at XW ZW MW TW BW LW ⊢
 have m0 := mc_cell HL.out MW.out (i := 0) (by omega)
 go_wp2_with (first
   | (refine wpList_load_row rfl 62 (.tmp 2) rfl g rfl 62 (trc { x with op := false } s1) (0, 0) _ XW.out Tryz.underlying62 rfl (tr_info _ _) ?_)
   | (refine wpList_store_mid (op := { dst := none, op := .store 62 (.tmp 4) (.tmp 46), type := 0, pos := _, after := _, guard := none }) (by rfl) 62 (.tmp 4) (.tmp 46) (by rfl) (g + 2) 0 (trc { x with op := false } s1) (by rfl) (by rfl) (ZW.out.there (Nat.le_refl 13)) (tr_info _ _) TW.out.one ?_))
 exact bodyPost_ret (v := .tuple #[.agg (trc { x with op := false } s1), .nilIface]) (results_cell_and rfl rfl rfl (tr_load (ZW.out.put (trc { x with op := false } s1) rfl))) rfl ⟨s1, rfl, (Tm.turn TW.out (Turn.setCells (S := fun k => k = g + 2) (fun _ => rfl) _ _ _ (Turn.refl _ _)) (fun k hk _ e => by have := GV.out; omega)).less (by have := HG.out; have := GV.out; omega), Below.setCells (by have := HG.out; omega) _ _ _ BW.out⟩
set_option maxRecDepth 100000 in
set_option maxHeartbeats 8000000 in
theorem answered_g {B : Nat} (x : Tr) (s : Sl) (m : List Int) (w : World) (h : Tm w B x s) (hs : Short x) (hm : m.length = 28) (hf : isOf x m [2, 3] = true) (h1 : x.st = 1) (hst : stale x m = false) (hk : fld m 0 = 2) :
   Calls Tryz.prog 104 #[.agg (trc x s), .agg (mc m)] w (Post2 w ({ x with op := false, got := x.got ++ [grantL m] }, [], 0)) := by
 have X1 := Lib.hid (((Blk.new w 62 (trc x s)).alloc (.cells (mc m) 45)).alloc (.cells zTr 62))
 have M1 := Lib.hid ((Blk.new_at (w := w.alloc (.cells (trc x s) 62)) (n := w.heap.size + 1) (by simp) 45 (mc m)).alloc (.cells zTr 62))
 have Z1 := Lib.hid (Blk.new_at (w := (w.alloc (.cells (trc x s) 62)).alloc (.cells (mc m) 45)) (n := w.heap.size + 2) (by simp) 62 zTr)
 have B1 := Lib.hid (((Joins.below_alloc1 w (.cells (trc x s) 62)).alloc (by simp <;> omega) (.cells (mc m) 45)).alloc (by simp <;> omega) (.cells zTr 62))
 have SZ := Lib.hid (show (((w.alloc (.cells (trc x s) 62)).alloc (.cells (mc m) 45)).alloc (.cells zTr 62)).heap.size = w.heap.size + 3 from by simp)
 have H1 := Lib.hid (h.step B1.out)
 have HS := Lib.hid hs
 have HL := Lib.hid hm
 have HI := Lib.hid (mc_info hm)
 have HF := Lib.hid hf
 have e1 : (x.st != 1) = false := by simpa using h1
 have HT := Lib.hid hst
 obtain ⟨i0, hi0, hz0, hz1, hz2⟩ := info_parts info_grant
 have e0 : (fld m 0 == 2) = true := by simpa using hk
 have HS5 := Lib.hid hs.g
 clear hf h1 hst hk
 clear h hs hm
 go_enter Tryz.func104, Tryz.ntmps104
 go_upto_region 1 with fail
 obtain ⟨g, hg⟩ : ∃ g, g = w.heap.size := ⟨_, rfl⟩
 have HG := Lib.hid hg
 rw [← hg] at X1 M1 Z1 SZ ⊢
 clear hg
 generalize ((w.alloc (.cells (trc x s) 62)).alloc (.cells (mc m) 45)).alloc (.cells zTr 62) = V at X1 M1 Z1 B1 H1 SZ ⊢
 go_upto_region 2 with (first
   | (refine wpList_load_row rfl 62 (.tmp 2) rfl g rfl 62 (trc x s) (0, 0) _ X1.out Tryz.underlying62 rfl (tr_info _ _) ?_)
   | (go_at_call 90; refine (own_any x s _ H1.out HS.out).mono ?_; rintro e W1 ⟨s1, rfl, ht, hn, hb⟩; have T1 := Lib.hid ht; have N1 := Lib.hid hn; have E1 := Lib.hid hb; have XX := Lib.hid (X1.out.here hb); clear ht hn hb)
   | (refine wpList_store_mid (by rfl) 62 (.tmp 2) (.tmp 7) (by rfl) g 0 (trc x s1) (by rfl) (by rfl) (XX.out.there (Nat.le_refl 13)) (tr_info _ _) T1.out.one ?_))
 have ET := Lib.hid (show Turn (fun k => k = g) W1 (W1.setCells g 0 (trc x s1).toList) from Turn.setCells (S := fun k => k = g) (fun _ => rfl) _ _ _ (Turn.refl _ _))
 have XV := Lib.hid (show Blk (W1.setCells g 0 (trc x s1).toList) g 62 (trc x s1) from XX.out.put (trc x s1) rfl)
 have ZV := Lib.hid ((Z1.out.here E1.out).turn ET.out (by omega))
 have MV := Lib.hid ((M1.out.here E1.out).turn ET.out (by omega))
 have BV := Lib.hid ((B1.out.trans (E1.out.mono B1.out.size)).trans (ET.out.below (B := w.heap.size) (fun k hk e => by have := HG.out; omega) (Nat.le_trans B1.out.size E1.out.size)))
 obtain ⟨b0, hb0⟩ : ∃ b0, b0 = V.heap.size := ⟨_, rfl⟩
 have GV := Lib.hid (show b0 = g + 3 from hb0.trans SZ.out)
 rw [← hb0] at T1
 have TV := Lib.hid (T1.out.turn ET.out (fun k hk _ e => by have := GV.out; omega))
 have LV := Lib.hid (show b0 ≤ (W1.setCells g 0 (trc x s1).toList).heap.size from by rw [hb0]; exact Nat.le_trans E1.out.size ET.out.size)
 clear hb0 X1 Z1 M1 B1 H1 SZ T1 E1 XX ET
 generalize W1.setCells g 0 (trc x s1).toList = WV at XV ZV MV BV TV LV ⊢
 go_upto_region 4 with (first
   | (refine wpList_load_row rfl 62 (.tmp 2) rfl g rfl 62 (trc x s1) (0, 0) _ XV.out Tryz.underlying62 rfl (tr_info _ _) ?_)
   | (refine wpList_load_row rfl 45 (.tmp 3) rfl (g + 1) rfl 45 (mc m) (0, 0) _ MV.out Tryz.underlying45 rfl HI.out ?_)
   | (go_at_call 143; refine (isOf_b x s1 m HL.out _ (own_ints WV 3 [2, 3] (B := 0) (n := 2) (Nat.zero_le _) rfl (by simp)) (by simp) true HF.out).mono ?_; rintro e W2 ⟨rfl, hb1⟩; have hb2 : Below WV.heap.size WV W2 := (Joins.below_alloc1 WV _).trans (hb1.mono (by simp)); clear hb1; have XV := Lib.hid (XV.out.here hb2); have ZV := Lib.hid (ZV.out.here hb2); have MV := Lib.hid (MV.out.here hb2); have TV := Lib.hid (TV.out.step hb2); have BV := Lib.hid (stepB BV.out hb2); have LV := Lib.hid (Nat.le_trans LV.out hb2.size); clear hb2))
 generalize W2 = WV at XV ZV MV TV BV LV ⊢
 have c1 : WV.cell? ⟨g, 1, none⟩ = some (.int .i64 x.st) := XV.out.cell 1
 go_upto_region 8 with (first
   | (refine wpList_load_row rfl 62 (.tmp 2) rfl g rfl 62 (trc x s1) (0, 0) _ XV.out Tryz.underlying62 rfl (tr_info _ _) ?_)
   | (refine wpList_load_row rfl 45 (.tmp 3) rfl (g + 1) rfl 45 (mc m) (0, 0) _ MV.out Tryz.underlying45 rfl HI.out ?_)
   | (go_at_call 144; refine (isStale_b x s1 m HL.out _ false HT.out).mono ?_; rintro e W2 ⟨rfl, hb2⟩; have XV := Lib.hid (XV.out.here hb2); have ZV := Lib.hid (ZV.out.here hb2); have MV := Lib.hid (MV.out.here hb2); have TV := Lib.hid (TV.out.step hb2); have BV := Lib.hid (stepB BV.out hb2); have LV := Lib.hid (Nat.le_trans LV.out hb2.size); clear hb2))
 clear c1
 generalize W2 = WV at XV ZV MV TV BV LV ⊢
 have hmv := MV.out.lt
 have hzv := ZV.out.lt
 have hxv := XV.out.lt
 have c4 : WV.cell? ⟨g, 4, none⟩ = some (.bool x.op) := XV.out.cell 4
 have f4 := XV.out.frozen 4
 have EW := Lib.hid ((Turn.refl (fun k => k = g) WV).setCell (p := ⟨g, 4, none⟩) (fun _ => rfl) (.bool false))
 have XW := Lib.hid (show Blk (WV.setCell ⟨g, 4, none⟩ (.bool false)) g 62 (trc { x with op := false } s1) from XV.out.set_ 4 _)
 have ZW := Lib.hid (ZV.out.turn EW.out (by omega))
 have MW := Lib.hid (MV.out.turn EW.out (by omega))
 have TW := Lib.hid (show Tm (WV.setCell ⟨g, 4, none⟩ (.bool false)) b0 { x with op := false } s1 from have h := TV.out.turn EW.out (fun k hk _ e => by have := GV.out; omega); ⟨h.t, h.v, h.k, h.g⟩)
 have BW := Lib.hid (BV.out.trans (EW.out.below (B := w.heap.size) (fun k hk e => by have := HG.out; omega) BV.out.size))
 have LW := Lib.hid (Nat.le_trans LV.out EW.out.size)
 go_upto_region 9 with fail
 clear c4 f4 XV ZV MV TV BV LV EW hmv hzv hxv
 generalize WV.setCell ⟨g, 4, none⟩ (.bool false) = WY at XW ZW MW TW BW LW ⊢
 have m0 := mc_cell HL.out MW.out (i := 0) (by omega)
 have m3 := mc_cell HL.out MW.out (i := 3) (by omega)
 have m4 := mc_cell HL.out MW.out (i := 4) (by omega)
 have m5 := mc_cell HL.out MW.out (i := 5) (by omega)
 have m6 := mc_cell HL.out MW.out (i := 6) (by omega)
 have m7 := mc_cell HL.out MW.out (i := 7) (by omega)
 have GL := Lib.hid (show grantL m = [fld m 3, fld m 4, fld m 5, fld m 6, fld m 7] from rfl)
 generalize fld m 3 = p3 at m3 GL
 generalize fld m 4 = p4 at m4 GL
 generalize fld m 5 = p5 at m5 GL
 generalize fld m 6 = p6 at m6 GL
 generalize fld m 7 = p7 at m7 GL
 have c12 : WY.cell? ⟨g, 12, none⟩ = some s1.g := XW.out.cell 12
 have RN := Lib.hid (reads_flat (V := WY) 149 [p3, p4, p5, p6, p7] (size := 5) rfl)
 have AL := Lib.hid (Joins.below_alloc1 WY (.cells (ints [p3, p4, p5, p6, p7]).toArray 149))
 go_upto_region 11 with (at_builtin; refine wpList_append_any _ rfl (.tmp 33) (.tmp 43) _ rfl b0 149 i0 _ 5 40 Tryz.underlying60 hi0 hz0 hz1 hz2 rfl (by omega) s1.g x.got.length _ rfl (own_step TW.out.g AL.out) _ _ 1 1 (ints [p3, p4, p5, p6, p7]) rfl RN.out (ints_one _) (by have := HS5.out; simp only [maxLen]; omega) (by have := HS5.out; omega) (Nat.le_trans LW.out AL.out.size) ?_; intro v9 w9 hown9 hg9 hv9; obtain ⟨A9, c9, rfl⟩ := own_len hown9; have O9 := Lib.hid hown9; have T9 := Lib.hid (show Turn (fun k => s1.g.ownBlock = some k) WY w9 from (Turn.of_below AL.out (S := fun k => s1.g.ownBlock = some k)).grown hg9 fun k hk _ => hk); have XG := Lib.hid (XW.out.turn T9.out (fun e => by have := own_ge TW.out.g e; have := GV.out; omega)); have k12 : w9.cell? ⟨g, 12, none⟩ = some s1.g := XG.out.cell 12; have k12f := XG.out.frozen 12; clear hown9 hg9 hv9 c12)
 have EZ := Lib.hid ((Turn.refl (fun k => k = g) w9).setCell (p := ⟨g, 12, none⟩) (fun _ => rfl) (.slice A9 (x.got.length + 1) c9))
 have hzw := ZW.out.lt
 have EQ := Lib.hid (show ({ x with op := false, got := x.got ++ [grantL m] } : Tr).got.length = x.got.length + 1 from by simp)
 have O9 := Lib.hid (show w9.ownsRow b0 149 5 (.slice A9 (x.got.length + 1) c9) (x.got ++ [grantL m]).length (ints (x.got ++ [grantL m]).flatten) from by
   have h := O9.out
   rw [show ints x.got.flatten ++ ints [p3, p4, p5, p6, p7] = ints (x.got ++ [grantL m]).flatten from by rw [GL.out]; simp [ints]] at h
   rw [show (x.got ++ [grantL m]).length = x.got.length + 1 from by simp]
   exact h)
 have XZ := Lib.hid (show Blk (w9.setCell ⟨g, 12, none⟩ (.slice A9 (x.got.length + 1) c9)) g 62 (trc { x with op := false, got := x.got ++ [grantL m] } ⟨s1.t, s1.v, s1.k, .slice A9 (x.got.length + 1) c9⟩) from XG.out.set_ 12 _)
 have ZZ := Lib.hid ((ZW.out.turn T9.out (fun e => by have := own_ge TW.out.g e; have := GV.out; omega)).turn EZ.out (by omega))
 have TZ := Lib.hid (show Tm (w9.setCell ⟨g, 12, none⟩ (.slice A9 (x.got.length + 1) c9)) b0 { x with op := false, got := x.got ++ [grantL m] } ⟨s1.t, s1.v, s1.k, .slice A9 (x.got.length + 1) c9⟩ from
   Tm.turn (w := w9) ⟨own_turn TW.out.t T9.out (fun k hk e => rows_apart TW.out.t TW.out.g (by decide) k hk e), own_turn TW.out.v T9.out (fun k hk e => rows_apart TW.out.v TW.out.g (by decide) k hk e), own_turn TW.out.k T9.out (fun k hk e => rows_apart TW.out.k TW.out.g (by decide) k hk e), O9.out⟩ EZ.out (fun k hk _ e => by have := GV.out; omega))
 have BZ := Lib.hid ((BW.out.trans (T9.out.below (B := w.heap.size) (fun k hk e => by have := own_ge TW.out.g e; have := GV.out; have := HG.out; omega) BW.out.size)).trans (EZ.out.below (B := w.heap.size) (fun k hk e => by have := HG.out; omega) (Nat.le_trans BW.out.size T9.out.size)))
 clear k12 k12f O9 T9 XG EZ RN AL m0 m3 m4 m5 m6 m7 XW ZW MW TW BW LW hzw EQ
 generalize hs2 : (⟨s1.t, s1.v, s1.k, .slice A9 (x.got.length + 1) c9⟩ : Sl) = s2 at XZ TZ
 generalize hy2 : ({ x with op := false, got := x.got ++ [grantL m] } : Tr) = y2 at XZ TZ
 have HY2 := Lib.hid hy2
 clear hs2 hy2
 generalize w9.setCell ⟨g, 12, none⟩ (.slice A9 (x.got.length + 1) c9) = WZ at XZ ZZ TZ BZ ⊢
 go_wp2_with (first
   | (refine wpList_load_row rfl 62 (.tmp 2) rfl g rfl 62 (trc y2 s2) (0, 0) _ XZ.out Tryz.underlying62 rfl (tr_info _ _) ?_)
   | (refine wpList_store_mid (op := { dst := none, op := .store 62 (.tmp 4) (.tmp 46), type := 0, pos := _, after := _, guard := none }) (by rfl) 62 (.tmp 4) (.tmp 46) (by rfl) (g + 2) 0 (trc y2 s2) (by rfl) (by rfl) (ZZ.out.there (Nat.le_refl 13)) (tr_info _ _) TZ.out.one ?_))
 exact bodyPost_ret (v := .tuple #[.agg (trc y2 s2), .nilIface]) (results_cell_and rfl rfl rfl (tr_load (ZZ.out.put (trc y2 s2) rfl))) rfl ⟨s2, by rw [HY2.out]; rfl, by rw [HY2.out]; exact (Tm.turn TZ.out (Turn.setCells (S := fun k => k = g + 2) (fun _ => rfl) _ _ _ (Turn.refl _ _)) (fun k hk _ e => by have := GV.out; omega)).less (by have := HG.out; have := GV.out; omega), Below.setCells (by have := HG.out; omega) _ _ _ BZ.out⟩
theorem answered_any {B : Nat} (x : Tr) (s : Sl) (m : List Int) (w : World) (h : Tm w B x s) (hs : Short x) (hm : m.length = 28) : Calls Tryz.prog 104 #[.agg (trc x s), .agg (mc m)] w (Post2 w (ansL x m)) := by
 unfold ansL
 cases hf : isOf x m [2, 3] with
 | false => rw [if_pos rfl]; exact answered_5 x s m w h hs hm hf
 | true =>
   rw [if_neg (by simp)]
   by_cases h1 : x.st = 1
   · rw [if_neg (fun e => e h1)]
     cases hst : stale x m with
     | true => rw [if_pos rfl]; exact answered_14 x s m w h hs hm hf h1 hst
     | false =>
       rw [if_neg (by simp)]
       unfold ansX
       by_cases hk : fld m 0 = 2
       · rw [if_pos hk]; exact answered_g x s m w h hs hm hf h1 hst hk
       · rw [if_neg hk]; exact answered_n x s m w h hs hm hf h1 hst hk
   · rw [if_pos h1]; exact answered_11 x s m w h hs hm hf h1
end Go.Proofs.YtadnlannbafjpaaGreat
/- A transaction: Ack. -/
namespace Go.Proofs.YtadnlannbafjpaaGreat
open Go.RowKit
set_option linter.unusedVariables false
set_option linter.unusedSimpArgs false
set_option maxRecDepth 100000 in
set_option maxHeartbeats 8000000 in
theorem ack_5 {B : Nat} (x : Tr) (s : Sl) (m : List Int) (w : World) (h : Tm w B x s) (hs : Short x) (hm : m.length = 28) (hf : isOf x m [7] = false) :
   Calls Tryz.prog 106 #[.agg (trc x s), .agg (mc m)] w (Post2 w (x, [], 5)) := by
 have X1 := Lib.hid (((Blk.new w 62 (trc x s)).alloc (.cells (mc m) 45)).alloc (.cells zTr 62))
 have M1 := Lib.hid ((Blk.new_at (w := w.alloc (.cells (trc x s) 62)) (n := w.heap.size + 1) (by simp) 45 (mc m)).alloc (.cells zTr 62))
 have Z1 := Lib.hid (Blk.new_at (w := (w.alloc (.cells (trc x s) 62)).alloc (.cells (mc m) 45)) (n := w.heap.size + 2) (by simp) 62 zTr)
 have B1 := Lib.hid (((Joins.below_alloc1 w (.cells (trc x s) 62)).alloc (by simp <;> omega) (.cells (mc m) 45)).alloc (by simp <;> omega) (.cells zTr 62))
 have SZ := Lib.hid (show (((w.alloc (.cells (trc x s) 62)).alloc (.cells (mc m) 45)).alloc (.cells zTr 62)).heap.size = w.heap.size + 3 from by simp)
 have H1 := Lib.hid (h.step B1.out)
 have HS := Lib.hid hs
 have HL := Lib.hid hm
 have HI := Lib.hid (mc_info hm)
 have HF := Lib.hid hf
 clear hf
 clear h hs hm
 go_enter Tryz.func106, Tryz.ntmps106
 go_upto_region 1 with fail
 obtain ⟨g, hg⟩ : ∃ g, g = w.heap.size := ⟨_, rfl⟩
 have HG := Lib.hid hg
 rw [← hg] at X1 M1 Z1 SZ ⊢
 clear hg
 generalize ((w.alloc (.cells (trc x s) 62)).alloc (.cells (mc m) 45)).alloc (.cells zTr 62) = V at X1 M1 Z1 B1 H1 SZ ⊢
 go_upto_region 2 with (first
   | (refine wpList_load_row rfl 62 (.tmp 2) rfl g rfl 62 (trc x s) (0, 0) _ X1.out Tryz.underlying62 rfl (tr_info _ _) ?_)
   | (go_at_call 90; refine (own_any x s _ H1.out HS.out).mono ?_; rintro e W1 ⟨s1, rfl, ht, hn, hb⟩; have T1 := Lib.hid ht; have N1 := Lib.hid hn; have E1 := Lib.hid hb; have XX := Lib.hid (X1.out.here hb); clear ht hn hb)
   | (refine wpList_store_mid (by rfl) 62 (.tmp 2) (.tmp 7) (by rfl) g 0 (trc x s1) (by rfl) (by rfl) (XX.out.there (Nat.le_refl 13)) (tr_info _ _) T1.out.one ?_))
 have ET := Lib.hid (show Turn (fun k => k = g) W1 (W1.setCells g 0 (trc x s1).toList) from Turn.setCells (S := fun k => k = g) (fun _ => rfl) _ _ _ (Turn.refl _ _))
 have XV := Lib.hid (show Blk (W1.setCells g 0 (trc x s1).toList) g 62 (trc x s1) from XX.out.put (trc x s1) rfl)
 have ZV := Lib.hid ((Z1.out.here E1.out).turn ET.out (by omega))
 have MV := Lib.hid ((M1.out.here E1.out).turn ET.out (by omega))
 have BV := Lib.hid ((B1.out.trans (E1.out.mono B1.out.size)).trans (ET.out.below (B := w.heap.size) (fun k hk e => by have := HG.out; omega) (Nat.le_trans B1.out.size E1.out.size)))
 obtain ⟨b0, hb0⟩ : ∃ b0, b0 = V.heap.size := ⟨_, rfl⟩
 have GV := Lib.hid (show b0 = g + 3 from hb0.trans SZ.out)
 rw [← hb0] at T1
 have TV := Lib.hid (T1.out.turn ET.out (fun k hk _ e => by have := GV.out; omega))
 have LV := Lib.hid (show b0 ≤ (W1.setCells g 0 (trc x s1).toList).heap.size from by rw [hb0]; exact Nat.le_trans E1.out.size ET.out.size)
 clear hb0 X1 Z1 M1 B1 H1 SZ T1 E1 XX ET
 generalize W1.setCells g 0 (trc x s1).toList = WV at XV ZV MV BV TV LV ⊢
 go_upto_region 3 with (first
   | (refine wpList_load_row rfl 62 (.tmp 2) rfl g rfl 62 (trc x s1) (0, 0) _ XV.out Tryz.underlying62 rfl (tr_info _ _) ?_)
   | (refine wpList_load_row rfl 45 (.tmp 3) rfl (g + 1) rfl 45 (mc m) (0, 0) _ MV.out Tryz.underlying45 rfl HI.out ?_)
   | (go_at_call 143; refine (isOf_b x s1 m HL.out _ (own_ints WV 3 [7] (B := 0) (n := 1) (Nat.zero_le _) rfl (by simp)) (by simp) false HF.out).mono ?_; rintro e W2 ⟨rfl, hb1⟩; have hb2 : Below WV.heap.size WV W2 := (Joins.below_alloc1 WV _).trans (hb1.mono (by simp)); clear hb1; have XV := Lib.hid (XV.out.here hb2); have ZV := Lib.hid (ZV.out.here hb2); have MV := Lib.hid (MV.out.here hb2); have TV := Lib.hid (TV.out.step hb2); have BV := Lib.hid (stepB BV.out hb2); have LV := Lib.hid (Nat.le_trans LV.out hb2.size); clear hb2))
 generalize W2 = WV at XV ZV MV TV BV LV ⊢
 go_wp2_with (first
   | (refine wpList_load_row rfl 62 (.tmp 2) rfl g rfl 62 (trc x s1) (0, 0) _ XV.out Tryz.underlying62 rfl (tr_info _ _) ?_)
   | (refine wpList_store_mid (op := { dst := none, op := .store 62 (.tmp 4) (.tmp 14), type := 0, pos := _, after := _, guard := none }) (by rfl) 62 (.tmp 4) (.tmp 14) (by rfl) (g + 2) 0 (trc x s1) (by rfl) (by rfl) (ZV.out.there (Nat.le_refl 13)) (tr_info _ _) TV.out.one ?_))
 exact bodyPost_ret (v := .tuple #[.agg (trc x s1), errno 5]) (results_cell_and rfl rfl rfl (tr_load (ZV.out.put (trc x s1) rfl))) rfl ⟨s1, rfl, (Tm.turn TV.out (Turn.setCells (S := fun k => k = g + 2) (fun _ => rfl) _ _ _ (Turn.refl _ _)) (fun k hk _ e => by have := GV.out; omega)).less (by have := HG.out; have := GV.out; omega), Below.setCells (by have := HG.out; omega) _ _ _ BV.out⟩
set_option maxRecDepth 100000 in
set_option maxHeartbeats 8000000 in
theorem ack_11 {B : Nat} (x : Tr) (s : Sl) (m : List Int) (w : World) (h : Tm w B x s) (hs : Short x) (hm : m.length = 28) (hf : isOf x m [7] = true) (hd : decided x = false) :
   Calls Tryz.prog 106 #[.agg (trc x s), .agg (mc m)] w (Post2 w (x, [], 11)) := by
 have X1 := Lib.hid (((Blk.new w 62 (trc x s)).alloc (.cells (mc m) 45)).alloc (.cells zTr 62))
 have M1 := Lib.hid ((Blk.new_at (w := w.alloc (.cells (trc x s) 62)) (n := w.heap.size + 1) (by simp) 45 (mc m)).alloc (.cells zTr 62))
 have Z1 := Lib.hid (Blk.new_at (w := (w.alloc (.cells (trc x s) 62)).alloc (.cells (mc m) 45)) (n := w.heap.size + 2) (by simp) 62 zTr)
 have B1 := Lib.hid (((Joins.below_alloc1 w (.cells (trc x s) 62)).alloc (by simp <;> omega) (.cells (mc m) 45)).alloc (by simp <;> omega) (.cells zTr 62))
 have SZ := Lib.hid (show (((w.alloc (.cells (trc x s) 62)).alloc (.cells (mc m) 45)).alloc (.cells zTr 62)).heap.size = w.heap.size + 3 from by simp)
 have H1 := Lib.hid (h.step B1.out)
 have HS := Lib.hid hs
 have HL := Lib.hid hm
 have HI := Lib.hid (mc_info hm)
 have HF := Lib.hid hf
 have HD := Lib.hid hd
 clear hf hd
 clear h hs hm
 go_enter Tryz.func106, Tryz.ntmps106
 go_upto_region 1 with fail
 obtain ⟨g, hg⟩ : ∃ g, g = w.heap.size := ⟨_, rfl⟩
 have HG := Lib.hid hg
 rw [← hg] at X1 M1 Z1 SZ ⊢
 clear hg
 generalize ((w.alloc (.cells (trc x s) 62)).alloc (.cells (mc m) 45)).alloc (.cells zTr 62) = V at X1 M1 Z1 B1 H1 SZ ⊢
 go_upto_region 2 with (first
   | (refine wpList_load_row rfl 62 (.tmp 2) rfl g rfl 62 (trc x s) (0, 0) _ X1.out Tryz.underlying62 rfl (tr_info _ _) ?_)
   | (go_at_call 90; refine (own_any x s _ H1.out HS.out).mono ?_; rintro e W1 ⟨s1, rfl, ht, hn, hb⟩; have T1 := Lib.hid ht; have N1 := Lib.hid hn; have E1 := Lib.hid hb; have XX := Lib.hid (X1.out.here hb); clear ht hn hb)
   | (refine wpList_store_mid (by rfl) 62 (.tmp 2) (.tmp 7) (by rfl) g 0 (trc x s1) (by rfl) (by rfl) (XX.out.there (Nat.le_refl 13)) (tr_info _ _) T1.out.one ?_))
 have ET := Lib.hid (show Turn (fun k => k = g) W1 (W1.setCells g 0 (trc x s1).toList) from Turn.setCells (S := fun k => k = g) (fun _ => rfl) _ _ _ (Turn.refl _ _))
 have XV := Lib.hid (show Blk (W1.setCells g 0 (trc x s1).toList) g 62 (trc x s1) from XX.out.put (trc x s1) rfl)
 have ZV := Lib.hid ((Z1.out.here E1.out).turn ET.out (by omega))
 have MV := Lib.hid ((M1.out.here E1.out).turn ET.out (by omega))
 have BV := Lib.hid ((B1.out.trans (E1.out.mono B1.out.size)).trans (ET.out.below (B := w.heap.size) (fun k hk e => by have := HG.out; omega) (Nat.le_trans B1.out.size E1.out.size)))
 obtain ⟨b0, hb0⟩ : ∃ b0, b0 = V.heap.size := ⟨_, rfl⟩
 have GV := Lib.hid (show b0 = g + 3 from hb0.trans SZ.out)
 rw [← hb0] at T1
 have TV := Lib.hid (T1.out.turn ET.out (fun k hk _ e => by have := GV.out; omega))
 have LV := Lib.hid (show b0 ≤ (W1.setCells g 0 (trc x s1).toList).heap.size from by rw [hb0]; exact Nat.le_trans E1.out.size ET.out.size)
 clear hb0 X1 Z1 M1 B1 H1 SZ T1 E1 XX ET
 generalize W1.setCells g 0 (trc x s1).toList = WV at XV ZV MV BV TV LV ⊢
 go_upto_region 4 with (first
   | (refine wpList_load_row rfl 62 (.tmp 2) rfl g rfl 62 (trc x s1) (0, 0) _ XV.out Tryz.underlying62 rfl (tr_info _ _) ?_)
   | (refine wpList_load_row rfl 45 (.tmp 3) rfl (g + 1) rfl 45 (mc m) (0, 0) _ MV.out Tryz.underlying45 rfl HI.out ?_)
   | (go_at_call 143; refine (isOf_b x s1 m HL.out _ (own_ints WV 3 [7] (B := 0) (n := 1) (Nat.zero_le _) rfl (by simp)) (by simp) true HF.out).mono ?_; rintro e W2 ⟨rfl, hb1⟩; have hb2 : Below WV.heap.size WV W2 := (Joins.below_alloc1 WV _).trans (hb1.mono (by simp)); clear hb1; have XV := Lib.hid (XV.out.here hb2); have ZV := Lib.hid (ZV.out.here hb2); have MV := Lib.hid (MV.out.here hb2); have TV := Lib.hid (TV.out.step hb2); have BV := Lib.hid (stepB BV.out hb2); have LV := Lib.hid (Nat.le_trans LV.out hb2.size); clear hb2))
 generalize W2 = WV at XV ZV MV TV BV LV ⊢
 go_upto_region 5 with (first
   | (refine wpList_load_row rfl 62 (.tmp 2) rfl g rfl 62 (trc x s1) (0, 0) _ XV.out Tryz.underlying62 rfl (tr_info _ _) ?_)
   | (go_at_call 20; refine (decided_b x s1 _ false HD.out).mono ?_; rintro e W2 ⟨rfl, hb2⟩; have XV := Lib.hid (XV.out.here hb2); have ZV := Lib.hid (ZV.out.here hb2); have MV := Lib.hid (MV.out.here hb2); have TV := Lib.hid (TV.out.step hb2); have BV := Lib.hid (stepB BV.out hb2); have LV := Lib.hid (Nat.le_trans LV.out hb2.size); clear hb2))
 generalize W2 = WV at XV ZV MV TV BV LV ⊢
 go_wp2_with (first
   | (refine wpList_load_row rfl 62 (.tmp 2) rfl g rfl 62 (trc x s1) (0, 0) _ XV.out Tryz.underlying62 rfl (tr_info _ _) ?_)
   | (refine wpList_store_mid (op := { dst := none, op := .store 62 (.tmp 4) (.tmp 20), type := 0, pos := _, after := _, guard := none }) (by rfl) 62 (.tmp 4) (.tmp 20) (by rfl) (g + 2) 0 (trc x s1) (by rfl) (by rfl) (ZV.out.there (Nat.le_refl 13)) (tr_info _ _) TV.out.one ?_))
 exact bodyPost_ret (v := .tuple #[.agg (trc x s1), errno 11]) (results_cell_and rfl rfl rfl (tr_load (ZV.out.put (trc x s1) rfl))) rfl ⟨s1, rfl, (Tm.turn TV.out (Turn.setCells (S := fun k => k = g + 2) (fun _ => rfl) _ _ _ (Turn.refl _ _)) (fun k hk _ e => by have := GV.out; omega)).less (by have := HG.out; have := GV.out; omega), Below.setCells (by have := HG.out; omega) _ _ _ BV.out⟩
set_option maxRecDepth 100000 in
set_option maxHeartbeats 8000000 in
theorem ack_10 {B : Nat} (x : Tr) (s : Sl) (m : List Int) (w : World) (h : Tm w B x s) (hs : Short x) (hm : m.length = 28) (hf : isOf x m [7] = true) (hd : decided x = true) (hc : x.tch.contains (fld m 1) = false) :
   Calls Tryz.prog 106 #[.agg (trc x s), .agg (mc m)] w (Post2 w (x, [], 10)) := by
 have X1 := Lib.hid (((Blk.new w 62 (trc x s)).alloc (.cells (mc m) 45)).alloc (.cells zTr 62))
 have M1 := Lib.hid ((Blk.new_at (w := w.alloc (.cells (trc x s) 62)) (n := w.heap.size + 1) (by simp) 45 (mc m)).alloc (.cells zTr 62))
 have Z1 := Lib.hid (Blk.new_at (w := (w.alloc (.cells (trc x s) 62)).alloc (.cells (mc m) 45)) (n := w.heap.size + 2) (by simp) 62 zTr)
 have B1 := Lib.hid (((Joins.below_alloc1 w (.cells (trc x s) 62)).alloc (by simp <;> omega) (.cells (mc m) 45)).alloc (by simp <;> omega) (.cells zTr 62))
 have SZ := Lib.hid (show (((w.alloc (.cells (trc x s) 62)).alloc (.cells (mc m) 45)).alloc (.cells zTr 62)).heap.size = w.heap.size + 3 from by simp)
 have H1 := Lib.hid (h.step B1.out)
 have HS := Lib.hid hs
 have HL := Lib.hid hm
 have HI := Lib.hid (mc_info hm)
 have HF := Lib.hid hf
 have HD := Lib.hid hd
 have HC := Lib.hid hc
 clear hf hd hc
 clear h hs hm
 go_enter Tryz.func106, Tryz.ntmps106
 go_upto_region 1 with fail
 obtain ⟨g, hg⟩ : ∃ g, g = w.heap.size := ⟨_, rfl⟩
 have HG := Lib.hid hg
 rw [← hg] at X1 M1 Z1 SZ ⊢
 clear hg
 generalize ((w.alloc (.cells (trc x s) 62)).alloc (.cells (mc m) 45)).alloc (.cells zTr 62) = V at X1 M1 Z1 B1 H1 SZ ⊢
 go_upto_region 2 with (first
   | (refine wpList_load_row rfl 62 (.tmp 2) rfl g rfl 62 (trc x s) (0, 0) _ X1.out Tryz.underlying62 rfl (tr_info _ _) ?_)
   | (go_at_call 90; refine (own_any x s _ H1.out HS.out).mono ?_; rintro e W1 ⟨s1, rfl, ht, hn, hb⟩; have T1 := Lib.hid ht; have N1 := Lib.hid hn; have E1 := Lib.hid hb; have XX := Lib.hid (X1.out.here hb); clear ht hn hb)
   | (refine wpList_store_mid (by rfl) 62 (.tmp 2) (.tmp 7) (by rfl) g 0 (trc x s1) (by rfl) (by rfl) (XX.out.there (Nat.le_refl 13)) (tr_info _ _) T1.out.one ?_))
 have ET := Lib.hid (show Turn (fun k => k = g) W1 (W1.setCells g 0 (trc x s1).toList) from Turn.setCells (S := fun k => k = g) (fun _ => rfl) _ _ _ (Turn.refl _ _))
 have XV := Lib.hid (show Blk (W1.setCells g 0 (trc x s1).toList) g 62 (trc x s1) from XX.out.put (trc x s1) rfl)
 have ZV := Lib.hid ((Z1.out.here E1.out).turn ET.out (by omega))
 have MV := Lib.hid ((M1.out.here E1.out).turn ET.out (by omega))
 have BV := Lib.hid ((B1.out.trans (E1.out.mono B1.out.size)).trans (ET.out.below (B := w.heap.size) (fun k hk e => by have := HG.out; omega) (Nat.le_trans B1.out.size E1.out.size)))
 obtain ⟨b0, hb0⟩ : ∃ b0, b0 = V.heap.size := ⟨_, rfl⟩
 have GV := Lib.hid (show b0 = g + 3 from hb0.trans SZ.out)
 rw [← hb0] at T1
 have TV := Lib.hid (T1.out.turn ET.out (fun k hk _ e => by have := GV.out; omega))
 have LV := Lib.hid (show b0 ≤ (W1.setCells g 0 (trc x s1).toList).heap.size from by rw [hb0]; exact Nat.le_trans E1.out.size ET.out.size)
 clear hb0 X1 Z1 M1 B1 H1 SZ T1 E1 XX ET
 generalize W1.setCells g 0 (trc x s1).toList = WV at XV ZV MV BV TV LV ⊢
 go_upto_region 4 with (first
   | (refine wpList_load_row rfl 62 (.tmp 2) rfl g rfl 62 (trc x s1) (0, 0) _ XV.out Tryz.underlying62 rfl (tr_info _ _) ?_)
   | (refine wpList_load_row rfl 45 (.tmp 3) rfl (g + 1) rfl 45 (mc m) (0, 0) _ MV.out Tryz.underlying45 rfl HI.out ?_)
   | (go_at_call 143; refine (isOf_b x s1 m HL.out _ (own_ints WV 3 [7] (B := 0) (n := 1) (Nat.zero_le _) rfl (by simp)) (by simp) true HF.out).mono ?_; rintro e W2 ⟨rfl, hb1⟩; have hb2 : Below WV.heap.size WV W2 := (Joins.below_alloc1 WV _).trans (hb1.mono (by simp)); clear hb1; have XV := Lib.hid (XV.out.here hb2); have ZV := Lib.hid (ZV.out.here hb2); have MV := Lib.hid (MV.out.here hb2); have TV := Lib.hid (TV.out.step hb2); have BV := Lib.hid (stepB BV.out hb2); have LV := Lib.hid (Nat.le_trans LV.out hb2.size); clear hb2))
 generalize W2 = WV at XV ZV MV TV BV LV ⊢
 go_upto_region 6 with (first
   | (refine wpList_load_row rfl 62 (.tmp 2) rfl g rfl 62 (trc x s1) (0, 0) _ XV.out Tryz.underlying62 rfl (tr_info _ _) ?_)
   | (go_at_call 20; refine (decided_b x s1 _ true HD.out).mono ?_; rintro e W2 ⟨rfl, hb2⟩; have XV := Lib.hid (XV.out.here hb2); have ZV := Lib.hid (ZV.out.here hb2); have MV := Lib.hid (MV.out.here hb2); have TV := Lib.hid (TV.out.step hb2); have BV := Lib.hid (stepB BV.out hb2); have LV := Lib.hid (Nat.le_trans LV.out hb2.size); clear hb2))
 generalize W2 = WV at XV ZV MV TV BV LV ⊢
 have c9 : WV.cell? ⟨g, 9, none⟩ = some s1.t := XV.out.cell 9
 have m1 := mc_cell HL.out MV.out (i := 1) (by omega)
 go_wp2_with (first
   | (go_at_call 129; refine (contG _ _ TV.out.t (by have := HS.out.t; omega) false HC.out).mono ?_; rintro e w' ⟨rfl, rfl⟩)
   | (refine wpList_load_row rfl 62 (.tmp 2) rfl g rfl 62 (trc x s1) (0, 0) _ XV.out Tryz.underlying62 rfl (tr_info _ _) ?_)
   | (refine wpList_store_mid (op := { dst := none, op := .store 62 (.tmp 4) (.tmp 29), type := 0, pos := _, after := _, guard := none }) (by rfl) 62 (.tmp 4) (.tmp 29) (by rfl) (g + 2) 0 (trc x s1) (by rfl) (by rfl) (ZV.out.there (Nat.le_refl 13)) (tr_info _ _) TV.out.one ?_))
 exact bodyPost_ret (v := .tuple #[.agg (trc x s1), errno 10]) (results_cell_and rfl rfl rfl (tr_load (ZV.out.put (trc x s1) rfl))) rfl ⟨s1, rfl, (Tm.turn TV.out (Turn.setCells (S := fun k => k = g + 2) (fun _ => rfl) _ _ _ (Turn.refl _ _)) (fun k hk _ e => by have := GV.out; omega)).less (by have := HG.out; have := GV.out; omega), Below.setCells (by have := HG.out; omega) _ _ _ BV.out⟩
set_option maxRecDepth 100000 in
set_option maxHeartbeats 8000000 in
theorem ack_0 {B : Nat} (x : Tr) (s : Sl) (m : List Int) (w : World) (h : Tm w B x s) (hs : Short x) (hm : m.length = 28) (hf : isOf x m [7] = true) (hd : decided x = true) (hc : x.tch.contains (fld m 1) = true) (ha : Shs x.acks) (fr : Int) (hfr : fld m 1 = fr) :
   Calls Tryz.prog 106 #[.agg (trc x s), .agg (mc m)] w (Post2 w (ackX x fr, [], 0)) := by
 have X1 := Lib.hid (((Blk.new w 62 (trc x s)).alloc (.cells (mc m) 45)).alloc (.cells zTr 62))
 have M1 := Lib.hid ((Blk.new_at (w := w.alloc (.cells (trc x s) 62)) (n := w.heap.size + 1) (by simp) 45 (mc m)).alloc (.cells zTr 62))
 have Z1 := Lib.hid (Blk.new_at (w := (w.alloc (.cells (trc x s) 62)).alloc (.cells (mc m) 45)) (n := w.heap.size + 2) (by simp) 62 zTr)
 have B1 := Lib.hid (((Joins.below_alloc1 w (.cells (trc x s) 62)).alloc (by simp <;> omega) (.cells (mc m) 45)).alloc (by simp <;> omega) (.cells zTr 62))
 have SZ := Lib.hid (show (((w.alloc (.cells (trc x s) 62)).alloc (.cells (mc m) 45)).alloc (.cells zTr 62)).heap.size = w.heap.size + 3 from by simp)
 have H1 := Lib.hid (h.step B1.out)
 have HS := Lib.hid hs
 have HL := Lib.hid hm
 have HI := Lib.hid (mc_info hm)
 have HF := Lib.hid hf
 have HD := Lib.hid hd
 have HC := Lib.hid hc
 have HW := Lib.hid ha
 have HN1 := Lib.hid hfr
 clear hf hd hc ha hfr
 clear h hs hm
 go_enter Tryz.func106, Tryz.ntmps106
 go_upto_region 1 with fail
 obtain ⟨g, hg⟩ : ∃ g, g = w.heap.size := ⟨_, rfl⟩
 have HG := Lib.hid hg
 rw [← hg] at X1 M1 Z1 SZ ⊢
 clear hg
 generalize ((w.alloc (.cells (trc x s) 62)).alloc (.cells (mc m) 45)).alloc (.cells zTr 62) = V at X1 M1 Z1 B1 H1 SZ ⊢
 go_upto_region 2 with (first
   | (refine wpList_load_row rfl 62 (.tmp 2) rfl g rfl 62 (trc x s) (0, 0) _ X1.out Tryz.underlying62 rfl (tr_info _ _) ?_)
   | (go_at_call 90; refine (own_any x s _ H1.out HS.out).mono ?_; rintro e W1 ⟨s1, rfl, ht, hn, hb⟩; have T1 := Lib.hid ht; have N1 := Lib.hid hn; have E1 := Lib.hid hb; have XX := Lib.hid (X1.out.here hb); clear ht hn hb)
   | (refine wpList_store_mid (by rfl) 62 (.tmp 2) (.tmp 7) (by rfl) g 0 (trc x s1) (by rfl) (by rfl) (XX.out.there (Nat.le_refl 13)) (tr_info _ _) T1.out.one ?_))
 have ET := Lib.hid (show Turn (fun k => k = g) W1 (W1.setCells g 0 (trc x s1).toList) from Turn.setCells (S := fun k => k = g) (fun _ => rfl) _ _ _ (Turn.refl _ _))
 have XV := Lib.hid (show Blk (W1.setCells g 0 (trc x s1).toList) g 62 (trc x s1) from XX.out.put (trc x s1) rfl)
 have ZV := Lib.hid ((Z1.out.here E1.out).turn ET.out (by omega))
 have MV := Lib.hid ((M1.out.here E1.out).turn ET.out (by omega))
 have BV := Lib.hid ((B1.out.trans (E1.out.mono B1.out.size)).trans (ET.out.below (B := w.heap.size) (fun k hk e => by have := HG.out; omega) (Nat.le_trans B1.out.size E1.out.size)))
 obtain ⟨b0, hb0⟩ : ∃ b0, b0 = V.heap.size := ⟨_, rfl⟩
 have GV := Lib.hid (show b0 = g + 3 from hb0.trans SZ.out)
 rw [← hb0] at T1
 have TV := Lib.hid (T1.out.turn ET.out (fun k hk _ e => by have := GV.out; omega))
 have LV := Lib.hid (show b0 ≤ (W1.setCells g 0 (trc x s1).toList).heap.size from by rw [hb0]; exact Nat.le_trans E1.out.size ET.out.size)
 clear hb0 X1 Z1 M1 B1 H1 SZ T1 E1 XX ET
 generalize W1.setCells g 0 (trc x s1).toList = WV at XV ZV MV BV TV LV ⊢
 go_upto_region 4 with (first
   | (refine wpList_load_row rfl 62 (.tmp 2) rfl g rfl 62 (trc x s1) (0, 0) _ XV.out Tryz.underlying62 rfl (tr_info _ _) ?_)
   | (refine wpList_load_row rfl 45 (.tmp 3) rfl (g + 1) rfl 45 (mc m) (0, 0) _ MV.out Tryz.underlying45 rfl HI.out ?_)
   | (go_at_call 143; refine (isOf_b x s1 m HL.out _ (own_ints WV 3 [7] (B := 0) (n := 1) (Nat.zero_le _) rfl (by simp)) (by simp) true HF.out).mono ?_; rintro e W2 ⟨rfl, hb1⟩; have hb2 : Below WV.heap.size WV W2 := (Joins.below_alloc1 WV _).trans (hb1.mono (by simp)); clear hb1; have XV := Lib.hid (XV.out.here hb2); have ZV := Lib.hid (ZV.out.here hb2); have MV := Lib.hid (MV.out.here hb2); have TV := Lib.hid (TV.out.step hb2); have BV := Lib.hid (stepB BV.out hb2); have LV := Lib.hid (Nat.le_trans LV.out hb2.size); clear hb2))
 generalize W2 = WV at XV ZV MV TV BV LV ⊢
 go_upto_region 6 with (first
   | (refine wpList_load_row rfl 62 (.tmp 2) rfl g rfl 62 (trc x s1) (0, 0) _ XV.out Tryz.underlying62 rfl (tr_info _ _) ?_)
   | (go_at_call 20; refine (decided_b x s1 _ true HD.out).mono ?_; rintro e W2 ⟨rfl, hb2⟩; have XV := Lib.hid (XV.out.here hb2); have ZV := Lib.hid (ZV.out.here hb2); have MV := Lib.hid (MV.out.here hb2); have TV := Lib.hid (TV.out.step hb2); have BV := Lib.hid (stepB BV.out hb2); have LV := Lib.hid (Nat.le_trans LV.out hb2.size); clear hb2))
 generalize W2 = WV at XV ZV MV TV BV LV ⊢
 have c9 : WV.cell? ⟨g, 9, none⟩ = some s1.t := XV.out.cell 9
 have hmv := MV.out.lt
 have hzv := ZV.out.lt
 have hxv := XV.out.lt
 have cf : WV.cell? ⟨g, 11, none⟩ = some s1.k := XV.out.cell 11
 have m1 := mc_cell HL.out MV.out (i := 1) (by omega)
 rw [HN1.out] at m1 HC
 go_upto_region 9 with (first
   | (go_at_call 129; refine (contG _ _ TV.out.t (by have := HS.out.t; omega) true HC.out).mono ?_; rintro e w' ⟨rfl, rfl⟩)
   | (go_at_call 91; refine (with_any _ _ TV.out.k HW.out.ris LV.out (by have := HW.out.len; omega)).mono ?_; rintro e W3 ⟨v', rfl, hv, ht, hq⟩; obtain ⟨A', c', rfl⟩ := own_len hv; have V3 := Lib.hid hv; have T3 := Lib.hid ht; have k9 : W3.cell? ⟨g, 11, none⟩ = some s1.k := (XV.out.turn ht (fun e => by have := own_ge TV.out.k e; have := GV.out; omega)).cell 11; have k9f := (XV.out.turn ht (fun e => by have := own_ge TV.out.k e; have := GV.out; omega)).frozen 11; clear hv ht hq cf))
 have hne : ¬ s1.k.ownBlock = some g := fun e => by have := own_ge TV.out.k e; have := GV.out; omega
 have hne1 : ¬ s1.k.ownBlock = some (g + 1) := fun e => by have := own_ge TV.out.k e; have := GV.out; omega
 have hne2 : ¬ s1.k.ownBlock = some (g + 2) := fun e => by have := own_ge TV.out.k e; have := GV.out; omega
 have EZ := Lib.hid (show Turn (fun k => k = g) W3 (W3.setCell ⟨g, 11, none⟩ (.slice A' (ins fr x.acks).length c')) from (Turn.refl (fun k => k = g) W3).setCell (p := ⟨g, 11, none⟩) (fun _ => rfl) _)
 have XZ := Lib.hid (show Blk (W3.setCell ⟨g, 11, none⟩ (.slice A' (ins fr x.acks).length c')) g 62 (trc (ackX x fr) ⟨s1.t, s1.v, .slice A' (ins fr x.acks).length c', s1.g⟩) from (XV.out.turn T3.out hne).set_ 11 _)
 have TZ := Lib.hid (show Tm (W3.setCell ⟨g, 11, none⟩ (.slice A' (ins fr x.acks).length c')) b0 (ackX x fr) ⟨s1.t, s1.v, .slice A' (ins fr x.acks).length c', s1.g⟩ from
   have h := (TV.out.putK N1.out V3.out T3.out).turn EZ.out (fun k hk _ e => by have := GV.out; omega); ⟨h.t, h.v, h.k, h.g⟩)
 have ZZ := Lib.hid ((ZV.out.turn T3.out hne2).turn EZ.out (by omega))
 have MZ := Lib.hid ((MV.out.turn T3.out hne1).turn EZ.out (by omega))
 have BZ := Lib.hid ((BV.out.trans (T3.out.below (B := w.heap.size) (fun k hk e => by have := own_ge TV.out.k e; have := GV.out; have := HG.out; omega) BV.out.size)).trans (EZ.out.below (B := w.heap.size) (fun k hk e => by have := HG.out; omega) (Nat.le_trans BV.out.size T3.out.size)))
 have LZ := Lib.hid (Nat.le_trans (Nat.le_trans LV.out T3.out.size) EZ.out.size)
 clear k9 k9f XV ZV MV TV BV LV T3 V3 EZ hne hne1 hne2 hmv hzv hxv
 generalize W3.setCell ⟨g, 11, none⟩ (.slice A' (ins fr x.acks).length c') = WZ at XZ ZZ MZ TZ BZ LZ ⊢
 generalize hs2 : (⟨s1.t, s1.v, .slice A' (ins fr x.acks).length c', s1.g⟩ : Sl) = s2 at XZ TZ
 clear hs2
 go_wp2_with (first
   | (refine wpList_load_row rfl 62 (.tmp 2) rfl g rfl 62 (trc (ackX x fr) s2) (0, 0) _ XZ.out Tryz.underlying62 rfl (tr_info _ _) ?_)
   | (refine wpList_store_mid (op := { dst := none, op := .store 62 (.tmp 4) (.tmp 37), type := 0, pos := _, after := _, guard := none }) (by rfl) 62 (.tmp 4) (.tmp 37) (by rfl) (g + 2) 0 (trc (ackX x fr) s2) (by rfl) (by rfl) (ZZ.out.there (Nat.le_refl 13)) (tr_info _ _) TZ.out.one ?_))
 exact bodyPost_ret (v := .tuple #[.agg (trc (ackX x fr) s2), .nilIface]) (results_cell_and rfl rfl rfl (tr_load (ZZ.out.put (trc (ackX x fr) s2) rfl))) rfl ⟨s2, rfl, (Tm.turn TZ.out (Turn.setCells (S := fun k => k = g + 2) (fun _ => rfl) _ _ _ (Turn.refl _ _)) (fun k hk _ e => by have := GV.out; omega)).less (by have := HG.out; have := GV.out; omega), Below.setCells (by have := HG.out; omega) _ _ _ BZ.out⟩
theorem ack_any {B : Nat} (x : Tr) (s : Sl) (m : List Int) (w : World) (h : Tm w B x s) (hs : Short x) (hm : m.length = 28) (ha : Shs x.acks) : Calls Tryz.prog 106 #[.agg (trc x s), .agg (mc m)] w (Post2 w (ackL x m)) := by
 unfold ackL
 cases hf : isOf x m [7] with
 | false => rw [if_pos rfl]; exact ack_5 x s m w h hs hm hf
 | true =>
   rw [if_neg (by simp)]
   cases hd : decided x with
   | false => rw [if_pos rfl]; exact ack_11 x s m w h hs hm hf hd
   | true =>
     rw [if_neg (by simp)]
     cases hc : x.tch.contains (fld m 1) with
     | false => rw [if_pos rfl]; exact ack_10 x s m w h hs hm hf hd hc
     | true => rw [if_neg (by simp)]; exact ack_0 x s m w h hs hm hf hd hc ha _ rfl
end Go.Proofs.YtadnlannbafjpaaGreat
/- A transaction: Vote. -/
namespace Go.Proofs.YtadnlannbafjpaaGreat
open Go.RowKit
set_option linter.unusedVariables false
set_option linter.unusedSimpArgs false
theorem own_offB {w w' : World} {B n size b : Nat} {e t : TypeId} {cs : Array Value} {v : Value} {xs : List Value} (h : w.ownsRow B e size v n xs) (hb : Blk w b t cs) (he : e ≠ t) (ht : Turn (fun k => k = b) w w') : w'.ownsRow B e size v n xs :=
 own_turn h ht fun k hk e' => by obtain ⟨_, h1, _⟩ := own_heap h k hk; exact heap_ne h1 hb he e'
theorem Tm.offB {w w' : World} {B b : Nat} {x : Tr} {s : Sl} {cs : Array Value} (h : Tm w B x s) (hb : Blk w b 62 cs) (ht : Turn (fun k => k = b) w w') : Tm w' B x s :=
 ⟨own_offB h.t hb (by decide) ht, own_offB h.v hb (by decide) ht, own_offB h.k hb (by decide) ht, own_offB h.g hb (by decide) ht⟩
set_option maxRecDepth 100000 in
set_option maxHeartbeats 8000000 in
theorem vote_5 {B : Nat} (x : Tr) (s : Sl) (m : List Int) (w : World) (h : Tm w B x s) (hs : Short x) (hm : m.length = 28) (hf : isOf x m [5] = false) :
   Calls Tryz.prog 105 #[.agg (trc x s), .agg (mc m)] w (Post3 w (x, [], 5)) := by
 have X1 := Lib.hid (((Blk.new w 62 (trc x s)).alloc (.cells (mc m) 45)).alloc (.cells zTr 62))
 have M1 := Lib.hid ((Blk.new_at (w := w.alloc (.cells (trc x s) 62)) (n := w.heap.size + 1) (by simp) 45 (mc m)).alloc (.cells zTr 62))
 have Z1 := Lib.hid (Blk.new_at (w := (w.alloc (.cells (trc x s) 62)).alloc (.cells (mc m) 45)) (n := w.heap.size + 2) (by simp) 62 zTr)
 have B1 := Lib.hid (((Joins.below_alloc1 w (.cells (trc x s) 62)).alloc (by simp <;> omega) (.cells (mc m) 45)).alloc (by simp <;> omega) (.cells zTr 62))
 have SZ := Lib.hid (show (((w.alloc (.cells (trc x s) 62)).alloc (.cells (mc m) 45)).alloc (.cells zTr 62)).heap.size = w.heap.size + 3 from by simp)
 have H1 := Lib.hid (h.step B1.out)
 have HS := Lib.hid hs
 have HL := Lib.hid hm
 have HI := Lib.hid (mc_info hm)
 have HF := Lib.hid hf
 clear hf
 clear h hs hm
 go_enter Tryz.func105, Tryz.ntmps105
 go_upto_region 1 with fail
 obtain ⟨g, hg⟩ : ∃ g, g = w.heap.size := ⟨_, rfl⟩
 have HG := Lib.hid hg
 rw [← hg] at X1 M1 Z1 SZ ⊢
 clear hg
 generalize ((w.alloc (.cells (trc x s) 62)).alloc (.cells (mc m) 45)).alloc (.cells zTr 62) = V at X1 M1 Z1 B1 H1 SZ ⊢
 go_upto_region 2 with (first
   | (refine wpList_load_row rfl 62 (.tmp 2) rfl g rfl 62 (trc x s) (0, 0) _ X1.out Tryz.underlying62 rfl (tr_info _ _) ?_)
   | (go_at_call 90; refine (own_any x s _ H1.out HS.out).mono ?_; rintro e W1 ⟨s1, rfl, ht, hn, hb⟩; have T1 := Lib.hid ht; have N1 := Lib.hid hn; have E1 := Lib.hid hb; have XX := Lib.hid (X1.out.here hb); clear ht hn hb)
   | (refine wpList_store_mid (by rfl) 62 (.tmp 2) (.tmp 9) (by rfl) g 0 (trc x s1) (by rfl) (by rfl) (XX.out.there (Nat.le_refl 13)) (tr_info _ _) T1.out.one ?_))
 have ET := Lib.hid (show Turn (fun k => k = g) W1 (W1.setCells g 0 (trc x s1).toList) from Turn.setCells (S := fun k => k = g) (fun _ => rfl) _ _ _ (Turn.refl _ _))
 have XV := Lib.hid (show Blk (W1.setCells g 0 (trc x s1).toList) g 62 (trc x s1) from XX.out.put (trc x s1) rfl)
 have ZV := Lib.hid ((Z1.out.here E1.out).turn ET.out (by omega))
 have MV := Lib.hid ((M1.out.here E1.out).turn ET.out (by omega))
 have BV := Lib.hid ((B1.out.trans (E1.out.mono B1.out.size)).trans (ET.out.below (B := w.heap.size) (fun k hk e => by have := HG.out; omega) (Nat.le_trans B1.out.size E1.out.size)))
 obtain ⟨b0, hb0⟩ : ∃ b0, b0 = V.heap.size := ⟨_, rfl⟩
 have GV := Lib.hid (show b0 = g + 3 from hb0.trans SZ.out)
 rw [← hb0] at T1
 have TV := Lib.hid (T1.out.turn ET.out (fun k hk _ e => by have := GV.out; omega))
 have LV := Lib.hid (show b0 ≤ (W1.setCells g 0 (trc x s1).toList).heap.size from by rw [hb0]; exact Nat.le_trans E1.out.size ET.out.size)
 clear hb0 X1 Z1 M1 B1 H1 SZ T1 E1 XX ET
 generalize W1.setCells g 0 (trc x s1).toList = WV at XV ZV MV BV TV LV ⊢
 go_upto_region 3 with (first
   | (refine wpList_load_row rfl 62 (.tmp 2) rfl g rfl 62 (trc x s1) (0, 0) _ XV.out Tryz.underlying62 rfl (tr_info _ _) ?_)
   | (refine wpList_load_row rfl 45 (.tmp 3) rfl (g + 1) rfl 45 (mc m) (0, 0) _ MV.out Tryz.underlying45 rfl HI.out ?_)
   | (go_at_call 143; refine (isOf_b x s1 m HL.out _ (own_ints WV 3 [5] (B := 0) (n := 1) (Nat.zero_le _) rfl (by simp)) (by simp) false HF.out).mono ?_; rintro e W2 ⟨rfl, hb1⟩; have hb2 : Below WV.heap.size WV W2 := (Joins.below_alloc1 WV _).trans (hb1.mono (by simp)); clear hb1; have XV := Lib.hid (XV.out.here hb2); have ZV := Lib.hid (ZV.out.here hb2); have MV := Lib.hid (MV.out.here hb2); have TV := Lib.hid (TV.out.step hb2); have BV := Lib.hid (stepB BV.out hb2); have LV := Lib.hid (Nat.le_trans LV.out hb2.size); clear hb2))
 generalize W2 = WV at XV ZV MV TV BV LV ⊢
 go_wp2_with (first
   | (refine wpList_load_row rfl 62 (.tmp 2) rfl g rfl 62 (trc x s1) (0, 0) _ XV.out Tryz.underlying62 rfl (tr_info _ _) ?_)
   | (refine wpList_store_mid (op := { dst := none, op := .store 62 (.tmp 4) (.tmp 16), type := 0, pos := _, after := _, guard := none }) (by rfl) 62 (.tmp 4) (.tmp 16) (by rfl) (g + 2) 0 (trc x s1) (by rfl) (by rfl) (ZV.out.there (Nat.le_refl 13)) (tr_info _ _) TV.out.one ?_))
 exact bodyPost_ret (v := .tuple #[.agg (trc x s1), .slice none 0 0, errno 5]) (results_and2 rfl rfl rfl rfl (tr_load (ZV.out.put (trc x s1) rfl))) rfl ⟨s1, _, rfl, (Tm.turn TV.out (Turn.setCells (S := fun k => k = g + 2) (fun _ => rfl) _ _ _ (Turn.refl _ _)) (fun k hk _ e => by have := GV.out; omega)).less (by have := HG.out; have := GV.out; omega), World.ownsRow_nil _ _ _ _, Below.setCells (by have := HG.out; omega) _ _ _ BV.out⟩
set_option maxRecDepth 100000 in
set_option maxHeartbeats 8000000 in
theorem vote_11 {B : Nat} (x : Tr) (s : Sl) (m : List Int) (w : World) (h : Tm w B x s) (hs : Short x) (hm : m.length = 28) (hf : isOf x m [5] = true) (h1 : ¬ x.st = 2) :
   Calls Tryz.prog 105 #[.agg (trc x s), .agg (mc m)] w (Post3 w (x, [], 11)) := by
 have X1 := Lib.hid (((Blk.new w 62 (trc x s)).alloc (.cells (mc m) 45)).alloc (.cells zTr 62))
 have M1 := Lib.hid ((Blk.new_at (w := w.alloc (.cells (trc x s) 62)) (n := w.heap.size + 1) (by simp) 45 (mc m)).alloc (.cells zTr 62))
 have Z1 := Lib.hid (Blk.new_at (w := (w.alloc (.cells (trc x s) 62)).alloc (.cells (mc m) 45)) (n := w.heap.size + 2) (by simp) 62 zTr)
 have B1 := Lib.hid (((Joins.below_alloc1 w (.cells (trc x s) 62)).alloc (by simp <;> omega) (.cells (mc m) 45)).alloc (by simp <;> omega) (.cells zTr 62))
 have SZ := Lib.hid (show (((w.alloc (.cells (trc x s) 62)).alloc (.cells (mc m) 45)).alloc (.cells zTr 62)).heap.size = w.heap.size + 3 from by simp)
 have H1 := Lib.hid (h.step B1.out)
 have HS := Lib.hid hs
 have HL := Lib.hid hm
 have HI := Lib.hid (mc_info hm)
 have HF := Lib.hid hf
 have e1 : (x.st != 2) = true := by simpa using h1
 clear hf h1
 clear h hs hm
 go_enter Tryz.func105, Tryz.ntmps105
 go_upto_region 1 with fail
 obtain ⟨g, hg⟩ : ∃ g, g = w.heap.size := ⟨_, rfl⟩
 have HG := Lib.hid hg
 rw [← hg] at X1 M1 Z1 SZ ⊢
 clear hg
 generalize ((w.alloc (.cells (trc x s) 62)).alloc (.cells (mc m) 45)).alloc (.cells zTr 62) = V at X1 M1 Z1 B1 H1 SZ ⊢
 go_upto_region 2 with (first
   | (refine wpList_load_row rfl 62 (.tmp 2) rfl g rfl 62 (trc x s) (0, 0) _ X1.out Tryz.underlying62 rfl (tr_info _ _) ?_)
   | (go_at_call 90; refine (own_any x s _ H1.out HS.out).mono ?_; rintro e W1 ⟨s1, rfl, ht, hn, hb⟩; have T1 := Lib.hid ht; have N1 := Lib.hid hn; have E1 := Lib.hid hb; have XX := Lib.hid (X1.out.here hb); clear ht hn hb)
   | (refine wpList_store_mid (by rfl) 62 (.tmp 2) (.tmp 9) (by rfl) g 0 (trc x s1) (by rfl) (by rfl) (XX.out.there (Nat.le_refl 13)) (tr_info _ _) T1.out.one ?_))
 have ET := Lib.hid (show Turn (fun k => k = g) W1 (W1.setCells g 0 (trc x s1).toList) from Turn.setCells (S := fun k => k = g) (fun _ => rfl) _ _ _ (Turn.refl _ _))
 have XV := Lib.hid (show Blk (W1.setCells g 0 (trc x s1).toList) g 62 (trc x s1) from XX.out.put (trc x s1) rfl)
 have ZV := Lib.hid ((Z1.out.here E1.out).turn ET.out (by omega))
 have MV := Lib.hid ((M1.out.here E1.out).turn ET.out (by omega))
 have BV := Lib.hid ((B1.out.trans (E1.out.mono B1.out.size)).trans (ET.out.below (B := w.heap.size) (fun k hk e => by have := HG.out; omega) (Nat.le_trans B1.out.size E1.out.size)))
 obtain ⟨b0, hb0⟩ : ∃ b0, b0 = V.heap.size := ⟨_, rfl⟩
 have GV := Lib.hid (show b0 = g + 3 from hb0.trans SZ.out)
 rw [← hb0] at T1
 have TV := Lib.hid (T1.out.turn ET.out (fun k hk _ e => by have := GV.out; omega))
 have LV := Lib.hid (show b0 ≤ (W1.setCells g 0 (trc x s1).toList).heap.size from by rw [hb0]; exact Nat.le_trans E1.out.size ET.out.size)
 clear hb0 X1 Z1 M1 B1 H1 SZ T1 E1 XX ET
 generalize W1.setCells g 0 (trc x s1).toList = WV at XV ZV MV BV TV LV ⊢
 go_upto_region 4 with (first
   | (refine wpList_load_row rfl 62 (.tmp 2) rfl g rfl 62 (trc x s1) (0, 0) _ XV.out Tryz.underlying62 rfl (tr_info _ _) ?_)
   | (refine wpList_load_row rfl 45 (.tmp 3) rfl (g + 1) rfl 45 (mc m) (0, 0) _ MV.out Tryz.underlying45 rfl HI.out ?_)
   | (go_at_call 143; refine (isOf_b x s1 m HL.out _ (own_ints WV 3 [5] (B := 0) (n := 1) (Nat.zero_le _) rfl (by simp)) (by simp) true HF.out).mono ?_; rintro e W2 ⟨rfl, hb1⟩; have hb2 : Below WV.heap.size WV W2 := (Joins.below_alloc1 WV _).trans (hb1.mono (by simp)); clear hb1; have XV := Lib.hid (XV.out.here hb2); have ZV := Lib.hid (ZV.out.here hb2); have MV := Lib.hid (MV.out.here hb2); have TV := Lib.hid (TV.out.step hb2); have BV := Lib.hid (stepB BV.out hb2); have LV := Lib.hid (Nat.le_trans LV.out hb2.size); clear hb2))
 generalize W2 = WV at XV ZV MV TV BV LV ⊢
 have c1 : WV.cell? ⟨g, 1, none⟩ = some (.int .i64 x.st) := XV.out.cell 1
 go_wp2_with (first
   | (refine wpList_load_row rfl 62 (.tmp 2) rfl g rfl 62 (trc x s1) (0, 0) _ XV.out Tryz.underlying62 rfl (tr_info _ _) ?_)
   | (refine wpList_store_mid (op := { dst := none, op := .store 62 (.tmp 4) (.tmp 22), type := 0, pos := _, after := _, guard := none }) (by rfl) 62 (.tmp 4) (.tmp 22) (by rfl) (g + 2) 0 (trc x s1) (by rfl) (by rfl) (ZV.out.there (Nat.le_refl 13)) (tr_info _ _) TV.out.one ?_))
 exact bodyPost_ret (v := .tuple #[.agg (trc x s1), .slice none 0 0, errno 11]) (results_and2 rfl rfl rfl rfl (tr_load (ZV.out.put (trc x s1) rfl))) rfl ⟨s1, _, rfl, (Tm.turn TV.out (Turn.setCells (S := fun k => k = g + 2) (fun _ => rfl) _ _ _ (Turn.refl _ _)) (fun k hk _ e => by have := GV.out; omega)).less (by have := HG.out; have := GV.out; omega), World.ownsRow_nil _ _ _ _, Below.setCells (by have := HG.out; omega) _ _ _ BV.out⟩
set_option maxRecDepth 100000 in
set_option maxHeartbeats 8000000 in
theorem vote_10 {B : Nat} (x : Tr) (s : Sl) (m : List Int) (w : World) (h : Tm w B x s) (hs : Short x) (hm : m.length = 28) (hf : isOf x m [5] = true) (h1 : x.st = 2) (hc : x.tch.contains (fld m 1) = false) :
   Calls Tryz.prog 105 #[.agg (trc x s), .agg (mc m)] w (Post3 w (x, [], 10)) := by
 have X1 := Lib.hid (((Blk.new w 62 (trc x s)).alloc (.cells (mc m) 45)).alloc (.cells zTr 62))
 have M1 := Lib.hid ((Blk.new_at (w := w.alloc (.cells (trc x s) 62)) (n := w.heap.size + 1) (by simp) 45 (mc m)).alloc (.cells zTr 62))
 have Z1 := Lib.hid (Blk.new_at (w := (w.alloc (.cells (trc x s) 62)).alloc (.cells (mc m) 45)) (n := w.heap.size + 2) (by simp) 62 zTr)
 have B1 := Lib.hid (((Joins.below_alloc1 w (.cells (trc x s) 62)).alloc (by simp <;> omega) (.cells (mc m) 45)).alloc (by simp <;> omega) (.cells zTr 62))
 have SZ := Lib.hid (show (((w.alloc (.cells (trc x s) 62)).alloc (.cells (mc m) 45)).alloc (.cells zTr 62)).heap.size = w.heap.size + 3 from by simp)
 have H1 := Lib.hid (h.step B1.out)
 have HS := Lib.hid hs
 have HL := Lib.hid hm
 have HI := Lib.hid (mc_info hm)
 have HF := Lib.hid hf
 have e1 : (x.st != 2) = false := by simpa using h1
 have HC := Lib.hid hc
 clear hf h1 hc
 clear h hs hm
 go_enter Tryz.func105, Tryz.ntmps105
 go_upto_region 1 with fail
 obtain ⟨g, hg⟩ : ∃ g, g = w.heap.size := ⟨_, rfl⟩
 have HG := Lib.hid hg
 rw [← hg] at X1 M1 Z1 SZ ⊢
 clear hg
 generalize ((w.alloc (.cells (trc x s) 62)).alloc (.cells (mc m) 45)).alloc (.cells zTr 62) = V at X1 M1 Z1 B1 H1 SZ ⊢
 go_upto_region 2 with (first
   | (refine wpList_load_row rfl 62 (.tmp 2) rfl g rfl 62 (trc x s) (0, 0) _ X1.out Tryz.underlying62 rfl (tr_info _ _) ?_)
   | (go_at_call 90; refine (own_any x s _ H1.out HS.out).mono ?_; rintro e W1 ⟨s1, rfl, ht, hn, hb⟩; have T1 := Lib.hid ht; have N1 := Lib.hid hn; have E1 := Lib.hid hb; have XX := Lib.hid (X1.out.here hb); clear ht hn hb)
   | (refine wpList_store_mid (by rfl) 62 (.tmp 2) (.tmp 9) (by rfl) g 0 (trc x s1) (by rfl) (by rfl) (XX.out.there (Nat.le_refl 13)) (tr_info _ _) T1.out.one ?_))
 have ET := Lib.hid (show Turn (fun k => k = g) W1 (W1.setCells g 0 (trc x s1).toList) from Turn.setCells (S := fun k => k = g) (fun _ => rfl) _ _ _ (Turn.refl _ _))
 have XV := Lib.hid (show Blk (W1.setCells g 0 (trc x s1).toList) g 62 (trc x s1) from XX.out.put (trc x s1) rfl)
 have ZV := Lib.hid ((Z1.out.here E1.out).turn ET.out (by omega))
 have MV := Lib.hid ((M1.out.here E1.out).turn ET.out (by omega))
 have BV := Lib.hid ((B1.out.trans (E1.out.mono B1.out.size)).trans (ET.out.below (B := w.heap.size) (fun k hk e => by have := HG.out; omega) (Nat.le_trans B1.out.size E1.out.size)))
 obtain ⟨b0, hb0⟩ : ∃ b0, b0 = V.heap.size := ⟨_, rfl⟩
 have GV := Lib.hid (show b0 = g + 3 from hb0.trans SZ.out)
 rw [← hb0] at T1
 have TV := Lib.hid (T1.out.turn ET.out (fun k hk _ e => by have := GV.out; omega))
 have LV := Lib.hid (show b0 ≤ (W1.setCells g 0 (trc x s1).toList).heap.size from by rw [hb0]; exact Nat.le_trans E1.out.size ET.out.size)
 clear hb0 X1 Z1 M1 B1 H1 SZ T1 E1 XX ET
 generalize W1.setCells g 0 (trc x s1).toList = WV at XV ZV MV BV TV LV ⊢
 go_upto_region 4 with (first
   | (refine wpList_load_row rfl 62 (.tmp 2) rfl g rfl 62 (trc x s1) (0, 0) _ XV.out Tryz.underlying62 rfl (tr_info _ _) ?_)
   | (refine wpList_load_row rfl 45 (.tmp 3) rfl (g + 1) rfl 45 (mc m) (0, 0) _ MV.out Tryz.underlying45 rfl HI.out ?_)
   | (go_at_call 143; refine (isOf_b x s1 m HL.out _ (own_ints WV 3 [5] (B := 0) (n := 1) (Nat.zero_le _) rfl (by simp)) (by simp) true HF.out).mono ?_; rintro e W2 ⟨rfl, hb1⟩; have hb2 : Below WV.heap.size WV W2 := (Joins.below_alloc1 WV _).trans (hb1.mono (by simp)); clear hb1; have XV := Lib.hid (XV.out.here hb2); have ZV := Lib.hid (ZV.out.here hb2); have MV := Lib.hid (MV.out.here hb2); have TV := Lib.hid (TV.out.step hb2); have BV := Lib.hid (stepB BV.out hb2); have LV := Lib.hid (Nat.le_trans LV.out hb2.size); clear hb2))
 generalize W2 = WV at XV ZV MV TV BV LV ⊢
 have c1 : WV.cell? ⟨g, 1, none⟩ = some (.int .i64 x.st) := XV.out.cell 1
 have c9 : WV.cell? ⟨g, 9, none⟩ = some s1.t := XV.out.cell 9
 have m1 := mc_cell HL.out MV.out (i := 1) (by omega)
 go_wp2_with (first
   | (go_at_call 129; refine (contG _ _ TV.out.t (by have := HS.out.t; omega) false HC.out).mono ?_; rintro e w' ⟨rfl, rfl⟩)
   | (refine wpList_load_row rfl 62 (.tmp 2) rfl g rfl 62 (trc x s1) (0, 0) _ XV.out Tryz.underlying62 rfl (tr_info _ _) ?_)
   | (refine wpList_store_mid (op := { dst := none, op := .store 62 (.tmp 4) (.tmp 31), type := 0, pos := _, after := _, guard := none }) (by rfl) 62 (.tmp 4) (.tmp 31) (by rfl) (g + 2) 0 (trc x s1) (by rfl) (by rfl) (ZV.out.there (Nat.le_refl 13)) (tr_info _ _) TV.out.one ?_))
 exact bodyPost_ret (v := .tuple #[.agg (trc x s1), .slice none 0 0, errno 10]) (results_and2 rfl rfl rfl rfl (tr_load (ZV.out.put (trc x s1) rfl))) rfl ⟨s1, _, rfl, (Tm.turn TV.out (Turn.setCells (S := fun k => k = g + 2) (fun _ => rfl) _ _ _ (Turn.refl _ _)) (fun k hk _ e => by have := GV.out; omega)).less (by have := HG.out; have := GV.out; omega), World.ownsRow_nil _ _ _ _, Below.setCells (by have := HG.out; omega) _ _ _ BV.out⟩
set_option maxRecDepth 100000 in
set_option maxHeartbeats 8000000 in
theorem vote_a {B : Nat} (x : Tr) (s : Sl) (m : List Int) (w : World) (h : Tm w B x s) (hs : Short x) (hm : m.length = 28) (hf : isOf x m [5] = true) (h1 : x.st = 2) (hc : x.tch.contains (fld m 1) = true) (h8 : fld m 8 = 0) (y : Tr) (ms : List (List Int)) (hy : abtL x 2 = (y, ms, 0)) :
   Calls Tryz.prog 105 #[.agg (trc x s), .agg (mc m)] w (Post3 w (y, ms, 0)) := by
 have X1 := Lib.hid (((Blk.new w 62 (trc x s)).alloc (.cells (mc m) 45)).alloc (.cells zTr 62))
 have M1 := Lib.hid ((Blk.new_at (w := w.alloc (.cells (trc x s) 62)) (n := w.heap.size + 1) (by simp) 45 (mc m)).alloc (.cells zTr 62))
 have Z1 := Lib.hid (Blk.new_at (w := (w.alloc (.cells (trc x s) 62)).alloc (.cells (mc m) 45)) (n := w.heap.size + 2) (by simp) 62 zTr)
 have B1 := Lib.hid (((Joins.below_alloc1 w (.cells (trc x s) 62)).alloc (by simp <;> omega) (.cells (mc m) 45)).alloc (by simp <;> omega) (.cells zTr 62))
 have SZ := Lib.hid (show (((w.alloc (.cells (trc x s) 62)).alloc (.cells (mc m) 45)).alloc (.cells zTr 62)).heap.size = w.heap.size + 3 from by simp)
 have H1 := Lib.hid (h.step B1.out)
 have HS := Lib.hid hs
 have HL := Lib.hid hm
 have HI := Lib.hid (mc_info hm)
 have HF := Lib.hid hf
 have e1 : (x.st != 2) = false := by simpa using h1
 have HC := Lib.hid hc
 have e8 : (fld m 8 == 0) = true := by simpa using h8
 have HY := Lib.hid hy
 clear hf h1 hc h8 hy
 clear h hs hm
 go_enter Tryz.func105, Tryz.ntmps105
 go_upto_region 1 with fail
 obtain ⟨g, hg⟩ : ∃ g, g = w.heap.size := ⟨_, rfl⟩
 have HG := Lib.hid hg
 rw [← hg] at X1 M1 Z1 SZ ⊢
 clear hg
 generalize ((w.alloc (.cells (trc x s) 62)).alloc (.cells (mc m) 45)).alloc (.cells zTr 62) = V at X1 M1 Z1 B1 H1 SZ ⊢
 go_upto_region 2 with (first
   | (refine wpList_load_row rfl 62 (.tmp 2) rfl g rfl 62 (trc x s) (0, 0) _ X1.out Tryz.underlying62 rfl (tr_info _ _) ?_)
   | (go_at_call 90; refine (own_any x s _ H1.out HS.out).mono ?_; rintro e W1 ⟨s1, rfl, ht, hn, hb⟩; have T1 := Lib.hid ht; have N1 := Lib.hid hn; have E1 := Lib.hid hb; have XX := Lib.hid (X1.out.here hb); clear ht hn hb)
   | (refine wpList_store_mid (by rfl) 62 (.tmp 2) (.tmp 9) (by rfl) g 0 (trc x s1) (by rfl) (by rfl) (XX.out.there (Nat.le_refl 13)) (tr_info _ _) T1.out.one ?_))
 have ET := Lib.hid (show Turn (fun k => k = g) W1 (W1.setCells g 0 (trc x s1).toList) from Turn.setCells (S := fun k => k = g) (fun _ => rfl) _ _ _ (Turn.refl _ _))
 have XV := Lib.hid (show Blk (W1.setCells g 0 (trc x s1).toList) g 62 (trc x s1) from XX.out.put (trc x s1) rfl)
 have ZV := Lib.hid ((Z1.out.here E1.out).turn ET.out (by omega))
 have MV := Lib.hid ((M1.out.here E1.out).turn ET.out (by omega))
 have BV := Lib.hid ((B1.out.trans (E1.out.mono B1.out.size)).trans (ET.out.below (B := w.heap.size) (fun k hk e => by have := HG.out; omega) (Nat.le_trans B1.out.size E1.out.size)))
 obtain ⟨b0, hb0⟩ : ∃ b0, b0 = V.heap.size := ⟨_, rfl⟩
 have GV := Lib.hid (show b0 = g + 3 from hb0.trans SZ.out)
 rw [← hb0] at T1
 have TV := Lib.hid (T1.out.turn ET.out (fun k hk _ e => by have := GV.out; omega))
 have LV := Lib.hid (show b0 ≤ (W1.setCells g 0 (trc x s1).toList).heap.size from by rw [hb0]; exact Nat.le_trans E1.out.size ET.out.size)
 clear hb0 X1 Z1 M1 B1 H1 SZ T1 E1 XX ET
 generalize W1.setCells g 0 (trc x s1).toList = WV at XV ZV MV BV TV LV ⊢
 go_upto_region 4 with (first
   | (refine wpList_load_row rfl 62 (.tmp 2) rfl g rfl 62 (trc x s1) (0, 0) _ XV.out Tryz.underlying62 rfl (tr_info _ _) ?_)
   | (refine wpList_load_row rfl 45 (.tmp 3) rfl (g + 1) rfl 45 (mc m) (0, 0) _ MV.out Tryz.underlying45 rfl HI.out ?_)
   | (go_at_call 143; refine (isOf_b x s1 m HL.out _ (own_ints WV 3 [5] (B := 0) (n := 1) (Nat.zero_le _) rfl (by simp)) (by simp) true HF.out).mono ?_; rintro e W2 ⟨rfl, hb1⟩; have hb2 : Below WV.heap.size WV W2 := (Joins.below_alloc1 WV _).trans (hb1.mono (by simp)); clear hb1; have XV := Lib.hid (XV.out.here hb2); have ZV := Lib.hid (ZV.out.here hb2); have MV := Lib.hid (MV.out.here hb2); have TV := Lib.hid (TV.out.step hb2); have BV := Lib.hid (stepB BV.out hb2); have LV := Lib.hid (Nat.le_trans LV.out hb2.size); clear hb2))
 generalize W2 = WV at XV ZV MV TV BV LV ⊢
 have c1 : WV.cell? ⟨g, 1, none⟩ = some (.int .i64 x.st) := XV.out.cell 1
 have c9 : WV.cell? ⟨g, 9, none⟩ = some s1.t := XV.out.cell 9
 have m1 := mc_cell HL.out MV.out (i := 1) (by omega)
 have m8 := mc_cell HL.out MV.out (i := 8) (by omega)
 have AB := Lib.hid (abort_any x s1 2 _ TV.out HS.out)
 rw [HY.out] at AB
 clear HY
 go_wp2_with (first
   | (go_at_call 129; refine (contG _ _ TV.out.t (by have := HS.out.t; omega) true HC.out).mono ?_; rintro e w' ⟨rfl, rfl⟩)
   | (refine wpList_load_row rfl 62 (.tmp 2) rfl g rfl 62 (trc x s1) (0, 0) _ XV.out Tryz.underlying62 rfl (tr_info _ _) ?_)
   | (go_at_call 96; refine AB.out.mono ?_; rintro e W2 ⟨s2, u, rfl, ht2, hu2, hb2⟩; rw [errV_zero]; obtain ⟨Au, cu, rfl⟩ := own_len hu2; have T2 := Lib.hid ht2; have U2 := Lib.hid hu2; have Z2 := Lib.hid (ZV.out.here hb2); have B2 := Lib.hid (stepB BV.out hb2); clear ht2 hu2 hb2)
   | (refine wpList_store_mid (op := { dst := none, op := .store 62 (.tmp 4) (.tmp 39), type := 0, pos := _, after := _, guard := none }) (by rfl) 62 (.tmp 4) (.tmp 39) (by rfl) (g + 2) 0 (trc y s2) (by rfl) (by rfl) (Z2.out.there (Nat.le_refl 13)) (tr_info _ _) T2.out.one ?_
      have E3 := Lib.hid (show Turn (fun k => k = g + 2) W2 (W2.setCells (g + 2) 0 (trc y s2).toList) from Turn.setCells (S := fun k => k = g + 2) (fun _ => rfl) _ _ _ (Turn.refl _ _))
      have Z3 := Lib.hid (Z2.out.put (trc y s2) rfl)
      generalize W2.setCells (g + 2) 0 (trc y s2).toList = W3 at E3 Z3 ⊢))
 exact bodyPost_ret (v := .tuple #[.agg (trc y s2), .slice Au ms.length cu, .nilIface]) (results_and2 rfl rfl rfl rfl (tr_load Z3.out)) rfl ⟨s2, _, rfl, (T2.out.offB Z2.out E3.out).less BV.out.size, own_less (own_off U2.out E3.out (fun k hk _ e => by have := LV.out; have := GV.out; omega)) BV.out.size, B2.out.trans (E3.out.below (B := w.heap.size) (fun k hk e => by have := HG.out; omega) B2.out.size)⟩
set_option maxRecDepth 100000 in
set_option maxHeartbeats 8000000 in
theorem vote_g {B : Nat} (x : Tr) (s : Sl) (m : List Int) (w : World) (h : Tm w B x s) (hs : Short x) (hm : m.length = 28) (hf : isOf x m [5] = true) (h1 : x.st = 2) (hc : x.tch.contains (fld m 1) = true) (h8 : ¬ fld m 8 = 0) (hcode : True) (hvt : Shs x.vts) (hth : Shs x.tch) (fr : Int) (hfr : fld m 1 = fr) (h64 : 1 ≤ fr ∧ fr ≤ 64) (y : Tr) (ms : List (List Int)) (hy : goOnL (votX x fr) = (y, ms)) :
   Calls Tryz.prog 105 #[.agg (trc x s), .agg (mc m)] w (Post3 w (y, ms, 0)) := by
 have X1 := Lib.hid (((Blk.new w 62 (trc x s)).alloc (.cells (mc m) 45)).alloc (.cells zTr 62))
 have M1 := Lib.hid ((Blk.new_at (w := w.alloc (.cells (trc x s) 62)) (n := w.heap.size + 1) (by simp) 45 (mc m)).alloc (.cells zTr 62))
 have Z1 := Lib.hid (Blk.new_at (w := (w.alloc (.cells (trc x s) 62)).alloc (.cells (mc m) 45)) (n := w.heap.size + 2) (by simp) 62 zTr)
 have B1 := Lib.hid (((Joins.below_alloc1 w (.cells (trc x s) 62)).alloc (by simp <;> omega) (.cells (mc m) 45)).alloc (by simp <;> omega) (.cells zTr 62))
 have SZ := Lib.hid (show (((w.alloc (.cells (trc x s) 62)).alloc (.cells (mc m) 45)).alloc (.cells zTr 62)).heap.size = w.heap.size + 3 from by simp)
 have H1 := Lib.hid (h.step B1.out)
 have HS := Lib.hid hs
 have HL := Lib.hid hm
 have HI := Lib.hid (mc_info hm)
 have HF := Lib.hid hf
 have e1 : (x.st != 2) = false := by simpa using h1
 have HC := Lib.hid hc
 have e8 : (fld m 8 == 0) = false := by simpa using h8
 have HY := Lib.hid hy
 have HW := Lib.hid hvt
 have HTT := Lib.hid hth
 have HN1 := Lib.hid hfr
 have H1' := Lib.hid h1
 have H64 := Lib.hid h64
 clear hf h1 hc h8 hcode hvt hth hfr h64 hy
 clear h hs hm
 go_enter Tryz.func105, Tryz.ntmps105
 go_upto_region 1 with fail
 obtain ⟨g, hg⟩ : ∃ g, g = w.heap.size := ⟨_, rfl⟩
 have HG := Lib.hid hg
 rw [← hg] at X1 M1 Z1 SZ ⊢
 clear hg
 generalize ((w.alloc (.cells (trc x s) 62)).alloc (.cells (mc m) 45)).alloc (.cells zTr 62) = V at X1 M1 Z1 B1 H1 SZ ⊢
 go_upto_region 2 with (first
   | (refine wpList_load_row rfl 62 (.tmp 2) rfl g rfl 62 (trc x s) (0, 0) _ X1.out Tryz.underlying62 rfl (tr_info _ _) ?_)
   | (go_at_call 90; refine (own_any x s _ H1.out HS.out).mono ?_; rintro e W1 ⟨s1, rfl, ht, hn, hb⟩; have T1 := Lib.hid ht; have N1 := Lib.hid hn; have E1 := Lib.hid hb; have XX := Lib.hid (X1.out.here hb); clear ht hn hb)
   | (refine wpList_store_mid (by rfl) 62 (.tmp 2) (.tmp 9) (by rfl) g 0 (trc x s1) (by rfl) (by rfl) (XX.out.there (Nat.le_refl 13)) (tr_info _ _) T1.out.one ?_))
 have ET := Lib.hid (show Turn (fun k => k = g) W1 (W1.setCells g 0 (trc x s1).toList) from Turn.setCells (S := fun k => k = g) (fun _ => rfl) _ _ _ (Turn.refl _ _))
 have XV := Lib.hid (show Blk (W1.setCells g 0 (trc x s1).toList) g 62 (trc x s1) from XX.out.put (trc x s1) rfl)
 have ZV := Lib.hid ((Z1.out.here E1.out).turn ET.out (by omega))
 have MV := Lib.hid ((M1.out.here E1.out).turn ET.out (by omega))
 have BV := Lib.hid ((B1.out.trans (E1.out.mono B1.out.size)).trans (ET.out.below (B := w.heap.size) (fun k hk e => by have := HG.out; omega) (Nat.le_trans B1.out.size E1.out.size)))
 obtain ⟨b0, hb0⟩ : ∃ b0, b0 = V.heap.size := ⟨_, rfl⟩
 have GV := Lib.hid (show b0 = g + 3 from hb0.trans SZ.out)
 rw [← hb0] at T1
 have TV := Lib.hid (T1.out.turn ET.out (fun k hk _ e => by have := GV.out; omega))
 have LV := Lib.hid (show b0 ≤ (W1.setCells g 0 (trc x s1).toList).heap.size from by rw [hb0]; exact Nat.le_trans E1.out.size ET.out.size)
 clear hb0 X1 Z1 M1 B1 H1 SZ T1 E1 XX ET
 generalize W1.setCells g 0 (trc x s1).toList = WV at XV ZV MV BV TV LV ⊢
 go_upto_region 4 with (first
   | (refine wpList_load_row rfl 62 (.tmp 2) rfl g rfl 62 (trc x s1) (0, 0) _ XV.out Tryz.underlying62 rfl (tr_info _ _) ?_)
   | (refine wpList_load_row rfl 45 (.tmp 3) rfl (g + 1) rfl 45 (mc m) (0, 0) _ MV.out Tryz.underlying45 rfl HI.out ?_)
   | (go_at_call 143; refine (isOf_b x s1 m HL.out _ (own_ints WV 3 [5] (B := 0) (n := 1) (Nat.zero_le _) rfl (by simp)) (by simp) true HF.out).mono ?_; rintro e W2 ⟨rfl, hb1⟩; have hb2 : Below WV.heap.size WV W2 := (Joins.below_alloc1 WV _).trans (hb1.mono (by simp)); clear hb1; have XV := Lib.hid (XV.out.here hb2); have ZV := Lib.hid (ZV.out.here hb2); have MV := Lib.hid (MV.out.here hb2); have TV := Lib.hid (TV.out.step hb2); have BV := Lib.hid (stepB BV.out hb2); have LV := Lib.hid (Nat.le_trans LV.out hb2.size); clear hb2))
 generalize W2 = WV at XV ZV MV TV BV LV ⊢
 have c1 : WV.cell? ⟨g, 1, none⟩ = some (.int .i64 x.st) := XV.out.cell 1
 have c9 : WV.cell? ⟨g, 9, none⟩ = some s1.t := XV.out.cell 9
 have m8 := mc_cell HL.out MV.out (i := 8) (by omega)
 have hmv := MV.out.lt
 have hzv := ZV.out.lt
 have hxv := XV.out.lt
 have cf : WV.cell? ⟨g, 10, none⟩ = some s1.v := XV.out.cell 10
 have m1 := mc_cell HL.out MV.out (i := 1) (by omega)
 rw [HN1.out] at m1 HC
 go_upto_region 11 with (first
   | (go_at_call 129; refine (contG _ _ TV.out.t (by have := HS.out.t; omega) true HC.out).mono ?_; rintro e w' ⟨rfl, rfl⟩)
   | (go_at_call 91; refine (with_any _ _ TV.out.v HW.out.ris LV.out (by have := HW.out.len; omega)).mono ?_; rintro e W3 ⟨v', rfl, hv, ht, hq⟩; obtain ⟨A', c', rfl⟩ := own_len hv; have V3 := Lib.hid hv; have T3 := Lib.hid ht; have k9 : W3.cell? ⟨g, 10, none⟩ = some s1.v := (XV.out.turn ht (fun e => by have := own_ge TV.out.v e; have := GV.out; omega)).cell 10; have k9f := (XV.out.turn ht (fun e => by have := own_ge TV.out.v e; have := GV.out; omega)).frozen 10; clear hv ht hq cf))
 have hne : ¬ s1.v.ownBlock = some g := fun e => by have := own_ge TV.out.v e; have := GV.out; omega
 have hne1 : ¬ s1.v.ownBlock = some (g + 1) := fun e => by have := own_ge TV.out.v e; have := GV.out; omega
 have hne2 : ¬ s1.v.ownBlock = some (g + 2) := fun e => by have := own_ge TV.out.v e; have := GV.out; omega
 have EZ := Lib.hid (show Turn (fun k => k = g) W3 (W3.setCell ⟨g, 10, none⟩ (.slice A' (ins fr x.vts).length c')) from (Turn.refl (fun k => k = g) W3).setCell (p := ⟨g, 10, none⟩) (fun _ => rfl) _)
 have XZ := Lib.hid (show Blk (W3.setCell ⟨g, 10, none⟩ (.slice A' (ins fr x.vts).length c')) g 62 (trc (votX x fr) ⟨s1.t, .slice A' (ins fr x.vts).length c', s1.k, s1.g⟩) from (XV.out.turn T3.out hne).set_ 10 _)
 have TZ := Lib.hid (show Tm (W3.setCell ⟨g, 10, none⟩ (.slice A' (ins fr x.vts).length c')) b0 (votX x fr) ⟨s1.t, .slice A' (ins fr x.vts).length c', s1.k, s1.g⟩ from
   have h := (TV.out.putV N1.out V3.out T3.out).turn EZ.out (fun k hk _ e => by have := GV.out; omega); ⟨h.t, h.v, h.k, h.g⟩)
 have ZZ := Lib.hid ((ZV.out.turn T3.out hne2).turn EZ.out (by omega))
 have MZ := Lib.hid ((MV.out.turn T3.out hne1).turn EZ.out (by omega))
 have BZ := Lib.hid ((BV.out.trans (T3.out.below (B := w.heap.size) (fun k hk e => by have := own_ge TV.out.v e; have := GV.out; have := HG.out; omega) BV.out.size)).trans (EZ.out.below (B := w.heap.size) (fun k hk e => by have := HG.out; omega) (Nat.le_trans BV.out.size T3.out.size)))
 have LZ := Lib.hid (Nat.le_trans (Nat.le_trans LV.out T3.out.size) EZ.out.size)
 clear k9 k9f XV ZV MV TV BV LV T3 V3 EZ hne hne1 hne2 hmv hzv hxv
 generalize W3.setCell ⟨g, 10, none⟩ (.slice A' (ins fr x.vts).length c') = WZ at XZ ZZ MZ TZ BZ LZ ⊢
 generalize hs2 : (⟨s1.t, .slice A' (ins fr x.vts).length c', s1.k, s1.g⟩ : Sl) = s2 at XZ TZ
 clear hs2
 have GO := Lib.hid (goOn_any (votX x fr) s2 _ TZ.out HTT.out (HW.out.ins H64.out) (.inr H1'.out))
 have YL := Lib.hid (show (goOnL (votX x fr)).1.tch = (votX x fr).tch ∧ (goOnL (votX x fr)).1.vts = (votX x fr).vts ∧ (goOnL (votX x fr)).1.acks = (votX x fr).acks ∧ (goOnL (votX x fr)).1.got = (votX x fr).got from by unfold goOnL; split; exact ⟨rfl, rfl, rfl, rfl⟩; split <;> exact ⟨rfl, rfl, rfl, rfl⟩)
 rw [HY.out] at GO YL
 have TQ := Lib.hid (show Tm WZ b0 y s2 from ⟨by rw [YL.out.1]; exact TZ.out.t, by rw [YL.out.2.1]; exact TZ.out.v, by rw [YL.out.2.2.1]; exact TZ.out.k, by rw [YL.out.2.2.2]; exact TZ.out.g⟩)
 clear TZ YL
 have hxz := XZ.out.lt
 have hzz := ZZ.out.lt
 go_upto_region 12 with (first
   | (refine wpList_load_row rfl 62 (.tmp 2) rfl g rfl 62 (trc (votX x fr) s2) (0, 0) _ XZ.out Tryz.underlying62 rfl (tr_info _ _) ?_)
   | (go_at_call 94; refine GO.out.mono ?_; rintro e W2 ⟨u, rfl, hu, hb2⟩; obtain ⟨Au, cu, rfl⟩ := own_len hu; have U2 := Lib.hid hu; have E2 := Lib.hid hb2; clear hu hb2)
   | (refine wpList_store_mid (by rfl) 62 (.tmp 2) (.tmp 51) (by rfl) g 0 (trc y s2) (by rfl) (by rfl) ((XZ.out.here E2.out).there (Nat.le_refl 13)) (tr_info _ _) TQ.out.one ?_
      have E3 := Lib.hid (show Turn (fun k => k = g) W2 (W2.setCells g 0 (trc y s2).toList) from Turn.setCells (S := fun k => k = g) (fun _ => rfl) _ _ _ (Turn.refl _ _))
      have XQ := Lib.hid ((XZ.out.here E2.out).put (trc y s2) rfl)
      have ZQ := Lib.hid ((ZZ.out.here E2.out).turn E3.out (by omega))
      have BQ := Lib.hid ((stepB BZ.out E2.out).trans (E3.out.below (B := w.heap.size) (fun k hk e => by have := HG.out; omega) (Nat.le_trans BZ.out.size E2.out.size)))
      have U3 := Lib.hid (own_off U2.out E3.out (fun k hk _ e => by have := GV.out; have := LZ.out; omega))
      have TR := Lib.hid ((TQ.out.step E2.out).turn E3.out (fun k hk _ e => by have := GV.out; omega))
      clear E3
      generalize W2.setCells g 0 (trc y s2).toList = W3 at XQ ZQ BQ U3 TR ⊢))
 go_wp2_with (first
   | (refine wpList_load_row rfl 62 (.tmp 2) rfl g rfl 62 (trc y s2) (0, 0) _ XQ.out Tryz.underlying62 rfl (tr_info _ _) ?_)
   | (refine wpList_store_mid (op := { dst := none, op := .store 62 (.tmp 4) (.tmp 53), type := 0, pos := _, after := _, guard := none }) (by rfl) 62 (.tmp 4) (.tmp 53) (by rfl) (g + 2) 0 (trc y s2) (by rfl) (by rfl) (ZQ.out.there (Nat.le_refl 13)) (tr_info _ _) TR.out.one ?_
      have E4 := Lib.hid (show Turn (fun k => k = g + 2) W3 (W3.setCells (g + 2) 0 (trc y s2).toList) from Turn.setCells (S := fun k => k = g + 2) (fun _ => rfl) _ _ _ (Turn.refl _ _))
      have Z4 := Lib.hid (ZQ.out.put (trc y s2) rfl)
      generalize W3.setCells (g + 2) 0 (trc y s2).toList = W4 at E4 Z4 ⊢))
 exact bodyPost_ret (v := .tuple #[.agg (trc y s2), .slice Au ms.length cu, .nilIface]) (results_and2 rfl rfl rfl rfl (tr_load Z4.out)) rfl ⟨s2, _, rfl, (TR.out.turn E4.out (fun k hk _ e => by have := GV.out; omega)).less (by have := HG.out; have := GV.out; omega), own_less (own_off U3.out E4.out (fun k hk _ e => by have := LZ.out; have := GV.out; omega)) BZ.out.size, BQ.out.trans (E4.out.below (B := w.heap.size) (fun k hk e => by have := HG.out; omega) BQ.out.size)⟩
theorem vote_any {B : Nat} (x : Tr) (s : Sl) (m : List Int) (w : World) (h : Tm w B x s) (hs : Short x) (hm : m.length = 28) (ht : Shs x.tch) (hv : Shs x.vts) : Calls Tryz.prog 105 #[.agg (trc x s), .agg (mc m)] w (Post3 w (votL x m)) := by
 unfold votL
 cases hf : isOf x m [5] with
 | false => rw [if_pos rfl]; exact vote_5 x s m w h hs hm hf
 | true =>
   rw [if_neg (by simp)]
   by_cases h1 : x.st = 2
   · rw [if_neg (fun e => e h1)]
     cases hc : x.tch.contains (fld m 1) with
     | false => rw [if_pos rfl]; exact vote_10 x s m w h hs hm hf h1 hc
     | true =>
       rw [if_neg (by simp)]
       by_cases h8 : fld m 8 = 0
       · rw [if_pos h8]
         have e : abtL x 2 = (abtX x 2, x.tch.map (newsL (abtX x 2)), 0) := by unfold abtL; rw [if_neg (by omega), if_neg (by unfold decided; simp; omega)]
         rw [e]
         exact vote_a x s m w h hs hm hf h1 hc h8 _ _ e
       · rw [if_neg h8]
         have hin : fld m 1 ∈ x.tch := by simpa using hc
         exact vote_g x s m w h hs hm hf h1 hc h8 trivial hv ht _ rfl (ht.all _ hin) _ _ rfl
   · rw [if_pos h1]; exact vote_11 x s m w h hs hm hf h1
end Go.Proofs.YtadnlannbafjpaaGreat
