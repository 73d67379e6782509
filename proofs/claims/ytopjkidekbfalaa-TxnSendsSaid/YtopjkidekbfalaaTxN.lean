/- A transaction: Answered, Ack. -/
import Derived.Test.YtopjkidekbfalaaTxK
import Derived.Test.YtopjkidekbfalaaTxH
namespace Go.Proofs.Ytopjkidekbfalaa
open Go.RowKit
set_option linter.unusedVariables false
set_option linter.unusedSimpArgs false

theorem isOf_b {B : Nat} {v : Value} {ks : List Int} (x : Tr) (s : Sl) (m : List Int) (hm : m.length = 28) (w : World) (h : NumR w B v ks) (hn : ks.length ≤ 1000) (r : Bool) (hr : isOf x m ks = r) :
    Calls Try.prog 35 #[.agg (trc x s), .agg (mc m), v] w fun e w' => e = .returned (.bool r) ∧ Below w.heap.size w w' := by rw [← hr]; exact isOf_any x s m hm w h hn
theorem isStale_b (x : Tr) (s : Sl) (m : List Int) (hm : m.length = 28) (w : World) (r : Bool) (hr : stale x m = r) :
    Calls Try.prog 36 #[.agg (trc x s), .agg (mc m)] w fun e w' => e = .returned (.bool r) ∧ Below w.heap.size w w' := by rw [← hr]; exact isStale_any x s m hm w
set_option maxRecDepth 100000 in
set_option maxHeartbeats 8000000 in
theorem answered_5 {B : Nat} (x : Tr) (s : Sl) (m : List Int) (w : World) (h : Tm w B x s) (hs : Short x) (hm : m.length = 28) (hf : isOf x m [2, 3] = false) :
    Calls Try.prog 19 #[.agg (trc x s), .agg (mc m)] w (Post2 w (x, [], 5)) := by
  have X1 := Lib.hid (((Blk.new w 30 (trc x s)).alloc (.cells (mc m) 42)).alloc (.cells zTr 30))
  have M1 := Lib.hid ((Blk.new_at (w := w.alloc (.cells (trc x s) 30)) (n := w.heap.size + 1) (by simp) 42 (mc m)).alloc (.cells zTr 30))
  have Z1 := Lib.hid (Blk.new_at (w := (w.alloc (.cells (trc x s) 30)).alloc (.cells (mc m) 42)) (n := w.heap.size + 2) (by simp) 30 zTr)
  have B1 := Lib.hid (((Joins.below_alloc1 w (.cells (trc x s) 30)).alloc (by simp <;> omega) (.cells (mc m) 42)).alloc (by simp <;> omega) (.cells zTr 30))
  have SZ := Lib.hid (show (((w.alloc (.cells (trc x s) 30)).alloc (.cells (mc m) 42)).alloc (.cells zTr 30)).heap.size = w.heap.size + 3 from by simp)
  have H1 := Lib.hid (h.step B1.out)
  have HS := Lib.hid hs
  have HL := Lib.hid hm
  have HI := Lib.hid (mc_info hm)
  have HF := Lib.hid hf
  clear hf
  clear h hs hm
  go_enter Try.func19, Try.ntmps19
  go_upto_region 1 with fail
  obtain ⟨g, hg⟩ : ∃ g, g = w.heap.size := ⟨_, rfl⟩
  have HG := Lib.hid hg
  rw [← hg] at X1 M1 Z1 SZ ⊢
  clear hg
  generalize ((w.alloc (.cells (trc x s) 30)).alloc (.cells (mc m) 42)).alloc (.cells zTr 30) = V at X1 M1 Z1 B1 H1 SZ ⊢
  go_upto_region 2 with (first
    | (refine wpList_load_row rfl 30 (.tmp 2) rfl g rfl 30 (trc x s) (0, 0) _ X1.out Try.underlying30 rfl (tr_info _ _) ?_)
    | (go_at_call 31; refine (own_any x s _ H1.out HS.out).mono ?_; rintro e W1 ⟨s1, rfl, ht, hn, hb⟩; have T1 := Lib.hid ht; have N1 := Lib.hid hn; have E1 := Lib.hid hb; have XX := Lib.hid (X1.out.here hb); clear ht hn hb)
    | (refine wpList_store_mid (by rfl) 30 (.tmp 2) (.tmp 7) (by rfl) g 0 (trc x s1) (by rfl) (by rfl) (XX.out.there (Nat.le_refl 13)) (tr_info _ _) T1.out.one ?_))
  have ET := Lib.hid (show Turn (fun k => k = g) W1 (W1.setCells g 0 (trc x s1).toList) from Turn.setCells (S := fun k => k = g) (fun _ => rfl) _ _ _ (Turn.refl _ _))
  have XV := Lib.hid (show Blk (W1.setCells g 0 (trc x s1).toList) g 30 (trc x s1) from XX.out.put (trc x s1) rfl)
  have ZV := Lib.hid ((Z1.out.here E1.out).turn ET.out (by omega))
  have MV := Lib.hid ((M1.out.here E1.out).turn ET.out (by omega))
  have BV := Lib.hid ((B1.out.trans (E1.out.mono B1.out.size)).trans (ET.out.below (B := w.heap.size) (fun k hk e => by have := HG.out; omega) (Nat.le_trans B1.out.size E1.out.size)))
  obtain ⟨b0, hb0⟩ : ∃ b0, b0 = V.heap.size := ⟨_, rfl⟩
  have GV := Lib.hid (show b0 = g + 3 from hb0.trans SZ.out)
  rw [← hb0] at T1
  have TV := Lib.hid (T1.out.turn ET.out (fun k hk _ e => by have := GV.out; omega))
  have LV := Lib.hid (show b0 ≤ (W1.setCells g 0 (trc x s1).toList).heap.size from by rw [hb0]; exact Nat.le_trans E1.out.size ET.out.size)
  clear hb0 X1 Z1 M1 B1 H1 SZ T1 E1 XX ET
  generalize W1.setCells g 0 (trc x s1).toList = WV at XV ZV MV BV TV LV ⊢
  go_upto_region 3 with (first
    | (refine wpList_load_row rfl 30 (.tmp 2) rfl g rfl 30 (trc x s1) (0, 0) _ XV.out Try.underlying30 rfl (tr_info _ _) ?_)
    | (refine wpList_load_row rfl 42 (.tmp 3) rfl (g + 1) rfl 42 (mc m) (0, 0) _ MV.out Try.underlying42 rfl HI.out ?_)
    | (go_at_call 35; refine (isOf_b x s1 m HL.out _ (own_ints WV 3 [2, 3] (B := 0) (n := 2) (Nat.zero_le _) rfl (by simp)) (by simp) false HF.out).mono ?_; rintro e W2 ⟨rfl, hb1⟩; have hb2 : Below WV.heap.size WV W2 := (Joins.below_alloc1 WV _).trans (hb1.mono (by simp)); clear hb1; have XV := Lib.hid (XV.out.here hb2); have ZV := Lib.hid (ZV.out.here hb2); have MV := Lib.hid (MV.out.here hb2); have TV := Lib.hid (TV.out.step hb2); have BV := Lib.hid (stepB BV.out hb2); have LV := Lib.hid (Nat.le_trans LV.out hb2.size); clear hb2))
  generalize W2 = WV at XV ZV MV TV BV LV ⊢
  go_wp2_with (first
    | (refine wpList_load_row rfl 30 (.tmp 2) rfl g rfl 30 (trc x s1) (0, 0) _ XV.out Try.underlying30 rfl (tr_info _ _) ?_)
    | (refine wpList_store_mid (op := { dst := none, op := .store 30 (.tmp 4) (.tmp 14), type := 0, pos := _, after := _, guard := none }) (by rfl) 30 (.tmp 4) (.tmp 14) (by rfl) (g + 2) 0 (trc x s1) (by rfl) (by rfl) (ZV.out.there (Nat.le_refl 13)) (tr_info _ _) TV.out.one ?_))
  exact bodyPost_ret (v := .tuple #[.agg (trc x s1), errno 5]) (results_cell_and rfl rfl rfl (tr_load (ZV.out.put (trc x s1) rfl))) rfl ⟨s1, rfl, (Tm.turn TV.out (Turn.setCells (S := fun k => k = g + 2) (fun _ => rfl) _ _ _ (Turn.refl _ _)) (fun k hk _ e => by have := GV.out; omega)).less (Nat.zero_le _), Below.setCells (by have := HG.out; omega) _ _ _ BV.out⟩
set_option maxRecDepth 100000 in
set_option maxHeartbeats 8000000 in
theorem answered_11 {B : Nat} (x : Tr) (s : Sl) (m : List Int) (w : World) (h : Tm w B x s) (hs : Short x) (hm : m.length = 28) (hf : isOf x m [2, 3] = true) (h1 : ¬ x.st = 1) :
    Calls Try.prog 19 #[.agg (trc x s), .agg (mc m)] w (Post2 w (x, [], 11)) := by
  have X1 := Lib.hid (((Blk.new w 30 (trc x s)).alloc (.cells (mc m) 42)).alloc (.cells zTr 30))
  have M1 := Lib.hid ((Blk.new_at (w := w.alloc (.cells (trc x s) 30)) (n := w.heap.size + 1) (by simp) 42 (mc m)).alloc (.cells zTr 30))
  have Z1 := Lib.hid (Blk.new_at (w := (w.alloc (.cells (trc x s) 30)).alloc (.cells (mc m) 42)) (n := w.heap.size + 2) (by simp) 30 zTr)
  have B1 := Lib.hid (((Joins.below_alloc1 w (.cells (trc x s) 30)).alloc (by simp <;> omega) (.cells (mc m) 42)).alloc (by simp <;> omega) (.cells zTr 30))
  have SZ := Lib.hid (show (((w.alloc (.cells (trc x s) 30)).alloc (.cells (mc m) 42)).alloc (.cells zTr 30)).heap.size = w.heap.size + 3 from by simp)
  have H1 := Lib.hid (h.step B1.out)
  have HS := Lib.hid hs
  have HL := Lib.hid hm
  have HI := Lib.hid (mc_info hm)
  have HF := Lib.hid hf
  have e1 : (x.st != 1) = true := by simpa using h1
  clear hf h1
  clear h hs hm
  go_enter Try.func19, Try.ntmps19
  go_upto_region 1 with fail
  obtain ⟨g, hg⟩ : ∃ g, g = w.heap.size := ⟨_, rfl⟩
  have HG := Lib.hid hg
  rw [← hg] at X1 M1 Z1 SZ ⊢
  clear hg
  generalize ((w.alloc (.cells (trc x s) 30)).alloc (.cells (mc m) 42)).alloc (.cells zTr 30) = V at X1 M1 Z1 B1 H1 SZ ⊢
  go_upto_region 2 with (first
    | (refine wpList_load_row rfl 30 (.tmp 2) rfl g rfl 30 (trc x s) (0, 0) _ X1.out Try.underlying30 rfl (tr_info _ _) ?_)
    | (go_at_call 31; refine (own_any x s _ H1.out HS.out).mono ?_; rintro e W1 ⟨s1, rfl, ht, hn, hb⟩; have T1 := Lib.hid ht; have N1 := Lib.hid hn; have E1 := Lib.hid hb; have XX := Lib.hid (X1.out.here hb); clear ht hn hb)
    | (refine wpList_store_mid (by rfl) 30 (.tmp 2) (.tmp 7) (by rfl) g 0 (trc x s1) (by rfl) (by rfl) (XX.out.there (Nat.le_refl 13)) (tr_info _ _) T1.out.one ?_))
  have ET := Lib.hid (show Turn (fun k => k = g) W1 (W1.setCells g 0 (trc x s1).toList) from Turn.setCells (S := fun k => k = g) (fun _ => rfl) _ _ _ (Turn.refl _ _))
  have XV := Lib.hid (show Blk (W1.setCells g 0 (trc x s1).toList) g 30 (trc x s1) from XX.out.put (trc x s1) rfl)
  have ZV := Lib.hid ((Z1.out.here E1.out).turn ET.out (by omega))
  have MV := Lib.hid ((M1.out.here E1.out).turn ET.out (by omega))
  have BV := Lib.hid ((B1.out.trans (E1.out.mono B1.out.size)).trans (ET.out.below (B := w.heap.size) (fun k hk e => by have := HG.out; omega) (Nat.le_trans B1.out.size E1.out.size)))
  obtain ⟨b0, hb0⟩ : ∃ b0, b0 = V.heap.size := ⟨_, rfl⟩
  have GV := Lib.hid (show b0 = g + 3 from hb0.trans SZ.out)
  rw [← hb0] at T1
  have TV := Lib.hid (T1.out.turn ET.out (fun k hk _ e => by have := GV.out; omega))
  have LV := Lib.hid (show b0 ≤ (W1.setCells g 0 (trc x s1).toList).heap.size from by rw [hb0]; exact Nat.le_trans E1.out.size ET.out.size)
  clear hb0 X1 Z1 M1 B1 H1 SZ T1 E1 XX ET
  generalize W1.setCells g 0 (trc x s1).toList = WV at XV ZV MV BV TV LV ⊢
  go_upto_region 4 with (first
    | (refine wpList_load_row rfl 30 (.tmp 2) rfl g rfl 30 (trc x s1) (0, 0) _ XV.out Try.underlying30 rfl (tr_info _ _) ?_)
    | (refine wpList_load_row rfl 42 (.tmp 3) rfl (g + 1) rfl 42 (mc m) (0, 0) _ MV.out Try.underlying42 rfl HI.out ?_)
    | (go_at_call 35; refine (isOf_b x s1 m HL.out _ (own_ints WV 3 [2, 3] (B := 0) (n := 2) (Nat.zero_le _) rfl (by simp)) (by simp) true HF.out).mono ?_; rintro e W2 ⟨rfl, hb1⟩; have hb2 : Below WV.heap.size WV W2 := (Joins.below_alloc1 WV _).trans (hb1.mono (by simp)); clear hb1; have XV := Lib.hid (XV.out.here hb2); have ZV := Lib.hid (ZV.out.here hb2); have MV := Lib.hid (MV.out.here hb2); have TV := Lib.hid (TV.out.step hb2); have BV := Lib.hid (stepB BV.out hb2); have LV := Lib.hid (Nat.le_trans LV.out hb2.size); clear hb2))
  generalize W2 = WV at XV ZV MV TV BV LV ⊢
  have c1 : WV.cell? ⟨g, 1, none⟩ = some (.int .i64 x.st) := XV.out.cell 1
  go_wp2_with (first
    | (refine wpList_load_row rfl 30 (.tmp 2) rfl g rfl 30 (trc x s1) (0, 0) _ XV.out Try.underlying30 rfl (tr_info _ _) ?_)
    | (refine wpList_store_mid (op := { dst := none, op := .store 30 (.tmp 4) (.tmp 20), type := 0, pos := _, after := _, guard := none }) (by rfl) 30 (.tmp 4) (.tmp 20) (by rfl) (g + 2) 0 (trc x s1) (by rfl) (by rfl) (ZV.out.there (Nat.le_refl 13)) (tr_info _ _) TV.out.one ?_))
  exact bodyPost_ret (v := .tuple #[.agg (trc x s1), errno 11]) (results_cell_and rfl rfl rfl (tr_load (ZV.out.put (trc x s1) rfl))) rfl ⟨s1, rfl, (Tm.turn TV.out (Turn.setCells (S := fun k => k = g + 2) (fun _ => rfl) _ _ _ (Turn.refl _ _)) (fun k hk _ e => by have := GV.out; omega)).less (Nat.zero_le _), Below.setCells (by have := HG.out; omega) _ _ _ BV.out⟩
set_option maxRecDepth 100000 in
set_option maxHeartbeats 8000000 in
theorem answered_14 {B : Nat} (x : Tr) (s : Sl) (m : List Int) (w : World) (h : Tm w B x s) (hs : Short x) (hm : m.length = 28) (hf : isOf x m [2, 3] = true) (h1 : x.st = 1) (hst : stale x m = true) :
    Calls Try.prog 19 #[.agg (trc x s), .agg (mc m)] w (Post2 w (x, [], 14)) := by
  have X1 := Lib.hid (((Blk.new w 30 (trc x s)).alloc (.cells (mc m) 42)).alloc (.cells zTr 30))
  have M1 := Lib.hid ((Blk.new_at (w := w.alloc (.cells (trc x s) 30)) (n := w.heap.size + 1) (by simp) 42 (mc m)).alloc (.cells zTr 30))
  have Z1 := Lib.hid (Blk.new_at (w := (w.alloc (.cells (trc x s) 30)).alloc (.cells (mc m) 42)) (n := w.heap.size + 2) (by simp) 30 zTr)
  have B1 := Lib.hid (((Joins.below_alloc1 w (.cells (trc x s) 30)).alloc (by simp <;> omega) (.cells (mc m) 42)).alloc (by simp <;> omega) (.cells zTr 30))
  have SZ := Lib.hid (show (((w.alloc (.cells (trc x s) 30)).alloc (.cells (mc m) 42)).alloc (.cells zTr 30)).heap.size = w.heap.size + 3 from by simp)
  have H1 := Lib.hid (h.step B1.out)
  have HS := Lib.hid hs
  have HL := Lib.hid hm
  have HI := Lib.hid (mc_info hm)
  have HF := Lib.hid hf
  have e1 : (x.st != 1) = false := by simpa using h1
  have HT := Lib.hid hst
  clear hf h1 hst
  clear h hs hm
  go_enter Try.func19, Try.ntmps19
  go_upto_region 1 with fail
  obtain ⟨g, hg⟩ : ∃ g, g = w.heap.size := ⟨_, rfl⟩
  have HG := Lib.hid hg
  rw [← hg] at X1 M1 Z1 SZ ⊢
  clear hg
  generalize ((w.alloc (.cells (trc x s) 30)).alloc (.cells (mc m) 42)).alloc (.cells zTr 30) = V at X1 M1 Z1 B1 H1 SZ ⊢
  go_upto_region 2 with (first
    | (refine wpList_load_row rfl 30 (.tmp 2) rfl g rfl 30 (trc x s) (0, 0) _ X1.out Try.underlying30 rfl (tr_info _ _) ?_)
    | (go_at_call 31; refine (own_any x s _ H1.out HS.out).mono ?_; rintro e W1 ⟨s1, rfl, ht, hn, hb⟩; have T1 := Lib.hid ht; have N1 := Lib.hid hn; have E1 := Lib.hid hb; have XX := Lib.hid (X1.out.here hb); clear ht hn hb)
    | (refine wpList_store_mid (by rfl) 30 (.tmp 2) (.tmp 7) (by rfl) g 0 (trc x s1) (by rfl) (by rfl) (XX.out.there (Nat.le_refl 13)) (tr_info _ _) T1.out.one ?_))
  have ET := Lib.hid (show Turn (fun k => k = g) W1 (W1.setCells g 0 (trc x s1).toList) from Turn.setCells (S := fun k => k = g) (fun _ => rfl) _ _ _ (Turn.refl _ _))
  have XV := Lib.hid (show Blk (W1.setCells g 0 (trc x s1).toList) g 30 (trc x s1) from XX.out.put (trc x s1) rfl)
  have ZV := Lib.hid ((Z1.out.here E1.out).turn ET.out (by omega))
  have MV := Lib.hid ((M1.out.here E1.out).turn ET.out (by omega))
  have BV := Lib.hid ((B1.out.trans (E1.out.mono B1.out.size)).trans (ET.out.below (B := w.heap.size) (fun k hk e => by have := HG.out; omega) (Nat.le_trans B1.out.size E1.out.size)))
  obtain ⟨b0, hb0⟩ : ∃ b0, b0 = V.heap.size := ⟨_, rfl⟩
  have GV := Lib.hid (show b0 = g + 3 from hb0.trans SZ.out)
  rw [← hb0] at T1
  have TV := Lib.hid (T1.out.turn ET.out (fun k hk _ e => by have := GV.out; omega))
  have LV := Lib.hid (show b0 ≤ (W1.setCells g 0 (trc x s1).toList).heap.size from by rw [hb0]; exact Nat.le_trans E1.out.size ET.out.size)
  clear hb0 X1 Z1 M1 B1 H1 SZ T1 E1 XX ET
  generalize W1.setCells g 0 (trc x s1).toList = WV at XV ZV MV BV TV LV ⊢
  go_upto_region 4 with (first
    | (refine wpList_load_row rfl 30 (.tmp 2) rfl g rfl 30 (trc x s1) (0, 0) _ XV.out Try.underlying30 rfl (tr_info _ _) ?_)
    | (refine wpList_load_row rfl 42 (.tmp 3) rfl (g + 1) rfl 42 (mc m) (0, 0) _ MV.out Try.underlying42 rfl HI.out ?_)
    | (go_at_call 35; refine (isOf_b x s1 m HL.out _ (own_ints WV 3 [2, 3] (B := 0) (n := 2) (Nat.zero_le _) rfl (by simp)) (by simp) true HF.out).mono ?_; rintro e W2 ⟨rfl, hb1⟩; have hb2 : Below WV.heap.size WV W2 := (Joins.below_alloc1 WV _).trans (hb1.mono (by simp)); clear hb1; have XV := Lib.hid (XV.out.here hb2); have ZV := Lib.hid (ZV.out.here hb2); have MV := Lib.hid (MV.out.here hb2); have TV := Lib.hid (TV.out.step hb2); have BV := Lib.hid (stepB BV.out hb2); have LV := Lib.hid (Nat.le_trans LV.out hb2.size); clear hb2))
  generalize W2 = WV at XV ZV MV TV BV LV ⊢
  have c1 : WV.cell? ⟨g, 1, none⟩ = some (.int .i64 x.st) := XV.out.cell 1
  go_upto_region 7 with (first
    | (refine wpList_load_row rfl 30 (.tmp 2) rfl g rfl 30 (trc x s1) (0, 0) _ XV.out Try.underlying30 rfl (tr_info _ _) ?_)
    | (refine wpList_load_row rfl 42 (.tmp 3) rfl (g + 1) rfl 42 (mc m) (0, 0) _ MV.out Try.underlying42 rfl HI.out ?_)
    | (go_at_call 36; refine (isStale_b x s1 m HL.out _ true HT.out).mono ?_; rintro e W2 ⟨rfl, hb2⟩; have XV := Lib.hid (XV.out.here hb2); have ZV := Lib.hid (ZV.out.here hb2); have MV := Lib.hid (MV.out.here hb2); have TV := Lib.hid (TV.out.step hb2); have BV := Lib.hid (stepB BV.out hb2); have LV := Lib.hid (Nat.le_trans LV.out hb2.size); clear hb2))
  clear c1
  generalize W2 = WV at XV ZV MV TV BV LV ⊢
  go_wp2_with (first
    | (refine wpList_load_row rfl 30 (.tmp 2) rfl g rfl 30 (trc x s1) (0, 0) _ XV.out Try.underlying30 rfl (tr_info _ _) ?_)
    | (refine wpList_store_mid (op := { dst := none, op := .store 30 (.tmp 4) (.tmp 26), type := 0, pos := _, after := _, guard := none }) (by rfl) 30 (.tmp 4) (.tmp 26) (by rfl) (g + 2) 0 (trc x s1) (by rfl) (by rfl) (ZV.out.there (Nat.le_refl 13)) (tr_info _ _) TV.out.one ?_))
  exact bodyPost_ret (v := .tuple #[.agg (trc x s1), errno 14]) (results_cell_and rfl rfl rfl (tr_load (ZV.out.put (trc x s1) rfl))) rfl ⟨s1, rfl, (Tm.turn TV.out (Turn.setCells (S := fun k => k = g + 2) (fun _ => rfl) _ _ _ (Turn.refl _ _)) (fun k hk _ e => by have := GV.out; omega)).less (Nat.zero_le _), Below.setCells (by have := HG.out; omega) _ _ _ BV.out⟩
set_option maxRecDepth 100000 in
set_option maxHeartbeats 8000000 in
theorem answered_n {B : Nat} (x : Tr) (s : Sl) (m : List Int) (w : World) (h : Tm w B x s) (hs : Short x) (hm : m.length = 28) (hf : isOf x m [2, 3] = true) (h1 : x.st = 1) (hst : stale x m = false) (hk : ¬ fld m 0 = 2) :
    Calls Try.prog 19 #[.agg (trc x s), .agg (mc m)] w (Post2 w ({ x with op := false }, [], 0)) := by
  have X1 := Lib.hid (((Blk.new w 30 (trc x s)).alloc (.cells (mc m) 42)).alloc (.cells zTr 30))
  have M1 := Lib.hid ((Blk.new_at (w := w.alloc (.cells (trc x s) 30)) (n := w.heap.size + 1) (by simp) 42 (mc m)).alloc (.cells zTr 30))
  have Z1 := Lib.hid (Blk.new_at (w := (w.alloc (.cells (trc x s) 30)).alloc (.cells (mc m) 42)) (n := w.heap.size + 2) (by simp) 30 zTr)
  have B1 := Lib.hid (((Joins.below_alloc1 w (.cells (trc x s) 30)).alloc (by simp <;> omega) (.cells (mc m) 42)).alloc (by simp <;> omega) (.cells zTr 30))
  have SZ := Lib.hid (show (((w.alloc (.cells (trc x s) 30)).alloc (.cells (mc m) 42)).alloc (.cells zTr 30)).heap.size = w.heap.size + 3 from by simp)
  have H1 := Lib.hid (h.step B1.out)
  have HS := Lib.hid hs
  have HL := Lib.hid hm
  have HI := Lib.hid (mc_info hm)
  have HF := Lib.hid hf
  have e1 : (x.st != 1) = false := by simpa using h1
  have HT := Lib.hid hst
  have e0 : (fld m 0 == 2) = false := by simpa using hk
  clear hf h1 hst hk
  clear h hs hm
  go_enter Try.func19, Try.ntmps19
  go_upto_region 1 with fail
  obtain ⟨g, hg⟩ : ∃ g, g = w.heap.size := ⟨_, rfl⟩
  have HG := Lib.hid hg
  rw [← hg] at X1 M1 Z1 SZ ⊢
  clear hg
  generalize ((w.alloc (.cells (trc x s) 30)).alloc (.cells (mc m) 42)).alloc (.cells zTr 30) = V at X1 M1 Z1 B1 H1 SZ ⊢
  go_upto_region 2 with (first
    | (refine wpList_load_row rfl 30 (.tmp 2) rfl g rfl 30 (trc x s) (0, 0) _ X1.out Try.underlying30 rfl (tr_info _ _) ?_)
    | (go_at_call 31; refine (own_any x s _ H1.out HS.out).mono ?_; rintro e W1 ⟨s1, rfl, ht, hn, hb⟩; have T1 := Lib.hid ht; have N1 := Lib.hid hn; have E1 := Lib.hid hb; have XX := Lib.hid (X1.out.here hb); clear ht hn hb)
    | (refine wpList_store_mid (by rfl) 30 (.tmp 2) (.tmp 7) (by rfl) g 0 (trc x s1) (by rfl) (by rfl) (XX.out.there (Nat.le_refl 13)) (tr_info _ _) T1.out.one ?_))
  have ET := Lib.hid (show Turn (fun k => k = g) W1 (W1.setCells g 0 (trc x s1).toList) from Turn.setCells (S := fun k => k = g) (fun _ => rfl) _ _ _ (Turn.refl _ _))
  have XV := Lib.hid (show Blk (W1.setCells g 0 (trc x s1).toList) g 30 (trc x s1) from XX.out.put (trc x s1) rfl)
  have ZV := Lib.hid ((Z1.out.here E1.out).turn ET.out (by omega))
  have MV := Lib.hid ((M1.out.here E1.out).turn ET.out (by omega))
  have BV := Lib.hid ((B1.out.trans (E1.out.mono B1.out.size)).trans (ET.out.below (B := w.heap.size) (fun k hk e => by have := HG.out; omega) (Nat.le_trans B1.out.size E1.out.size)))
  obtain ⟨b0, hb0⟩ : ∃ b0, b0 = V.heap.size := ⟨_, rfl⟩
  have GV := Lib.hid (show b0 = g + 3 from hb0.trans SZ.out)
  rw [← hb0] at T1
  have TV := Lib.hid (T1.out.turn ET.out (fun k hk _ e => by have := GV.out; omega))
  have LV := Lib.hid (show b0 ≤ (W1.setCells g 0 (trc x s1).toList).heap.size from by rw [hb0]; exact Nat.le_trans E1.out.size ET.out.size)
  clear hb0 X1 Z1 M1 B1 H1 SZ T1 E1 XX ET
  generalize W1.setCells g 0 (trc x s1).toList = WV at XV ZV MV BV TV LV ⊢
  go_upto_region 4 with (first
    | (refine wpList_load_row rfl 30 (.tmp 2) rfl g rfl 30 (trc x s1) (0, 0) _ XV.out Try.underlying30 rfl (tr_info _ _) ?_)
    | (refine wpList_load_row rfl 42 (.tmp 3) rfl (g + 1) rfl 42 (mc m) (0, 0) _ MV.out Try.underlying42 rfl HI.out ?_)
    | (go_at_call 35; refine (isOf_b x s1 m HL.out _ (own_ints WV 3 [2, 3] (B := 0) (n := 2) (Nat.zero_le _) rfl (by simp)) (by simp) true HF.out).mono ?_; rintro e W2 ⟨rfl, hb1⟩; have hb2 : Below WV.heap.size WV W2 := (Joins.below_alloc1 WV _).trans (hb1.mono (by simp)); clear hb1; have XV := Lib.hid (XV.out.here hb2); have ZV := Lib.hid (ZV.out.here hb2); have MV := Lib.hid (MV.out.here hb2); have TV := Lib.hid (TV.out.step hb2); have BV := Lib.hid (stepB BV.out hb2); have LV := Lib.hid (Nat.le_trans LV.out hb2.size); clear hb2))
  generalize W2 = WV at XV ZV MV TV BV LV ⊢
  have c1 : WV.cell? ⟨g, 1, none⟩ = some (.int .i64 x.st) := XV.out.cell 1
  go_upto_region 8 with (first
    | (refine wpList_load_row rfl 30 (.tmp 2) rfl g rfl 30 (trc x s1) (0, 0) _ XV.out Try.underlying30 rfl (tr_info _ _) ?_)
    | (refine wpList_load_row rfl 42 (.tmp 3) rfl (g + 1) rfl 42 (mc m) (0, 0) _ MV.out Try.underlying42 rfl HI.out ?_)
    | (go_at_call 36; refine (isStale_b x s1 m HL.out _ false HT.out).mono ?_; rintro e W2 ⟨rfl, hb2⟩; have XV := Lib.hid (XV.out.here hb2); have ZV := Lib.hid (ZV.out.here hb2); have MV := Lib.hid (MV.out.here hb2); have TV := Lib.hid (TV.out.step hb2); have BV := Lib.hid (stepB BV.out hb2); have LV := Lib.hid (Nat.le_trans LV.out hb2.size); clear hb2))
  clear c1
  generalize W2 = WV at XV ZV MV TV BV LV ⊢
  have hmv := MV.out.lt
  have hzv := ZV.out.lt
  have hxv := XV.out.lt
  have c4 : WV.cell? ⟨g, 4, none⟩ = some (.bool x.op) := XV.out.cell 4
  have f4 := XV.out.frozen 4
  have EW := Lib.hid ((Turn.refl (fun k => k = g) WV).setCell (p := ⟨g, 4, none⟩) (fun _ => rfl) (.bool false))
  have XW := Lib.hid (show Blk (WV.setCell ⟨g, 4, none⟩ (.bool false)) g 30 (trc { x with op := false } s1) from XV.out.set_ 4 _)
  have ZW := Lib.hid (ZV.out.turn EW.out (by omega))
  have MW := Lib.hid (MV.out.turn EW.out (by omega))
  have TW := Lib.hid (show Tm (WV.setCell ⟨g, 4, none⟩ (.bool false)) b0 { x with op := false } s1 from have h := TV.out.turn EW.out (fun k hk _ e => by have := GV.out; omega); ⟨h.t, h.v, h.k, h.g⟩)
  have BW := Lib.hid (BV.out.trans (EW.out.below (B := w.heap.size) (fun k hk e => by have := HG.out; omega) BV.out.size))
  have LW := Lib.hid (Nat.le_trans LV.out EW.out.size)
  go_upto_region 9 with fail
  clear c4 f4 XV ZV MV TV BV LV EW hmv hzv hxv
  generalize WV.setCell ⟨g, 4, none⟩ (.bool false) = WY at XW ZW MW TW BW LW ⊢
  have m0 := mc_cell HL.out MW.out (i := 0) (by omega)
  go_wp2_with (first
    | (refine wpList_load_row rfl 30 (.tmp 2) rfl g rfl 30 (trc { x with op := false } s1) (0, 0) _ XW.out Try.underlying30 rfl (tr_info _ _) ?_)
    | (refine wpList_store_mid (op := { dst := none, op := .store 30 (.tmp 4) (.tmp 46), type := 0, pos := _, after := _, guard := none }) (by rfl) 30 (.tmp 4) (.tmp 46) (by rfl) (g + 2) 0 (trc { x with op := false } s1) (by rfl) (by rfl) (ZW.out.there (Nat.le_refl 13)) (tr_info _ _) TW.out.one ?_))
  exact bodyPost_ret (v := .tuple #[.agg (trc { x with op := false } s1), .nilIface]) (results_cell_and rfl rfl rfl (tr_load (ZW.out.put (trc { x with op := false } s1) rfl))) rfl ⟨s1, rfl, (Tm.turn TW.out (Turn.setCells (S := fun k => k = g + 2) (fun _ => rfl) _ _ _ (Turn.refl _ _)) (fun k hk _ e => by have := GV.out; omega)).less (Nat.zero_le _), Below.setCells (by have := HG.out; omega) _ _ _ BW.out⟩
set_option maxRecDepth 100000 in
set_option maxHeartbeats 8000000 in
theorem answered_g {B : Nat} (x : Tr) (s : Sl) (m : List Int) (w : World) (h : Tm w B x s) (hs : Short x) (hm : m.length = 28) (hf : isOf x m [2, 3] = true) (h1 : x.st = 1) (hst : stale x m = false) (hk : fld m 0 = 2) :
    Calls Try.prog 19 #[.agg (trc x s), .agg (mc m)] w (Post2 w ({ x with op := false, got := x.got ++ [grantL m] }, [], 0)) := by
  have X1 := Lib.hid (((Blk.new w 30 (trc x s)).alloc (.cells (mc m) 42)).alloc (.cells zTr 30))
  have M1 := Lib.hid ((Blk.new_at (w := w.alloc (.cells (trc x s) 30)) (n := w.heap.size + 1) (by simp) 42 (mc m)).alloc (.cells zTr 30))
  have Z1 := Lib.hid (Blk.new_at (w := (w.alloc (.cells (trc x s) 30)).alloc (.cells (mc m) 42)) (n := w.heap.size + 2) (by simp) 30 zTr)
  have B1 := Lib.hid (((Joins.below_alloc1 w (.cells (trc x s) 30)).alloc (by simp <;> omega) (.cells (mc m) 42)).alloc (by simp <;> omega) (.cells zTr 30))
  have SZ := Lib.hid (show (((w.alloc (.cells (trc x s) 30)).alloc (.cells (mc m) 42)).alloc (.cells zTr 30)).heap.size = w.heap.size + 3 from by simp)
  have H1 := Lib.hid (h.step B1.out)
  have HS := Lib.hid hs
  have HL := Lib.hid hm
  have HI := Lib.hid (mc_info hm)
  have HF := Lib.hid hf
  have e1 : (x.st != 1) = false := by simpa using h1
  have HT := Lib.hid hst
  obtain ⟨i0, hi0, hz0, hz1, hz2⟩ := info_parts info_grant
  have e0 : (fld m 0 == 2) = true := by simpa using hk
  have HS5 := Lib.hid hs.g
  clear hf h1 hst hk
  clear h hs hm
  go_enter Try.func19, Try.ntmps19
  go_upto_region 1 with fail
  obtain ⟨g, hg⟩ : ∃ g, g = w.heap.size := ⟨_, rfl⟩
  have HG := Lib.hid hg
  rw [← hg] at X1 M1 Z1 SZ ⊢
  clear hg
  generalize ((w.alloc (.cells (trc x s) 30)).alloc (.cells (mc m) 42)).alloc (.cells zTr 30) = V at X1 M1 Z1 B1 H1 SZ ⊢
  go_upto_region 2 with (first
    | (refine wpList_load_row rfl 30 (.tmp 2) rfl g rfl 30 (trc x s) (0, 0) _ X1.out Try.underlying30 rfl (tr_info _ _) ?_)
    | (go_at_call 31; refine (own_any x s _ H1.out HS.out).mono ?_; rintro e W1 ⟨s1, rfl, ht, hn, hb⟩; have T1 := Lib.hid ht; have N1 := Lib.hid hn; have E1 := Lib.hid hb; have XX := Lib.hid (X1.out.here hb); clear ht hn hb)
    | (refine wpList_store_mid (by rfl) 30 (.tmp 2) (.tmp 7) (by rfl) g 0 (trc x s1) (by rfl) (by rfl) (XX.out.there (Nat.le_refl 13)) (tr_info _ _) T1.out.one ?_))
  have ET := Lib.hid (show Turn (fun k => k = g) W1 (W1.setCells g 0 (trc x s1).toList) from Turn.setCells (S := fun k => k = g) (fun _ => rfl) _ _ _ (Turn.refl _ _))
  have XV := Lib.hid (show Blk (W1.setCells g 0 (trc x s1).toList) g 30 (trc x s1) from XX.out.put (trc x s1) rfl)
  have ZV := Lib.hid ((Z1.out.here E1.out).turn ET.out (by omega))
  have MV := Lib.hid ((M1.out.here E1.out).turn ET.out (by omega))
  have BV := Lib.hid ((B1.out.trans (E1.out.mono B1.out.size)).trans (ET.out.below (B := w.heap.size) (fun k hk e => by have := HG.out; omega) (Nat.le_trans B1.out.size E1.out.size)))
  obtain ⟨b0, hb0⟩ : ∃ b0, b0 = V.heap.size := ⟨_, rfl⟩
  have GV := Lib.hid (show b0 = g + 3 from hb0.trans SZ.out)
  rw [← hb0] at T1
  have TV := Lib.hid (T1.out.turn ET.out (fun k hk _ e => by have := GV.out; omega))
  have LV := Lib.hid (show b0 ≤ (W1.setCells g 0 (trc x s1).toList).heap.size from by rw [hb0]; exact Nat.le_trans E1.out.size ET.out.size)
  clear hb0 X1 Z1 M1 B1 H1 SZ T1 E1 XX ET
  generalize W1.setCells g 0 (trc x s1).toList = WV at XV ZV MV BV TV LV ⊢
  go_upto_region 4 with (first
    | (refine wpList_load_row rfl 30 (.tmp 2) rfl g rfl 30 (trc x s1) (0, 0) _ XV.out Try.underlying30 rfl (tr_info _ _) ?_)
    | (refine wpList_load_row rfl 42 (.tmp 3) rfl (g + 1) rfl 42 (mc m) (0, 0) _ MV.out Try.underlying42 rfl HI.out ?_)
    | (go_at_call 35; refine (isOf_b x s1 m HL.out _ (own_ints WV 3 [2, 3] (B := 0) (n := 2) (Nat.zero_le _) rfl (by simp)) (by simp) true HF.out).mono ?_; rintro e W2 ⟨rfl, hb1⟩; have hb2 : Below WV.heap.size WV W2 := (Joins.below_alloc1 WV _).trans (hb1.mono (by simp)); clear hb1; have XV := Lib.hid (XV.out.here hb2); have ZV := Lib.hid (ZV.out.here hb2); have MV := Lib.hid (MV.out.here hb2); have TV := Lib.hid (TV.out.step hb2); have BV := Lib.hid (stepB BV.out hb2); have LV := Lib.hid (Nat.le_trans LV.out hb2.size); clear hb2))
  generalize W2 = WV at XV ZV MV TV BV LV ⊢
  have c1 : WV.cell? ⟨g, 1, none⟩ = some (.int .i64 x.st) := XV.out.cell 1
  go_upto_region 8 with (first
    | (refine wpList_load_row rfl 30 (.tmp 2) rfl g rfl 30 (trc x s1) (0, 0) _ XV.out Try.underlying30 rfl (tr_info _ _) ?_)
    | (refine wpList_load_row rfl 42 (.tmp 3) rfl (g + 1) rfl 42 (mc m) (0, 0) _ MV.out Try.underlying42 rfl HI.out ?_)
    | (go_at_call 36; refine (isStale_b x s1 m HL.out _ false HT.out).mono ?_; rintro e W2 ⟨rfl, hb2⟩; have XV := Lib.hid (XV.out.here hb2); have ZV := Lib.hid (ZV.out.here hb2); have MV := Lib.hid (MV.out.here hb2); have TV := Lib.hid (TV.out.step hb2); have BV := Lib.hid (stepB BV.out hb2); have LV := Lib.hid (Nat.le_trans LV.out hb2.size); clear hb2))
  clear c1
  generalize W2 = WV at XV ZV MV TV BV LV ⊢
  have hmv := MV.out.lt
  have hzv := ZV.out.lt
  have hxv := XV.out.lt
  have c4 : WV.cell? ⟨g, 4, none⟩ = some (.bool x.op) := XV.out.cell 4
  have f4 := XV.out.frozen 4
  have EW := Lib.hid ((Turn.refl (fun k => k = g) WV).setCell (p := ⟨g, 4, none⟩) (fun _ => rfl) (.bool false))
  have XW := Lib.hid (show Blk (WV.setCell ⟨g, 4, none⟩ (.bool false)) g 30 (trc { x with op := false } s1) from XV.out.set_ 4 _)
  have ZW := Lib.hid (ZV.out.turn EW.out (by omega))
  have MW := Lib.hid (MV.out.turn EW.out (by omega))
  have TW := Lib.hid (show Tm (WV.setCell ⟨g, 4, none⟩ (.bool false)) b0 { x with op := false } s1 from have h := TV.out.turn EW.out (fun k hk _ e => by have := GV.out; omega); ⟨h.t, h.v, h.k, h.g⟩)
  have BW := Lib.hid (BV.out.trans (EW.out.below (B := w.heap.size) (fun k hk e => by have := HG.out; omega) BV.out.size))
  have LW := Lib.hid (Nat.le_trans LV.out EW.out.size)
  go_upto_region 9 with fail
  clear c4 f4 XV ZV MV TV BV LV EW hmv hzv hxv
  generalize WV.setCell ⟨g, 4, none⟩ (.bool false) = WY at XW ZW MW TW BW LW ⊢
  have m0 := mc_cell HL.out MW.out (i := 0) (by omega)
  have m3 := mc_cell HL.out MW.out (i := 3) (by omega)
  have m4 := mc_cell HL.out MW.out (i := 4) (by omega)
  have m5 := mc_cell HL.out MW.out (i := 5) (by omega)
  have m6 := mc_cell HL.out MW.out (i := 6) (by omega)
  have m7 := mc_cell HL.out MW.out (i := 7) (by omega)
  have GL := Lib.hid (show grantL m = [fld m 3, fld m 4, fld m 5, fld m 6, fld m 7] from rfl)
  generalize fld m 3 = p3 at m3 GL
  generalize fld m 4 = p4 at m4 GL
  generalize fld m 5 = p5 at m5 GL
  generalize fld m 6 = p6 at m6 GL
  generalize fld m 7 = p7 at m7 GL
  have c12 : WY.cell? ⟨g, 12, none⟩ = some s1.g := XW.out.cell 12
  have RN := Lib.hid (reads_flat (V := WY) 76 [p3, p4, p5, p6, p7] (size := 5) rfl)
  have AL := Lib.hid (Joins.below_alloc1 WY (.cells (ints [p3, p4, p5, p6, p7]).toArray 76))
  go_upto_region 11 with (at_builtin; refine wpList_append_any _ rfl (.tmp 33) (.tmp 43) _ rfl b0 76 i0 _ 5 40 Try.underlying28 hi0 hz0 hz1 hz2 rfl (by omega) s1.g x.got.length _ rfl (own_step TW.out.g AL.out) _ _ 1 1 (ints [p3, p4, p5, p6, p7]) rfl RN.out (ints_one _) (by have := HS5.out; simp only [maxLen]; omega) (by have := HS5.out; omega) (Nat.le_trans LW.out AL.out.size) ?_; intro v9 w9 hown9 hg9 hv9; obtain ⟨A9, c9, rfl⟩ := own_len hown9; have O9 := Lib.hid hown9; have T9 := Lib.hid (show Turn (fun k => s1.g.ownBlock = some k) WY w9 from (Turn.of_below AL.out (S := fun k => s1.g.ownBlock = some k)).grown hg9 fun k hk _ => hk); have XG := Lib.hid (XW.out.turn T9.out (fun e => by have := own_ge TW.out.g e; have := GV.out; omega)); have k12 : w9.cell? ⟨g, 12, none⟩ = some s1.g := XG.out.cell 12; have k12f := XG.out.frozen 12; clear hown9 hg9 hv9 c12)
  have EZ := Lib.hid ((Turn.refl (fun k => k = g) w9).setCell (p := ⟨g, 12, none⟩) (fun _ => rfl) (.slice A9 (x.got.length + 1) c9))
  have hzw := ZW.out.lt
  have EQ := Lib.hid (show ({ x with op := false, got := x.got ++ [grantL m] } : Tr).got.length = x.got.length + 1 from by simp)
  have O9 := Lib.hid (show w9.ownsRow b0 76 5 (.slice A9 (x.got.length + 1) c9) (x.got ++ [grantL m]).length (ints (x.got ++ [grantL m]).flatten) from by
    have h := O9.out
    rw [show ints x.got.flatten ++ ints [p3, p4, p5, p6, p7] = ints (x.got ++ [grantL m]).flatten from by rw [GL.out]; simp [ints]] at h
    rw [show (x.got ++ [grantL m]).length = x.got.length + 1 from by simp]
    exact h)
  have XZ := Lib.hid (show Blk (w9.setCell ⟨g, 12, none⟩ (.slice A9 (x.got.length + 1) c9)) g 30 (trc { x with op := false, got := x.got ++ [grantL m] } ⟨s1.t, s1.v, s1.k, .slice A9 (x.got.length + 1) c9⟩) from XG.out.set_ 12 _)
  have ZZ := Lib.hid ((ZW.out.turn T9.out (fun e => by have := own_ge TW.out.g e; have := GV.out; omega)).turn EZ.out (by omega))
  have TZ := Lib.hid (show Tm (w9.setCell ⟨g, 12, none⟩ (.slice A9 (x.got.length + 1) c9)) b0 { x with op := false, got := x.got ++ [grantL m] } ⟨s1.t, s1.v, s1.k, .slice A9 (x.got.length + 1) c9⟩ from
    Tm.turn (w := w9) ⟨own_turn TW.out.t T9.out (fun k hk e => rows_apart TW.out.t TW.out.g (by decide) k hk e), own_turn TW.out.v T9.out (fun k hk e => rows_apart TW.out.v TW.out.g (by decide) k hk e), own_turn TW.out.k T9.out (fun k hk e => rows_apart TW.out.k TW.out.g (by decide) k hk e), O9.out⟩ EZ.out (fun k hk _ e => by have := GV.out; omega))
  have BZ := Lib.hid ((BW.out.trans (T9.out.below (B := w.heap.size) (fun k hk e => by have := own_ge TW.out.g e; have := GV.out; have := HG.out; omega) BW.out.size)).trans (EZ.out.below (B := w.heap.size) (fun k hk e => by have := HG.out; omega) (Nat.le_trans BW.out.size T9.out.size)))
  clear k12 k12f O9 T9 XG EZ RN AL m0 m3 m4 m5 m6 m7 XW ZW MW TW BW LW hzw EQ
  generalize hs2 : (⟨s1.t, s1.v, s1.k, .slice A9 (x.got.length + 1) c9⟩ : Sl) = s2 at XZ TZ
  generalize hy2 : ({ x with op := false, got := x.got ++ [grantL m] } : Tr) = y2 at XZ TZ
  have HY2 := Lib.hid hy2
  clear hs2 hy2
  generalize w9.setCell ⟨g, 12, none⟩ (.slice A9 (x.got.length + 1) c9) = WZ at XZ ZZ TZ BZ ⊢
  go_wp2_with (first
    | (refine wpList_load_row rfl 30 (.tmp 2) rfl g rfl 30 (trc y2 s2) (0, 0) _ XZ.out Try.underlying30 rfl (tr_info _ _) ?_)
    | (refine wpList_store_mid (op := { dst := none, op := .store 30 (.tmp 4) (.tmp 46), type := 0, pos := _, after := _, guard := none }) (by rfl) 30 (.tmp 4) (.tmp 46) (by rfl) (g + 2) 0 (trc y2 s2) (by rfl) (by rfl) (ZZ.out.there (Nat.le_refl 13)) (tr_info _ _) TZ.out.one ?_))
  exact bodyPost_ret (v := .tuple #[.agg (trc y2 s2), .nilIface]) (results_cell_and rfl rfl rfl (tr_load (ZZ.out.put (trc y2 s2) rfl))) rfl ⟨s2, by rw [HY2.out]; rfl, by rw [HY2.out]; exact (Tm.turn TZ.out (Turn.setCells (S := fun k => k = g + 2) (fun _ => rfl) _ _ _ (Turn.refl _ _)) (fun k hk _ e => by have := GV.out; omega)).less (Nat.zero_le _), Below.setCells (by have := HG.out; omega) _ _ _ BZ.out⟩
theorem answered_any {B : Nat} (x : Tr) (s : Sl) (m : List Int) (w : World) (h : Tm w B x s) (hs : Short x) (hm : m.length = 28) : Calls Try.prog 19 #[.agg (trc x s), .agg (mc m)] w (Post2 w (ansL x m)) := by
  unfold ansL
  cases hf : isOf x m [2, 3] with
  | false => rw [if_pos rfl]; exact answered_5 x s m w h hs hm hf
  | true =>
    rw [if_neg (by simp)]
    by_cases h1 : x.st = 1
    · rw [if_neg (fun e => e h1)]
      cases hst : stale x m with
      | true => rw [if_pos rfl]; exact answered_14 x s m w h hs hm hf h1 hst
      | false =>
        rw [if_neg (by simp)]
        unfold ansX
        by_cases hk : fld m 0 = 2
        · rw [if_pos hk]; exact answered_g x s m w h hs hm hf h1 hst hk
        · rw [if_neg hk]; exact answered_n x s m w h hs hm hf h1 hst hk
    · rw [if_pos h1]; exact answered_11 x s m w h hs hm hf h1
end Go.Proofs.Ytopjkidekbfalaa
