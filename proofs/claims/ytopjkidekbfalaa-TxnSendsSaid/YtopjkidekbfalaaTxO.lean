/- A transaction: Ack. -/
import Derived.Test.YtopjkidekbfalaaTxN
namespace Go.Proofs.Ytopjkidekbfalaa
open Go.RowKit
set_option linter.unusedVariables false
set_option linter.unusedSimpArgs false

set_option maxRecDepth 100000 in
set_option maxHeartbeats 8000000 in
theorem ack_5 {B : Nat} (x : Tr) (s : Sl) (m : List Int) (w : World) (h : Tm w B x s) (hs : Short x) (hm : m.length = 28) (hf : isOf x m [7] = false) :
    Calls Try.prog 22 #[.agg (trc x s), .agg (mc m)] w (Post2 w (x, [], 5)) := by
  have X1 := Lib.hid (((Blk.new w 30 (trc x s)).alloc (.cells (mc m) 42)).alloc (.cells zTr 30))
  have M1 := Lib.hid ((Blk.new_at (w := w.alloc (.cells (trc x s) 30)) (n := w.heap.size + 1) (by simp) 42 (mc m)).alloc (.cells zTr 30))
  have Z1 := Lib.hid (Blk.new_at (w := (w.alloc (.cells (trc x s) 30)).alloc (.cells (mc m) 42)) (n := w.heap.size + 2) (by simp) 30 zTr)
  have B1 := Lib.hid (((Joins.below_alloc1 w (.cells (trc x s) 30)).alloc (by simp <;> omega) (.cells (mc m) 42)).alloc (by simp <;> omega) (.cells zTr 30))
  have SZ := Lib.hid (show (((w.alloc (.cells (trc x s) 30)).alloc (.cells (mc m) 42)).alloc (.cells zTr 30)).heap.size = w.heap.size + 3 from by simp)
  have H1 := Lib.hid (h.step B1.out)
  have HS := Lib.hid hs
  have HL := Lib.hid hm
  have HI := Lib.hid (mc_info hm)
  have HF := Lib.hid hf
  clear hf
  clear h hs hm
  go_enter Try.func22, Try.ntmps22
  go_upto_region 1 with fail
  obtain ⟨g, hg⟩ : ∃ g, g = w.heap.size := ⟨_, rfl⟩
  have HG := Lib.hid hg
  rw [← hg] at X1 M1 Z1 SZ ⊢
  clear hg
  generalize ((w.alloc (.cells (trc x s) 30)).alloc (.cells (mc m) 42)).alloc (.cells zTr 30) = V at X1 M1 Z1 B1 H1 SZ ⊢
  go_upto_region 2 with (first
    | (refine wpList_load_row rfl 30 (.tmp 2) rfl g rfl 30 (trc x s) (0, 0) _ X1.out Try.underlying30 rfl (tr_info _ _) ?_)
    | (go_at_call 31; refine (own_any x s _ H1.out HS.out).mono ?_; rintro e W1 ⟨s1, rfl, ht, hn, hb⟩; have T1 := Lib.hid ht; have N1 := Lib.hid hn; have E1 := Lib.hid hb; have XX := Lib.hid (X1.out.here hb); clear ht hn hb)
    | (refine wpList_store_mid (by rfl) 30 (.tmp 2) (.tmp 7) (by rfl) g 0 (trc x s1) (by rfl) (by rfl) (XX.out.there (Nat.le_refl 13)) (tr_info _ _) T1.out.one ?_))
  have ET := Lib.hid (show Turn (fun k => k = g) W1 (W1.setCells g 0 (trc x s1).toList) from Turn.setCells (S := fun k => k = g) (fun _ => rfl) _ _ _ (Turn.refl _ _))
  have XV := Lib.hid (show Blk (W1.setCells g 0 (trc x s1).toList) g 30 (trc x s1) from XX.out.put (trc x s1) rfl)
  have ZV := Lib.hid ((Z1.out.here E1.out).turn ET.out (by omega))
  have MV := Lib.hid ((M1.out.here E1.out).turn ET.out (by omega))
  have BV := Lib.hid ((B1.out.trans (E1.out.mono B1.out.size)).trans (ET.out.below (B := w.heap.size) (fun k hk e => by have := HG.out; omega) (Nat.le_trans B1.out.size E1.out.size)))
  obtain ⟨b0, hb0⟩ : ∃ b0, b0 = V.heap.size := ⟨_, rfl⟩
  have GV := Lib.hid (show b0 = g + 3 from hb0.trans SZ.out)
  rw [← hb0] at T1
  have TV := Lib.hid (T1.out.turn ET.out (fun k hk _ e => by have := GV.out; omega))
  have LV := Lib.hid (show b0 ≤ (W1.setCells g 0 (trc x s1).toList).heap.size from by rw [hb0]; exact Nat.le_trans E1.out.size ET.out.size)
  clear hb0 X1 Z1 M1 B1 H1 SZ T1 E1 XX ET
  generalize W1.setCells g 0 (trc x s1).toList = WV at XV ZV MV BV TV LV ⊢
  go_upto_region 3 with (first
    | (refine wpList_load_row rfl 30 (.tmp 2) rfl g rfl 30 (trc x s1) (0, 0) _ XV.out Try.underlying30 rfl (tr_info _ _) ?_)
    | (refine wpList_load_row rfl 42 (.tmp 3) rfl (g + 1) rfl 42 (mc m) (0, 0) _ MV.out Try.underlying42 rfl HI.out ?_)
    | (go_at_call 35; refine (isOf_b x s1 m HL.out _ (own_ints WV 3 [7] (B := 0) (n := 1) (Nat.zero_le _) rfl (by simp)) (by simp) false HF.out).mono ?_; rintro e W2 ⟨rfl, hb1⟩; have hb2 : Below WV.heap.size WV W2 := (Joins.below_alloc1 WV _).trans (hb1.mono (by simp)); clear hb1; have XV := Lib.hid (XV.out.here hb2); have ZV := Lib.hid (ZV.out.here hb2); have MV := Lib.hid (MV.out.here hb2); have TV := Lib.hid (TV.out.step hb2); have BV := Lib.hid (stepB BV.out hb2); have LV := Lib.hid (Nat.le_trans LV.out hb2.size); clear hb2))
  generalize W2 = WV at XV ZV MV TV BV LV ⊢
  go_wp2_with (first
    | (refine wpList_load_row rfl 30 (.tmp 2) rfl g rfl 30 (trc x s1) (0, 0) _ XV.out Try.underlying30 rfl (tr_info _ _) ?_)
    | (refine wpList_store_mid (op := { dst := none, op := .store 30 (.tmp 4) (.tmp 14), type := 0, pos := _, after := _, guard := none }) (by rfl) 30 (.tmp 4) (.tmp 14) (by rfl) (g + 2) 0 (trc x s1) (by rfl) (by rfl) (ZV.out.there (Nat.le_refl 13)) (tr_info _ _) TV.out.one ?_))
  exact bodyPost_ret (v := .tuple #[.agg (trc x s1), errno 5]) (results_cell_and rfl rfl rfl (tr_load (ZV.out.put (trc x s1) rfl))) rfl ⟨s1, rfl, (Tm.turn TV.out (Turn.setCells (S := fun k => k = g + 2) (fun _ => rfl) _ _ _ (Turn.refl _ _)) (fun k hk _ e => by have := GV.out; omega)).less (Nat.zero_le _), Below.setCells (by have := HG.out; omega) _ _ _ BV.out⟩
set_option maxRecDepth 100000 in
set_option maxHeartbeats 8000000 in
theorem ack_11 {B : Nat} (x : Tr) (s : Sl) (m : List Int) (w : World) (h : Tm w B x s) (hs : Short x) (hm : m.length = 28) (hf : isOf x m [7] = true) (hd : decided x = false) :
    Calls Try.prog 22 #[.agg (trc x s), .agg (mc m)] w (Post2 w (x, [], 11)) := by
  have X1 := Lib.hid (((Blk.new w 30 (trc x s)).alloc (.cells (mc m) 42)).alloc (.cells zTr 30))
  have M1 := Lib.hid ((Blk.new_at (w := w.alloc (.cells (trc x s) 30)) (n := w.heap.size + 1) (by simp) 42 (mc m)).alloc (.cells zTr 30))
  have Z1 := Lib.hid (Blk.new_at (w := (w.alloc (.cells (trc x s) 30)).alloc (.cells (mc m) 42)) (n := w.heap.size + 2) (by simp) 30 zTr)
  have B1 := Lib.hid (((Joins.below_alloc1 w (.cells (trc x s) 30)).alloc (by simp <;> omega) (.cells (mc m) 42)).alloc (by simp <;> omega) (.cells zTr 30))
  have SZ := Lib.hid (show (((w.alloc (.cells (trc x s) 30)).alloc (.cells (mc m) 42)).alloc (.cells zTr 30)).heap.size = w.heap.size + 3 from by simp)
  have H1 := Lib.hid (h.step B1.out)
  have HS := Lib.hid hs
  have HL := Lib.hid hm
  have HI := Lib.hid (mc_info hm)
  have HF := Lib.hid hf
  have HD := Lib.hid hd
  clear hf hd
  clear h hs hm
  go_enter Try.func22, Try.ntmps22
  go_upto_region 1 with fail
  obtain ⟨g, hg⟩ : ∃ g, g = w.heap.size := ⟨_, rfl⟩
  have HG := Lib.hid hg
  rw [← hg] at X1 M1 Z1 SZ ⊢
  clear hg
  generalize ((w.alloc (.cells (trc x s) 30)).alloc (.cells (mc m) 42)).alloc (.cells zTr 30) = V at X1 M1 Z1 B1 H1 SZ ⊢
  go_upto_region 2 with (first
    | (refine wpList_load_row rfl 30 (.tmp 2) rfl g rfl 30 (trc x s) (0, 0) _ X1.out Try.underlying30 rfl (tr_info _ _) ?_)
    | (go_at_call 31; refine (own_any x s _ H1.out HS.out).mono ?_; rintro e W1 ⟨s1, rfl, ht, hn, hb⟩; have T1 := Lib.hid ht; have N1 := Lib.hid hn; have E1 := Lib.hid hb; have XX := Lib.hid (X1.out.here hb); clear ht hn hb)
    | (refine wpList_store_mid (by rfl) 30 (.tmp 2) (.tmp 7) (by rfl) g 0 (trc x s1) (by rfl) (by rfl) (XX.out.there (Nat.le_refl 13)) (tr_info _ _) T1.out.one ?_))
  have ET := Lib.hid (show Turn (fun k => k = g) W1 (W1.setCells g 0 (trc x s1).toList) from Turn.setCells (S := fun k => k = g) (fun _ => rfl) _ _ _ (Turn.refl _ _))
  have XV := Lib.hid (show Blk (W1.setCells g 0 (trc x s1).toList) g 30 (trc x s1) from XX.out.put (trc x s1) rfl)
  have ZV := Lib.hid ((Z1.out.here E1.out).turn ET.out (by omega))
  have MV := Lib.hid ((M1.out.here E1.out).turn ET.out (by omega))
  have BV := Lib.hid ((B1.out.trans (E1.out.mono B1.out.size)).trans (ET.out.below (B := w.heap.size) (fun k hk e => by have := HG.out; omega) (Nat.le_trans B1.out.size E1.out.size)))
  obtain ⟨b0, hb0⟩ : ∃ b0, b0 = V.heap.size := ⟨_, rfl⟩
  have GV := Lib.hid (show b0 = g + 3 from hb0.trans SZ.out)
  rw [← hb0] at T1
  have TV := Lib.hid (T1.out.turn ET.out (fun k hk _ e => by have := GV.out; omega))
  have LV := Lib.hid (show b0 ≤ (W1.setCells g 0 (trc x s1).toList).heap.size from by rw [hb0]; exact Nat.le_trans E1.out.size ET.out.size)
  clear hb0 X1 Z1 M1 B1 H1 SZ T1 E1 XX ET
  generalize W1.setCells g 0 (trc x s1).toList = WV at XV ZV MV BV TV LV ⊢
  go_upto_region 4 with (first
    | (refine wpList_load_row rfl 30 (.tmp 2) rfl g rfl 30 (trc x s1) (0, 0) _ XV.out Try.underlying30 rfl (tr_info _ _) ?_)
    | (refine wpList_load_row rfl 42 (.tmp 3) rfl (g + 1) rfl 42 (mc m) (0, 0) _ MV.out Try.underlying42 rfl HI.out ?_)
    | (go_at_call 35; refine (isOf_b x s1 m HL.out _ (own_ints WV 3 [7] (B := 0) (n := 1) (Nat.zero_le _) rfl (by simp)) (by simp) true HF.out).mono ?_; rintro e W2 ⟨rfl, hb1⟩; have hb2 : Below WV.heap.size WV W2 := (Joins.below_alloc1 WV _).trans (hb1.mono (by simp)); clear hb1; have XV := Lib.hid (XV.out.here hb2); have ZV := Lib.hid (ZV.out.here hb2); have MV := Lib.hid (MV.out.here hb2); have TV := Lib.hid (TV.out.step hb2); have BV := Lib.hid (stepB BV.out hb2); have LV := Lib.hid (Nat.le_trans LV.out hb2.size); clear hb2))
  generalize W2 = WV at XV ZV MV TV BV LV ⊢
  go_upto_region 5 with (first
    | (refine wpList_load_row rfl 30 (.tmp 2) rfl g rfl 30 (trc x s1) (0, 0) _ XV.out Try.underlying30 rfl (tr_info _ _) ?_)
    | (go_at_call 10; refine (decided_b x s1 _ false HD.out).mono ?_; rintro e W2 ⟨rfl, hb2⟩; have XV := Lib.hid (XV.out.here hb2); have ZV := Lib.hid (ZV.out.here hb2); have MV := Lib.hid (MV.out.here hb2); have TV := Lib.hid (TV.out.step hb2); have BV := Lib.hid (stepB BV.out hb2); have LV := Lib.hid (Nat.le_trans LV.out hb2.size); clear hb2))
  generalize W2 = WV at XV ZV MV TV BV LV ⊢
  go_wp2_with (first
    | (refine wpList_load_row rfl 30 (.tmp 2) rfl g rfl 30 (trc x s1) (0, 0) _ XV.out Try.underlying30 rfl (tr_info _ _) ?_)
    | (refine wpList_store_mid (op := { dst := none, op := .store 30 (.tmp 4) (.tmp 20), type := 0, pos := _, after := _, guard := none }) (by rfl) 30 (.tmp 4) (.tmp 20) (by rfl) (g + 2) 0 (trc x s1) (by rfl) (by rfl) (ZV.out.there (Nat.le_refl 13)) (tr_info _ _) TV.out.one ?_))
  exact bodyPost_ret (v := .tuple #[.agg (trc x s1), errno 11]) (results_cell_and rfl rfl rfl (tr_load (ZV.out.put (trc x s1) rfl))) rfl ⟨s1, rfl, (Tm.turn TV.out (Turn.setCells (S := fun k => k = g + 2) (fun _ => rfl) _ _ _ (Turn.refl _ _)) (fun k hk _ e => by have := GV.out; omega)).less (Nat.zero_le _), Below.setCells (by have := HG.out; omega) _ _ _ BV.out⟩
set_option maxRecDepth 100000 in
set_option maxHeartbeats 8000000 in
theorem ack_10 {B : Nat} (x : Tr) (s : Sl) (m : List Int) (w : World) (h : Tm w B x s) (hs : Short x) (hm : m.length = 28) (hf : isOf x m [7] = true) (hd : decided x = true) (hc : x.tch.contains (fld m 1) = false) :
    Calls Try.prog 22 #[.agg (trc x s), .agg (mc m)] w (Post2 w (x, [], 10)) := by
  have X1 := Lib.hid (((Blk.new w 30 (trc x s)).alloc (.cells (mc m) 42)).alloc (.cells zTr 30))
  have M1 := Lib.hid ((Blk.new_at (w := w.alloc (.cells (trc x s) 30)) (n := w.heap.size + 1) (by simp) 42 (mc m)).alloc (.cells zTr 30))
  have Z1 := Lib.hid (Blk.new_at (w := (w.alloc (.cells (trc x s) 30)).alloc (.cells (mc m) 42)) (n := w.heap.size + 2) (by simp) 30 zTr)
  have B1 := Lib.hid (((Joins.below_alloc1 w (.cells (trc x s) 30)).alloc (by simp <;> omega) (.cells (mc m) 42)).alloc (by simp <;> omega) (.cells zTr 30))
  have SZ := Lib.hid (show (((w.alloc (.cells (trc x s) 30)).alloc (.cells (mc m) 42)).alloc (.cells zTr 30)).heap.size = w.heap.size + 3 from by simp)
  have H1 := Lib.hid (h.step B1.out)
  have HS := Lib.hid hs
  have HL := Lib.hid hm
  have HI := Lib.hid (mc_info hm)
  have HF := Lib.hid hf
  have HD := Lib.hid hd
  have HC := Lib.hid hc
  clear hf hd hc
  clear h hs hm
  go_enter Try.func22, Try.ntmps22
  go_upto_region 1 with fail
  obtain ⟨g, hg⟩ : ∃ g, g = w.heap.size := ⟨_, rfl⟩
  have HG := Lib.hid hg
  rw [← hg] at X1 M1 Z1 SZ ⊢
  clear hg
  generalize ((w.alloc (.cells (trc x s) 30)).alloc (.cells (mc m) 42)).alloc (.cells zTr 30) = V at X1 M1 Z1 B1 H1 SZ ⊢
  go_upto_region 2 with (first
    | (refine wpList_load_row rfl 30 (.tmp 2) rfl g rfl 30 (trc x s) (0, 0) _ X1.out Try.underlying30 rfl (tr_info _ _) ?_)
    | (go_at_call 31; refine (own_any x s _ H1.out HS.out).mono ?_; rintro e W1 ⟨s1, rfl, ht, hn, hb⟩; have T1 := Lib.hid ht; have N1 := Lib.hid hn; have E1 := Lib.hid hb; have XX := Lib.hid (X1.out.here hb); clear ht hn hb)
    | (refine wpList_store_mid (by rfl) 30 (.tmp 2) (.tmp 7) (by rfl) g 0 (trc x s1) (by rfl) (by rfl) (XX.out.there (Nat.le_refl 13)) (tr_info _ _) T1.out.one ?_))
  have ET := Lib.hid (show Turn (fun k => k = g) W1 (W1.setCells g 0 (trc x s1).toList) from Turn.setCells (S := fun k => k = g) (fun _ => rfl) _ _ _ (Turn.refl _ _))
  have XV := Lib.hid (show Blk (W1.setCells g 0 (trc x s1).toList) g 30 (trc x s1) from XX.out.put (trc x s1) rfl)
  have ZV := Lib.hid ((Z1.out.here E1.out).turn ET.out (by omega))
  have MV := Lib.hid ((M1.out.here E1.out).turn ET.out (by omega))
  have BV := Lib.hid ((B1.out.trans (E1.out.mono B1.out.size)).trans (ET.out.below (B := w.heap.size) (fun k hk e => by have := HG.out; omega) (Nat.le_trans B1.out.size E1.out.size)))
  obtain ⟨b0, hb0⟩ : ∃ b0, b0 = V.heap.size := ⟨_, rfl⟩
  have GV := Lib.hid (show b0 = g + 3 from hb0.trans SZ.out)
  rw [← hb0] at T1
  have TV := Lib.hid (T1.out.turn ET.out (fun k hk _ e => by have := GV.out; omega))
  have LV := Lib.hid (show b0 ≤ (W1.setCells g 0 (trc x s1).toList).heap.size from by rw [hb0]; exact Nat.le_trans E1.out.size ET.out.size)
  clear hb0 X1 Z1 M1 B1 H1 SZ T1 E1 XX ET
  generalize W1.setCells g 0 (trc x s1).toList = WV at XV ZV MV BV TV LV ⊢
  go_upto_region 4 with (first
    | (refine wpList_load_row rfl 30 (.tmp 2) rfl g rfl 30 (trc x s1) (0, 0) _ XV.out Try.underlying30 rfl (tr_info _ _) ?_)
    | (refine wpList_load_row rfl 42 (.tmp 3) rfl (g + 1) rfl 42 (mc m) (0, 0) _ MV.out Try.underlying42 rfl HI.out ?_)
    | (go_at_call 35; refine (isOf_b x s1 m HL.out _ (own_ints WV 3 [7] (B := 0) (n := 1) (Nat.zero_le _) rfl (by simp)) (by simp) true HF.out).mono ?_; rintro e W2 ⟨rfl, hb1⟩; have hb2 : Below WV.heap.size WV W2 := (Joins.below_alloc1 WV _).trans (hb1.mono (by simp)); clear hb1; have XV := Lib.hid (XV.out.here hb2); have ZV := Lib.hid (ZV.out.here hb2); have MV := Lib.hid (MV.out.here hb2); have TV := Lib.hid (TV.out.step hb2); have BV := Lib.hid (stepB BV.out hb2); have LV := Lib.hid (Nat.le_trans LV.out hb2.size); clear hb2))
  generalize W2 = WV at XV ZV MV TV BV LV ⊢
  go_upto_region 6 with (first
    | (refine wpList_load_row rfl 30 (.tmp 2) rfl g rfl 30 (trc x s1) (0, 0) _ XV.out Try.underlying30 rfl (tr_info _ _) ?_)
    | (go_at_call 10; refine (decided_b x s1 _ true HD.out).mono ?_; rintro e W2 ⟨rfl, hb2⟩; have XV := Lib.hid (XV.out.here hb2); have ZV := Lib.hid (ZV.out.here hb2); have MV := Lib.hid (MV.out.here hb2); have TV := Lib.hid (TV.out.step hb2); have BV := Lib.hid (stepB BV.out hb2); have LV := Lib.hid (Nat.le_trans LV.out hb2.size); clear hb2))
  generalize W2 = WV at XV ZV MV TV BV LV ⊢
  have c9 : WV.cell? ⟨g, 9, none⟩ = some s1.t := XV.out.cell 9
  have m1 := mc_cell HL.out MV.out (i := 1) (by omega)
  go_wp2_with (first
    | (go_at_call 38; refine (contG _ _ TV.out.t (by have := HS.out.t; omega) false HC.out).mono ?_; rintro e w' ⟨rfl, rfl⟩)
    | (refine wpList_load_row rfl 30 (.tmp 2) rfl g rfl 30 (trc x s1) (0, 0) _ XV.out Try.underlying30 rfl (tr_info _ _) ?_)
    | (refine wpList_store_mid (op := { dst := none, op := .store 30 (.tmp 4) (.tmp 29), type := 0, pos := _, after := _, guard := none }) (by rfl) 30 (.tmp 4) (.tmp 29) (by rfl) (g + 2) 0 (trc x s1) (by rfl) (by rfl) (ZV.out.there (Nat.le_refl 13)) (tr_info _ _) TV.out.one ?_))
  exact bodyPost_ret (v := .tuple #[.agg (trc x s1), errno 10]) (results_cell_and rfl rfl rfl (tr_load (ZV.out.put (trc x s1) rfl))) rfl ⟨s1, rfl, (Tm.turn TV.out (Turn.setCells (S := fun k => k = g + 2) (fun _ => rfl) _ _ _ (Turn.refl _ _)) (fun k hk _ e => by have := GV.out; omega)).less (Nat.zero_le _), Below.setCells (by have := HG.out; omega) _ _ _ BV.out⟩
set_option maxRecDepth 100000 in
set_option maxHeartbeats 8000000 in
theorem ack_0 {B : Nat} (x : Tr) (s : Sl) (m : List Int) (w : World) (h : Tm w B x s) (hs : Short x) (hm : m.length = 28) (hf : isOf x m [7] = true) (hd : decided x = true) (hc : x.tch.contains (fld m 1) = true) (ha : Shs x.acks) (fr : Int) (hfr : fld m 1 = fr) :
    Calls Try.prog 22 #[.agg (trc x s), .agg (mc m)] w (Post2 w (ackX x fr, [], 0)) := by
  have X1 := Lib.hid (((Blk.new w 30 (trc x s)).alloc (.cells (mc m) 42)).alloc (.cells zTr 30))
  have M1 := Lib.hid ((Blk.new_at (w := w.alloc (.cells (trc x s) 30)) (n := w.heap.size + 1) (by simp) 42 (mc m)).alloc (.cells zTr 30))
  have Z1 := Lib.hid (Blk.new_at (w := (w.alloc (.cells (trc x s) 30)).alloc (.cells (mc m) 42)) (n := w.heap.size + 2) (by simp) 30 zTr)
  have B1 := Lib.hid (((Joins.below_alloc1 w (.cells (trc x s) 30)).alloc (by simp <;> omega) (.cells (mc m) 42)).alloc (by simp <;> omega) (.cells zTr 30))
  have SZ := Lib.hid (show (((w.alloc (.cells (trc x s) 30)).alloc (.cells (mc m) 42)).alloc (.cells zTr 30)).heap.size = w.heap.size + 3 from by simp)
  have H1 := Lib.hid (h.step B1.out)
  have HS := Lib.hid hs
  have HL := Lib.hid hm
  have HI := Lib.hid (mc_info hm)
  have HF := Lib.hid hf
  have HD := Lib.hid hd
  have HC := Lib.hid hc
  have HW := Lib.hid ha
  have HN1 := Lib.hid hfr
  clear hf hd hc ha hfr
  clear h hs hm
  go_enter Try.func22, Try.ntmps22
  go_upto_region 1 with fail
  obtain ⟨g, hg⟩ : ∃ g, g = w.heap.size := ⟨_, rfl⟩
  have HG := Lib.hid hg
  rw [← hg] at X1 M1 Z1 SZ ⊢
  clear hg
  generalize ((w.alloc (.cells (trc x s) 30)).alloc (.cells (mc m) 42)).alloc (.cells zTr 30) = V at X1 M1 Z1 B1 H1 SZ ⊢
  go_upto_region 2 with (first
    | (refine wpList_load_row rfl 30 (.tmp 2) rfl g rfl 30 (trc x s) (0, 0) _ X1.out Try.underlying30 rfl (tr_info _ _) ?_)
    | (go_at_call 31; refine (own_any x s _ H1.out HS.out).mono ?_; rintro e W1 ⟨s1, rfl, ht, hn, hb⟩; have T1 := Lib.hid ht; have N1 := Lib.hid hn; have E1 := Lib.hid hb; have XX := Lib.hid (X1.out.here hb); clear ht hn hb)
    | (refine wpList_store_mid (by rfl) 30 (.tmp 2) (.tmp 7) (by rfl) g 0 (trc x s1) (by rfl) (by rfl) (XX.out.there (Nat.le_refl 13)) (tr_info _ _) T1.out.one ?_))
  have ET := Lib.hid (show Turn (fun k => k = g) W1 (W1.setCells g 0 (trc x s1).toList) from Turn.setCells (S := fun k => k = g) (fun _ => rfl) _ _ _ (Turn.refl _ _))
  have XV := Lib.hid (show Blk (W1.setCells g 0 (trc x s1).toList) g 30 (trc x s1) from XX.out.put (trc x s1) rfl)
  have ZV := Lib.hid ((Z1.out.here E1.out).turn ET.out (by omega))
  have MV := Lib.hid ((M1.out.here E1.out).turn ET.out (by omega))
  have BV := Lib.hid ((B1.out.trans (E1.out.mono B1.out.size)).trans (ET.out.below (B := w.heap.size) (fun k hk e => by have := HG.out; omega) (Nat.le_trans B1.out.size E1.out.size)))
  obtain ⟨b0, hb0⟩ : ∃ b0, b0 = V.heap.size := ⟨_, rfl⟩
  have GV := Lib.hid (show b0 = g + 3 from hb0.trans SZ.out)
  rw [← hb0] at T1
  have TV := Lib.hid (T1.out.turn ET.out (fun k hk _ e => by have := GV.out; omega))
  have LV := Lib.hid (show b0 ≤ (W1.setCells g 0 (trc x s1).toList).heap.size from by rw [hb0]; exact Nat.le_trans E1.out.size ET.out.size)
  clear hb0 X1 Z1 M1 B1 H1 SZ T1 E1 XX ET
  generalize W1.setCells g 0 (trc x s1).toList = WV at XV ZV MV BV TV LV ⊢
  go_upto_region 4 with (first
    | (refine wpList_load_row rfl 30 (.tmp 2) rfl g rfl 30 (trc x s1) (0, 0) _ XV.out Try.underlying30 rfl (tr_info _ _) ?_)
    | (refine wpList_load_row rfl 42 (.tmp 3) rfl (g + 1) rfl 42 (mc m) (0, 0) _ MV.out Try.underlying42 rfl HI.out ?_)
    | (go_at_call 35; refine (isOf_b x s1 m HL.out _ (own_ints WV 3 [7] (B := 0) (n := 1) (Nat.zero_le _) rfl (by simp)) (by simp) true HF.out).mono ?_; rintro e W2 ⟨rfl, hb1⟩; have hb2 : Below WV.heap.size WV W2 := (Joins.below_alloc1 WV _).trans (hb1.mono (by simp)); clear hb1; have XV := Lib.hid (XV.out.here hb2); have ZV := Lib.hid (ZV.out.here hb2); have MV := Lib.hid (MV.out.here hb2); have TV := Lib.hid (TV.out.step hb2); have BV := Lib.hid (stepB BV.out hb2); have LV := Lib.hid (Nat.le_trans LV.out hb2.size); clear hb2))
  generalize W2 = WV at XV ZV MV TV BV LV ⊢
  go_upto_region 6 with (first
    | (refine wpList_load_row rfl 30 (.tmp 2) rfl g rfl 30 (trc x s1) (0, 0) _ XV.out Try.underlying30 rfl (tr_info _ _) ?_)
    | (go_at_call 10; refine (decided_b x s1 _ true HD.out).mono ?_; rintro e W2 ⟨rfl, hb2⟩; have XV := Lib.hid (XV.out.here hb2); have ZV := Lib.hid (ZV.out.here hb2); have MV := Lib.hid (MV.out.here hb2); have TV := Lib.hid (TV.out.step hb2); have BV := Lib.hid (stepB BV.out hb2); have LV := Lib.hid (Nat.le_trans LV.out hb2.size); clear hb2))
  generalize W2 = WV at XV ZV MV TV BV LV ⊢
  have c9 : WV.cell? ⟨g, 9, none⟩ = some s1.t := XV.out.cell 9
  have hmv := MV.out.lt
  have hzv := ZV.out.lt
  have hxv := XV.out.lt
  have cf : WV.cell? ⟨g, 11, none⟩ = some s1.k := XV.out.cell 11
  have m1 := mc_cell HL.out MV.out (i := 1) (by omega)
  rw [HN1.out] at m1 HC
  go_upto_region 9 with (first
    | (go_at_call 38; refine (contG _ _ TV.out.t (by have := HS.out.t; omega) true HC.out).mono ?_; rintro e w' ⟨rfl, rfl⟩)
    | (go_at_call 34; refine (with_any _ _ TV.out.k HW.out.ris LV.out (by have := HW.out.len; omega)).mono ?_; rintro e W3 ⟨v', rfl, hv, ht, hq⟩; obtain ⟨A', c', rfl⟩ := own_len hv; have V3 := Lib.hid hv; have T3 := Lib.hid ht; have k9 : W3.cell? ⟨g, 11, none⟩ = some s1.k := (XV.out.turn ht (fun e => by have := own_ge TV.out.k e; have := GV.out; omega)).cell 11; have k9f := (XV.out.turn ht (fun e => by have := own_ge TV.out.k e; have := GV.out; omega)).frozen 11; clear hv ht hq cf))
  have hne : ¬ s1.k.ownBlock = some g := fun e => by have := own_ge TV.out.k e; have := GV.out; omega
  have hne1 : ¬ s1.k.ownBlock = some (g + 1) := fun e => by have := own_ge TV.out.k e; have := GV.out; omega
  have hne2 : ¬ s1.k.ownBlock = some (g + 2) := fun e => by have := own_ge TV.out.k e; have := GV.out; omega
  have EZ := Lib.hid (show Turn (fun k => k = g) W3 (W3.setCell ⟨g, 11, none⟩ (.slice A' (ins fr x.acks).length c')) from (Turn.refl (fun k => k = g) W3).setCell (p := ⟨g, 11, none⟩) (fun _ => rfl) _)
  have XZ := Lib.hid (show Blk (W3.setCell ⟨g, 11, none⟩ (.slice A' (ins fr x.acks).length c')) g 30 (trc (ackX x fr) ⟨s1.t, s1.v, .slice A' (ins fr x.acks).length c', s1.g⟩) from (XV.out.turn T3.out hne).set_ 11 _)
  have TZ := Lib.hid (show Tm (W3.setCell ⟨g, 11, none⟩ (.slice A' (ins fr x.acks).length c')) b0 (ackX x fr) ⟨s1.t, s1.v, .slice A' (ins fr x.acks).length c', s1.g⟩ from
    have h := (TV.out.putK N1.out V3.out T3.out).turn EZ.out (fun k hk _ e => by have := GV.out; omega); ⟨h.t, h.v, h.k, h.g⟩)
  have ZZ := Lib.hid ((ZV.out.turn T3.out hne2).turn EZ.out (by omega))
  have MZ := Lib.hid ((MV.out.turn T3.out hne1).turn EZ.out (by omega))
  have BZ := Lib.hid ((BV.out.trans (T3.out.below (B := w.heap.size) (fun k hk e => by have := own_ge TV.out.k e; have := GV.out; have := HG.out; omega) BV.out.size)).trans (EZ.out.below (B := w.heap.size) (fun k hk e => by have := HG.out; omega) (Nat.le_trans BV.out.size T3.out.size)))
  have LZ := Lib.hid (Nat.le_trans (Nat.le_trans LV.out T3.out.size) EZ.out.size)
  clear k9 k9f XV ZV MV TV BV LV T3 V3 EZ hne hne1 hne2 hmv hzv hxv
  generalize W3.setCell ⟨g, 11, none⟩ (.slice A' (ins fr x.acks).length c') = WZ at XZ ZZ MZ TZ BZ LZ ⊢
  generalize hs2 : (⟨s1.t, s1.v, .slice A' (ins fr x.acks).length c', s1.g⟩ : Sl) = s2 at XZ TZ
  clear hs2
  go_wp2_with (first
    | (refine wpList_load_row rfl 30 (.tmp 2) rfl g rfl 30 (trc (ackX x fr) s2) (0, 0) _ XZ.out Try.underlying30 rfl (tr_info _ _) ?_)
    | (refine wpList_store_mid (op := { dst := none, op := .store 30 (.tmp 4) (.tmp 37), type := 0, pos := _, after := _, guard := none }) (by rfl) 30 (.tmp 4) (.tmp 37) (by rfl) (g + 2) 0 (trc (ackX x fr) s2) (by rfl) (by rfl) (ZZ.out.there (Nat.le_refl 13)) (tr_info _ _) TZ.out.one ?_))
  exact bodyPost_ret (v := .tuple #[.agg (trc (ackX x fr) s2), .nilIface]) (results_cell_and rfl rfl rfl (tr_load (ZZ.out.put (trc (ackX x fr) s2) rfl))) rfl ⟨s2, rfl, (Tm.turn TZ.out (Turn.setCells (S := fun k => k = g + 2) (fun _ => rfl) _ _ _ (Turn.refl _ _)) (fun k hk _ e => by have := GV.out; omega)).less (Nat.zero_le _), Below.setCells (by have := HG.out; omega) _ _ _ BZ.out⟩
theorem ack_any {B : Nat} (x : Tr) (s : Sl) (m : List Int) (w : World) (h : Tm w B x s) (hs : Short x) (hm : m.length = 28) (ha : Shs x.acks) : Calls Try.prog 22 #[.agg (trc x s), .agg (mc m)] w (Post2 w (ackL x m)) := by
  unfold ackL
  cases hf : isOf x m [7] with
  | false => rw [if_pos rfl]; exact ack_5 x s m w h hs hm hf
  | true =>
    rw [if_neg (by simp)]
    cases hd : decided x with
    | false => rw [if_pos rfl]; exact ack_11 x s m w h hs hm hf hd
    | true =>
      rw [if_neg (by simp)]
      cases hc : x.tch.contains (fld m 1) with
      | false => rw [if_pos rfl]; exact ack_10 x s m w h hs hm hf hd hc
      | true => rw [if_neg (by simp)]; exact ack_0 x s m w h hs hm hf hd hc ha _ rfl
end Go.Proofs.Ytopjkidekbfalaa
