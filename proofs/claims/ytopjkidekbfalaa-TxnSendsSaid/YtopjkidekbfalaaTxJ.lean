/- A transaction is over; Abort; Finish. -/
import Derived.Test.YtopjkidekbfalaaTxI
import Derived.Test.YtopjkidekbfalaaErrV
namespace Go.Proofs.Ytopjkidekbfalaa
open Go.RowKit
set_option linter.unusedVariables false
set_option linter.unusedSimpArgs false

/-- What a call makes of a transaction: it, what is sent, the error. -/
def Post3 (w : World) (y : Res3) (e : Ending) (w' : World) : Prop := ∃ s' u, e = .returned (.tuple #[.agg (trc y.1 s'), u, errV y.2.2]) ∧ Tm w' 0 y.1 s' ∧ MsgR w' w.heap.size u y.2.1 ∧ Below w.heap.size w w'
def Post2 (w : World) (y : Res3) (e : Ending) (w' : World) : Prop := ∃ s', e = .returned (.tuple #[.agg (trc y.1 s'), errV y.2.2]) ∧ Tm w' 0 y.1 s' ∧ Below w.heap.size w w'
theorem decided_b (x : Tr) (s : Sl) (w : World) (d : Bool) (hd : decided x = d) : Calls Try.prog 10 #[.agg (trc x s)] w fun e w' => e = .returned (.bool d) ∧ Below w.heap.size w w' := by rw [← hd]; exact decided_any x s w
set_option maxRecDepth 100000 in
set_option maxHeartbeats 8000000 in
theorem abort_1a {B : Nat} (x : Tr) (s : Sl) (r : Int) (w : World) (h : Tm w B x s) (hs : Short x) (h0 : r < 1) :
    Calls Try.prog 16 #[.agg (trc x s), .int .i64 r] w (Post3 w (x, [], 1)) := by
  have X1 := Lib.hid ((Blk.new w 30 (trc x s)).alloc (.cells zTr 30))
  have Z1 := Lib.hid (Blk.new_at (w := w.alloc (.cells (trc x s) 30)) (n := w.heap.size + 1) (by simp) 30 zTr)
  have B1 := Lib.hid ((Joins.below_alloc1 w (.cells (trc x s) 30)).alloc (by simp <;> omega) (.cells zTr 30))
  have SZ := Lib.hid (show ((w.alloc (.cells (trc x s) 30)).alloc (.cells zTr 30)).heap.size = w.heap.size + 2 from by simp)
  have H1 := Lib.hid (h.step B1.out)
  have HS := Lib.hid hs
  have d0 : decide (r < 1) = true := by simpa using h0
  clear h0
  clear h hs
  go_enter Try.func16, Try.ntmps16
  go_upto_region 1 with fail
  obtain ⟨g, hg⟩ : ∃ g, g = w.heap.size := ⟨_, rfl⟩
  have HG := Lib.hid hg
  rw [← hg] at X1 Z1 SZ ⊢
  clear hg
  generalize (w.alloc (.cells (trc x s) 30)).alloc (.cells zTr 30) = V at X1 Z1 B1 H1 SZ ⊢
  go_upto_region 2 with (first
    | (refine wpList_load_row rfl 30 (.tmp 2) rfl g rfl 30 (trc x s) (0, 0) _ X1.out Try.underlying30 rfl (tr_info _ _) ?_)
    | (go_at_call 31; refine (own_any x s _ H1.out HS.out).mono ?_; rintro e W1 ⟨s1, rfl, ht, hn, hb⟩; have T1 := Lib.hid ht; have N1 := Lib.hid hn; have E1 := Lib.hid hb; have XX := Lib.hid (X1.out.here hb); clear ht hn hb)
    | (refine wpList_store_mid (by rfl) 30 (.tmp 2) (.tmp 8) (by rfl) g 0 (trc x s1) (by rfl) (by rfl) (XX.out.there (Nat.le_refl 13)) (tr_info _ _) T1.out.one ?_))
  have ET := Lib.hid (show Turn (fun k => k = g) W1 (W1.setCells g 0 (trc x s1).toList) from Turn.setCells (S := fun k => k = g) (fun _ => rfl) _ _ _ (Turn.refl _ _))
  have XV := Lib.hid (show Blk (W1.setCells g 0 (trc x s1).toList) g 30 (trc x s1) from XX.out.put (trc x s1) rfl)
  have ZV := Lib.hid ((Z1.out.here E1.out).turn ET.out (by omega))
  have BV := Lib.hid ((B1.out.trans (E1.out.mono B1.out.size)).trans (ET.out.below (B := w.heap.size) (fun k hk e => by have := HG.out; omega) (Nat.le_trans B1.out.size E1.out.size)))
  obtain ⟨b0, hb0⟩ : ∃ b0, b0 = V.heap.size := ⟨_, rfl⟩
  have GV := Lib.hid (show b0 = g + 2 from hb0.trans SZ.out)
  rw [← hb0] at T1
  have TV := Lib.hid (T1.out.turn ET.out (fun k hk _ e => by have := GV.out; omega))
  have LV := Lib.hid (show b0 ≤ (W1.setCells g 0 (trc x s1).toList).heap.size from by rw [hb0]; exact Nat.le_trans E1.out.size ET.out.size)
  clear hb0 X1 Z1 B1 H1 SZ T1 E1 XX ET
  generalize W1.setCells g 0 (trc x s1).toList = WV at XV ZV BV TV LV ⊢
  go_wp2_with (first
    | (refine wpList_load_row rfl 30 (.tmp 2) rfl g rfl 30 (trc x s1) (0, 0) _ XV.out Try.underlying30 rfl (tr_info _ _) ?_)
    | (refine wpList_store_mid (by rfl) 30 (.tmp 4) (.tmp 16) (by rfl) (g + 1) 0 (trc x s1) (by rfl) (by rfl) (ZV.out.there (Nat.le_refl 13)) (tr_info _ _) TV.out.one ?_))
  exact bodyPost_ret (v := .tuple #[.agg (trc x s1), .slice none 0 0, errno 1]) (results_and2 rfl rfl rfl rfl (tr_load (ZV.out.put (trc x s1) rfl))) rfl ⟨s1, _, rfl, (Tm.turn TV.out (Turn.setCells (S := fun k => k = g + 1) (fun _ => rfl) _ _ _ (Turn.refl _ _)) (fun k hk _ e => by have := GV.out; omega)).less (Nat.zero_le _), World.ownsRow_nil _ _ _ _, Below.setCells (by have := HG.out; omega) _ _ _ BV.out⟩
set_option maxRecDepth 100000 in
set_option maxHeartbeats 8000000 in
theorem abort_1b {B : Nat} (x : Tr) (s : Sl) (r : Int) (w : World) (h : Tm w B x s) (hs : Short x) (h0 : ¬ r < 1) (h5 : 5 < r) :
    Calls Try.prog 16 #[.agg (trc x s), .int .i64 r] w (Post3 w (x, [], 1)) := by
  have X1 := Lib.hid ((Blk.new w 30 (trc x s)).alloc (.cells zTr 30))
  have Z1 := Lib.hid (Blk.new_at (w := w.alloc (.cells (trc x s) 30)) (n := w.heap.size + 1) (by simp) 30 zTr)
  have B1 := Lib.hid ((Joins.below_alloc1 w (.cells (trc x s) 30)).alloc (by simp <;> omega) (.cells zTr 30))
  have SZ := Lib.hid (show ((w.alloc (.cells (trc x s) 30)).alloc (.cells zTr 30)).heap.size = w.heap.size + 2 from by simp)
  have H1 := Lib.hid (h.step B1.out)
  have HS := Lib.hid hs
  have d0 : decide (r < 1) = false := by simpa using h0
  have d5 : decide (5 < r) = true := by simpa using h5
  clear h0 h5
  clear h hs
  go_enter Try.func16, Try.ntmps16
  go_upto_region 1 with fail
  obtain ⟨g, hg⟩ : ∃ g, g = w.heap.size := ⟨_, rfl⟩
  have HG := Lib.hid hg
  rw [← hg] at X1 Z1 SZ ⊢
  clear hg
  generalize (w.alloc (.cells (trc x s) 30)).alloc (.cells zTr 30) = V at X1 Z1 B1 H1 SZ ⊢
  go_upto_region 2 with (first
    | (refine wpList_load_row rfl 30 (.tmp 2) rfl g rfl 30 (trc x s) (0, 0) _ X1.out Try.underlying30 rfl (tr_info _ _) ?_)
    | (go_at_call 31; refine (own_any x s _ H1.out HS.out).mono ?_; rintro e W1 ⟨s1, rfl, ht, hn, hb⟩; have T1 := Lib.hid ht; have N1 := Lib.hid hn; have E1 := Lib.hid hb; have XX := Lib.hid (X1.out.here hb); clear ht hn hb)
    | (refine wpList_store_mid (by rfl) 30 (.tmp 2) (.tmp 8) (by rfl) g 0 (trc x s1) (by rfl) (by rfl) (XX.out.there (Nat.le_refl 13)) (tr_info _ _) T1.out.one ?_))
  have ET := Lib.hid (show Turn (fun k => k = g) W1 (W1.setCells g 0 (trc x s1).toList) from Turn.setCells (S := fun k => k = g) (fun _ => rfl) _ _ _ (Turn.refl _ _))
  have XV := Lib.hid (show Blk (W1.setCells g 0 (trc x s1).toList) g 30 (trc x s1) from XX.out.put (trc x s1) rfl)
  have ZV := Lib.hid ((Z1.out.here E1.out).turn ET.out (by omega))
  have BV := Lib.hid ((B1.out.trans (E1.out.mono B1.out.size)).trans (ET.out.below (B := w.heap.size) (fun k hk e => by have := HG.out; omega) (Nat.le_trans B1.out.size E1.out.size)))
  obtain ⟨b0, hb0⟩ : ∃ b0, b0 = V.heap.size := ⟨_, rfl⟩
  have GV := Lib.hid (show b0 = g + 2 from hb0.trans SZ.out)
  rw [← hb0] at T1
  have TV := Lib.hid (T1.out.turn ET.out (fun k hk _ e => by have := GV.out; omega))
  have LV := Lib.hid (show b0 ≤ (W1.setCells g 0 (trc x s1).toList).heap.size from by rw [hb0]; exact Nat.le_trans E1.out.size ET.out.size)
  clear hb0 X1 Z1 B1 H1 SZ T1 E1 XX ET
  generalize W1.setCells g 0 (trc x s1).toList = WV at XV ZV BV TV LV ⊢
  go_wp2_with (first
    | (refine wpList_load_row rfl 30 (.tmp 2) rfl g rfl 30 (trc x s1) (0, 0) _ XV.out Try.underlying30 rfl (tr_info _ _) ?_)
    | (refine wpList_store_mid (by rfl) 30 (.tmp 4) (.tmp 16) (by rfl) (g + 1) 0 (trc x s1) (by rfl) (by rfl) (ZV.out.there (Nat.le_refl 13)) (tr_info _ _) TV.out.one ?_))
  exact bodyPost_ret (v := .tuple #[.agg (trc x s1), .slice none 0 0, errno 1]) (results_and2 rfl rfl rfl rfl (tr_load (ZV.out.put (trc x s1) rfl))) rfl ⟨s1, _, rfl, (Tm.turn TV.out (Turn.setCells (S := fun k => k = g + 1) (fun _ => rfl) _ _ _ (Turn.refl _ _)) (fun k hk _ e => by have := GV.out; omega)).less (Nat.zero_le _), World.ownsRow_nil _ _ _ _, Below.setCells (by have := HG.out; omega) _ _ _ BV.out⟩
set_option maxRecDepth 100000 in
set_option maxHeartbeats 8000000 in
theorem abort_15 {B : Nat} (x : Tr) (s : Sl) (r : Int) (w : World) (h : Tm w B x s) (hs : Short x) (h0 : ¬ r < 1) (h5 : ¬ 5 < r) (hd : decided x = true) :
    Calls Try.prog 16 #[.agg (trc x s), .int .i64 r] w (Post3 w (x, [], 15)) := by
  have X1 := Lib.hid ((Blk.new w 30 (trc x s)).alloc (.cells zTr 30))
  have Z1 := Lib.hid (Blk.new_at (w := w.alloc (.cells (trc x s) 30)) (n := w.heap.size + 1) (by simp) 30 zTr)
  have B1 := Lib.hid ((Joins.below_alloc1 w (.cells (trc x s) 30)).alloc (by simp <;> omega) (.cells zTr 30))
  have SZ := Lib.hid (show ((w.alloc (.cells (trc x s) 30)).alloc (.cells zTr 30)).heap.size = w.heap.size + 2 from by simp)
  have H1 := Lib.hid (h.step B1.out)
  have HS := Lib.hid hs
  have d0 : decide (r < 1) = false := by simpa using h0
  have d5 : decide (5 < r) = false := by simpa using h5
  have HD := Lib.hid hd
  clear h0 h5 hd
  clear h hs
  go_enter Try.func16, Try.ntmps16
  go_upto_region 1 with fail
  obtain ⟨g, hg⟩ : ∃ g, g = w.heap.size := ⟨_, rfl⟩
  have HG := Lib.hid hg
  rw [← hg] at X1 Z1 SZ ⊢
  clear hg
  generalize (w.alloc (.cells (trc x s) 30)).alloc (.cells zTr 30) = V at X1 Z1 B1 H1 SZ ⊢
  go_upto_region 2 with (first
    | (refine wpList_load_row rfl 30 (.tmp 2) rfl g rfl 30 (trc x s) (0, 0) _ X1.out Try.underlying30 rfl (tr_info _ _) ?_)
    | (go_at_call 31; refine (own_any x s _ H1.out HS.out).mono ?_; rintro e W1 ⟨s1, rfl, ht, hn, hb⟩; have T1 := Lib.hid ht; have N1 := Lib.hid hn; have E1 := Lib.hid hb; have XX := Lib.hid (X1.out.here hb); clear ht hn hb)
    | (refine wpList_store_mid (by rfl) 30 (.tmp 2) (.tmp 8) (by rfl) g 0 (trc x s1) (by rfl) (by rfl) (XX.out.there (Nat.le_refl 13)) (tr_info _ _) T1.out.one ?_))
  have ET := Lib.hid (show Turn (fun k => k = g) W1 (W1.setCells g 0 (trc x s1).toList) from Turn.setCells (S := fun k => k = g) (fun _ => rfl) _ _ _ (Turn.refl _ _))
  have XV := Lib.hid (show Blk (W1.setCells g 0 (trc x s1).toList) g 30 (trc x s1) from XX.out.put (trc x s1) rfl)
  have ZV := Lib.hid ((Z1.out.here E1.out).turn ET.out (by omega))
  have BV := Lib.hid ((B1.out.trans (E1.out.mono B1.out.size)).trans (ET.out.below (B := w.heap.size) (fun k hk e => by have := HG.out; omega) (Nat.le_trans B1.out.size E1.out.size)))
  obtain ⟨b0, hb0⟩ : ∃ b0, b0 = V.heap.size := ⟨_, rfl⟩
  have GV := Lib.hid (show b0 = g + 2 from hb0.trans SZ.out)
  rw [← hb0] at T1
  have TV := Lib.hid (T1.out.turn ET.out (fun k hk _ e => by have := GV.out; omega))
  have LV := Lib.hid (show b0 ≤ (W1.setCells g 0 (trc x s1).toList).heap.size from by rw [hb0]; exact Nat.le_trans E1.out.size ET.out.size)
  clear hb0 X1 Z1 B1 H1 SZ T1 E1 XX ET
  generalize W1.setCells g 0 (trc x s1).toList = WV at XV ZV BV TV LV ⊢
  go_upto_region 5 with (first
    | (refine wpList_load_row rfl 30 (.tmp 2) rfl g rfl 30 (trc x s1) (0, 0) _ XV.out Try.underlying30 rfl (tr_info _ _) ?_)
    | (go_at_call 10; refine (decided_b x s1 _ true HD.out).mono ?_; rintro e W2 ⟨rfl, hb2⟩; have XV := Lib.hid (XV.out.here hb2); have ZV := Lib.hid (ZV.out.here hb2); have TV := Lib.hid (TV.out.step hb2); have BV := Lib.hid (stepB BV.out hb2); have LV := Lib.hid (Nat.le_trans LV.out hb2.size); clear hb2))
  go_wp2_with (first
    | (refine wpList_load_row rfl 30 (.tmp 2) rfl g rfl 30 (trc x s1) (0, 0) _ XV.out Try.underlying30 rfl (tr_info _ _) ?_)
    | (refine wpList_store_mid (by rfl) 30 (.tmp 4) (.tmp 21) (by rfl) (g + 1) 0 (trc x s1) (by rfl) (by rfl) (ZV.out.there (Nat.le_refl 13)) (tr_info _ _) TV.out.one ?_))
  exact bodyPost_ret (v := .tuple #[.agg (trc x s1), .slice none 0 0, errno 15]) (results_and2 rfl rfl rfl rfl (tr_load (ZV.out.put (trc x s1) rfl))) rfl ⟨s1, _, rfl, (Tm.turn TV.out (Turn.setCells (S := fun k => k = g + 1) (fun _ => rfl) _ _ _ (Turn.refl _ _)) (fun k hk _ e => by have := GV.out; omega)).less (Nat.zero_le _), World.ownsRow_nil _ _ _ _, Below.setCells (by have := HG.out; omega) _ _ _ BV.out⟩
set_option maxRecDepth 100000 in
set_option maxHeartbeats 8000000 in
theorem abort_0 {B : Nat} (x : Tr) (s : Sl) (r : Int) (w : World) (h : Tm w B x s) (hs : Short x) (h0 : ¬ r < 1) (h5 : ¬ 5 < r) (hd : decided x = false) :
    Calls Try.prog 16 #[.agg (trc x s), .int .i64 r] w (Post3 w (abtX x r, x.tch.map (newsL (abtX x r)), 0)) := by
  have X1 := Lib.hid ((Blk.new w 30 (trc x s)).alloc (.cells zTr 30))
  have Z1 := Lib.hid (Blk.new_at (w := w.alloc (.cells (trc x s) 30)) (n := w.heap.size + 1) (by simp) 30 zTr)
  have B1 := Lib.hid ((Joins.below_alloc1 w (.cells (trc x s) 30)).alloc (by simp <;> omega) (.cells zTr 30))
  have SZ := Lib.hid (show ((w.alloc (.cells (trc x s) 30)).alloc (.cells zTr 30)).heap.size = w.heap.size + 2 from by simp)
  have H1 := Lib.hid (h.step B1.out)
  have HS := Lib.hid hs
  have d0 : decide (r < 1) = false := by simpa using h0
  have d5 : decide (5 < r) = false := by simpa using h5
  have HD := Lib.hid hd
  clear h0 h5 hd
  clear h hs
  go_enter Try.func16, Try.ntmps16
  go_upto_region 1 with fail
  obtain ⟨g, hg⟩ : ∃ g, g = w.heap.size := ⟨_, rfl⟩
  have HG := Lib.hid hg
  rw [← hg] at X1 Z1 SZ ⊢
  clear hg
  generalize (w.alloc (.cells (trc x s) 30)).alloc (.cells zTr 30) = V at X1 Z1 B1 H1 SZ ⊢
  go_upto_region 2 with (first
    | (refine wpList_load_row rfl 30 (.tmp 2) rfl g rfl 30 (trc x s) (0, 0) _ X1.out Try.underlying30 rfl (tr_info _ _) ?_)
    | (go_at_call 31; refine (own_any x s _ H1.out HS.out).mono ?_; rintro e W1 ⟨s1, rfl, ht, hn, hb⟩; have T1 := Lib.hid ht; have N1 := Lib.hid hn; have E1 := Lib.hid hb; have XX := Lib.hid (X1.out.here hb); clear ht hn hb)
    | (refine wpList_store_mid (by rfl) 30 (.tmp 2) (.tmp 8) (by rfl) g 0 (trc x s1) (by rfl) (by rfl) (XX.out.there (Nat.le_refl 13)) (tr_info _ _) T1.out.one ?_))
  have ET := Lib.hid (show Turn (fun k => k = g) W1 (W1.setCells g 0 (trc x s1).toList) from Turn.setCells (S := fun k => k = g) (fun _ => rfl) _ _ _ (Turn.refl _ _))
  have XV := Lib.hid (show Blk (W1.setCells g 0 (trc x s1).toList) g 30 (trc x s1) from XX.out.put (trc x s1) rfl)
  have ZV := Lib.hid ((Z1.out.here E1.out).turn ET.out (by omega))
  have BV := Lib.hid ((B1.out.trans (E1.out.mono B1.out.size)).trans (ET.out.below (B := w.heap.size) (fun k hk e => by have := HG.out; omega) (Nat.le_trans B1.out.size E1.out.size)))
  obtain ⟨b0, hb0⟩ : ∃ b0, b0 = V.heap.size := ⟨_, rfl⟩
  have GV := Lib.hid (show b0 = g + 2 from hb0.trans SZ.out)
  rw [← hb0] at T1
  have TV := Lib.hid (T1.out.turn ET.out (fun k hk _ e => by have := GV.out; omega))
  have LV := Lib.hid (show b0 ≤ (W1.setCells g 0 (trc x s1).toList).heap.size from by rw [hb0]; exact Nat.le_trans E1.out.size ET.out.size)
  clear hb0 X1 Z1 B1 H1 SZ T1 E1 XX ET
  generalize W1.setCells g 0 (trc x s1).toList = WV at XV ZV BV TV LV ⊢
  go_upto_region 6 with (first
    | (refine wpList_load_row rfl 30 (.tmp 2) rfl g rfl 30 (trc x s1) (0, 0) _ XV.out Try.underlying30 rfl (tr_info _ _) ?_)
    | (go_at_call 10; refine (decided_b x s1 _ false HD.out).mono ?_; rintro e W2 ⟨rfl, hb2⟩; have XV := Lib.hid (XV.out.here hb2); have ZV := Lib.hid (ZV.out.here hb2); have TV := Lib.hid (TV.out.step hb2); have BV := Lib.hid (stepB BV.out hb2); have LV := Lib.hid (Nat.le_trans LV.out hb2.size); clear hb2))
  generalize W2 = WV at XV ZV TV BV LV ⊢
  have f1 := XV.out.frozen 1
  have f2 := XV.out.frozen 2
  have f4 := XV.out.frozen 4
  have c1 : WV.cell? ⟨g, 1, none⟩ = some (.int .i64 x.st) := XV.out.cell 1
  have c2 : WV.cell? ⟨g, 2, none⟩ = some (.int .i64 x.rs) := XV.out.cell 2
  have c4 : WV.cell? ⟨g, 4, none⟩ = some (.bool x.op) := XV.out.cell 4
  have hzv := ZV.out.lt
  have XY := Lib.hid (show Blk (((WV.setCell ⟨g, 1, none⟩ (.int .i64 4)).setCell ⟨g, 2, none⟩ (.int .i64 r)).setCell ⟨g, 4, none⟩ (.bool false)) g 30 (trc (abtX x r) s1) from ((XV.out.set_ 1 _).set_ 2 _).set_ 4 _)
  have ZY := Lib.hid (((ZV.out.far (p := ⟨g, 1, none⟩) (by simp only; omega) (.int .i64 4)).far (p := ⟨g, 2, none⟩) (by simp only; omega) (.int .i64 r)).far (p := ⟨g, 4, none⟩) (by simp only; omega) (.bool false))
  have EY := Lib.hid (show Turn (fun k => k = g) WV (((WV.setCell ⟨g, 1, none⟩ (.int .i64 4)).setCell ⟨g, 2, none⟩ (.int .i64 r)).setCell ⟨g, 4, none⟩ (.bool false)) from (((Turn.refl (fun k => k = g) WV).setCell (p := ⟨g, 1, none⟩) (fun _ => rfl) _).setCell (p := ⟨g, 2, none⟩) (fun _ => rfl) _).setCell (p := ⟨g, 4, none⟩) (fun _ => rfl) _)
  go_upto_region 7 with fail
  clear f1 f2 f4 c1 c2 c4
  generalize ((WV.setCell ⟨g, 1, none⟩ (.int .i64 4)).setCell ⟨g, 2, none⟩ (.int .i64 r)).setCell ⟨g, 4, none⟩ (.bool false) = WY at XY ZY EY ⊢
  have BY := Lib.hid (BV.out.trans (EY.out.below (B := w.heap.size) (fun k hk e => by have := HG.out; omega) BV.out.size))
  have KY := Lib.hid (show Tm WY b0 (abtX x r) s1 from have h := TV.out.turn EY.out (fun k hk _ e => by have := GV.out; omega); ⟨h.t, h.v, h.k, h.g⟩)
  have TY := Lib.hid (show NumR WY b0 s1.t x.tch from KY.out.t)
  have OY := Lib.hid KY.out.one
  have SHL := Lib.hid (show x.tch.length ≤ 1000 from HS.out.t)
  have CS := Lib.hid (XY.out.cell 9)
  obtain ⟨q, hq⟩ : ∃ q, newsL (abtX x r) 0 = q := ⟨_, rfl⟩
  have HQ := Lib.hid hq
  have LQ := Lib.hid (show q.length = 28 from by rw [← hq]; rfl)
  clear hq
  refine wp_region_held_drew (S := fun w' => Blk w' g 30 (trc (abtX x r) s1) ∧ w'.cell? ⟨g, 9, none⟩ = some s1.t) (by kernel_rfl) ⟨XY.out.drew, CS.out⟩ (fun hHeld => ?_)
  have BD := Lib.hid (show Below WY.heap.size WY WY.drew from (Below.refl _ _).drew)
  generalize WY.drew = W1 at BD hHeld ⊢
  refine wpAnyH_take (i := 0) (v := .agg (trc (abtX x r) s1)) rfl (by kernel_rfl) (by kernel_rfl) (by kernel_rfl) (fun _ _ _ h => h) (Or.inl ⟨by rfl, fun w0 hSw => exec_load (x := .tmp 2) rfl rfl (tr_load hSw.1)⟩) (by assumption) ?_
  try simp only [List.getElem_toArray, List.getElem_cons_succ, List.getElem_cons_zero, Act.put, List.setIfInBounds_toArray, List.set_cons_zero, List.set_cons_succ]
  refine wpAnyH_take (i := 1) (v := .agg (trc (abtX x r) s1)) rfl (by kernel_rfl) (by kernel_rfl) (by kernel_rfl) (fun _ _ _ h => h) (Or.inl ⟨by rfl, fun w0 hSw => exec_load (x := .tmp 2) rfl rfl (tr_load hSw.1)⟩) (by assumption) ?_
  try simp only [List.getElem_toArray, List.getElem_cons_succ, List.getElem_cons_zero, Act.put, List.setIfInBounds_toArray, List.set_cons_zero, List.set_cons_succ]
  refine wpAnyH_take (i := 3) (v := ?_) rfl (by kernel_rfl) (by kernel_rfl) (by kernel_rfl) (fun _ _ _ h => h) (Or.inl ⟨by rfl, ?_⟩) (by assumption) ?_
  rotate_left
  · (intro w0 hSw; (try dsimp only at hSw); go_simp; try with_reducible rfl)
  try simp only [List.getElem_toArray, List.getElem_cons_succ, List.getElem_cons_zero, Act.put, List.setIfInBounds_toArray, List.set_cons_zero, List.set_cons_succ]
  refine wpAnyH_take (i := 4) (v := ?_) rfl (by kernel_rfl) (by kernel_rfl) (by kernel_rfl) (fun _ _ _ h => h) (Or.inl ⟨by rfl, ?_⟩) (by assumption) ?_
  rotate_left
  · (intro w0 hSw; (try dsimp only at hSw); go_simp; try with_reducible rfl)
  try simp only [List.getElem_toArray, List.getElem_cons_succ, List.getElem_cons_zero, Act.put, List.setIfInBounds_toArray, List.set_cons_zero, List.set_cons_succ]
  refine wpAnyH_ready (rs := [2]) (by kernel_rfl) (by simp) ?_
  refine AllReadyH.cons rfl (fun K hK => ?_) AllReadyH.nil
  go_simp
  refine (news_q (abtX x r) s1 q HQ.out _).mono ?_
  rintro e W2 ⟨rfl, hb⟩
  try go_simp
  have B2 := Lib.hid (BD.out.trans (hb.mono BD.out.size))
  clear hb
  refine hK.out _ _ ⟨XY.out.here B2.out, (XY.out.here B2.out).cell 9⟩ (fun hHeld => ?_)
  clear hK K
  refine wpAnyH_ready (rs := [5]) (by kernel_rfl) (by simp) ?_
  refine AllReadyH.cons rfl (fun K hK => ?_) AllReadyH.nil
  go_simp
  refine (send_any q x.tch LQ.out _ (own_step TY.out B2.out) SHL.out).mono ?_
  rintro e W3 ⟨u, rfl, hu, hb⟩
  try go_simp
  have U3 := Lib.hid hu
  have B3 := Lib.hid (B2.out.trans (hb.mono B2.out.size))
  have S2 := Lib.hid B2.out.size
  clear hu hb
  refine hK.out _ _ ⟨XY.out.here B3.out, (XY.out.here B3.out).cell 9⟩ (fun hHeld => ?_)
  clear hK K
  have Z3 := Lib.hid (ZY.out.here B3.out)
  have hzl := ZY.out.lt
  refine wpAnyH_ready (rs := [6]) (by kernel_rfl) (by simp) ?_
  refine AllReadyH.cons rfl (fun K hK => ?_) AllReadyH.nil
  refine step_store_mid (by rfl) 30 (.tmp 4) (.tmp 27) rfl (g + 1) 0 (trc (abtX x r) s1) rfl rfl (Z3.out.there (Nat.le_refl 13)) (tr_info _ _) OY.out ?_
  have X4 := Lib.hid (show Blk (W3.setCells (g + 1) 0 (trc (abtX x r) s1).toList) g 30 (trc (abtX x r) s1) from (XY.out.here B3.out).farCells (by omega) _ _ _)
  refine hK.out _ _ ⟨X4.out, X4.out.cell 9⟩ (fun hHeld => ?_)
  clear hK K
  refine wpAnyH_take (i := 7) (v := ?_) rfl (by kernel_rfl) (by kernel_rfl) (by kernel_rfl) (fun _ _ _ h => h) (Or.inl ⟨by rfl, ?_⟩) (by assumption) ?_
  rotate_left
  · (intro w0 hSw; (try dsimp only at hSw); go_simp; try with_reducible rfl)
  try simp only [List.getElem_toArray, List.getElem_cons_succ, List.getElem_cons_zero, Act.put, List.setIfInBounds_toArray, List.set_cons_zero, List.set_cons_succ]
  refine wpAnyH_take (i := 8) (v := ?_) rfl (by kernel_rfl) (by kernel_rfl) (by kernel_rfl) (fun _ _ _ h => h) (Or.inl ⟨by rfl, ?_⟩) (by assumption) ?_
  rotate_left
  · (intro w0 hSw; (try dsimp only at hSw); go_simp; try with_reducible rfl)
  try simp only [List.getElem_toArray, List.getElem_cons_succ, List.getElem_cons_zero, Act.put, List.setIfInBounds_toArray, List.set_cons_zero, List.set_cons_succ]
  refine wpAnyH_done (by kernel_rfl) ?_ _
  have E4 := Lib.hid (show Turn (fun k => k = g + 1) W3 (W3.setCells (g + 1) 0 (trc (abtX x r) s1).toList) from Turn.setCells (S := fun k => k = g + 1) (fun _ => rfl) _ _ _ (Turn.refl _ _))
  have U4 := Lib.hid (own_off U3.out E4.out (fun k hk _ e => by have := S2.out; omega))
  have Z4 := Lib.hid (Z3.out.put (trc (abtX x r) s1) rfl)
  have F4 := Lib.hid ((BY.out.trans (B3.out.mono BY.out.size)).trans (E4.out.below (B := w.heap.size) (fun k hk e => by have := HG.out; omega) (Nat.le_trans BY.out.size B3.out.size)))
  clear hHeld
  go_wp2_with fail
  have K4 := Lib.hid ((KY.out.step B3.out).turn E4.out (fun k hk _ e => by have := GV.out; omega))
  exact bodyPost_ret (v := .tuple #[.agg (trc (abtX x r) s1), u, .nilIface]) (results_and2 rfl rfl rfl rfl (tr_load Z4.out)) rfl ⟨s1, u, rfl, K4.out.less (Nat.zero_le _), own_less (by rw [← send_news, HQ.out]; exact U4.out) (by have := S2.out; have := BY.out.size; have := B3.out.size; omega), F4.out⟩
theorem abort_any {B : Nat} (x : Tr) (s : Sl) (r : Int) (w : World) (h : Tm w B x s) (hs : Short x) : Calls Try.prog 16 #[.agg (trc x s), .int .i64 r] w (Post3 w (abtL x r)) := by
  unfold abtL
  by_cases h0 : r < 1
  · rw [if_pos (.inl h0)]; exact abort_1a x s r w h hs h0
  · by_cases h5 : 5 < r
    · rw [if_pos (.inr h5)]; exact abort_1b x s r w h hs h0 h5
    · rw [if_neg (fun e => e.elim h0 h5)]
      by_cases hd : decided x = true
      · rw [if_pos hd]; exact abort_15 x s r w h hs h0 h5 hd
      · rw [if_neg hd]; exact abort_0 x s r w h hs h0 h5 (by simpa using hd)
theorem rows_apart {w : World} {B B' n n' size size' : Nat} {e e' : TypeId} {v v' : Value} {xs xs' : List Value} (h : w.ownsRow B e size v n xs) (h' : w.ownsRow B' e' size' v' n' xs') (he : e ≠ e') : ∀ k, v.ownBlock = some k → v'.ownBlock ≠ some k := fun k hk hk' => by
  obtain ⟨_, h1, _⟩ := own_heap h k hk
  obtain ⟨_, h2, _⟩ := own_heap h' k hk'
  exact heap_ne h1 h2 he rfl
theorem own_below {B : Nat} {v v' : Value} {w : World} (h1 : v'.ownBlock = v.ownBlock ∨ ∀ k, v'.ownBlock = some k → w.heap.size ≤ k) : True := trivial
section
variable {w w' : World} {B : Nat} {x : Tr} {s : Sl} {v' : Value} {l' : List Int}
theorem Tm.putT (h : Tm w B x s) (ha : Apart s) (ho : NumR w' B v' l') (ht : Turn (fun k => s.t.ownBlock = some k) w w') : Tm w' B { x with tch := l' } { s with t := v' } :=
  ⟨ho, own_turn h.v ht (fun k hk e => ha.tv k e hk), own_turn h.k ht (fun k hk e => ha.tk k e hk), own_turn h.g ht (fun k hk e => rows_apart h.t h.g (by decide) k e hk)⟩
theorem Tm.putV (h : Tm w B x s) (ha : Apart s) (ho : NumR w' B v' l') (ht : Turn (fun k => s.v.ownBlock = some k) w w') : Tm w' B { x with vts := l' } { s with v := v' } :=
  ⟨own_turn h.t ht (fun k hk e => ha.tv k hk e), ho, own_turn h.k ht (fun k hk e => ha.vk k e hk), own_turn h.g ht (fun k hk e => rows_apart h.v h.g (by decide) k e hk)⟩
theorem Tm.putK (h : Tm w B x s) (ha : Apart s) (ho : NumR w' B v' l') (ht : Turn (fun k => s.k.ownBlock = some k) w w') : Tm w' B { x with acks := l' } { s with k := v' } :=
  ⟨own_turn h.t ht (fun k hk e => ha.tk k hk e), own_turn h.v ht (fun k hk e => ha.vk k hk e), ho, own_turn h.g ht (fun k hk e => rows_apart h.k h.g (by decide) k e hk)⟩
end
end Go.Proofs.Ytopjkidekbfalaa
