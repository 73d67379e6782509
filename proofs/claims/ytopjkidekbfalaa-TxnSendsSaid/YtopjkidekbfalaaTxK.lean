/- A transaction: Finish. -/
import Derived.Test.YtopjkidekbfalaaTxJ
namespace Go.Proofs.Ytopjkidekbfalaa
open Go.RowKit
set_option linter.unusedVariables false
set_option linter.unusedSimpArgs false

set_option maxRecDepth 100000 in
set_option maxHeartbeats 8000000 in
theorem finish_11 {B : Nat} (x : Tr) (s : Sl) (w : World) (h : Tm w B x s) (hs : Short x) (h1 : ¬ x.st = 1) :
    Calls Try.prog 20 #[.agg (trc x s)] w (Post3 w (x, [], 11)) := by
  have X1 := Lib.hid ((Blk.new w 30 (trc x s)).alloc (.cells zTr 30))
  have Z1 := Lib.hid (Blk.new_at (w := w.alloc (.cells (trc x s) 30)) (n := w.heap.size + 1) (by simp) 30 zTr)
  have B1 := Lib.hid ((Joins.below_alloc1 w (.cells (trc x s) 30)).alloc (by simp <;> omega) (.cells zTr 30))
  have SZ := Lib.hid (show ((w.alloc (.cells (trc x s) 30)).alloc (.cells zTr 30)).heap.size = w.heap.size + 2 from by simp)
  have H1 := Lib.hid (h.step B1.out)
  have HS := Lib.hid hs
  have e1 : (x.st != 1) = true := by simpa using h1
  clear h1
  clear h hs
  go_enter Try.func20, Try.ntmps20
  go_upto_region 1 with fail
  obtain ⟨g, hg⟩ : ∃ g, g = w.heap.size := ⟨_, rfl⟩
  have HG := Lib.hid hg
  rw [← hg] at X1 Z1 SZ ⊢
  clear hg
  generalize (w.alloc (.cells (trc x s) 30)).alloc (.cells zTr 30) = V at X1 Z1 B1 H1 SZ ⊢
  go_upto_region 2 with (first
    | (refine wpList_load_row rfl 30 (.tmp 1) rfl g rfl 30 (trc x s) (0, 0) _ X1.out Try.underlying30 rfl (tr_info _ _) ?_)
    | (go_at_call 31; refine (own_any x s _ H1.out HS.out).mono ?_; rintro e W1 ⟨s1, rfl, ht, hn, hb⟩; have T1 := Lib.hid ht; have N1 := Lib.hid hn; have E1 := Lib.hid hb; have XX := Lib.hid (X1.out.here hb); clear ht hn hb)
    | (refine wpList_store_mid (by rfl) 30 (.tmp 1) (.tmp 7) (by rfl) g 0 (trc x s1) (by rfl) (by rfl) (XX.out.there (Nat.le_refl 13)) (tr_info _ _) T1.out.one ?_))
  have ET := Lib.hid (show Turn (fun k => k = g) W1 (W1.setCells g 0 (trc x s1).toList) from Turn.setCells (S := fun k => k = g) (fun _ => rfl) _ _ _ (Turn.refl _ _))
  have XV := Lib.hid (show Blk (W1.setCells g 0 (trc x s1).toList) g 30 (trc x s1) from XX.out.put (trc x s1) rfl)
  have ZV := Lib.hid ((Z1.out.here E1.out).turn ET.out (by omega))
  have BV := Lib.hid ((B1.out.trans (E1.out.mono B1.out.size)).trans (ET.out.below (B := w.heap.size) (fun k hk e => by have := HG.out; omega) (Nat.le_trans B1.out.size E1.out.size)))
  obtain ⟨b0, hb0⟩ : ∃ b0, b0 = V.heap.size := ⟨_, rfl⟩
  have GV := Lib.hid (show b0 = g + 2 from hb0.trans SZ.out)
  rw [← hb0] at T1
  have TV := Lib.hid (T1.out.turn ET.out (fun k hk _ e => by have := GV.out; omega))
  have LV := Lib.hid (show b0 ≤ (W1.setCells g 0 (trc x s1).toList).heap.size from by rw [hb0]; exact Nat.le_trans E1.out.size ET.out.size)
  clear hb0 X1 Z1 B1 H1 SZ T1 E1 XX ET
  generalize W1.setCells g 0 (trc x s1).toList = WV at XV ZV BV TV LV ⊢
  have c1 : WV.cell? ⟨g, 1, none⟩ = some (.int .i64 x.st) := XV.out.cell 1
  go_wp2_with (first
    | (refine wpList_load_row rfl 30 (.tmp 1) rfl g rfl 30 (trc x s1) (0, 0) _ XV.out Try.underlying30 rfl (tr_info _ _) ?_)
    | (refine wpList_store_mid (op := { dst := none, op := .store 30 (.tmp 2) (.tmp 12), type := 0, pos := _, after := _, guard := none }) (by rfl) 30 (.tmp 2) (.tmp 12) (by rfl) (g + 1) 0 (trc x s1) (by rfl) (by rfl) (ZV.out.there (Nat.le_refl 13)) (tr_info _ _) TV.out.one ?_))
  exact bodyPost_ret (v := .tuple #[.agg (trc x s1), .slice none 0 0, errno 11]) (results_and2 rfl rfl rfl rfl (tr_load (ZV.out.put (trc x s1) rfl))) rfl ⟨s1, _, rfl, (Tm.turn TV.out (Turn.setCells (S := fun k => k = g + 1) (fun _ => rfl) _ _ _ (Turn.refl _ _)) (fun k hk _ e => by have := GV.out; omega)).less (Nat.zero_le _), World.ownsRow_nil _ _ _ _, Below.setCells (by have := HG.out; omega) _ _ _ BV.out⟩
set_option maxRecDepth 100000 in
set_option maxHeartbeats 8000000 in
theorem finish_8 {B : Nat} (x : Tr) (s : Sl) (w : World) (h : Tm w B x s) (hs : Short x) (h1 : x.st = 1) (ho : x.op = true) :
    Calls Try.prog 20 #[.agg (trc x s)] w (Post3 w (x, [], 8)) := by
  have X1 := Lib.hid ((Blk.new w 30 (trc x s)).alloc (.cells zTr 30))
  have Z1 := Lib.hid (Blk.new_at (w := w.alloc (.cells (trc x s) 30)) (n := w.heap.size + 1) (by simp) 30 zTr)
  have B1 := Lib.hid ((Joins.below_alloc1 w (.cells (trc x s) 30)).alloc (by simp <;> omega) (.cells zTr 30))
  have SZ := Lib.hid (show ((w.alloc (.cells (trc x s) 30)).alloc (.cells zTr 30)).heap.size = w.heap.size + 2 from by simp)
  have H1 := Lib.hid (h.step B1.out)
  have HS := Lib.hid hs
  have e1 : (x.st != 1) = false := by simpa using h1
  have HO := Lib.hid ho
  clear h1 ho
  clear h hs
  go_enter Try.func20, Try.ntmps20
  go_upto_region 1 with fail
  obtain ⟨g, hg⟩ : ∃ g, g = w.heap.size := ⟨_, rfl⟩
  have HG := Lib.hid hg
  rw [← hg] at X1 Z1 SZ ⊢
  clear hg
  generalize (w.alloc (.cells (trc x s) 30)).alloc (.cells zTr 30) = V at X1 Z1 B1 H1 SZ ⊢
  go_upto_region 2 with (first
    | (refine wpList_load_row rfl 30 (.tmp 1) rfl g rfl 30 (trc x s) (0, 0) _ X1.out Try.underlying30 rfl (tr_info _ _) ?_)
    | (go_at_call 31; refine (own_any x s _ H1.out HS.out).mono ?_; rintro e W1 ⟨s1, rfl, ht, hn, hb⟩; have T1 := Lib.hid ht; have N1 := Lib.hid hn; have E1 := Lib.hid hb; have XX := Lib.hid (X1.out.here hb); clear ht hn hb)
    | (refine wpList_store_mid (by rfl) 30 (.tmp 1) (.tmp 7) (by rfl) g 0 (trc x s1) (by rfl) (by rfl) (XX.out.there (Nat.le_refl 13)) (tr_info _ _) T1.out.one ?_))
  have ET := Lib.hid (show Turn (fun k => k = g) W1 (W1.setCells g 0 (trc x s1).toList) from Turn.setCells (S := fun k => k = g) (fun _ => rfl) _ _ _ (Turn.refl _ _))
  have XV := Lib.hid (show Blk (W1.setCells g 0 (trc x s1).toList) g 30 (trc x s1) from XX.out.put (trc x s1) rfl)
  have ZV := Lib.hid ((Z1.out.here E1.out).turn ET.out (by omega))
  have BV := Lib.hid ((B1.out.trans (E1.out.mono B1.out.size)).trans (ET.out.below (B := w.heap.size) (fun k hk e => by have := HG.out; omega) (Nat.le_trans B1.out.size E1.out.size)))
  obtain ⟨b0, hb0⟩ : ∃ b0, b0 = V.heap.size := ⟨_, rfl⟩
  have GV := Lib.hid (show b0 = g + 2 from hb0.trans SZ.out)
  rw [← hb0] at T1
  have TV := Lib.hid (T1.out.turn ET.out (fun k hk _ e => by have := GV.out; omega))
  have LV := Lib.hid (show b0 ≤ (W1.setCells g 0 (trc x s1).toList).heap.size from by rw [hb0]; exact Nat.le_trans E1.out.size ET.out.size)
  clear hb0 X1 Z1 B1 H1 SZ T1 E1 XX ET
  generalize W1.setCells g 0 (trc x s1).toList = WV at XV ZV BV TV LV ⊢
  have c1 : WV.cell? ⟨g, 1, none⟩ = some (.int .i64 x.st) := XV.out.cell 1
  have c4 : WV.cell? ⟨g, 4, none⟩ = some (.bool true) := by rw [← HO.out]; exact XV.out.cell 4
  go_wp2_with (first
    | (refine wpList_load_row rfl 30 (.tmp 1) rfl g rfl 30 (trc x s1) (0, 0) _ XV.out Try.underlying30 rfl (tr_info _ _) ?_)
    | (refine wpList_store_mid (op := { dst := none, op := .store 30 (.tmp 2) (.tmp 17), type := 0, pos := _, after := _, guard := none }) (by rfl) 30 (.tmp 2) (.tmp 17) (by rfl) (g + 1) 0 (trc x s1) (by rfl) (by rfl) (ZV.out.there (Nat.le_refl 13)) (tr_info _ _) TV.out.one ?_))
  exact bodyPost_ret (v := .tuple #[.agg (trc x s1), .slice none 0 0, errno 8]) (results_and2 rfl rfl rfl rfl (tr_load (ZV.out.put (trc x s1) rfl))) rfl ⟨s1, _, rfl, (Tm.turn TV.out (Turn.setCells (S := fun k => k = g + 1) (fun _ => rfl) _ _ _ (Turn.refl _ _)) (fun k hk _ e => by have := GV.out; omega)).less (Nat.zero_le _), World.ownsRow_nil _ _ _ _, Below.setCells (by have := HG.out; omega) _ _ _ BV.out⟩
set_option maxRecDepth 100000 in
set_option maxHeartbeats 8000000 in
theorem finish_0 {B : Nat} (x : Tr) (s : Sl) (w : World) (h : Tm w B x s) (hs : Short x) (h1 : x.st = 1) (ho : x.op = false) (ht : Shs x.tch) (hv : Shs x.vts) (y : Tr) (ms : List (List Int)) (hy : goOnL x = (y, ms)) :
    Calls Try.prog 20 #[.agg (trc x s)] w (Post3 w (y, ms, 0)) := by
  have X1 := Lib.hid ((Blk.new w 30 (trc x s)).alloc (.cells zTr 30))
  have Z1 := Lib.hid (Blk.new_at (w := w.alloc (.cells (trc x s) 30)) (n := w.heap.size + 1) (by simp) 30 zTr)
  have B1 := Lib.hid ((Joins.below_alloc1 w (.cells (trc x s) 30)).alloc (by simp <;> omega) (.cells zTr 30))
  have SZ := Lib.hid (show ((w.alloc (.cells (trc x s) 30)).alloc (.cells zTr 30)).heap.size = w.heap.size + 2 from by simp)
  have H1 := Lib.hid (h.step B1.out)
  have HS := Lib.hid hs
  have e1 : (x.st != 1) = false := by simpa using h1
  have HO := Lib.hid ho
  have HT := Lib.hid ht
  have HVS := Lib.hid hv
  have H1' := Lib.hid h1
  have HY := Lib.hid hy
  clear h1 ho ht hv hy
  clear h hs
  go_enter Try.func20, Try.ntmps20
  go_upto_region 1 with fail
  obtain ⟨g, hg⟩ : ∃ g, g = w.heap.size := ⟨_, rfl⟩
  have HG := Lib.hid hg
  rw [← hg] at X1 Z1 SZ ⊢
  clear hg
  generalize (w.alloc (.cells (trc x s) 30)).alloc (.cells zTr 30) = V at X1 Z1 B1 H1 SZ ⊢
  go_upto_region 2 with (first
    | (refine wpList_load_row rfl 30 (.tmp 1) rfl g rfl 30 (trc x s) (0, 0) _ X1.out Try.underlying30 rfl (tr_info _ _) ?_)
    | (go_at_call 31; refine (own_any x s _ H1.out HS.out).mono ?_; rintro e W1 ⟨s1, rfl, ht, hn, hb⟩; have T1 := Lib.hid ht; have N1 := Lib.hid hn; have E1 := Lib.hid hb; have XX := Lib.hid (X1.out.here hb); clear ht hn hb)
    | (refine wpList_store_mid (by rfl) 30 (.tmp 1) (.tmp 7) (by rfl) g 0 (trc x s1) (by rfl) (by rfl) (XX.out.there (Nat.le_refl 13)) (tr_info _ _) T1.out.one ?_))
  have ET := Lib.hid (show Turn (fun k => k = g) W1 (W1.setCells g 0 (trc x s1).toList) from Turn.setCells (S := fun k => k = g) (fun _ => rfl) _ _ _ (Turn.refl _ _))
  have XV := Lib.hid (show Blk (W1.setCells g 0 (trc x s1).toList) g 30 (trc x s1) from XX.out.put (trc x s1) rfl)
  have ZV := Lib.hid ((Z1.out.here E1.out).turn ET.out (by omega))
  have BV := Lib.hid ((B1.out.trans (E1.out.mono B1.out.size)).trans (ET.out.below (B := w.heap.size) (fun k hk e => by have := HG.out; omega) (Nat.le_trans B1.out.size E1.out.size)))
  obtain ⟨b0, hb0⟩ : ∃ b0, b0 = V.heap.size := ⟨_, rfl⟩
  have GV := Lib.hid (show b0 = g + 2 from hb0.trans SZ.out)
  rw [← hb0] at T1
  have TV := Lib.hid (T1.out.turn ET.out (fun k hk _ e => by have := GV.out; omega))
  have LV := Lib.hid (show b0 ≤ (W1.setCells g 0 (trc x s1).toList).heap.size from by rw [hb0]; exact Nat.le_trans E1.out.size ET.out.size)
  clear hb0 X1 Z1 B1 H1 SZ T1 E1 XX ET
  generalize W1.setCells g 0 (trc x s1).toList = WV at XV ZV BV TV LV ⊢
  have c1 : WV.cell? ⟨g, 1, none⟩ = some (.int .i64 x.st) := XV.out.cell 1
  have c4 : WV.cell? ⟨g, 4, none⟩ = some (.bool false) := by rw [← HO.out]; exact XV.out.cell 4
  have GO := Lib.hid (goOn_any x s1 _ TV.out HT.out HVS.out (.inl H1'.out))
  have YL := Lib.hid (show (goOnL x).1.tch = x.tch ∧ (goOnL x).1.vts = x.vts ∧ (goOnL x).1.acks = x.acks ∧ (goOnL x).1.got = x.got from by unfold goOnL; split; exact ⟨rfl, rfl, rfl, rfl⟩; split <;> exact ⟨rfl, rfl, rfl, rfl⟩)
  rw [HY.out] at GO YL
  have TQ := Lib.hid (show Tm WV b0 y s1 from ⟨by rw [YL.out.1]; exact TV.out.t, by rw [YL.out.2.1]; exact TV.out.v, by rw [YL.out.2.2.1]; exact TV.out.k, by rw [YL.out.2.2.2]; exact TV.out.g⟩)
  go_upto_region 7 with (first
    | (refine wpList_load_row rfl 30 (.tmp 1) rfl g rfl 30 (trc x s1) (0, 0) _ XV.out Try.underlying30 rfl (tr_info _ _) ?_)
    | (go_at_call 37; refine GO.out.mono ?_; rintro e W2 ⟨u, rfl, hu, hb2⟩; obtain ⟨Au, cu, rfl⟩ := own_len hu; have U2 := Lib.hid hu; have E2 := Lib.hid hb2; clear hu hb2)
    | (refine wpList_store_mid (by rfl) 30 (.tmp 1) (.tmp 22) (by rfl) g 0 (trc y s1) (by rfl) (by rfl) ((XV.out.here E2.out).there (Nat.le_refl 13)) (tr_info _ _) TQ.out.one ?_
       have E3 := Lib.hid (show Turn (fun k => k = g) W2 (W2.setCells g 0 (trc y s1).toList) from Turn.setCells (S := fun k => k = g) (fun _ => rfl) _ _ _ (Turn.refl _ _))
       have XV := Lib.hid ((XV.out.here E2.out).put (trc y s1) rfl)
       have ZV := Lib.hid ((ZV.out.here E2.out).turn E3.out (by omega))
       have BV := Lib.hid ((stepB BV.out E2.out).trans (E3.out.below (B := w.heap.size) (fun k hk e => by have := HG.out; omega) (Nat.le_trans BV.out.size E2.out.size)))
       have U3 := Lib.hid (own_off U2.out E3.out (fun k hk _ e => by have := GV.out; have := LV.out; omega))
       have TV := Lib.hid ((TQ.out.step E2.out).turn E3.out (fun k hk _ e => by have := GV.out; omega))
       clear E3
       generalize W2.setCells g 0 (trc y s1).toList = W3 at XV ZV BV U3 TV ⊢))
  go_wp2_with (first
    | (refine wpList_load_row rfl 30 (.tmp 1) rfl g rfl 30 (trc y s1) (0, 0) _ XV.out Try.underlying30 rfl (tr_info _ _) ?_)
    | (refine wpList_store_mid (op := { dst := none, op := .store 30 (.tmp 2) (.tmp 24), type := 0, pos := _, after := _, guard := none }) (by rfl) 30 (.tmp 2) (.tmp 24) (by rfl) (g + 1) 0 (trc y s1) (by rfl) (by rfl) (ZV.out.there (Nat.le_refl 13)) (tr_info _ _) TV.out.one ?_))
  have E4 := Turn.setCells (b := g + 1) (w := W3) (S := fun k => k = g + 1) (fun _ => rfl) (trc y s1).toList 0 _ (Turn.refl _ _)
  exact bodyPost_ret (v := .tuple #[.agg (trc y s1), .slice Au ms.length cu, .nilIface]) (results_and2 rfl rfl rfl rfl (tr_load (ZV.out.put (trc y s1) rfl))) rfl ⟨s1, _, rfl, (TV.out.turn E4 (fun k hk _ e => by have := GV.out; omega)).less (Nat.zero_le _), own_less (own_off U3.out E4 (fun k hk _ e => by have := GV.out; have := LV.out; omega)) (by have := LV.out; have := GV.out; have := HG.out; omega), Below.setCells (by have := HG.out; omega) _ _ _ BV.out⟩
theorem finish_any {B : Nat} (x : Tr) (s : Sl) (w : World) (h : Tm w B x s) (hs : Short x) (ht : Shs x.tch) (hv : Shs x.vts) : Calls Try.prog 20 #[.agg (trc x s)] w (Post3 w (finL x)) := by
  unfold finL
  by_cases h1 : x.st = 1
  · rw [if_neg (fun e => e h1)]
    by_cases ho : x.op = true
    · rw [if_pos ho]; exact finish_8 x s w h hs h1 ho
    · rw [if_neg ho]; exact finish_0 x s w h hs h1 (by simpa using ho) ht hv _ _ rfl
  · rw [if_pos h1]; exact finish_11 x s w h hs h1
end Go.Proofs.Ytopjkidekbfalaa
