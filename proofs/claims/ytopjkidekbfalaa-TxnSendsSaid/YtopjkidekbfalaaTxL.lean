/- A transaction: Ask. -/
import Derived.Test.YtopjkidekbfalaaTxK
import Derived.Test.YtopjkidekbfalaaTxH
import Derived.Test.YtopjkidekbfalaaRes
namespace Go.Proofs.Ytopjkidekbfalaa
open Go.RowKit
set_option linter.unusedVariables false
set_option linter.unusedSimpArgs false

theorem resok_b (t r : Int) (b : Bool) (h : resB t r = b) (w : World) : Calls Try.prog 33 #[.agg #[.int .i64 t, .int .i64 r]] w fun e w' => e = .returned (.bool b) ∧ Below w.heap.size w w' := by
  have e : okR t r = b := by rw [← h]; unfold okR resB; simp only [Bool.decide_and, Bool.and_assoc]
  cases b with
  | true => exact (rok_yes t r e w).mono fun _ _ ⟨h1, h2⟩ => ⟨h1, by subst h2; exact Joins.below_alloc1 _ _⟩
  | false => exact (rok_no t r e w).mono fun _ _ ⟨h1, h2⟩ => ⟨h1, by subst h2; exact Joins.below_alloc1 _ _⟩
theorem request_q (x : Tr) (s : Sl) (q : List Int) (hq : lockL x 0 = q) (w : World) : Calls Try.prog 24 #[.agg (trc x s)] w fun e w' => e = .returned (.agg (mc q)) ∧ Below w.heap.size w w' := by rw [← hq]; exact request_any x s w
set_option maxRecDepth 100000 in
set_option maxHeartbeats 8000000 in
theorem ask_1a {B : Nat} (x : Tr) (s : Sl) (a0 a1 : Int) (sh md : Int) (w : World) (h : Tm w B x s) (hs : Short x) (hd0 : sh < 1) :
    Calls Try.prog 18 #[.agg (trc x s), .int .i64 sh, .agg #[.int .i64 a0, .int .i64 a1], .int .i64 md] w (Post3 w (x, [], 1)) := by
  have X1 := Lib.hid (((Blk.new w 30 (trc x s)).alloc (.cells #[.int .i64 a0, .int .i64 a1] 25)).alloc (.cells zTr 30))
  have A1 := Lib.hid ((Blk.new_at (w := w.alloc (.cells (trc x s) 30)) (n := w.heap.size + 1) (by simp) 25 #[.int .i64 a0, .int .i64 a1]).alloc (.cells zTr 30))
  have Z1 := Lib.hid (Blk.new_at (w := (w.alloc (.cells (trc x s) 30)).alloc (.cells #[.int .i64 a0, .int .i64 a1] 25)) (n := w.heap.size + 2) (by simp) 30 zTr)
  have B1 := Lib.hid (((Joins.below_alloc1 w (.cells (trc x s) 30)).alloc (by simp <;> omega) (.cells #[.int .i64 a0, .int .i64 a1] 25)).alloc (by simp <;> omega) (.cells zTr 30))
  have SZ := Lib.hid (show (((w.alloc (.cells (trc x s) 30)).alloc (.cells #[.int .i64 a0, .int .i64 a1] 25)).alloc (.cells zTr 30)).heap.size = w.heap.size + 3 from by simp)
  have H1 := Lib.hid (h.step B1.out)
  have HS := Lib.hid hs
  have d0 : decide (sh < 1) = true := by simpa using hd0
  clear hd0
  clear h hs
  go_enter Try.func18, Try.ntmps18
  go_upto_region 1 with fail
  obtain ⟨g, hg⟩ : ∃ g, g = w.heap.size := ⟨_, rfl⟩
  have HG := Lib.hid hg
  rw [← hg] at X1 A1 Z1 SZ ⊢
  clear hg
  generalize ((w.alloc (.cells (trc x s) 30)).alloc (.cells #[.int .i64 a0, .int .i64 a1] 25)).alloc (.cells zTr 30) = V at X1 A1 Z1 B1 H1 SZ ⊢
  go_upto_region 2 with (first
    | (refine wpList_load_row rfl 30 (.tmp 4) rfl g rfl 30 (trc x s) (0, 0) _ X1.out Try.underlying30 rfl (tr_info _ _) ?_)
    | (go_at_call 31; refine (own_any x s _ H1.out HS.out).mono ?_; rintro e W1 ⟨s1, rfl, ht, hn, hb⟩; have T1 := Lib.hid ht; have N1 := Lib.hid hn; have E1 := Lib.hid hb; have XX := Lib.hid (X1.out.here hb); clear ht hn hb)
    | (refine wpList_store_mid (by rfl) 30 (.tmp 4) (.tmp 12) (by rfl) g 0 (trc x s1) (by rfl) (by rfl) (XX.out.there (Nat.le_refl 13)) (tr_info _ _) T1.out.one ?_))
  have ET := Lib.hid (show Turn (fun k => k = g) W1 (W1.setCells g 0 (trc x s1).toList) from Turn.setCells (S := fun k => k = g) (fun _ => rfl) _ _ _ (Turn.refl _ _))
  have XV := Lib.hid (show Blk (W1.setCells g 0 (trc x s1).toList) g 30 (trc x s1) from XX.out.put (trc x s1) rfl)
  have ZV := Lib.hid ((Z1.out.here E1.out).turn ET.out (by omega))
  have AV := Lib.hid ((A1.out.here E1.out).turn ET.out (by omega))
  have BV := Lib.hid ((B1.out.trans (E1.out.mono B1.out.size)).trans (ET.out.below (B := w.heap.size) (fun k hk e => by have := HG.out; omega) (Nat.le_trans B1.out.size E1.out.size)))
  obtain ⟨b0, hb0⟩ : ∃ b0, b0 = V.heap.size := ⟨_, rfl⟩
  have GV := Lib.hid (show b0 = g + 3 from hb0.trans SZ.out)
  rw [← hb0] at T1
  have TV := Lib.hid (T1.out.turn ET.out (fun k hk _ e => by have := GV.out; omega))
  have LV := Lib.hid (show b0 ≤ (W1.setCells g 0 (trc x s1).toList).heap.size from by rw [hb0]; exact Nat.le_trans E1.out.size ET.out.size)
  clear hb0 X1 Z1 A1 B1 H1 SZ T1 E1 XX ET
  generalize W1.setCells g 0 (trc x s1).toList = WV at XV ZV AV BV TV LV ⊢
  have a0c : WV.cell? ⟨g + 1, 0, none⟩ = some (.int .i64 a0) := AV.out.cell 0
  have a1c : WV.cell? ⟨g + 1, 1, none⟩ = some (.int .i64 a1) := AV.out.cell 1
  go_wp2_with (first
    | (refine wpList_load_row rfl 30 (.tmp 4) rfl g rfl 30 (trc x s1) (0, 0) _ XV.out Try.underlying30 rfl (tr_info _ _) ?_)
    | (refine wpList_store_mid (op := { dst := none, op := .store 30 (.tmp 8) (.tmp 29), type := 0, pos := _, after := _, guard := none }) (by rfl) 30 (.tmp 8) (.tmp 29) (by rfl) (g + 2) 0 (trc x s1) (by rfl) (by rfl) (ZV.out.there (Nat.le_refl 13)) (tr_info _ _) TV.out.one ?_))
  exact bodyPost_ret (v := .tuple #[.agg (trc x s1), .slice none 0 0, errno 1]) (results_and2 rfl rfl rfl rfl (tr_load (ZV.out.put (trc x s1) rfl))) rfl ⟨s1, _, rfl, (Tm.turn TV.out (Turn.setCells (S := fun k => k = g + 2) (fun _ => rfl) _ _ _ (Turn.refl _ _)) (fun k hk _ e => by have := GV.out; omega)).less (Nat.zero_le _), World.ownsRow_nil _ _ _ _, Below.setCells (by have := HG.out; omega) _ _ _ BV.out⟩
set_option maxRecDepth 100000 in
set_option maxHeartbeats 8000000 in
theorem ask_1b {B : Nat} (x : Tr) (s : Sl) (a0 a1 : Int) (sh md : Int) (w : World) (h : Tm w B x s) (hs : Short x) (hd0 : ¬ sh < 1) (hd1 : 64 < sh) :
    Calls Try.prog 18 #[.agg (trc x s), .int .i64 sh, .agg #[.int .i64 a0, .int .i64 a1], .int .i64 md] w (Post3 w (x, [], 1)) := by
  have X1 := Lib.hid (((Blk.new w 30 (trc x s)).alloc (.cells #[.int .i64 a0, .int .i64 a1] 25)).alloc (.cells zTr 30))
  have A1 := Lib.hid ((Blk.new_at (w := w.alloc (.cells (trc x s) 30)) (n := w.heap.size + 1) (by simp) 25 #[.int .i64 a0, .int .i64 a1]).alloc (.cells zTr 30))
  have Z1 := Lib.hid (Blk.new_at (w := (w.alloc (.cells (trc x s) 30)).alloc (.cells #[.int .i64 a0, .int .i64 a1] 25)) (n := w.heap.size + 2) (by simp) 30 zTr)
  have B1 := Lib.hid (((Joins.below_alloc1 w (.cells (trc x s) 30)).alloc (by simp <;> omega) (.cells #[.int .i64 a0, .int .i64 a1] 25)).alloc (by simp <;> omega) (.cells zTr 30))
  have SZ := Lib.hid (show (((w.alloc (.cells (trc x s) 30)).alloc (.cells #[.int .i64 a0, .int .i64 a1] 25)).alloc (.cells zTr 30)).heap.size = w.heap.size + 3 from by simp)
  have H1 := Lib.hid (h.step B1.out)
  have HS := Lib.hid hs
  have d0 : decide (sh < 1) = false := by simpa using hd0
  have d1 : decide (64 < sh) = true := by simpa using hd1
  clear hd0 hd1
  clear h hs
  go_enter Try.func18, Try.ntmps18
  go_upto_region 1 with fail
  obtain ⟨g, hg⟩ : ∃ g, g = w.heap.size := ⟨_, rfl⟩
  have HG := Lib.hid hg
  rw [← hg] at X1 A1 Z1 SZ ⊢
  clear hg
  generalize ((w.alloc (.cells (trc x s) 30)).alloc (.cells #[.int .i64 a0, .int .i64 a1] 25)).alloc (.cells zTr 30) = V at X1 A1 Z1 B1 H1 SZ ⊢
  go_upto_region 2 with (first
    | (refine wpList_load_row rfl 30 (.tmp 4) rfl g rfl 30 (trc x s) (0, 0) _ X1.out Try.underlying30 rfl (tr_info _ _) ?_)
    | (go_at_call 31; refine (own_any x s _ H1.out HS.out).mono ?_; rintro e W1 ⟨s1, rfl, ht, hn, hb⟩; have T1 := Lib.hid ht; have N1 := Lib.hid hn; have E1 := Lib.hid hb; have XX := Lib.hid (X1.out.here hb); clear ht hn hb)
    | (refine wpList_store_mid (by rfl) 30 (.tmp 4) (.tmp 12) (by rfl) g 0 (trc x s1) (by rfl) (by rfl) (XX.out.there (Nat.le_refl 13)) (tr_info _ _) T1.out.one ?_))
  have ET := Lib.hid (show Turn (fun k => k = g) W1 (W1.setCells g 0 (trc x s1).toList) from Turn.setCells (S := fun k => k = g) (fun _ => rfl) _ _ _ (Turn.refl _ _))
  have XV := Lib.hid (show Blk (W1.setCells g 0 (trc x s1).toList) g 30 (trc x s1) from XX.out.put (trc x s1) rfl)
  have ZV := Lib.hid ((Z1.out.here E1.out).turn ET.out (by omega))
  have AV := Lib.hid ((A1.out.here E1.out).turn ET.out (by omega))
  have BV := Lib.hid ((B1.out.trans (E1.out.mono B1.out.size)).trans (ET.out.below (B := w.heap.size) (fun k hk e => by have := HG.out; omega) (Nat.le_trans B1.out.size E1.out.size)))
  obtain ⟨b0, hb0⟩ : ∃ b0, b0 = V.heap.size := ⟨_, rfl⟩
  have GV := Lib.hid (show b0 = g + 3 from hb0.trans SZ.out)
  rw [← hb0] at T1
  have TV := Lib.hid (T1.out.turn ET.out (fun k hk _ e => by have := GV.out; omega))
  have LV := Lib.hid (show b0 ≤ (W1.setCells g 0 (trc x s1).toList).heap.size from by rw [hb0]; exact Nat.le_trans E1.out.size ET.out.size)
  clear hb0 X1 Z1 A1 B1 H1 SZ T1 E1 XX ET
  generalize W1.setCells g 0 (trc x s1).toList = WV at XV ZV AV BV TV LV ⊢
  have a0c : WV.cell? ⟨g + 1, 0, none⟩ = some (.int .i64 a0) := AV.out.cell 0
  have a1c : WV.cell? ⟨g + 1, 1, none⟩ = some (.int .i64 a1) := AV.out.cell 1
  go_wp2_with (first
    | (refine wpList_load_row rfl 30 (.tmp 4) rfl g rfl 30 (trc x s1) (0, 0) _ XV.out Try.underlying30 rfl (tr_info _ _) ?_)
    | (refine wpList_store_mid (op := { dst := none, op := .store 30 (.tmp 8) (.tmp 29), type := 0, pos := _, after := _, guard := none }) (by rfl) 30 (.tmp 8) (.tmp 29) (by rfl) (g + 2) 0 (trc x s1) (by rfl) (by rfl) (ZV.out.there (Nat.le_refl 13)) (tr_info _ _) TV.out.one ?_))
  exact bodyPost_ret (v := .tuple #[.agg (trc x s1), .slice none 0 0, errno 1]) (results_and2 rfl rfl rfl rfl (tr_load (ZV.out.put (trc x s1) rfl))) rfl ⟨s1, _, rfl, (Tm.turn TV.out (Turn.setCells (S := fun k => k = g + 2) (fun _ => rfl) _ _ _ (Turn.refl _ _)) (fun k hk _ e => by have := GV.out; omega)).less (Nat.zero_le _), World.ownsRow_nil _ _ _ _, Below.setCells (by have := HG.out; omega) _ _ _ BV.out⟩
set_option maxRecDepth 100000 in
set_option maxHeartbeats 8000000 in
theorem ask_1c {B : Nat} (x : Tr) (s : Sl) (a0 a1 : Int) (sh md : Int) (w : World) (h : Tm w B x s) (hs : Short x) (hd0 : ¬ sh < 1) (hd1 : ¬ 64 < sh) (hr : resB a0 a1 = false) :
    Calls Try.prog 18 #[.agg (trc x s), .int .i64 sh, .agg #[.int .i64 a0, .int .i64 a1], .int .i64 md] w (Post3 w (x, [], 1)) := by
  have X1 := Lib.hid (((Blk.new w 30 (trc x s)).alloc (.cells #[.int .i64 a0, .int .i64 a1] 25)).alloc (.cells zTr 30))
  have A1 := Lib.hid ((Blk.new_at (w := w.alloc (.cells (trc x s) 30)) (n := w.heap.size + 1) (by simp) 25 #[.int .i64 a0, .int .i64 a1]).alloc (.cells zTr 30))
  have Z1 := Lib.hid (Blk.new_at (w := (w.alloc (.cells (trc x s) 30)).alloc (.cells #[.int .i64 a0, .int .i64 a1] 25)) (n := w.heap.size + 2) (by simp) 30 zTr)
  have B1 := Lib.hid (((Joins.below_alloc1 w (.cells (trc x s) 30)).alloc (by simp <;> omega) (.cells #[.int .i64 a0, .int .i64 a1] 25)).alloc (by simp <;> omega) (.cells zTr 30))
  have SZ := Lib.hid (show (((w.alloc (.cells (trc x s) 30)).alloc (.cells #[.int .i64 a0, .int .i64 a1] 25)).alloc (.cells zTr 30)).heap.size = w.heap.size + 3 from by simp)
  have H1 := Lib.hid (h.step B1.out)
  have HS := Lib.hid hs
  have d0 : decide (sh < 1) = false := by simpa using hd0
  have d1 : decide (64 < sh) = false := by simpa using hd1
  have HR := Lib.hid hr
  clear hd0 hd1 hr
  clear h hs
  go_enter Try.func18, Try.ntmps18
  go_upto_region 1 with fail
  obtain ⟨g, hg⟩ : ∃ g, g = w.heap.size := ⟨_, rfl⟩
  have HG := Lib.hid hg
  rw [← hg] at X1 A1 Z1 SZ ⊢
  clear hg
  generalize ((w.alloc (.cells (trc x s) 30)).alloc (.cells #[.int .i64 a0, .int .i64 a1] 25)).alloc (.cells zTr 30) = V at X1 A1 Z1 B1 H1 SZ ⊢
  go_upto_region 2 with (first
    | (refine wpList_load_row rfl 30 (.tmp 4) rfl g rfl 30 (trc x s) (0, 0) _ X1.out Try.underlying30 rfl (tr_info _ _) ?_)
    | (go_at_call 31; refine (own_any x s _ H1.out HS.out).mono ?_; rintro e W1 ⟨s1, rfl, ht, hn, hb⟩; have T1 := Lib.hid ht; have N1 := Lib.hid hn; have E1 := Lib.hid hb; have XX := Lib.hid (X1.out.here hb); clear ht hn hb)
    | (refine wpList_store_mid (by rfl) 30 (.tmp 4) (.tmp 12) (by rfl) g 0 (trc x s1) (by rfl) (by rfl) (XX.out.there (Nat.le_refl 13)) (tr_info _ _) T1.out.one ?_))
  have ET := Lib.hid (show Turn (fun k => k = g) W1 (W1.setCells g 0 (trc x s1).toList) from Turn.setCells (S := fun k => k = g) (fun _ => rfl) _ _ _ (Turn.refl _ _))
  have XV := Lib.hid (show Blk (W1.setCells g 0 (trc x s1).toList) g 30 (trc x s1) from XX.out.put (trc x s1) rfl)
  have ZV := Lib.hid ((Z1.out.here E1.out).turn ET.out (by omega))
  have AV := Lib.hid ((A1.out.here E1.out).turn ET.out (by omega))
  have BV := Lib.hid ((B1.out.trans (E1.out.mono B1.out.size)).trans (ET.out.below (B := w.heap.size) (fun k hk e => by have := HG.out; omega) (Nat.le_trans B1.out.size E1.out.size)))
  obtain ⟨b0, hb0⟩ : ∃ b0, b0 = V.heap.size := ⟨_, rfl⟩
  have GV := Lib.hid (show b0 = g + 3 from hb0.trans SZ.out)
  rw [← hb0] at T1
  have TV := Lib.hid (T1.out.turn ET.out (fun k hk _ e => by have := GV.out; omega))
  have LV := Lib.hid (show b0 ≤ (W1.setCells g 0 (trc x s1).toList).heap.size from by rw [hb0]; exact Nat.le_trans E1.out.size ET.out.size)
  clear hb0 X1 Z1 A1 B1 H1 SZ T1 E1 XX ET
  generalize W1.setCells g 0 (trc x s1).toList = WV at XV ZV AV BV TV LV ⊢
  have a0c : WV.cell? ⟨g + 1, 0, none⟩ = some (.int .i64 a0) := AV.out.cell 0
  have a1c : WV.cell? ⟨g + 1, 1, none⟩ = some (.int .i64 a1) := AV.out.cell 1
  go_upto_region 5 with (first
    | (go_at_call 33; refine (resok_b a0 a1 false HR.out _).mono ?_; rintro e W2 ⟨rfl, hb2⟩; have XV := Lib.hid (XV.out.here hb2); have ZV := Lib.hid (ZV.out.here hb2); have AV := Lib.hid (AV.out.here hb2); have TV := Lib.hid (TV.out.step hb2); have BV := Lib.hid (stepB BV.out hb2); have LV := Lib.hid (Nat.le_trans LV.out hb2.size); clear hb2))
  go_wp2_with (first
    | (refine wpList_load_row rfl 30 (.tmp 4) rfl g rfl 30 (trc x s1) (0, 0) _ XV.out Try.underlying30 rfl (tr_info _ _) ?_)
    | (refine wpList_store_mid (op := { dst := none, op := .store 30 (.tmp 8) (.tmp 29), type := 0, pos := _, after := _, guard := none }) (by rfl) 30 (.tmp 8) (.tmp 29) (by rfl) (g + 2) 0 (trc x s1) (by rfl) (by rfl) (ZV.out.there (Nat.le_refl 13)) (tr_info _ _) TV.out.one ?_))
  exact bodyPost_ret (v := .tuple #[.agg (trc x s1), .slice none 0 0, errno 1]) (results_and2 rfl rfl rfl rfl (tr_load (ZV.out.put (trc x s1) rfl))) rfl ⟨s1, _, rfl, (Tm.turn TV.out (Turn.setCells (S := fun k => k = g + 2) (fun _ => rfl) _ _ _ (Turn.refl _ _)) (fun k hk _ e => by have := GV.out; omega)).less (Nat.zero_le _), World.ownsRow_nil _ _ _ _, Below.setCells (by have := HG.out; omega) _ _ _ BV.out⟩
set_option maxRecDepth 100000 in
set_option maxHeartbeats 8000000 in
theorem ask_1d {B : Nat} (x : Tr) (s : Sl) (a0 a1 : Int) (sh md : Int) (w : World) (h : Tm w B x s) (hs : Short x) (hd0 : ¬ sh < 1) (hd1 : ¬ 64 < sh) (hr : resB a0 a1 = true) (hd2 : md < 1) :
    Calls Try.prog 18 #[.agg (trc x s), .int .i64 sh, .agg #[.int .i64 a0, .int .i64 a1], .int .i64 md] w (Post3 w (x, [], 1)) := by
  have X1 := Lib.hid (((Blk.new w 30 (trc x s)).alloc (.cells #[.int .i64 a0, .int .i64 a1] 25)).alloc (.cells zTr 30))
  have A1 := Lib.hid ((Blk.new_at (w := w.alloc (.cells (trc x s) 30)) (n := w.heap.size + 1) (by simp) 25 #[.int .i64 a0, .int .i64 a1]).alloc (.cells zTr 30))
  have Z1 := Lib.hid (Blk.new_at (w := (w.alloc (.cells (trc x s) 30)).alloc (.cells #[.int .i64 a0, .int .i64 a1] 25)) (n := w.heap.size + 2) (by simp) 30 zTr)
  have B1 := Lib.hid (((Joins.below_alloc1 w (.cells (trc x s) 30)).alloc (by simp <;> omega) (.cells #[.int .i64 a0, .int .i64 a1] 25)).alloc (by simp <;> omega) (.cells zTr 30))
  have SZ := Lib.hid (show (((w.alloc (.cells (trc x s) 30)).alloc (.cells #[.int .i64 a0, .int .i64 a1] 25)).alloc (.cells zTr 30)).heap.size = w.heap.size + 3 from by simp)
  have H1 := Lib.hid (h.step B1.out)
  have HS := Lib.hid hs
  have d0 : decide (sh < 1) = false := by simpa using hd0
  have d1 : decide (64 < sh) = false := by simpa using hd1
  have HR := Lib.hid hr
  have d2 : decide (md < 1) = true := by simpa using hd2
  clear hd0 hd1 hr hd2
  clear h hs
  go_enter Try.func18, Try.ntmps18
  go_upto_region 1 with fail
  obtain ⟨g, hg⟩ : ∃ g, g = w.heap.size := ⟨_, rfl⟩
  have HG := Lib.hid hg
  rw [← hg] at X1 A1 Z1 SZ ⊢
  clear hg
  generalize ((w.alloc (.cells (trc x s) 30)).alloc (.cells #[.int .i64 a0, .int .i64 a1] 25)).alloc (.cells zTr 30) = V at X1 A1 Z1 B1 H1 SZ ⊢
  go_upto_region 2 with (first
    | (refine wpList_load_row rfl 30 (.tmp 4) rfl g rfl 30 (trc x s) (0, 0) _ X1.out Try.underlying30 rfl (tr_info _ _) ?_)
    | (go_at_call 31; refine (own_any x s _ H1.out HS.out).mono ?_; rintro e W1 ⟨s1, rfl, ht, hn, hb⟩; have T1 := Lib.hid ht; have N1 := Lib.hid hn; have E1 := Lib.hid hb; have XX := Lib.hid (X1.out.here hb); clear ht hn hb)
    | (refine wpList_store_mid (by rfl) 30 (.tmp 4) (.tmp 12) (by rfl) g 0 (trc x s1) (by rfl) (by rfl) (XX.out.there (Nat.le_refl 13)) (tr_info _ _) T1.out.one ?_))
  have ET := Lib.hid (show Turn (fun k => k = g) W1 (W1.setCells g 0 (trc x s1).toList) from Turn.setCells (S := fun k => k = g) (fun _ => rfl) _ _ _ (Turn.refl _ _))
  have XV := Lib.hid (show Blk (W1.setCells g 0 (trc x s1).toList) g 30 (trc x s1) from XX.out.put (trc x s1) rfl)
  have ZV := Lib.hid ((Z1.out.here E1.out).turn ET.out (by omega))
  have AV := Lib.hid ((A1.out.here E1.out).turn ET.out (by omega))
  have BV := Lib.hid ((B1.out.trans (E1.out.mono B1.out.size)).trans (ET.out.below (B := w.heap.size) (fun k hk e => by have := HG.out; omega) (Nat.le_trans B1.out.size E1.out.size)))
  obtain ⟨b0, hb0⟩ : ∃ b0, b0 = V.heap.size := ⟨_, rfl⟩
  have GV := Lib.hid (show b0 = g + 3 from hb0.trans SZ.out)
  rw [← hb0] at T1
  have TV := Lib.hid (T1.out.turn ET.out (fun k hk _ e => by have := GV.out; omega))
  have LV := Lib.hid (show b0 ≤ (W1.setCells g 0 (trc x s1).toList).heap.size from by rw [hb0]; exact Nat.le_trans E1.out.size ET.out.size)
  clear hb0 X1 Z1 A1 B1 H1 SZ T1 E1 XX ET
  generalize W1.setCells g 0 (trc x s1).toList = WV at XV ZV AV BV TV LV ⊢
  have a0c : WV.cell? ⟨g + 1, 0, none⟩ = some (.int .i64 a0) := AV.out.cell 0
  have a1c : WV.cell? ⟨g + 1, 1, none⟩ = some (.int .i64 a1) := AV.out.cell 1
  go_upto_region 5 with (first
    | (go_at_call 33; refine (resok_b a0 a1 true HR.out _).mono ?_; rintro e W2 ⟨rfl, hb2⟩; have XV := Lib.hid (XV.out.here hb2); have ZV := Lib.hid (ZV.out.here hb2); have AV := Lib.hid (AV.out.here hb2); have TV := Lib.hid (TV.out.step hb2); have BV := Lib.hid (stepB BV.out hb2); have LV := Lib.hid (Nat.le_trans LV.out hb2.size); clear hb2))
  go_wp2_with (first
    | (refine wpList_load_row rfl 30 (.tmp 4) rfl g rfl 30 (trc x s1) (0, 0) _ XV.out Try.underlying30 rfl (tr_info _ _) ?_)
    | (refine wpList_store_mid (op := { dst := none, op := .store 30 (.tmp 8) (.tmp 29), type := 0, pos := _, after := _, guard := none }) (by rfl) 30 (.tmp 8) (.tmp 29) (by rfl) (g + 2) 0 (trc x s1) (by rfl) (by rfl) (ZV.out.there (Nat.le_refl 13)) (tr_info _ _) TV.out.one ?_))
  exact bodyPost_ret (v := .tuple #[.agg (trc x s1), .slice none 0 0, errno 1]) (results_and2 rfl rfl rfl rfl (tr_load (ZV.out.put (trc x s1) rfl))) rfl ⟨s1, _, rfl, (Tm.turn TV.out (Turn.setCells (S := fun k => k = g + 2) (fun _ => rfl) _ _ _ (Turn.refl _ _)) (fun k hk _ e => by have := GV.out; omega)).less (Nat.zero_le _), World.ownsRow_nil _ _ _ _, Below.setCells (by have := HG.out; omega) _ _ _ BV.out⟩
set_option maxRecDepth 100000 in
set_option maxHeartbeats 8000000 in
theorem ask_1e {B : Nat} (x : Tr) (s : Sl) (a0 a1 : Int) (sh md : Int) (w : World) (h : Tm w B x s) (hs : Short x) (hd0 : ¬ sh < 1) (hd1 : ¬ 64 < sh) (hr : resB a0 a1 = true) (hd2 : ¬ md < 1) (hd3 : 4 < md) :
    Calls Try.prog 18 #[.agg (trc x s), .int .i64 sh, .agg #[.int .i64 a0, .int .i64 a1], .int .i64 md] w (Post3 w (x, [], 1)) := by
  have X1 := Lib.hid (((Blk.new w 30 (trc x s)).alloc (.cells #[.int .i64 a0, .int .i64 a1] 25)).alloc (.cells zTr 30))
  have A1 := Lib.hid ((Blk.new_at (w := w.alloc (.cells (trc x s) 30)) (n := w.heap.size + 1) (by simp) 25 #[.int .i64 a0, .int .i64 a1]).alloc (.cells zTr 30))
  have Z1 := Lib.hid (Blk.new_at (w := (w.alloc (.cells (trc x s) 30)).alloc (.cells #[.int .i64 a0, .int .i64 a1] 25)) (n := w.heap.size + 2) (by simp) 30 zTr)
  have B1 := Lib.hid (((Joins.below_alloc1 w (.cells (trc x s) 30)).alloc (by simp <;> omega) (.cells #[.int .i64 a0, .int .i64 a1] 25)).alloc (by simp <;> omega) (.cells zTr 30))
  have SZ := Lib.hid (show (((w.alloc (.cells (trc x s) 30)).alloc (.cells #[.int .i64 a0, .int .i64 a1] 25)).alloc (.cells zTr 30)).heap.size = w.heap.size + 3 from by simp)
  have H1 := Lib.hid (h.step B1.out)
  have HS := Lib.hid hs
  have d0 : decide (sh < 1) = false := by simpa using hd0
  have d1 : decide (64 < sh) = false := by simpa using hd1
  have HR := Lib.hid hr
  have d2 : decide (md < 1) = false := by simpa using hd2
  have d3 : decide (4 < md) = true := by simpa using hd3
  clear hd0 hd1 hr hd2 hd3
  clear h hs
  go_enter Try.func18, Try.ntmps18
  go_upto_region 1 with fail
  obtain ⟨g, hg⟩ : ∃ g, g = w.heap.size := ⟨_, rfl⟩
  have HG := Lib.hid hg
  rw [← hg] at X1 A1 Z1 SZ ⊢
  clear hg
  generalize ((w.alloc (.cells (trc x s) 30)).alloc (.cells #[.int .i64 a0, .int .i64 a1] 25)).alloc (.cells zTr 30) = V at X1 A1 Z1 B1 H1 SZ ⊢
  go_upto_region 2 with (first
    | (refine wpList_load_row rfl 30 (.tmp 4) rfl g rfl 30 (trc x s) (0, 0) _ X1.out Try.underlying30 rfl (tr_info _ _) ?_)
    | (go_at_call 31; refine (own_any x s _ H1.out HS.out).mono ?_; rintro e W1 ⟨s1, rfl, ht, hn, hb⟩; have T1 := Lib.hid ht; have N1 := Lib.hid hn; have E1 := Lib.hid hb; have XX := Lib.hid (X1.out.here hb); clear ht hn hb)
    | (refine wpList_store_mid (by rfl) 30 (.tmp 4) (.tmp 12) (by rfl) g 0 (trc x s1) (by rfl) (by rfl) (XX.out.there (Nat.le_refl 13)) (tr_info _ _) T1.out.one ?_))
  have ET := Lib.hid (show Turn (fun k => k = g) W1 (W1.setCells g 0 (trc x s1).toList) from Turn.setCells (S := fun k => k = g) (fun _ => rfl) _ _ _ (Turn.refl _ _))
  have XV := Lib.hid (show Blk (W1.setCells g 0 (trc x s1).toList) g 30 (trc x s1) from XX.out.put (trc x s1) rfl)
  have ZV := Lib.hid ((Z1.out.here E1.out).turn ET.out (by omega))
  have AV := Lib.hid ((A1.out.here E1.out).turn ET.out (by omega))
  have BV := Lib.hid ((B1.out.trans (E1.out.mono B1.out.size)).trans (ET.out.below (B := w.heap.size) (fun k hk e => by have := HG.out; omega) (Nat.le_trans B1.out.size E1.out.size)))
  obtain ⟨b0, hb0⟩ : ∃ b0, b0 = V.heap.size := ⟨_, rfl⟩
  have GV := Lib.hid (show b0 = g + 3 from hb0.trans SZ.out)
  rw [← hb0] at T1
  have TV := Lib.hid (T1.out.turn ET.out (fun k hk _ e => by have := GV.out; omega))
  have LV := Lib.hid (show b0 ≤ (W1.setCells g 0 (trc x s1).toList).heap.size from by rw [hb0]; exact Nat.le_trans E1.out.size ET.out.size)
  clear hb0 X1 Z1 A1 B1 H1 SZ T1 E1 XX ET
  generalize W1.setCells g 0 (trc x s1).toList = WV at XV ZV AV BV TV LV ⊢
  have a0c : WV.cell? ⟨g + 1, 0, none⟩ = some (.int .i64 a0) := AV.out.cell 0
  have a1c : WV.cell? ⟨g + 1, 1, none⟩ = some (.int .i64 a1) := AV.out.cell 1
  go_upto_region 5 with (first
    | (go_at_call 33; refine (resok_b a0 a1 true HR.out _).mono ?_; rintro e W2 ⟨rfl, hb2⟩; have XV := Lib.hid (XV.out.here hb2); have ZV := Lib.hid (ZV.out.here hb2); have AV := Lib.hid (AV.out.here hb2); have TV := Lib.hid (TV.out.step hb2); have BV := Lib.hid (stepB BV.out hb2); have LV := Lib.hid (Nat.le_trans LV.out hb2.size); clear hb2))
  go_wp2_with (first
    | (refine wpList_load_row rfl 30 (.tmp 4) rfl g rfl 30 (trc x s1) (0, 0) _ XV.out Try.underlying30 rfl (tr_info _ _) ?_)
    | (refine wpList_store_mid (op := { dst := none, op := .store 30 (.tmp 8) (.tmp 29), type := 0, pos := _, after := _, guard := none }) (by rfl) 30 (.tmp 8) (.tmp 29) (by rfl) (g + 2) 0 (trc x s1) (by rfl) (by rfl) (ZV.out.there (Nat.le_refl 13)) (tr_info _ _) TV.out.one ?_))
  exact bodyPost_ret (v := .tuple #[.agg (trc x s1), .slice none 0 0, errno 1]) (results_and2 rfl rfl rfl rfl (tr_load (ZV.out.put (trc x s1) rfl))) rfl ⟨s1, _, rfl, (Tm.turn TV.out (Turn.setCells (S := fun k => k = g + 2) (fun _ => rfl) _ _ _ (Turn.refl _ _)) (fun k hk _ e => by have := GV.out; omega)).less (Nat.zero_le _), World.ownsRow_nil _ _ _ _, Below.setCells (by have := HG.out; omega) _ _ _ BV.out⟩
set_option maxRecDepth 100000 in
set_option maxHeartbeats 8000000 in
theorem ask_11 {B : Nat} (x : Tr) (s : Sl) (a0 a1 : Int) (sh md : Int) (w : World) (h : Tm w B x s) (hs : Short x) (hd0 : ¬ sh < 1) (hd1 : ¬ 64 < sh) (hr : resB a0 a1 = true) (hd2 : ¬ md < 1) (hd3 : ¬ 4 < md) (h1 : ¬ x.st = 1) :
    Calls Try.prog 18 #[.agg (trc x s), .int .i64 sh, .agg #[.int .i64 a0, .int .i64 a1], .int .i64 md] w (Post3 w (x, [], 11)) := by
  have X1 := Lib.hid (((Blk.new w 30 (trc x s)).alloc (.cells #[.int .i64 a0, .int .i64 a1] 25)).alloc (.cells zTr 30))
  have A1 := Lib.hid ((Blk.new_at (w := w.alloc (.cells (trc x s) 30)) (n := w.heap.size + 1) (by simp) 25 #[.int .i64 a0, .int .i64 a1]).alloc (.cells zTr 30))
  have Z1 := Lib.hid (Blk.new_at (w := (w.alloc (.cells (trc x s) 30)).alloc (.cells #[.int .i64 a0, .int .i64 a1] 25)) (n := w.heap.size + 2) (by simp) 30 zTr)
  have B1 := Lib.hid (((Joins.below_alloc1 w (.cells (trc x s) 30)).alloc (by simp <;> omega) (.cells #[.int .i64 a0, .int .i64 a1] 25)).alloc (by simp <;> omega) (.cells zTr 30))
  have SZ := Lib.hid (show (((w.alloc (.cells (trc x s) 30)).alloc (.cells #[.int .i64 a0, .int .i64 a1] 25)).alloc (.cells zTr 30)).heap.size = w.heap.size + 3 from by simp)
  have H1 := Lib.hid (h.step B1.out)
  have HS := Lib.hid hs
  have d0 : decide (sh < 1) = false := by simpa using hd0
  have d1 : decide (64 < sh) = false := by simpa using hd1
  have HR := Lib.hid hr
  have d2 : decide (md < 1) = false := by simpa using hd2
  have d3 : decide (4 < md) = false := by simpa using hd3
  have e1 : (x.st != 1) = true := by simpa using h1
  clear hd0 hd1 hr hd2 hd3 h1
  clear h hs
  go_enter Try.func18, Try.ntmps18
  go_upto_region 1 with fail
  obtain ⟨g, hg⟩ : ∃ g, g = w.heap.size := ⟨_, rfl⟩
  have HG := Lib.hid hg
  rw [← hg] at X1 A1 Z1 SZ ⊢
  clear hg
  generalize ((w.alloc (.cells (trc x s) 30)).alloc (.cells #[.int .i64 a0, .int .i64 a1] 25)).alloc (.cells zTr 30) = V at X1 A1 Z1 B1 H1 SZ ⊢
  go_upto_region 2 with (first
    | (refine wpList_load_row rfl 30 (.tmp 4) rfl g rfl 30 (trc x s) (0, 0) _ X1.out Try.underlying30 rfl (tr_info _ _) ?_)
    | (go_at_call 31; refine (own_any x s _ H1.out HS.out).mono ?_; rintro e W1 ⟨s1, rfl, ht, hn, hb⟩; have T1 := Lib.hid ht; have N1 := Lib.hid hn; have E1 := Lib.hid hb; have XX := Lib.hid (X1.out.here hb); clear ht hn hb)
    | (refine wpList_store_mid (by rfl) 30 (.tmp 4) (.tmp 12) (by rfl) g 0 (trc x s1) (by rfl) (by rfl) (XX.out.there (Nat.le_refl 13)) (tr_info _ _) T1.out.one ?_))
  have ET := Lib.hid (show Turn (fun k => k = g) W1 (W1.setCells g 0 (trc x s1).toList) from Turn.setCells (S := fun k => k = g) (fun _ => rfl) _ _ _ (Turn.refl _ _))
  have XV := Lib.hid (show Blk (W1.setCells g 0 (trc x s1).toList) g 30 (trc x s1) from XX.out.put (trc x s1) rfl)
  have ZV := Lib.hid ((Z1.out.here E1.out).turn ET.out (by omega))
  have AV := Lib.hid ((A1.out.here E1.out).turn ET.out (by omega))
  have BV := Lib.hid ((B1.out.trans (E1.out.mono B1.out.size)).trans (ET.out.below (B := w.heap.size) (fun k hk e => by have := HG.out; omega) (Nat.le_trans B1.out.size E1.out.size)))
  obtain ⟨b0, hb0⟩ : ∃ b0, b0 = V.heap.size := ⟨_, rfl⟩
  have GV := Lib.hid (show b0 = g + 3 from hb0.trans SZ.out)
  rw [← hb0] at T1
  have TV := Lib.hid (T1.out.turn ET.out (fun k hk _ e => by have := GV.out; omega))
  have LV := Lib.hid (show b0 ≤ (W1.setCells g 0 (trc x s1).toList).heap.size from by rw [hb0]; exact Nat.le_trans E1.out.size ET.out.size)
  clear hb0 X1 Z1 A1 B1 H1 SZ T1 E1 XX ET
  generalize W1.setCells g 0 (trc x s1).toList = WV at XV ZV AV BV TV LV ⊢
  have a0c : WV.cell? ⟨g + 1, 0, none⟩ = some (.int .i64 a0) := AV.out.cell 0
  have a1c : WV.cell? ⟨g + 1, 1, none⟩ = some (.int .i64 a1) := AV.out.cell 1
  go_upto_region 6 with (first
    | (go_at_call 33; refine (resok_b a0 a1 true HR.out _).mono ?_; rintro e W2 ⟨rfl, hb2⟩; have XV := Lib.hid (XV.out.here hb2); have ZV := Lib.hid (ZV.out.here hb2); have AV := Lib.hid (AV.out.here hb2); have TV := Lib.hid (TV.out.step hb2); have BV := Lib.hid (stepB BV.out hb2); have LV := Lib.hid (Nat.le_trans LV.out hb2.size); clear hb2))
  generalize W2 = WV at XV ZV AV TV BV LV ⊢
  clear a0c a1c
  have c1 : WV.cell? ⟨g, 1, none⟩ = some (.int .i64 x.st) := XV.out.cell 1
  go_wp2_with (first
    | (refine wpList_load_row rfl 30 (.tmp 4) rfl g rfl 30 (trc x s1) (0, 0) _ XV.out Try.underlying30 rfl (tr_info _ _) ?_)
    | (refine wpList_store_mid (op := { dst := none, op := .store 30 (.tmp 8) (.tmp 35), type := 0, pos := _, after := _, guard := none }) (by rfl) 30 (.tmp 8) (.tmp 35) (by rfl) (g + 2) 0 (trc x s1) (by rfl) (by rfl) (ZV.out.there (Nat.le_refl 13)) (tr_info _ _) TV.out.one ?_))
  exact bodyPost_ret (v := .tuple #[.agg (trc x s1), .slice none 0 0, errno 11]) (results_and2 rfl rfl rfl rfl (tr_load (ZV.out.put (trc x s1) rfl))) rfl ⟨s1, _, rfl, (Tm.turn TV.out (Turn.setCells (S := fun k => k = g + 2) (fun _ => rfl) _ _ _ (Turn.refl _ _)) (fun k hk _ e => by have := GV.out; omega)).less (Nat.zero_le _), World.ownsRow_nil _ _ _ _, Below.setCells (by have := HG.out; omega) _ _ _ BV.out⟩
set_option maxRecDepth 100000 in
set_option maxHeartbeats 8000000 in
theorem ask_8 {B : Nat} (x : Tr) (s : Sl) (a0 a1 : Int) (sh md : Int) (w : World) (h : Tm w B x s) (hs : Short x) (hd0 : ¬ sh < 1) (hd1 : ¬ 64 < sh) (hr : resB a0 a1 = true) (hd2 : ¬ md < 1) (hd3 : ¬ 4 < md) (h1 : x.st = 1) (ho : x.op = true) :
    Calls Try.prog 18 #[.agg (trc x s), .int .i64 sh, .agg #[.int .i64 a0, .int .i64 a1], .int .i64 md] w (Post3 w (x, [], 8)) := by
  have X1 := Lib.hid (((Blk.new w 30 (trc x s)).alloc (.cells #[.int .i64 a0, .int .i64 a1] 25)).alloc (.cells zTr 30))
  have A1 := Lib.hid ((Blk.new_at (w := w.alloc (.cells (trc x s) 30)) (n := w.heap.size + 1) (by simp) 25 #[.int .i64 a0, .int .i64 a1]).alloc (.cells zTr 30))
  have Z1 := Lib.hid (Blk.new_at (w := (w.alloc (.cells (trc x s) 30)).alloc (.cells #[.int .i64 a0, .int .i64 a1] 25)) (n := w.heap.size + 2) (by simp) 30 zTr)
  have B1 := Lib.hid (((Joins.below_alloc1 w (.cells (trc x s) 30)).alloc (by simp <;> omega) (.cells #[.int .i64 a0, .int .i64 a1] 25)).alloc (by simp <;> omega) (.cells zTr 30))
  have SZ := Lib.hid (show (((w.alloc (.cells (trc x s) 30)).alloc (.cells #[.int .i64 a0, .int .i64 a1] 25)).alloc (.cells zTr 30)).heap.size = w.heap.size + 3 from by simp)
  have H1 := Lib.hid (h.step B1.out)
  have HS := Lib.hid hs
  have d0 : decide (sh < 1) = false := by simpa using hd0
  have d1 : decide (64 < sh) = false := by simpa using hd1
  have HR := Lib.hid hr
  have d2 : decide (md < 1) = false := by simpa using hd2
  have d3 : decide (4 < md) = false := by simpa using hd3
  have e1 : (x.st != 1) = false := by simpa using h1
  have HO := Lib.hid ho
  clear hd0 hd1 hr hd2 hd3 h1 ho
  clear h hs
  go_enter Try.func18, Try.ntmps18
  go_upto_region 1 with fail
  obtain ⟨g, hg⟩ : ∃ g, g = w.heap.size := ⟨_, rfl⟩
  have HG := Lib.hid hg
  rw [← hg] at X1 A1 Z1 SZ ⊢
  clear hg
  generalize ((w.alloc (.cells (trc x s) 30)).alloc (.cells #[.int .i64 a0, .int .i64 a1] 25)).alloc (.cells zTr 30) = V at X1 A1 Z1 B1 H1 SZ ⊢
  go_upto_region 2 with (first
    | (refine wpList_load_row rfl 30 (.tmp 4) rfl g rfl 30 (trc x s) (0, 0) _ X1.out Try.underlying30 rfl (tr_info _ _) ?_)
    | (go_at_call 31; refine (own_any x s _ H1.out HS.out).mono ?_; rintro e W1 ⟨s1, rfl, ht, hn, hb⟩; have T1 := Lib.hid ht; have N1 := Lib.hid hn; have E1 := Lib.hid hb; have XX := Lib.hid (X1.out.here hb); clear ht hn hb)
    | (refine wpList_store_mid (by rfl) 30 (.tmp 4) (.tmp 12) (by rfl) g 0 (trc x s1) (by rfl) (by rfl) (XX.out.there (Nat.le_refl 13)) (tr_info _ _) T1.out.one ?_))
  have ET := Lib.hid (show Turn (fun k => k = g) W1 (W1.setCells g 0 (trc x s1).toList) from Turn.setCells (S := fun k => k = g) (fun _ => rfl) _ _ _ (Turn.refl _ _))
  have XV := Lib.hid (show Blk (W1.setCells g 0 (trc x s1).toList) g 30 (trc x s1) from XX.out.put (trc x s1) rfl)
  have ZV := Lib.hid ((Z1.out.here E1.out).turn ET.out (by omega))
  have AV := Lib.hid ((A1.out.here E1.out).turn ET.out (by omega))
  have BV := Lib.hid ((B1.out.trans (E1.out.mono B1.out.size)).trans (ET.out.below (B := w.heap.size) (fun k hk e => by have := HG.out; omega) (Nat.le_trans B1.out.size E1.out.size)))
  obtain ⟨b0, hb0⟩ : ∃ b0, b0 = V.heap.size := ⟨_, rfl⟩
  have GV := Lib.hid (show b0 = g + 3 from hb0.trans SZ.out)
  rw [← hb0] at T1
  have TV := Lib.hid (T1.out.turn ET.out (fun k hk _ e => by have := GV.out; omega))
  have LV := Lib.hid (show b0 ≤ (W1.setCells g 0 (trc x s1).toList).heap.size from by rw [hb0]; exact Nat.le_trans E1.out.size ET.out.size)
  clear hb0 X1 Z1 A1 B1 H1 SZ T1 E1 XX ET
  generalize W1.setCells g 0 (trc x s1).toList = WV at XV ZV AV BV TV LV ⊢
  have a0c : WV.cell? ⟨g + 1, 0, none⟩ = some (.int .i64 a0) := AV.out.cell 0
  have a1c : WV.cell? ⟨g + 1, 1, none⟩ = some (.int .i64 a1) := AV.out.cell 1
  go_upto_region 6 with (first
    | (go_at_call 33; refine (resok_b a0 a1 true HR.out _).mono ?_; rintro e W2 ⟨rfl, hb2⟩; have XV := Lib.hid (XV.out.here hb2); have ZV := Lib.hid (ZV.out.here hb2); have AV := Lib.hid (AV.out.here hb2); have TV := Lib.hid (TV.out.step hb2); have BV := Lib.hid (stepB BV.out hb2); have LV := Lib.hid (Nat.le_trans LV.out hb2.size); clear hb2))
  generalize W2 = WV at XV ZV AV TV BV LV ⊢
  clear a0c a1c
  have c1 : WV.cell? ⟨g, 1, none⟩ = some (.int .i64 x.st) := XV.out.cell 1
  have c4 : WV.cell? ⟨g, 4, none⟩ = some (.bool true) := by rw [← HO.out]; exact XV.out.cell 4
  go_wp2_with (first
    | (refine wpList_load_row rfl 30 (.tmp 4) rfl g rfl 30 (trc x s1) (0, 0) _ XV.out Try.underlying30 rfl (tr_info _ _) ?_)
    | (refine wpList_store_mid (op := { dst := none, op := .store 30 (.tmp 8) (.tmp 40), type := 0, pos := _, after := _, guard := none }) (by rfl) 30 (.tmp 8) (.tmp 40) (by rfl) (g + 2) 0 (trc x s1) (by rfl) (by rfl) (ZV.out.there (Nat.le_refl 13)) (tr_info _ _) TV.out.one ?_))
  exact bodyPost_ret (v := .tuple #[.agg (trc x s1), .slice none 0 0, errno 8]) (results_and2 rfl rfl rfl rfl (tr_load (ZV.out.put (trc x s1) rfl))) rfl ⟨s1, _, rfl, (Tm.turn TV.out (Turn.setCells (S := fun k => k = g + 2) (fun _ => rfl) _ _ _ (Turn.refl _ _)) (fun k hk _ e => by have := GV.out; omega)).less (Nat.zero_le _), World.ownsRow_nil _ _ _ _, Below.setCells (by have := HG.out; omega) _ _ _ BV.out⟩
set_option maxRecDepth 100000 in
set_option maxHeartbeats 8000000 in
theorem ask_6 {B : Nat} (x : Tr) (s : Sl) (a0 a1 : Int) (sh md : Int) (w : World) (h : Tm w B x s) (hs : Short x) (hd0 : ¬ sh < 1) (hd1 : ¬ 64 < sh) (hr : resB a0 a1 = true) (hd2 : ¬ md < 1) (hd3 : ¬ 4 < md) (h1 : x.st = 1) (ho : x.op = false) (hq : 1048576 ≤ x.sq) :
    Calls Try.prog 18 #[.agg (trc x s), .int .i64 sh, .agg #[.int .i64 a0, .int .i64 a1], .int .i64 md] w (Post3 w (x, [], 6)) := by
  have X1 := Lib.hid (((Blk.new w 30 (trc x s)).alloc (.cells #[.int .i64 a0, .int .i64 a1] 25)).alloc (.cells zTr 30))
  have A1 := Lib.hid ((Blk.new_at (w := w.alloc (.cells (trc x s) 30)) (n := w.heap.size + 1) (by simp) 25 #[.int .i64 a0, .int .i64 a1]).alloc (.cells zTr 30))
  have Z1 := Lib.hid (Blk.new_at (w := (w.alloc (.cells (trc x s) 30)).alloc (.cells #[.int .i64 a0, .int .i64 a1] 25)) (n := w.heap.size + 2) (by simp) 30 zTr)
  have B1 := Lib.hid (((Joins.below_alloc1 w (.cells (trc x s) 30)).alloc (by simp <;> omega) (.cells #[.int .i64 a0, .int .i64 a1] 25)).alloc (by simp <;> omega) (.cells zTr 30))
  have SZ := Lib.hid (show (((w.alloc (.cells (trc x s) 30)).alloc (.cells #[.int .i64 a0, .int .i64 a1] 25)).alloc (.cells zTr 30)).heap.size = w.heap.size + 3 from by simp)
  have H1 := Lib.hid (h.step B1.out)
  have HS := Lib.hid hs
  have d0 : decide (sh < 1) = false := by simpa using hd0
  have d1 : decide (64 < sh) = false := by simpa using hd1
  have HR := Lib.hid hr
  have d2 : decide (md < 1) = false := by simpa using hd2
  have d3 : decide (4 < md) = false := by simpa using hd3
  have e1 : (x.st != 1) = false := by simpa using h1
  have HO := Lib.hid ho
  have d4 : decide (1048576 ≤ x.sq) = true := by simpa using hq
  clear hd0 hd1 hr hd2 hd3 h1 ho hq
  clear h hs
  go_enter Try.func18, Try.ntmps18
  go_upto_region 1 with fail
  obtain ⟨g, hg⟩ : ∃ g, g = w.heap.size := ⟨_, rfl⟩
  have HG := Lib.hid hg
  rw [← hg] at X1 A1 Z1 SZ ⊢
  clear hg
  generalize ((w.alloc (.cells (trc x s) 30)).alloc (.cells #[.int .i64 a0, .int .i64 a1] 25)).alloc (.cells zTr 30) = V at X1 A1 Z1 B1 H1 SZ ⊢
  go_upto_region 2 with (first
    | (refine wpList_load_row rfl 30 (.tmp 4) rfl g rfl 30 (trc x s) (0, 0) _ X1.out Try.underlying30 rfl (tr_info _ _) ?_)
    | (go_at_call 31; refine (own_any x s _ H1.out HS.out).mono ?_; rintro e W1 ⟨s1, rfl, ht, hn, hb⟩; have T1 := Lib.hid ht; have N1 := Lib.hid hn; have E1 := Lib.hid hb; have XX := Lib.hid (X1.out.here hb); clear ht hn hb)
    | (refine wpList_store_mid (by rfl) 30 (.tmp 4) (.tmp 12) (by rfl) g 0 (trc x s1) (by rfl) (by rfl) (XX.out.there (Nat.le_refl 13)) (tr_info _ _) T1.out.one ?_))
  have ET := Lib.hid (show Turn (fun k => k = g) W1 (W1.setCells g 0 (trc x s1).toList) from Turn.setCells (S := fun k => k = g) (fun _ => rfl) _ _ _ (Turn.refl _ _))
  have XV := Lib.hid (show Blk (W1.setCells g 0 (trc x s1).toList) g 30 (trc x s1) from XX.out.put (trc x s1) rfl)
  have ZV := Lib.hid ((Z1.out.here E1.out).turn ET.out (by omega))
  have AV := Lib.hid ((A1.out.here E1.out).turn ET.out (by omega))
  have BV := Lib.hid ((B1.out.trans (E1.out.mono B1.out.size)).trans (ET.out.below (B := w.heap.size) (fun k hk e => by have := HG.out; omega) (Nat.le_trans B1.out.size E1.out.size)))
  obtain ⟨b0, hb0⟩ : ∃ b0, b0 = V.heap.size := ⟨_, rfl⟩
  have GV := Lib.hid (show b0 = g + 3 from hb0.trans SZ.out)
  rw [← hb0] at T1
  have TV := Lib.hid (T1.out.turn ET.out (fun k hk _ e => by have := GV.out; omega))
  have LV := Lib.hid (show b0 ≤ (W1.setCells g 0 (trc x s1).toList).heap.size from by rw [hb0]; exact Nat.le_trans E1.out.size ET.out.size)
  clear hb0 X1 Z1 A1 B1 H1 SZ T1 E1 XX ET
  generalize W1.setCells g 0 (trc x s1).toList = WV at XV ZV AV BV TV LV ⊢
  have a0c : WV.cell? ⟨g + 1, 0, none⟩ = some (.int .i64 a0) := AV.out.cell 0
  have a1c : WV.cell? ⟨g + 1, 1, none⟩ = some (.int .i64 a1) := AV.out.cell 1
  go_upto_region 6 with (first
    | (go_at_call 33; refine (resok_b a0 a1 true HR.out _).mono ?_; rintro e W2 ⟨rfl, hb2⟩; have XV := Lib.hid (XV.out.here hb2); have ZV := Lib.hid (ZV.out.here hb2); have AV := Lib.hid (AV.out.here hb2); have TV := Lib.hid (TV.out.step hb2); have BV := Lib.hid (stepB BV.out hb2); have LV := Lib.hid (Nat.le_trans LV.out hb2.size); clear hb2))
  generalize W2 = WV at XV ZV AV TV BV LV ⊢
  clear a0c a1c
  have c1 : WV.cell? ⟨g, 1, none⟩ = some (.int .i64 x.st) := XV.out.cell 1
  have c4 : WV.cell? ⟨g, 4, none⟩ = some (.bool false) := by rw [← HO.out]; exact XV.out.cell 4
  have c3 : WV.cell? ⟨g, 3, none⟩ = some (.int .i64 x.sq) := XV.out.cell 3
  go_wp2_with (first
    | (refine wpList_load_row rfl 30 (.tmp 4) rfl g rfl 30 (trc x s1) (0, 0) _ XV.out Try.underlying30 rfl (tr_info _ _) ?_)
    | (refine wpList_store_mid (op := { dst := none, op := .store 30 (.tmp 8) (.tmp 46), type := 0, pos := _, after := _, guard := none }) (by rfl) 30 (.tmp 8) (.tmp 46) (by rfl) (g + 2) 0 (trc x s1) (by rfl) (by rfl) (ZV.out.there (Nat.le_refl 13)) (tr_info _ _) TV.out.one ?_))
  exact bodyPost_ret (v := .tuple #[.agg (trc x s1), .slice none 0 0, errno 6]) (results_and2 rfl rfl rfl rfl (tr_load (ZV.out.put (trc x s1) rfl))) rfl ⟨s1, _, rfl, (Tm.turn TV.out (Turn.setCells (S := fun k => k = g + 2) (fun _ => rfl) _ _ _ (Turn.refl _ _)) (fun k hk _ e => by have := GV.out; omega)).less (Nat.zero_le _), World.ownsRow_nil _ _ _ _, Below.setCells (by have := HG.out; omega) _ _ _ BV.out⟩
set_option maxRecDepth 100000 in
set_option maxHeartbeats 8000000 in
theorem ask_0 {B : Nat} (x : Tr) (s : Sl) (a0 a1 : Int) (sh md : Int) (w : World) (h : Tm w B x s) (hs : Short x) (hd0 : ¬ sh < 1) (hd1 : ¬ 64 < sh) (hr : resB a0 a1 = true) (hd2 : ¬ md < 1) (hd3 : ¬ 4 < md) (h1 : x.st = 1) (ho : x.op = false) (hq : ¬ 1048576 ≤ x.sq) (hq0 : 0 ≤ x.sq) (ht : Shs x.tch) :
    Calls Try.prog 18 #[.agg (trc x s), .int .i64 sh, .agg #[.int .i64 a0, .int .i64 a1], .int .i64 md] w (Post3 w (askX x sh a0 a1 md, [lockL (askX x sh a0 a1 md) sh], 0)) := by
  have X1 := Lib.hid (((Blk.new w 30 (trc x s)).alloc (.cells #[.int .i64 a0, .int .i64 a1] 25)).alloc (.cells zTr 30))
  have A1 := Lib.hid ((Blk.new_at (w := w.alloc (.cells (trc x s) 30)) (n := w.heap.size + 1) (by simp) 25 #[.int .i64 a0, .int .i64 a1]).alloc (.cells zTr 30))
  have Z1 := Lib.hid (Blk.new_at (w := (w.alloc (.cells (trc x s) 30)).alloc (.cells #[.int .i64 a0, .int .i64 a1] 25)) (n := w.heap.size + 2) (by simp) 30 zTr)
  have B1 := Lib.hid (((Joins.below_alloc1 w (.cells (trc x s) 30)).alloc (by simp <;> omega) (.cells #[.int .i64 a0, .int .i64 a1] 25)).alloc (by simp <;> omega) (.cells zTr 30))
  have SZ := Lib.hid (show (((w.alloc (.cells (trc x s) 30)).alloc (.cells #[.int .i64 a0, .int .i64 a1] 25)).alloc (.cells zTr 30)).heap.size = w.heap.size + 3 from by simp)
  have H1 := Lib.hid (h.step B1.out)
  have HS := Lib.hid hs
  have d0 : decide (sh < 1) = false := by simpa using hd0
  have d1 : decide (64 < sh) = false := by simpa using hd1
  have HR := Lib.hid hr
  have d2 : decide (md < 1) = false := by simpa using hd2
  have d3 : decide (4 < md) = false := by simpa using hd3
  have e1 : (x.st != 1) = false := by simpa using h1
  have HO := Lib.hid ho
  have HT := Lib.hid ht
  have d4 : decide (1048576 ≤ x.sq) = false := by simpa using hq
  have hwr : IntKind.i64.wrap (x.sq + 1) = x.sq + 1 := IntWalk.i64_in _ (by omega)
  clear hd0 hd1 hr hd2 hd3 h1 ho hq hq0 ht
  clear h hs
  go_enter Try.func18, Try.ntmps18
  go_upto_region 1 with fail
  obtain ⟨g, hg⟩ : ∃ g, g = w.heap.size := ⟨_, rfl⟩
  have HG := Lib.hid hg
  rw [← hg] at X1 A1 Z1 SZ ⊢
  clear hg
  generalize ((w.alloc (.cells (trc x s) 30)).alloc (.cells #[.int .i64 a0, .int .i64 a1] 25)).alloc (.cells zTr 30) = V at X1 A1 Z1 B1 H1 SZ ⊢
  go_upto_region 2 with (first
    | (refine wpList_load_row rfl 30 (.tmp 4) rfl g rfl 30 (trc x s) (0, 0) _ X1.out Try.underlying30 rfl (tr_info _ _) ?_)
    | (go_at_call 31; refine (own_any x s _ H1.out HS.out).mono ?_; rintro e W1 ⟨s1, rfl, ht, hn, hb⟩; have T1 := Lib.hid ht; have N1 := Lib.hid hn; have E1 := Lib.hid hb; have XX := Lib.hid (X1.out.here hb); clear ht hn hb)
    | (refine wpList_store_mid (by rfl) 30 (.tmp 4) (.tmp 12) (by rfl) g 0 (trc x s1) (by rfl) (by rfl) (XX.out.there (Nat.le_refl 13)) (tr_info _ _) T1.out.one ?_))
  have ET := Lib.hid (show Turn (fun k => k = g) W1 (W1.setCells g 0 (trc x s1).toList) from Turn.setCells (S := fun k => k = g) (fun _ => rfl) _ _ _ (Turn.refl _ _))
  have XV := Lib.hid (show Blk (W1.setCells g 0 (trc x s1).toList) g 30 (trc x s1) from XX.out.put (trc x s1) rfl)
  have ZV := Lib.hid ((Z1.out.here E1.out).turn ET.out (by omega))
  have AV := Lib.hid ((A1.out.here E1.out).turn ET.out (by omega))
  have BV := Lib.hid ((B1.out.trans (E1.out.mono B1.out.size)).trans (ET.out.below (B := w.heap.size) (fun k hk e => by have := HG.out; omega) (Nat.le_trans B1.out.size E1.out.size)))
  obtain ⟨b0, hb0⟩ : ∃ b0, b0 = V.heap.size := ⟨_, rfl⟩
  have GV := Lib.hid (show b0 = g + 3 from hb0.trans SZ.out)
  rw [← hb0] at T1
  have TV := Lib.hid (T1.out.turn ET.out (fun k hk _ e => by have := GV.out; omega))
  have LV := Lib.hid (show b0 ≤ (W1.setCells g 0 (trc x s1).toList).heap.size from by rw [hb0]; exact Nat.le_trans E1.out.size ET.out.size)
  clear hb0 X1 Z1 A1 B1 H1 SZ T1 E1 XX ET
  generalize W1.setCells g 0 (trc x s1).toList = WV at XV ZV AV BV TV LV ⊢
  have a0c : WV.cell? ⟨g + 1, 0, none⟩ = some (.int .i64 a0) := AV.out.cell 0
  have a1c : WV.cell? ⟨g + 1, 1, none⟩ = some (.int .i64 a1) := AV.out.cell 1
  go_upto_region 6 with (first
    | (go_at_call 33; refine (resok_b a0 a1 true HR.out _).mono ?_; rintro e W2 ⟨rfl, hb2⟩; have XV := Lib.hid (XV.out.here hb2); have ZV := Lib.hid (ZV.out.here hb2); have AV := Lib.hid (AV.out.here hb2); have TV := Lib.hid (TV.out.step hb2); have BV := Lib.hid (stepB BV.out hb2); have LV := Lib.hid (Nat.le_trans LV.out hb2.size); clear hb2))
  generalize W2 = WV at XV ZV AV TV BV LV ⊢
  clear a0c a1c
  have f3 := XV.out.frozen 3
  have c1 : WV.cell? ⟨g, 1, none⟩ = some (.int .i64 x.st) := XV.out.cell 1
  have c4 : WV.cell? ⟨g, 4, none⟩ = some (.bool false) := by rw [← HO.out]; exact XV.out.cell 4
  have c3 : WV.cell? ⟨g, 3, none⟩ = some (.int .i64 x.sq) := XV.out.cell 3
  have hzv := ZV.out.lt
  have hav := AV.out.lt
  have XW := Lib.hid (show Blk (WV.setCell ⟨g, 3, none⟩ (.int .i64 (x.sq + 1))) g 30 (trc { x with sq := x.sq + 1 } s1) from XV.out.set_ 3 _)
  have ZW := Lib.hid (ZV.out.far (p := ⟨g, 3, none⟩) (by simp only; omega) (.int .i64 (x.sq + 1)))
  have AW := Lib.hid (AV.out.far (p := ⟨g, 3, none⟩) (by simp only; omega) (.int .i64 (x.sq + 1)))
  have EW := Lib.hid (show Turn (fun k => k = g) WV (WV.setCell ⟨g, 3, none⟩ (.int .i64 (x.sq + 1))) from (Turn.refl (fun k => k = g) WV).setCell (p := ⟨g, 3, none⟩) (fun _ => rfl) _)
  go_upto_region 13 with fail
  clear f3 c1 c4 c3
  generalize WV.setCell ⟨g, 3, none⟩ (.int .i64 (x.sq + 1)) = WW at XW ZW AW EW ⊢
  have q0 : WW.cell? ⟨g + 1, 0, none⟩ = some (.int .i64 a0) := AW.out.cell 0
  have q1 : WW.cell? ⟨g + 1, 1, none⟩ = some (.int .i64 a1) := AW.out.cell 1
  have hgl := XW.out.lt
  have hal := AW.out.lt
  refine wp_region_held_drew (S := fun w' => w'.cell? ⟨g + 1, 0, none⟩ = some (.int .i64 a0) ∧ w'.cell? ⟨g + 1, 1, none⟩ = some (.int .i64 a1) ∧ Blk w' (g + 1) 25 #[.int .i64 a0, .int .i64 a1]) (by kernel_rfl) ⟨AW.out.drew.cell 0, AW.out.drew.cell 1, AW.out.drew⟩ (fun hHeld => ?_)
  have ED := Lib.hid (show Turn (fun k => k = g) WV WW.drew from EW.out.trans (Turn.of_below (Below.refl _ _).drew) (fun _ _ e => e))
  have XD := Lib.hid XW.out.drew
  have ZD := Lib.hid ZW.out.drew
  clear q0 q1
  have TV := TV
  generalize WW.drew = W1 at ED XD ZD hHeld ⊢
  clear XW ZW AW EW hgl hal
  have hgl := XD.out.lt
  have HS1 := Lib.hid (show ∀ W, Turn (fun k => k = g) W1 W → (W.cell? ⟨g + 1, 0, none⟩ = some (.int .i64 a0) ∧ W.cell? ⟨g + 1, 1, none⟩ = some (.int .i64 a1) ∧ Blk W (g + 1) 25 #[.int .i64 a0, .int .i64 a1]) from fun W hW =>
    have h := hHeld.2.2.turn hW (by omega); ⟨h.cell 0, h.cell 1, h⟩)
  have c4 : W1.cell? ⟨g, 4, none⟩ = some (.bool x.op) := XD.out.cell 4
  have c5 : W1.cell? ⟨g, 5, none⟩ = some (.int .i64 x.sh) := XD.out.cell 5
  have c6 : W1.cell? ⟨g, 6, none⟩ = some (.int .i64 x.a0) := XD.out.cell 6
  have c7 : W1.cell? ⟨g, 7, none⟩ = some (.int .i64 x.a1) := XD.out.cell 7
  have c8 : W1.cell? ⟨g, 8, none⟩ = some (.int .i64 x.md) := XD.out.cell 8
  have f4 := XD.out.frozen 4
  have f5 := XD.out.frozen 5
  have f6 := XD.out.frozen 6
  have f7 := XD.out.frozen 7
  have f8 := XD.out.frozen 8
  have K4 := Lib.hid ((Turn.refl (fun k => k = g) W1).setCell (p := ⟨g, 4, none⟩) (fun _ => rfl) (.bool true))
  have K5 := Lib.hid (K4.out.setCell (p := ⟨g, 5, none⟩) (fun _ => rfl) (.int .i64 sh))
  have K6 := Lib.hid ((K5.out.setCell (p := ⟨g, 6, none⟩) (fun _ => rfl) (.int .i64 a0)).setCell (p := ⟨g, 7, none⟩) (fun _ => rfl) (.int .i64 a1))
  have K8 := Lib.hid (K6.out.setCell (p := ⟨g, 8, none⟩) (fun _ => rfl) (.int .i64 md))
  refine wpAnyH_take (i := 0) (v := ?_) rfl (by kernel_rfl) (by kernel_rfl) (by kernel_rfl) (fun _ _ _ h => h) (Or.inl ⟨by rfl, ?_⟩) (by assumption) ?_
  rotate_left
  · (intro w0 hSw; (try dsimp only at hSw); go_simp; try with_reducible rfl)
  try simp only [List.getElem_toArray, List.getElem_cons_succ, List.getElem_cons_zero, Act.put, List.setIfInBounds_toArray, List.set_cons_zero, List.set_cons_succ]
  refine wpAnyH_take (i := 1) (v := ?_) rfl (by kernel_rfl) (by kernel_rfl) (by kernel_rfl) (fun _ _ _ h => h) (Or.inl ⟨by rfl, ?_⟩) (by assumption) ?_
  rotate_left
  · (intro w0 hSw; (try dsimp only at hSw); go_simp; try with_reducible rfl)
  try simp only [List.getElem_toArray, List.getElem_cons_succ, List.getElem_cons_zero, Act.put, List.setIfInBounds_toArray, List.set_cons_zero, List.set_cons_succ]
  refine wpAnyH_take (i := 2) (v := ?_) rfl (by kernel_rfl) (by kernel_rfl) (by kernel_rfl) (fun _ _ _ h => h) (Or.inl ⟨by rfl, ?_⟩) (by assumption) ?_
  rotate_left
  · (intro w0 hSw; (try dsimp only at hSw); go_simp; try with_reducible rfl)
  try simp only [List.getElem_toArray, List.getElem_cons_succ, List.getElem_cons_zero, Act.put, List.setIfInBounds_toArray, List.set_cons_zero, List.set_cons_succ]
  refine wpAnyH_take (i := 3) (v := ?_) rfl (by kernel_rfl) (by kernel_rfl) (by kernel_rfl) (fun _ _ _ h => h) (Or.inl ⟨by rfl, ?_⟩) (by assumption) ?_
  rotate_left
  · (intro w0 hSw; (try dsimp only at hSw); go_simp; try with_reducible rfl)
  try simp only [List.getElem_toArray, List.getElem_cons_succ, List.getElem_cons_zero, Act.put, List.setIfInBounds_toArray, List.set_cons_zero, List.set_cons_succ]
  refine wpAnyH_ready (rs := [4]) (by kernel_rfl) (by simp) ?_
  refine AllReadyH.cons rfl (fun K hK => ?_) AllReadyH.nil
  go_simp
  refine hK.out _ _ (HS1.out _ K4.out) (fun hHeld => ?_)
  clear hK K
  refine wpAnyH_take (i := 5) (v := ?_) rfl (by kernel_rfl) (by kernel_rfl) (by kernel_rfl) (fun _ _ _ h => h) (Or.inl ⟨by rfl, ?_⟩) (by assumption) ?_
  rotate_left
  · (intro w0 hSw; (try dsimp only at hSw); go_simp; try with_reducible rfl)
  try simp only [List.getElem_toArray, List.getElem_cons_succ, List.getElem_cons_zero, Act.put, List.setIfInBounds_toArray, List.set_cons_zero, List.set_cons_succ]
  refine wpAnyH_ready (rs := [6]) (by kernel_rfl) (by simp) ?_
  refine AllReadyH.cons rfl (fun K hK => ?_) AllReadyH.nil
  go_simp
  refine hK.out _ _ (HS1.out _ K5.out) (fun hHeld => ?_)
  clear hK K
  refine wpAnyH_take (i := 7) (v := ?_) rfl (by kernel_rfl) (by kernel_rfl) (by kernel_rfl) (fun _ _ _ h => h) (Or.inl ⟨by rfl, ?_⟩) (by assumption) ?_
  rotate_left
  · (intro w0 hSw; (try dsimp only at hSw); go_simp; try with_reducible rfl)
  try simp only [List.getElem_toArray, List.getElem_cons_succ, List.getElem_cons_zero, Act.put, List.setIfInBounds_toArray, List.set_cons_zero, List.set_cons_succ]
  refine wpAnyH_ready (rs := [8]) (by kernel_rfl) (by simp) ?_
  refine AllReadyH.cons rfl (fun K hK => ?_) AllReadyH.nil
  go_simp
  refine hK.out _ _ (HS1.out _ K6.out) (fun hHeld => ?_)
  clear hK K
  refine wpAnyH_take (i := 9) (v := ?_) rfl (by kernel_rfl) (by kernel_rfl) (by kernel_rfl) (fun _ _ _ h => h) (Or.inl ⟨by rfl, ?_⟩) (by assumption) ?_
  rotate_left
  · (intro w0 hSw; (try dsimp only at hSw); go_simp; try with_reducible rfl)
  try simp only [List.getElem_toArray, List.getElem_cons_succ, List.getElem_cons_zero, Act.put, List.setIfInBounds_toArray, List.set_cons_zero, List.set_cons_succ]
  refine wpAnyH_ready (rs := [10]) (by kernel_rfl) (by simp) ?_
  refine AllReadyH.cons rfl (fun K hK => ?_) AllReadyH.nil
  go_simp
  refine hK.out _ _ (HS1.out _ K8.out) (fun hHeld => ?_)
  clear hK K
  refine wpAnyH_done (by kernel_rfl) ?_ _
  have XY := Lib.hid (show Blk (((((W1.setCell ⟨g, 4, none⟩ (.bool true)).setCell ⟨g, 5, none⟩ (.int .i64 sh)).setCell ⟨g, 6, none⟩ (.int .i64 a0)).setCell ⟨g, 7, none⟩ (.int .i64 a1)).setCell ⟨g, 8, none⟩ (.int .i64 md)) g 30 (trc { x with sq := x.sq + 1, op := true, sh := sh, a0 := a0, a1 := a1, md := md } s1) from
    ((((XD.out.set_ 4 _).set_ 5 _).set_ 6 _).set_ 7 _).set_ 8 _)
  have EY := Lib.hid (ED.out.trans K8.out (fun _ _ e => e))
  have hzl := ZD.out.lt
  have ZY := Lib.hid (ZD.out.turn K8.out (by omega))
  clear c4 c5 c6 c7 c8 f4 f5 f6 f7 f8 K4 K5 K6 K8 XD ZD ED HS1 hHeld
  generalize ((((W1.setCell ⟨g, 4, none⟩ (.bool true)).setCell ⟨g, 5, none⟩ (.int .i64 sh)).setCell ⟨g, 6, none⟩ (.int .i64 a0)).setCell ⟨g, 7, none⟩ (.int .i64 a1)).setCell ⟨g, 8, none⟩ (.int .i64 md) = W2 at XY EY ZY ⊢
  have TY := Lib.hid (TV.out.turn EY.out (fun k hk _ e => by have := GV.out; omega))
  have BY := Lib.hid (BV.out.trans (EY.out.below (B := w.heap.size) (fun k hk e => by have := HG.out; omega) BV.out.size))
  have LY := Lib.hid (Nat.le_trans LV.out EY.out.size)
  clear hgl hzl TV BV LV
  have c9 : W2.cell? ⟨g, 9, none⟩ = some s1.t := XY.out.cell 9
  go_upto_region 15 with (go_at_call 34; refine (with_any sh _ TY.out.t HT.out.ris LY.out (by have := HT.out.len; omega)).mono ?_; rintro e W3 ⟨v', rfl, hv, ht, hq⟩; obtain ⟨A', c', rfl⟩ := own_len hv; have V3 := Lib.hid hv; have T3 := Lib.hid ht; have k9 : W3.cell? ⟨g, 9, none⟩ = some s1.t := (XY.out.turn ht (fun e => by have := own_ge TY.out.t e; have := GV.out; omega)).cell 9; have k9f := (XY.out.turn ht (fun e => by have := own_ge TY.out.t e; have := GV.out; omega)).frozen 9; clear hv ht hq c9)
  have XZ := Lib.hid (show Blk (W3.setCell ⟨g, 9, none⟩ (.slice A' (ins sh x.tch).length c')) g 30 (trc (askX x sh a0 a1 md) ⟨.slice A' (ins sh x.tch).length c', s1.v, s1.k, s1.g⟩) from (XY.out.turn T3.out (fun e => by have := own_ge TY.out.t e; have := GV.out; omega)).set_ 9 _)
  have EZ := Lib.hid (show Turn (fun k => k = g) W3 (W3.setCell ⟨g, 9, none⟩ (.slice A' (ins sh x.tch).length c')) from (Turn.refl (fun k => k = g) W3).setCell (p := ⟨g, 9, none⟩) (fun _ => rfl) _)
  have KZ := Lib.hid (show Tm (W3.setCell ⟨g, 9, none⟩ (.slice A' (ins sh x.tch).length c')) b0 (askX x sh a0 a1 md) ⟨.slice A' (ins sh x.tch).length c', s1.v, s1.k, s1.g⟩ from
    have h := (TY.out.putT N1.out V3.out T3.out).turn EZ.out (fun k hk _ e => by have := GV.out; omega); ⟨h.t, h.v, h.k, h.g⟩)
  have hzl2 := ZY.out.lt
  have ZZ := Lib.hid ((ZY.out.turn T3.out (fun e => by have := own_ge TY.out.t e; have := GV.out; omega)).turn EZ.out (by omega))
  have BZ := Lib.hid ((BY.out.trans (T3.out.below (B := w.heap.size) (fun k hk e => by have := own_ge TY.out.t e; have := GV.out; have := HG.out; omega) BY.out.size)).trans (EZ.out.below (B := w.heap.size) (fun k hk e => by have := HG.out; omega) (Nat.le_trans BY.out.size T3.out.size)))
  have LZ := Lib.hid (Nat.le_trans (Nat.le_trans LY.out T3.out.size) EZ.out.size)
  clear k9 k9f XY EY ZY TY BY LY T3 V3 EZ hzl2
  generalize W3.setCell ⟨g, 9, none⟩ (.slice A' (ins sh x.tch).length c') = WY at XZ KZ ZZ BZ LZ ⊢
  obtain ⟨r, hr⟩ : ∃ r : Sl, r = ⟨.slice A' (ins sh x.tch).length c', s1.v, s1.k, s1.g⟩ := ⟨_, rfl⟩
  rw [← hr] at XZ KZ
  clear hr N1
  obtain ⟨y, hy⟩ : ∃ y, askX x sh a0 a1 md = y := ⟨_, rfl⟩
  rw [hy] at XZ KZ
  have HY := Lib.hid hy
  clear hy
  obtain ⟨q, hq⟩ : ∃ q, lockL y 0 = q := ⟨_, rfl⟩
  have HQ := Lib.hid hq
  have LQ := Lib.hid (show q.length = 28 from by rw [← hq]; rfl)
  clear hq
  have OZ := Lib.hid KZ.out.one
  refine wp_region_held_drew (S := fun w' => Blk w' g 30 (trc y r)) (by kernel_rfl) XZ.out.drew (fun hHeld => ?_)
  have BD := Lib.hid (show Below WY.heap.size WY WY.drew from (Below.refl _ _).drew)
  generalize WY.drew = W1 at BD hHeld ⊢
  refine wpAnyH_take (i := 0) (v := .agg (trc y r)) rfl (by kernel_rfl) (by kernel_rfl) (by kernel_rfl) (fun _ _ _ h => h) (Or.inl ⟨by rfl, fun w0 hSw => exec_load (x := .tmp 4) rfl rfl (tr_load hSw)⟩) (by assumption) ?_
  try simp only [List.getElem_toArray, List.getElem_cons_succ, List.getElem_cons_zero, Act.put, List.setIfInBounds_toArray, List.set_cons_zero, List.set_cons_succ]
  refine wpAnyH_take (i := 1) (v := .agg (trc y r)) rfl (by kernel_rfl) (by kernel_rfl) (by kernel_rfl) (fun _ _ _ h => h) (Or.inl ⟨by rfl, fun w0 hSw => exec_load (x := .tmp 4) rfl rfl (tr_load hSw)⟩) (by assumption) ?_
  try simp only [List.getElem_toArray, List.getElem_cons_succ, List.getElem_cons_zero, Act.put, List.setIfInBounds_toArray, List.set_cons_zero, List.set_cons_succ]
  refine wpAnyH_take (i := 3) (v := ?_) rfl (by kernel_rfl) (by kernel_rfl) (by kernel_rfl) (fun _ _ _ h => h) (Or.inl ⟨by rfl, ?_⟩) (by assumption) ?_
  rotate_left
  · (intro w0 hSw; (try dsimp only at hSw); go_simp; try with_reducible rfl)
  try simp only [List.getElem_toArray, List.getElem_cons_succ, List.getElem_cons_zero, Act.put, List.setIfInBounds_toArray, List.set_cons_zero, List.set_cons_succ]
  refine wpAnyH_ready (rs := [2, 4]) (by kernel_rfl) (by simp) ?_
  refine AllReadyH.cons rfl (fun K hK => ?_) (AllReadyH.cons rfl (fun K hK => ?_) AllReadyH.nil)
  · go_simp
    refine (request_q y r q HQ.out _).mono ?_
    rintro e W2 ⟨rfl, hb⟩
    try go_simp
    have B2 := Lib.hid (BD.out.trans (hb.mono BD.out.size))
    clear hb
    refine hK.out _ _ (XZ.out.here B2.out) (fun hHeld => ?_)
    clear hK K
    refine wpAnyH_ready (rs := [4]) (by kernel_rfl) (by simp) ?_
    refine AllReadyH.cons rfl (fun K hK => ?_) AllReadyH.nil
    go_simp
    have O3 := Lib.hid (own_ints W2 3 [sh] (B := WY.heap.size) (n := 1) B2.out.size rfl (by simp))
    have B3 := Lib.hid (B2.out.alloc B2.out.size (.cells (i64s [sh]).toArray 3))
    refine hK.out _ _ (XZ.out.here B3.out) (fun hHeld => ?_)
    clear hK K
    generalize W2.heap.size = rb at O3 ⊢
    simp only [i64s, List.map_cons, List.map_nil] at O3 B3
    generalize W2.alloc (.cells #[.int .i64 sh] 3) = W3 at O3 B3 hHeld ⊢
    refine wpAnyH_ready (rs := [5]) (by kernel_rfl) (by simp) ?_
    refine AllReadyH.cons rfl (fun K hK => ?_) AllReadyH.nil
    go_simp
    refine (send_any q [sh] LQ.out _ O3.out (by simp)).mono ?_
    rintro e W4 ⟨u, rfl, hu, hb⟩
    try go_simp
    have U4 := Lib.hid hu
    have B4 := Lib.hid (B3.out.trans (hb.mono B3.out.size))
    have S3 := Lib.hid B3.out.size
    clear hu hb
    refine hK.out _ _ (XZ.out.here B4.out) (fun hHeld => ?_)
    clear hK K
    have Z4 := Lib.hid (ZZ.out.here B4.out)
    have hzl := ZZ.out.lt
    refine wpAnyH_ready (rs := [6]) (by kernel_rfl) (by simp) ?_
    refine AllReadyH.cons rfl (fun K hK => ?_) AllReadyH.nil
    refine step_store_mid (by rfl) 30 (.tmp 8) (.tmp 64) rfl (g + 2) 0 (trc y r) rfl rfl (Z4.out.there (Nat.le_refl 13)) (tr_info _ _) OZ.out ?_
    have X5 := Lib.hid (show Blk (W4.setCells (g + 2) 0 (trc y r).toList) g 30 (trc y r) from (XZ.out.here B4.out).farCells (by omega) _ _ _)
    refine hK.out _ _ X5.out (fun hHeld => ?_)
    clear hK K
    refine wpAnyH_take (i := 7) (v := ?_) rfl (by kernel_rfl) (by kernel_rfl) (by kernel_rfl) (fun _ _ _ h => h) (Or.inl ⟨by rfl, ?_⟩) (by assumption) ?_
    rotate_left
    · (intro w0 hSw; (try dsimp only at hSw); go_simp; try with_reducible rfl)
    try simp only [List.getElem_toArray, List.getElem_cons_succ, List.getElem_cons_zero, Act.put, List.setIfInBounds_toArray, List.set_cons_zero, List.set_cons_succ]
    refine wpAnyH_take (i := 8) (v := ?_) rfl (by kernel_rfl) (by kernel_rfl) (by kernel_rfl) (fun _ _ _ h => h) (Or.inl ⟨by rfl, ?_⟩) (by assumption) ?_
    rotate_left
    · (intro w0 hSw; (try dsimp only at hSw); go_simp; try with_reducible rfl)
    try simp only [List.getElem_toArray, List.getElem_cons_succ, List.getElem_cons_zero, Act.put, List.setIfInBounds_toArray, List.set_cons_zero, List.set_cons_succ]
    refine wpAnyH_done (by kernel_rfl) ?_ _
    have E5 := Lib.hid (show Turn (fun k => k = g + 2) W4 (W4.setCells (g + 2) 0 (trc y r).toList) from Turn.setCells (S := fun k => k = g + 2) (fun _ => rfl) _ _ _ (Turn.refl _ _))
    have U5 := Lib.hid (own_off U4.out E5.out (fun k hk _ e => by have := S3.out; omega))
    have Z5 := Lib.hid (Z4.out.put (trc y r) rfl)
    have F5 := Lib.hid ((BZ.out.trans (B4.out.mono BZ.out.size)).trans (E5.out.below (B := w.heap.size) (fun k hk e => by have := HG.out; omega) (Nat.le_trans BZ.out.size B4.out.size)))
    have K5 := Lib.hid ((KZ.out.step B4.out).turn E5.out (fun k hk _ e => by have := GV.out; omega))
    clear hHeld
    go_wp2_with fail
    exact bodyPost_ret (v := .tuple #[.agg (trc y r), u, .nilIface]) (results_and2 rfl rfl rfl rfl (tr_load Z5.out)) rfl ⟨r, u, by rw [HY.out]; rfl, by rw [HY.out]; exact K5.out.less (Nat.zero_le _), own_less (by rw [HY.out, show [lockL y sh] = sendL (lockL y 0) [sh] from rfl, HQ.out]; exact U5.out) (by have := S3.out; have := BZ.out.size; have := B4.out.size; omega), F5.out⟩
  · go_simp
    have O2 := Lib.hid (own_ints W1 3 [sh] (B := WY.heap.size) (n := 1) BD.out.size rfl (by simp))
    have B2 := Lib.hid (BD.out.alloc BD.out.size (.cells (i64s [sh]).toArray 3))
    refine hK.out _ _ (XZ.out.here B2.out) (fun hHeld => ?_)
    clear hK K
    generalize W1.heap.size = rb at O2 ⊢
    simp only [i64s, List.map_cons, List.map_nil] at O2 B2
    generalize W1.alloc (.cells #[.int .i64 sh] 3) = W2 at O2 B2 hHeld ⊢
    refine wpAnyH_ready (rs := [2]) (by kernel_rfl) (by simp) ?_
    refine AllReadyH.cons rfl (fun K hK => ?_) AllReadyH.nil
    go_simp
    refine (request_q y r q HQ.out _).mono ?_
    rintro e W3 ⟨rfl, hb⟩
    try go_simp
    have B3 := Lib.hid (B2.out.trans (hb.mono B2.out.size))
    have O3 := Lib.hid (own_step O2.out hb)
    clear hb
    refine hK.out _ _ (XZ.out.here B3.out) (fun hHeld => ?_)
    clear hK K
    refine wpAnyH_ready (rs := [5]) (by kernel_rfl) (by simp) ?_
    refine AllReadyH.cons rfl (fun K hK => ?_) AllReadyH.nil
    go_simp
    refine (send_any q [sh] LQ.out _ O3.out (by simp)).mono ?_
    rintro e W4 ⟨u, rfl, hu, hb⟩
    try go_simp
    have U4 := Lib.hid hu
    have B4 := Lib.hid (B3.out.trans (hb.mono B3.out.size))
    have S3 := Lib.hid B3.out.size
    clear hu hb
    refine hK.out _ _ (XZ.out.here B4.out) (fun hHeld => ?_)
    clear hK K
    have Z4 := Lib.hid (ZZ.out.here B4.out)
    have hzl := ZZ.out.lt
    refine wpAnyH_ready (rs := [6]) (by kernel_rfl) (by simp) ?_
    refine AllReadyH.cons rfl (fun K hK => ?_) AllReadyH.nil
    refine step_store_mid (by rfl) 30 (.tmp 8) (.tmp 64) rfl (g + 2) 0 (trc y r) rfl rfl (Z4.out.there (Nat.le_refl 13)) (tr_info _ _) OZ.out ?_
    have X5 := Lib.hid (show Blk (W4.setCells (g + 2) 0 (trc y r).toList) g 30 (trc y r) from (XZ.out.here B4.out).farCells (by omega) _ _ _)
    refine hK.out _ _ X5.out (fun hHeld => ?_)
    clear hK K
    refine wpAnyH_take (i := 7) (v := ?_) rfl (by kernel_rfl) (by kernel_rfl) (by kernel_rfl) (fun _ _ _ h => h) (Or.inl ⟨by rfl, ?_⟩) (by assumption) ?_
    rotate_left
    · (intro w0 hSw; (try dsimp only at hSw); go_simp; try with_reducible rfl)
    try simp only [List.getElem_toArray, List.getElem_cons_succ, List.getElem_cons_zero, Act.put, List.setIfInBounds_toArray, List.set_cons_zero, List.set_cons_succ]
    refine wpAnyH_take (i := 8) (v := ?_) rfl (by kernel_rfl) (by kernel_rfl) (by kernel_rfl) (fun _ _ _ h => h) (Or.inl ⟨by rfl, ?_⟩) (by assumption) ?_
    rotate_left
    · (intro w0 hSw; (try dsimp only at hSw); go_simp; try with_reducible rfl)
    try simp only [List.getElem_toArray, List.getElem_cons_succ, List.getElem_cons_zero, Act.put, List.setIfInBounds_toArray, List.set_cons_zero, List.set_cons_succ]
    refine wpAnyH_done (by kernel_rfl) ?_ _
    have E5 := Lib.hid (show Turn (fun k => k = g + 2) W4 (W4.setCells (g + 2) 0 (trc y r).toList) from Turn.setCells (S := fun k => k = g + 2) (fun _ => rfl) _ _ _ (Turn.refl _ _))
    have U5 := Lib.hid (own_off U4.out E5.out (fun k hk _ e => by have := S3.out; omega))
    have Z5 := Lib.hid (Z4.out.put (trc y r) rfl)
    have F5 := Lib.hid ((BZ.out.trans (B4.out.mono BZ.out.size)).trans (E5.out.below (B := w.heap.size) (fun k hk e => by have := HG.out; omega) (Nat.le_trans BZ.out.size B4.out.size)))
    have K5 := Lib.hid ((KZ.out.step B4.out).turn E5.out (fun k hk _ e => by have := GV.out; omega))
    clear hHeld
    go_wp2_with fail
    exact bodyPost_ret (v := .tuple #[.agg (trc y r), u, .nilIface]) (results_and2 rfl rfl rfl rfl (tr_load Z5.out)) rfl ⟨r, u, by rw [HY.out]; rfl, by rw [HY.out]; exact K5.out.less (Nat.zero_le _), own_less (by rw [HY.out, show [lockL y sh] = sendL (lockL y 0) [sh] from rfl, HQ.out]; exact U5.out) (by have := S3.out; have := BZ.out.size; have := B4.out.size; omega), F5.out⟩
theorem ask_any {B : Nat} (x : Tr) (s : Sl) (a0 a1 : Int) (sh md : Int) (w : World) (h : Tm w B x s) (hs : Short x) (ht : Shs x.tch) (hq0 : 0 ≤ x.sq) :
    Calls Try.prog 18 #[.agg (trc x s), .int .i64 sh, .agg #[.int .i64 a0, .int .i64 a1], .int .i64 md] w (Post3 w (askL x sh a0 a1 md)) := by
  unfold askL
  by_cases h1 : sh < 1
  · rw [if_pos (.inl h1)]; exact ask_1a x s a0 a1 sh md w h hs h1
  by_cases h2 : 64 < sh
  · rw [if_pos (.inr (.inl h2))]; exact ask_1b x s a0 a1 sh md w h hs h1 h2
  cases hr : resB a0 a1 with
  | false => rw [if_pos (.inr (.inr (.inl hr)))]; exact ask_1c x s a0 a1 sh md w h hs h1 h2 hr
  | true =>
    by_cases h3 : md < 1
    · rw [if_pos (.inr (.inr (.inr (.inl h3))))]; exact ask_1d x s a0 a1 sh md w h hs h1 h2 hr h3
    by_cases h4 : 4 < md
    · rw [if_pos (.inr (.inr (.inr (.inr h4))))]; exact ask_1e x s a0 a1 sh md w h hs h1 h2 hr h3 h4
    rw [if_neg (show ¬ badAsk sh a0 a1 md from by unfold badAsk; rw [hr]; simp; omega)]
    by_cases h5 : x.st = 1
    · rw [if_neg (fun e => e h5)]
      by_cases h6 : x.op = true
      · rw [if_pos h6]; exact ask_8 x s a0 a1 sh md w h hs h1 h2 hr h3 h4 h5 h6
      · rw [if_neg h6]
        have h6 : x.op = false := by simpa using h6
        by_cases h7 : 1048576 ≤ x.sq
        · rw [if_pos h7]; exact ask_6 x s a0 a1 sh md w h hs h1 h2 hr h3 h4 h5 h6 h7
        · rw [if_neg h7]; exact ask_0 x s a0 a1 sh md w h hs h1 h2 hr h3 h4 h5 h6 h7 hq0 ht
    · rw [if_pos h5]; exact ask_11 x s a0 a1 sh md w h hs h1 h2 hr h3 h4 h5
end Go.Proofs.Ytopjkidekbfalaa
