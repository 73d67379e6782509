/- A coordinator: a wound. -/
import Derived.Test.YtadnlannbafjpaaGreatQCoZb
namespace Go.Proofs.YtadnlannbafjpaaGreat
open Go.RowKit
set_option linter.unusedVariables false
set_option linter.unusedSimpArgs false
def eL (l : List Tr) (k : Int) : Tr := if 1 ≤ k ∧ k ≤ (l.length : Int) then l.getD (k - 1).toNat noTr else noTr
def inL (l : List Tr) (k : Int) : Bool := decide (1 ≤ k) && decide (k ≤ (l.length : Int))
section
variable {g n : Nat} {c : Co} {P : Pt}
theorem find_any (tx : Int) (w : World) (h : CoM w g n c P) (hl : P.L.length ≤ 1000) (z : Tr) (hz : eL c.txs tx = z) (b : Bool) (hb : inL c.txs tx = b) : Calls Tryz.prog 60 #[.pointer (some ⟨g, 0, none⟩), .int .i64 tx] w fun e w' => ∃ s, e = .returned (.tuple #[.agg (trc z s), .bool b]) ∧ Tm w 0 z s ∧ Below w.heap.size w w' := by
 have hlen : c.txs.length = P.L.length := by rw [← h.r.txs, List.length_map]
 unfold eL at hz
 unfold inL at hb
 rw [hlen] at hz hb
 by_cases hn : 1 ≤ tx ∧ tx ≤ (P.L.length : Int)
 · rw [if_pos hn] at hz
   rw [decide_eq_true hn.1, decide_eq_true hn.2] at hb
   obtain ⟨i, rfl⟩ : ∃ i : Nat, tx = (i : Int) + 1 := ⟨(tx - 1).toNat, by omega⟩
   have hi : i < P.L.length := by omega
   have he : P.L[i].1 = z := by
     rw [← hz, ← h.r.txs, show ((i : Int) + 1 - 1).toNat = i from by omega, List.getD_eq_getElem?_getD, List.getElem?_map, List.getElem?_eq_getElem hi]; rfl
   refine (find_some i w h hi (by omega) _ rfl).mono ?_
   rintro e w' ⟨rfl, hb2⟩
   subst hb
   rw [he]
   exact ⟨_, rfl, by have := h.r.sls _ (List.getElem_mem hi); rw [he] at this; exact this, hb2⟩
 · rw [if_neg hn] at hz
   obtain rfl : b = false := by
     rw [← hb, Bool.and_eq_false_iff, decide_eq_false_iff_not, decide_eq_false_iff_not]
     omega
   refine (find_none tx w h (by omega)).mono ?_
   rintro e w' ⟨rfl, hb2⟩
   subst hz
   exact ⟨_, rfl, Tm.none w 0 rfl rfl rfl rfl, hb2⟩
set_option maxRecDepth 100000 in
set_option maxHeartbeats 16000000 in
theorem comes_wnd_pb (x : Tr) (s : Sl) (m : List Int) (i : Nat) (w : World) (h : CoM w g n c P) (hi : i < P.L.length) (hl : P.L.length ≤ 1000) (hev : c.ev.length ≤ 90000) (hT : Tm w 0 x s) (hS : Short x) (hm : m.length = 28) (hx : x.tx = (i : Int) + 1) (hk : fld m 0 = 10) (z : Tr) (hz : eL c.txs (fld m 9) = z) (hpb : c.cf.pb = true) :
   Calls Tryz.prog 61 #[.pointer (some ⟨g, 0, none⟩), .agg (trc x s), .agg (mc m)] w fun e w' => e = .returned (.slice none 0 0) ∧ Below w.heap.size w w' := by
 have X1 := Lib.hid ((Blk.new w 62 (trc x s)).alloc (.cells (mc m) 45))
 have M1 := Lib.hid (Blk.new_at (w := w.alloc (.cells (trc x s) 62)) (n := w.heap.size + 1) (by simp) 45 (mc m))
 have B1 := Lib.hid ((Joins.below_alloc1 w (.cells (trc x s) 62)).alloc (by simp) (.cells (mc m) 45))
 have HM := Lib.hid h
 have HT := Lib.hid hT
 have HS := Lib.hid hS
 have HTU := Lib.hid (fun k (hk : P.tur g k) => h.lt (k := k) (.inl hk))
 have HI := Lib.hid hi
 have HL := Lib.hid hl
 have HEV := Lib.hid hev
 have H28 := Lib.hid hm
 have HIM := Lib.hid (mc_info hm)
 have HX := Lib.hid hx
 have HK := Lib.hid hk
 have HZ := Lib.hid hz
 clear hk hz
 have HPB := Lib.hid hpb
 clear hpb
 clear h hT hS hi hl hev hm hx
 go_enter Tryz.func61, Tryz.ntmps61
 go_upto_region 1 with fail
 obtain ⟨bt, hg⟩ : ∃ bt, bt = w.heap.size := ⟨_, rfl⟩
 have HG := Lib.hid hg
 rw [← hg] at X1 M1 ⊢
 clear hg
 generalize (w.alloc (.cells (trc x s) 62)).alloc (.cells (mc m) 45) = V at X1 M1 B1 ⊢
 have c0 : V.cell? ⟨bt, 0, none⟩ = some (.int .i64 x.tx) := X1.out.cell 0
 have c6 : V.cell? ⟨bt, 6, none⟩ = some (.int .i64 x.a0) := X1.out.cell 6
 have c7 : V.cell? ⟨bt, 7, none⟩ = some (.int .i64 x.a1) := X1.out.cell 7
 have m8 := mc_cell H28.out M1.out (i := 8) (by omega)
 go_upto_region 2 with fail
 have E2 := Lib.hid (show Blk (V.alloc (.cells #[.int .i64 4, .int .i64 0, .int .i64 x.tx, .int .i64 x.a0, .int .i64 x.a1, .int .i64 0, .int .i64 (fld m 8)] 65)) V.heap.size 65 #[.int .i64 4, .int .i64 0, .int .i64 x.tx, .int .i64 x.a0, .int .i64 x.a1, .int .i64 0, .int .i64 (fld m 8)] from Blk.new _ _ _)
 have X2 := Lib.hid (X1.out.alloc (.cells #[.int .i64 4, .int .i64 0, .int .i64 x.tx, .int .i64 x.a0, .int .i64 x.a1, .int .i64 0, .int .i64 (fld m 8)] 65))
 have M2 := Lib.hid (M1.out.alloc (.cells #[.int .i64 4, .int .i64 0, .int .i64 x.tx, .int .i64 x.a0, .int .i64 x.a1, .int .i64 0, .int .i64 (fld m 8)] 65))
 have B2 := Lib.hid (stepA B1.out (.cells #[.int .i64 4, .int .i64 0, .int .i64 x.tx, .int .i64 x.a0, .int .i64 x.a1, .int .i64 0, .int .i64 (fld m 8)] 65))
 have hbe := X1.out.lt
 have hme := M1.out.lt
 clear X1 M1 B1 c0 c6 c7 m8
 generalize V.heap.size = be at E2 hbe hme ⊢
 generalize V.alloc (.cells #[.int .i64 4, .int .i64 0, .int .i64 x.tx, .int .i64 x.a0, .int .i64 x.a1, .int .i64 0, .int .i64 (fld m 8)] 65) = V2 at E2 X2 M2 B2 ⊢
 have m0 : V2.cell? ⟨bt + 1, 0, none⟩ = some (.int .i64 10) := by rw [← HK.out]; exact mc_cell H28.out M2.out (i := 0) (by omega)
 have BA := B2
 have HBA := Lib.hid BA.out.size
 have m9 := mc_cell H28.out M2.out (i := 9) (by omega)
 go_upto_region 21 with (first
   | (go_at_call 60; refine (find_any (fld m 9) _ (HM.out.step BA.out) HL.out z HZ.out _ rfl).mono ?_; rintro e V4 ⟨s3, rfl, ht3, hb⟩; have T3 := Lib.hid ht3; have C4 := Lib.hid hb; have B4 := Lib.hid (stepB BA.out hb); clear ht3 hb)
   | (refine wpList_store_mid (by rfl) 62 (.tmp 15) (.tmp 96) (by rfl) V4.heap.size 0 (trc z s3) (by rfl) (by rfl) ((show Blk (V4.alloc (.cells zTr 62)) V4.heap.size 62 (trc noTr noSl) from Blk.new V4 _ _).there (Nat.le_refl 13)) (tr_info _ _) (T3.out.step C4.out).one ?_
      have XZ := Lib.hid (show Blk ((V4.alloc (.cells zTr 62)).setCells V4.heap.size 0 (trc z s3).toList) V4.heap.size 62 (trc z s3) from (show Blk (V4.alloc (.cells zTr 62)) V4.heap.size 62 (trc noTr noSl) from Blk.new V4 _ _).put _ rfl)
      have EA := Lib.hid (show Below V4.heap.size V4 ((V4.alloc (.cells zTr 62)).setCells V4.heap.size 0 (trc z s3).toList) from Below.setCells (b := V4.heap.size) (Nat.le_refl _) (trc z s3).toList 0 _ (Joins.below_alloc1 V4 (.cells zTr 62)))
      have B5 := Lib.hid (stepB B4.out EA.out)
      have X5 := Lib.hid ((X2.out.here C4.out).here EA.out)
      have H5 := Lib.hid (HM.out.step B5.out)
      generalize (V4.alloc (.cells zTr 62)).setCells V4.heap.size 0 (trc z s3).toList = V5 at XZ EA B5 X5 H5 ⊢
      generalize V4.heap.size = bz at XZ EA ⊢))
 have HB5 := Lib.hid B5.out.size
 clear m9 m0
 have p1 : V5.cell? ⟨g, 1, none⟩ = some (.bool true) := by rw [← HPB.out]; exact H5.out.box.cell 1
 go_wp2_with fail
 go_ret
 exact ⟨rfl, B5.out⟩
set_option maxRecDepth 100000 in
set_option maxHeartbeats 16000000 in
theorem comes_wnd_x (x : Tr) (s : Sl) (m : List Int) (i : Nat) (w : World) (h : CoM w g n c P) (hi : i < P.L.length) (hl : P.L.length ≤ 1000) (hev : c.ev.length ≤ 90000) (hT : Tm w 0 x s) (hS : Short x) (hm : m.length = 28) (hx : x.tx = (i : Int) + 1) (hk : fld m 0 = 10) (z : Tr) (hz : eL c.txs (fld m 9) = z) (hpb : c.cf.pb = false) (hx1 : x.st ≠ 1) :
   Calls Tryz.prog 61 #[.pointer (some ⟨g, 0, none⟩), .agg (trc x s), .agg (mc m)] w fun e w' => e = .returned (.slice none 0 0) ∧ Below w.heap.size w w' := by
 have X1 := Lib.hid ((Blk.new w 62 (trc x s)).alloc (.cells (mc m) 45))
 have M1 := Lib.hid (Blk.new_at (w := w.alloc (.cells (trc x s) 62)) (n := w.heap.size + 1) (by simp) 45 (mc m))
 have B1 := Lib.hid ((Joins.below_alloc1 w (.cells (trc x s) 62)).alloc (by simp) (.cells (mc m) 45))
 have HM := Lib.hid h
 have HT := Lib.hid hT
 have HS := Lib.hid hS
 have HTU := Lib.hid (fun k (hk : P.tur g k) => h.lt (k := k) (.inl hk))
 have HI := Lib.hid hi
 have HL := Lib.hid hl
 have HEV := Lib.hid hev
 have H28 := Lib.hid hm
 have HIM := Lib.hid (mc_info hm)
 have HX := Lib.hid hx
 have HK := Lib.hid hk
 have HZ := Lib.hid hz
 clear hk hz
 have HPB := Lib.hid hpb
 have d1 : (x.st != 1) = true := by simp [hx1]
 have d2 : (x.st == 1) = false := by simp [hx1]
 clear hpb hx1
 clear h hT hS hi hl hev hm hx
 go_enter Tryz.func61, Tryz.ntmps61
 go_upto_region 1 with fail
 obtain ⟨bt, hg⟩ : ∃ bt, bt = w.heap.size := ⟨_, rfl⟩
 have HG := Lib.hid hg
 rw [← hg] at X1 M1 ⊢
 clear hg
 generalize (w.alloc (.cells (trc x s) 62)).alloc (.cells (mc m) 45) = V at X1 M1 B1 ⊢
 have c0 : V.cell? ⟨bt, 0, none⟩ = some (.int .i64 x.tx) := X1.out.cell 0
 have c6 : V.cell? ⟨bt, 6, none⟩ = some (.int .i64 x.a0) := X1.out.cell 6
 have c7 : V.cell? ⟨bt, 7, none⟩ = some (.int .i64 x.a1) := X1.out.cell 7
 have m8 := mc_cell H28.out M1.out (i := 8) (by omega)
 go_upto_region 2 with fail
 have E2 := Lib.hid (show Blk (V.alloc (.cells #[.int .i64 4, .int .i64 0, .int .i64 x.tx, .int .i64 x.a0, .int .i64 x.a1, .int .i64 0, .int .i64 (fld m 8)] 65)) V.heap.size 65 #[.int .i64 4, .int .i64 0, .int .i64 x.tx, .int .i64 x.a0, .int .i64 x.a1, .int .i64 0, .int .i64 (fld m 8)] from Blk.new _ _ _)
 have X2 := Lib.hid (X1.out.alloc (.cells #[.int .i64 4, .int .i64 0, .int .i64 x.tx, .int .i64 x.a0, .int .i64 x.a1, .int .i64 0, .int .i64 (fld m 8)] 65))
 have M2 := Lib.hid (M1.out.alloc (.cells #[.int .i64 4, .int .i64 0, .int .i64 x.tx, .int .i64 x.a0, .int .i64 x.a1, .int .i64 0, .int .i64 (fld m 8)] 65))
 have B2 := Lib.hid (stepA B1.out (.cells #[.int .i64 4, .int .i64 0, .int .i64 x.tx, .int .i64 x.a0, .int .i64 x.a1, .int .i64 0, .int .i64 (fld m 8)] 65))
 have hbe := X1.out.lt
 have hme := M1.out.lt
 clear X1 M1 B1 c0 c6 c7 m8
 generalize V.heap.size = be at E2 hbe hme ⊢
 generalize V.alloc (.cells #[.int .i64 4, .int .i64 0, .int .i64 x.tx, .int .i64 x.a0, .int .i64 x.a1, .int .i64 0, .int .i64 (fld m 8)] 65) = V2 at E2 X2 M2 B2 ⊢
 have m0 : V2.cell? ⟨bt + 1, 0, none⟩ = some (.int .i64 10) := by rw [← HK.out]; exact mc_cell H28.out M2.out (i := 0) (by omega)
 have BA := B2
 have HBA := Lib.hid BA.out.size
 have m9 := mc_cell H28.out M2.out (i := 9) (by omega)
 go_upto_region 21 with (first
   | (go_at_call 60; refine (find_any (fld m 9) _ (HM.out.step BA.out) HL.out z HZ.out _ rfl).mono ?_; rintro e V4 ⟨s3, rfl, ht3, hb⟩; have T3 := Lib.hid ht3; have C4 := Lib.hid hb; have B4 := Lib.hid (stepB BA.out hb); clear ht3 hb)
   | (refine wpList_store_mid (by rfl) 62 (.tmp 15) (.tmp 96) (by rfl) V4.heap.size 0 (trc z s3) (by rfl) (by rfl) ((show Blk (V4.alloc (.cells zTr 62)) V4.heap.size 62 (trc noTr noSl) from Blk.new V4 _ _).there (Nat.le_refl 13)) (tr_info _ _) (T3.out.step C4.out).one ?_
      have XZ := Lib.hid (show Blk ((V4.alloc (.cells zTr 62)).setCells V4.heap.size 0 (trc z s3).toList) V4.heap.size 62 (trc z s3) from (show Blk (V4.alloc (.cells zTr 62)) V4.heap.size 62 (trc noTr noSl) from Blk.new V4 _ _).put _ rfl)
      have EA := Lib.hid (show Below V4.heap.size V4 ((V4.alloc (.cells zTr 62)).setCells V4.heap.size 0 (trc z s3).toList) from Below.setCells (b := V4.heap.size) (Nat.le_refl _) (trc z s3).toList 0 _ (Joins.below_alloc1 V4 (.cells zTr 62)))
      have B5 := Lib.hid (stepB B4.out EA.out)
      have X5 := Lib.hid ((X2.out.here C4.out).here EA.out)
      have H5 := Lib.hid (HM.out.step B5.out)
      generalize (V4.alloc (.cells zTr 62)).setCells V4.heap.size 0 (trc z s3).toList = V5 at XZ EA B5 X5 H5 ⊢
      generalize V4.heap.size = bz at XZ EA ⊢))
 have HB5 := Lib.hid B5.out.size
 clear m9 m0
 have p1 : V5.cell? ⟨g, 1, none⟩ = some (.bool false) := by rw [← HPB.out]; exact H5.out.box.cell 1
 have x1 : V5.cell? ⟨bt, 1, none⟩ = some (.int .i64 x.st) := by exact X5.out.cell 1
 go_wp2_with fail
 go_ret
 exact ⟨rfl, B5.out⟩
set_option maxRecDepth 100000 in
set_option maxHeartbeats 16000000 in
theorem comes_wnd_z (x : Tr) (s : Sl) (m : List Int) (i : Nat) (w : World) (h : CoM w g n c P) (hi : i < P.L.length) (hl : P.L.length ≤ 1000) (hev : c.ev.length ≤ 90000) (hT : Tm w 0 x s) (hS : Short x) (hm : m.length = 28) (hx : x.tx = (i : Int) + 1) (hk : fld m 0 = 10) (z : Tr) (hz : eL c.txs (fld m 9) = z) (hpb : c.cf.pb = false) (hx1 : x.st = 1) (hz1 : z.st ≠ 1) (hz2 : z.st ≠ 2) :
   Calls Tryz.prog 61 #[.pointer (some ⟨g, 0, none⟩), .agg (trc x s), .agg (mc m)] w fun e w' => e = .returned (.slice none 0 0) ∧ Below w.heap.size w w' := by
 have X1 := Lib.hid ((Blk.new w 62 (trc x s)).alloc (.cells (mc m) 45))
 have M1 := Lib.hid (Blk.new_at (w := w.alloc (.cells (trc x s) 62)) (n := w.heap.size + 1) (by simp) 45 (mc m))
 have B1 := Lib.hid ((Joins.below_alloc1 w (.cells (trc x s) 62)).alloc (by simp) (.cells (mc m) 45))
 have HM := Lib.hid h
 have HT := Lib.hid hT
 have HS := Lib.hid hS
 have HTU := Lib.hid (fun k (hk : P.tur g k) => h.lt (k := k) (.inl hk))
 have HI := Lib.hid hi
 have HL := Lib.hid hl
 have HEV := Lib.hid hev
 have H28 := Lib.hid hm
 have HIM := Lib.hid (mc_info hm)
 have HX := Lib.hid hx
 have HK := Lib.hid hk
 have HZ := Lib.hid hz
 clear hk hz
 have HPB := Lib.hid hpb
 have HX1 := Lib.hid hx1
 have d1 : (z.st != 1) = true := by simp [hz1]
 have d2 : (z.st != 2) = true := by simp [hz2]
 have d3 : (z.st == 1) = false := by simp [hz1]
 have d4 : (z.st == 2) = false := by simp [hz2]
 clear hpb hx1 hz1 hz2
 clear h hT hS hi hl hev hm hx
 go_enter Tryz.func61, Tryz.ntmps61
 go_upto_region 1 with fail
 obtain ⟨bt, hg⟩ : ∃ bt, bt = w.heap.size := ⟨_, rfl⟩
 have HG := Lib.hid hg
 rw [← hg] at X1 M1 ⊢
 clear hg
 generalize (w.alloc (.cells (trc x s) 62)).alloc (.cells (mc m) 45) = V at X1 M1 B1 ⊢
 have c0 : V.cell? ⟨bt, 0, none⟩ = some (.int .i64 x.tx) := X1.out.cell 0
 have c6 : V.cell? ⟨bt, 6, none⟩ = some (.int .i64 x.a0) := X1.out.cell 6
 have c7 : V.cell? ⟨bt, 7, none⟩ = some (.int .i64 x.a1) := X1.out.cell 7
 have m8 := mc_cell H28.out M1.out (i := 8) (by omega)
 go_upto_region 2 with fail
 have E2 := Lib.hid (show Blk (V.alloc (.cells #[.int .i64 4, .int .i64 0, .int .i64 x.tx, .int .i64 x.a0, .int .i64 x.a1, .int .i64 0, .int .i64 (fld m 8)] 65)) V.heap.size 65 #[.int .i64 4, .int .i64 0, .int .i64 x.tx, .int .i64 x.a0, .int .i64 x.a1, .int .i64 0, .int .i64 (fld m 8)] from Blk.new _ _ _)
 have X2 := Lib.hid (X1.out.alloc (.cells #[.int .i64 4, .int .i64 0, .int .i64 x.tx, .int .i64 x.a0, .int .i64 x.a1, .int .i64 0, .int .i64 (fld m 8)] 65))
 have M2 := Lib.hid (M1.out.alloc (.cells #[.int .i64 4, .int .i64 0, .int .i64 x.tx, .int .i64 x.a0, .int .i64 x.a1, .int .i64 0, .int .i64 (fld m 8)] 65))
 have B2 := Lib.hid (stepA B1.out (.cells #[.int .i64 4, .int .i64 0, .int .i64 x.tx, .int .i64 x.a0, .int .i64 x.a1, .int .i64 0, .int .i64 (fld m 8)] 65))
 have hbe := X1.out.lt
 have hme := M1.out.lt
 clear X1 M1 B1 c0 c6 c7 m8
 generalize V.heap.size = be at E2 hbe hme ⊢
 generalize V.alloc (.cells #[.int .i64 4, .int .i64 0, .int .i64 x.tx, .int .i64 x.a0, .int .i64 x.a1, .int .i64 0, .int .i64 (fld m 8)] 65) = V2 at E2 X2 M2 B2 ⊢
 have m0 : V2.cell? ⟨bt + 1, 0, none⟩ = some (.int .i64 10) := by rw [← HK.out]; exact mc_cell H28.out M2.out (i := 0) (by omega)
 have BA := B2
 have HBA := Lib.hid BA.out.size
 have m9 := mc_cell H28.out M2.out (i := 9) (by omega)
 go_upto_region 21 with (first
   | (go_at_call 60; refine (find_any (fld m 9) _ (HM.out.step BA.out) HL.out z HZ.out _ rfl).mono ?_; rintro e V4 ⟨s3, rfl, ht3, hb⟩; have T3 := Lib.hid ht3; have C4 := Lib.hid hb; have B4 := Lib.hid (stepB BA.out hb); clear ht3 hb)
   | (refine wpList_store_mid (by rfl) 62 (.tmp 15) (.tmp 96) (by rfl) V4.heap.size 0 (trc z s3) (by rfl) (by rfl) ((show Blk (V4.alloc (.cells zTr 62)) V4.heap.size 62 (trc noTr noSl) from Blk.new V4 _ _).there (Nat.le_refl 13)) (tr_info _ _) (T3.out.step C4.out).one ?_
      have XZ := Lib.hid (show Blk ((V4.alloc (.cells zTr 62)).setCells V4.heap.size 0 (trc z s3).toList) V4.heap.size 62 (trc z s3) from (show Blk (V4.alloc (.cells zTr 62)) V4.heap.size 62 (trc noTr noSl) from Blk.new V4 _ _).put _ rfl)
      have EA := Lib.hid (show Below V4.heap.size V4 ((V4.alloc (.cells zTr 62)).setCells V4.heap.size 0 (trc z s3).toList) from Below.setCells (b := V4.heap.size) (Nat.le_refl _) (trc z s3).toList 0 _ (Joins.below_alloc1 V4 (.cells zTr 62)))
      have B5 := Lib.hid (stepB B4.out EA.out)
      have X5 := Lib.hid ((X2.out.here C4.out).here EA.out)
      have H5 := Lib.hid (HM.out.step B5.out)
      generalize (V4.alloc (.cells zTr 62)).setCells V4.heap.size 0 (trc z s3).toList = V5 at XZ EA B5 X5 H5 ⊢
      generalize V4.heap.size = bz at XZ EA ⊢))
 have HB5 := Lib.hid B5.out.size
 clear m9 m0
 have p1 : V5.cell? ⟨g, 1, none⟩ = some (.bool false) := by rw [← HPB.out]; exact H5.out.box.cell 1
 have x1 : V5.cell? ⟨bt, 1, none⟩ = some (.int .i64 1) := by rw [← HX1.out]; exact X5.out.cell 1
 have z1 : V5.cell? ⟨bz, 1, none⟩ = some (.int .i64 z.st) := by exact XZ.out.cell 1
 go_wp2_with fail
 go_ret
 exact ⟨rfl, B5.out⟩
set_option maxRecDepth 100000 in
set_option maxHeartbeats 16000000 in
theorem comes_wnd_ok1 (x : Tr) (s : Sl) (m : List Int) (i : Nat) (w : World) (h : CoM w g n c P) (hi : i < P.L.length) (hl : P.L.length ≤ 1000) (hev : c.ev.length ≤ 90000) (hT : Tm w 0 x s) (hS : Short x) (hm : m.length = 28) (hx : x.tx = (i : Int) + 1) (hk : fld m 0 = 10) (z : Tr) (hz : eL c.txs (fld m 9) = z) (hpb : c.cf.pb = false) (hx1 : x.st = 1) (hz1 : z.st = 1) (y : Tr) (ms : List (List Int)) (hy : abtL x 3 = (y, ms, 0)) (c' : Co) (code : Int) (hbl : becL c y i = (c', code)) :
   Calls Tryz.prog 61 #[.pointer (some ⟨g, 0, none⟩), .agg (trc x s), .agg (mc m)] w fun e w' => ∃ u, e = .returned u ∧ MsgR w' w.heap.size u ms ∧ ∃ P', CoS w w' g n P (fun _ => False) c' P' := by
 have X1 := Lib.hid ((Blk.new w 62 (trc x s)).alloc (.cells (mc m) 45))
 have M1 := Lib.hid (Blk.new_at (w := w.alloc (.cells (trc x s) 62)) (n := w.heap.size + 1) (by simp) 45 (mc m))
 have B1 := Lib.hid ((Joins.below_alloc1 w (.cells (trc x s) 62)).alloc (by simp) (.cells (mc m) 45))
 have HM := Lib.hid h
 have HT := Lib.hid hT
 have HS := Lib.hid hS
 have HTU := Lib.hid (fun k (hk : P.tur g k) => h.lt (k := k) (.inl hk))
 have HI := Lib.hid hi
 have HL := Lib.hid hl
 have HEV := Lib.hid hev
 have H28 := Lib.hid hm
 have HIM := Lib.hid (mc_info hm)
 have HX := Lib.hid hx
 have HK := Lib.hid hk
 have HZ := Lib.hid hz
 clear hk hz
 have HPB := Lib.hid hpb
 have HX1 := Lib.hid hx1
 have HZ1 := Lib.hid hz1
 have HY := Lib.hid hy
 have HBL := Lib.hid hbl
 clear hpb hx1 hz1 hy hbl
 clear h hT hS hi hl hev hm hx
 go_enter Tryz.func61, Tryz.ntmps61
 go_upto_region 1 with fail
 obtain ⟨bt, hg⟩ : ∃ bt, bt = w.heap.size := ⟨_, rfl⟩
 have HG := Lib.hid hg
 rw [← hg] at X1 M1 ⊢
 clear hg
 generalize (w.alloc (.cells (trc x s) 62)).alloc (.cells (mc m) 45) = V at X1 M1 B1 ⊢
 have c0 : V.cell? ⟨bt, 0, none⟩ = some (.int .i64 x.tx) := X1.out.cell 0
 have c6 : V.cell? ⟨bt, 6, none⟩ = some (.int .i64 x.a0) := X1.out.cell 6
 have c7 : V.cell? ⟨bt, 7, none⟩ = some (.int .i64 x.a1) := X1.out.cell 7
 have m8 := mc_cell H28.out M1.out (i := 8) (by omega)
 go_upto_region 2 with fail
 have E2 := Lib.hid (show Blk (V.alloc (.cells #[.int .i64 4, .int .i64 0, .int .i64 x.tx, .int .i64 x.a0, .int .i64 x.a1, .int .i64 0, .int .i64 (fld m 8)] 65)) V.heap.size 65 #[.int .i64 4, .int .i64 0, .int .i64 x.tx, .int .i64 x.a0, .int .i64 x.a1, .int .i64 0, .int .i64 (fld m 8)] from Blk.new _ _ _)
 have X2 := Lib.hid (X1.out.alloc (.cells #[.int .i64 4, .int .i64 0, .int .i64 x.tx, .int .i64 x.a0, .int .i64 x.a1, .int .i64 0, .int .i64 (fld m 8)] 65))
 have M2 := Lib.hid (M1.out.alloc (.cells #[.int .i64 4, .int .i64 0, .int .i64 x.tx, .int .i64 x.a0, .int .i64 x.a1, .int .i64 0, .int .i64 (fld m 8)] 65))
 have B2 := Lib.hid (stepA B1.out (.cells #[.int .i64 4, .int .i64 0, .int .i64 x.tx, .int .i64 x.a0, .int .i64 x.a1, .int .i64 0, .int .i64 (fld m 8)] 65))
 have hbe := X1.out.lt
 have hme := M1.out.lt
 clear X1 M1 B1 c0 c6 c7 m8
 generalize V.heap.size = be at E2 hbe hme ⊢
 generalize V.alloc (.cells #[.int .i64 4, .int .i64 0, .int .i64 x.tx, .int .i64 x.a0, .int .i64 x.a1, .int .i64 0, .int .i64 (fld m 8)] 65) = V2 at E2 X2 M2 B2 ⊢
 have m0 : V2.cell? ⟨bt + 1, 0, none⟩ = some (.int .i64 10) := by rw [← HK.out]; exact mc_cell H28.out M2.out (i := 0) (by omega)
 have BA := B2
 have HBA := Lib.hid BA.out.size
 have m9 := mc_cell H28.out M2.out (i := 9) (by omega)
 go_upto_region 21 with (first
   | (go_at_call 60; refine (find_any (fld m 9) _ (HM.out.step BA.out) HL.out z HZ.out _ rfl).mono ?_; rintro e V4 ⟨s3, rfl, ht3, hb⟩; have T3 := Lib.hid ht3; have C4 := Lib.hid hb; have B4 := Lib.hid (stepB BA.out hb); clear ht3 hb)
   | (refine wpList_store_mid (by rfl) 62 (.tmp 15) (.tmp 96) (by rfl) V4.heap.size 0 (trc z s3) (by rfl) (by rfl) ((show Blk (V4.alloc (.cells zTr 62)) V4.heap.size 62 (trc noTr noSl) from Blk.new V4 _ _).there (Nat.le_refl 13)) (tr_info _ _) (T3.out.step C4.out).one ?_
      have XZ := Lib.hid (show Blk ((V4.alloc (.cells zTr 62)).setCells V4.heap.size 0 (trc z s3).toList) V4.heap.size 62 (trc z s3) from (show Blk (V4.alloc (.cells zTr 62)) V4.heap.size 62 (trc noTr noSl) from Blk.new V4 _ _).put _ rfl)
      have EA := Lib.hid (show Below V4.heap.size V4 ((V4.alloc (.cells zTr 62)).setCells V4.heap.size 0 (trc z s3).toList) from Below.setCells (b := V4.heap.size) (Nat.le_refl _) (trc z s3).toList 0 _ (Joins.below_alloc1 V4 (.cells zTr 62)))
      have B5 := Lib.hid (stepB B4.out EA.out)
      have X5 := Lib.hid ((X2.out.here C4.out).here EA.out)
      have H5 := Lib.hid (HM.out.step B5.out)
      generalize (V4.alloc (.cells zTr 62)).setCells V4.heap.size 0 (trc z s3).toList = V5 at XZ EA B5 X5 H5 ⊢
      generalize V4.heap.size = bz at XZ EA ⊢))
 have HB5 := Lib.hid B5.out.size
 clear m9 m0
 have p1 : V5.cell? ⟨g, 1, none⟩ = some (.bool false) := by rw [← HPB.out]; exact H5.out.box.cell 1
 have x1 : V5.cell? ⟨bt, 1, none⟩ = some (.int .i64 1) := by rw [← HX1.out]; exact X5.out.cell 1
 have z1 : V5.cell? ⟨bz, 1, none⟩ = some (.int .i64 1) := by rw [← HZ1.out]; exact XZ.out.cell 1
 go_wp2_with (first
   | (refine wpList_load_row rfl 62 (.tmp 4) rfl bt rfl 62 (trc x s) (0, 0) _ X5.out Tryz.underlying62 rfl (tr_info _ _) ?_)
   | (go_at_call 56; refine (abortC_ok x s 3 _ H5.out (HT.out.step B5.out) HS.out y ms i HI.out HL.out HX.out HEV.out HY.out c' code HBL.out).mono ?_; rintro e V6 ⟨u, rfl, hu, P6, hs⟩; have U6 := Lib.hid hu; have S6 := Lib.hid ((CoS.below (N := fun _ => False) HM.out B5.out).trans hs); clear hu hs))
 go_ret
 exact ⟨_, rfl, own_less U6.out HB5.out, _, S6.out.fresh (fun k e => by simp only [or_false] at e)⟩
set_option maxRecDepth 100000 in
set_option maxHeartbeats 16000000 in
theorem comes_wnd_ok2 (x : Tr) (s : Sl) (m : List Int) (i : Nat) (w : World) (h : CoM w g n c P) (hi : i < P.L.length) (hl : P.L.length ≤ 1000) (hev : c.ev.length ≤ 90000) (hT : Tm w 0 x s) (hS : Short x) (hm : m.length = 28) (hx : x.tx = (i : Int) + 1) (hk : fld m 0 = 10) (z : Tr) (hz : eL c.txs (fld m 9) = z) (hpb : c.cf.pb = false) (hx1 : x.st = 1) (hz1 : z.st = 2) (y : Tr) (ms : List (List Int)) (hy : abtL x 3 = (y, ms, 0)) (c' : Co) (code : Int) (hbl : becL c y i = (c', code)) :
   Calls Tryz.prog 61 #[.pointer (some ⟨g, 0, none⟩), .agg (trc x s), .agg (mc m)] w fun e w' => ∃ u, e = .returned u ∧ MsgR w' w.heap.size u ms ∧ ∃ P', CoS w w' g n P (fun _ => False) c' P' := by
 have X1 := Lib.hid ((Blk.new w 62 (trc x s)).alloc (.cells (mc m) 45))
 have M1 := Lib.hid (Blk.new_at (w := w.alloc (.cells (trc x s) 62)) (n := w.heap.size + 1) (by simp) 45 (mc m))
 have B1 := Lib.hid ((Joins.below_alloc1 w (.cells (trc x s) 62)).alloc (by simp) (.cells (mc m) 45))
 have HM := Lib.hid h
 have HT := Lib.hid hT
 have HS := Lib.hid hS
 have HTU := Lib.hid (fun k (hk : P.tur g k) => h.lt (k := k) (.inl hk))
 have HI := Lib.hid hi
 have HL := Lib.hid hl
 have HEV := Lib.hid hev
 have H28 := Lib.hid hm
 have HIM := Lib.hid (mc_info hm)
 have HX := Lib.hid hx
 have HK := Lib.hid hk
 have HZ := Lib.hid hz
 clear hk hz
 have HPB := Lib.hid hpb
 have HX1 := Lib.hid hx1
 have HZ1 := Lib.hid hz1
 have HY := Lib.hid hy
 have HBL := Lib.hid hbl
 clear hpb hx1 hz1 hy hbl
 clear h hT hS hi hl hev hm hx
 go_enter Tryz.func61, Tryz.ntmps61
 go_upto_region 1 with fail
 obtain ⟨bt, hg⟩ : ∃ bt, bt = w.heap.size := ⟨_, rfl⟩
 have HG := Lib.hid hg
 rw [← hg] at X1 M1 ⊢
 clear hg
 generalize (w.alloc (.cells (trc x s) 62)).alloc (.cells (mc m) 45) = V at X1 M1 B1 ⊢
 have c0 : V.cell? ⟨bt, 0, none⟩ = some (.int .i64 x.tx) := X1.out.cell 0
 have c6 : V.cell? ⟨bt, 6, none⟩ = some (.int .i64 x.a0) := X1.out.cell 6
 have c7 : V.cell? ⟨bt, 7, none⟩ = some (.int .i64 x.a1) := X1.out.cell 7
 have m8 := mc_cell H28.out M1.out (i := 8) (by omega)
 go_upto_region 2 with fail
 have E2 := Lib.hid (show Blk (V.alloc (.cells #[.int .i64 4, .int .i64 0, .int .i64 x.tx, .int .i64 x.a0, .int .i64 x.a1, .int .i64 0, .int .i64 (fld m 8)] 65)) V.heap.size 65 #[.int .i64 4, .int .i64 0, .int .i64 x.tx, .int .i64 x.a0, .int .i64 x.a1, .int .i64 0, .int .i64 (fld m 8)] from Blk.new _ _ _)
 have X2 := Lib.hid (X1.out.alloc (.cells #[.int .i64 4, .int .i64 0, .int .i64 x.tx, .int .i64 x.a0, .int .i64 x.a1, .int .i64 0, .int .i64 (fld m 8)] 65))
 have M2 := Lib.hid (M1.out.alloc (.cells #[.int .i64 4, .int .i64 0, .int .i64 x.tx, .int .i64 x.a0, .int .i64 x.a1, .int .i64 0, .int .i64 (fld m 8)] 65))
 have B2 := Lib.hid (stepA B1.out (.cells #[.int .i64 4, .int .i64 0, .int .i64 x.tx, .int .i64 x.a0, .int .i64 x.a1, .int .i64 0, .int .i64 (fld m 8)] 65))
 have hbe := X1.out.lt
 have hme := M1.out.lt
 clear X1 M1 B1 c0 c6 c7 m8
 generalize V.heap.size = be at E2 hbe hme ⊢
 generalize V.alloc (.cells #[.int .i64 4, .int .i64 0, .int .i64 x.tx, .int .i64 x.a0, .int .i64 x.a1, .int .i64 0, .int .i64 (fld m 8)] 65) = V2 at E2 X2 M2 B2 ⊢
 have m0 : V2.cell? ⟨bt + 1, 0, none⟩ = some (.int .i64 10) := by rw [← HK.out]; exact mc_cell H28.out M2.out (i := 0) (by omega)
 have BA := B2
 have HBA := Lib.hid BA.out.size
 have m9 := mc_cell H28.out M2.out (i := 9) (by omega)
 go_upto_region 21 with (first
   | (go_at_call 60; refine (find_any (fld m 9) _ (HM.out.step BA.out) HL.out z HZ.out _ rfl).mono ?_; rintro e V4 ⟨s3, rfl, ht3, hb⟩; have T3 := Lib.hid ht3; have C4 := Lib.hid hb; have B4 := Lib.hid (stepB BA.out hb); clear ht3 hb)
   | (refine wpList_store_mid (by rfl) 62 (.tmp 15) (.tmp 96) (by rfl) V4.heap.size 0 (trc z s3) (by rfl) (by rfl) ((show Blk (V4.alloc (.cells zTr 62)) V4.heap.size 62 (trc noTr noSl) from Blk.new V4 _ _).there (Nat.le_refl 13)) (tr_info _ _) (T3.out.step C4.out).one ?_
      have XZ := Lib.hid (show Blk ((V4.alloc (.cells zTr 62)).setCells V4.heap.size 0 (trc z s3).toList) V4.heap.size 62 (trc z s3) from (show Blk (V4.alloc (.cells zTr 62)) V4.heap.size 62 (trc noTr noSl) from Blk.new V4 _ _).put _ rfl)
      have EA := Lib.hid (show Below V4.heap.size V4 ((V4.alloc (.cells zTr 62)).setCells V4.heap.size 0 (trc z s3).toList) from Below.setCells (b := V4.heap.size) (Nat.le_refl _) (trc z s3).toList 0 _ (Joins.below_alloc1 V4 (.cells zTr 62)))
      have B5 := Lib.hid (stepB B4.out EA.out)
      have X5 := Lib.hid ((X2.out.here C4.out).here EA.out)
      have H5 := Lib.hid (HM.out.step B5.out)
      generalize (V4.alloc (.cells zTr 62)).setCells V4.heap.size 0 (trc z s3).toList = V5 at XZ EA B5 X5 H5 ⊢
      generalize V4.heap.size = bz at XZ EA ⊢))
 have HB5 := Lib.hid B5.out.size
 clear m9 m0
 have p1 : V5.cell? ⟨g, 1, none⟩ = some (.bool false) := by rw [← HPB.out]; exact H5.out.box.cell 1
 have x1 : V5.cell? ⟨bt, 1, none⟩ = some (.int .i64 1) := by rw [← HX1.out]; exact X5.out.cell 1
 have z1 : V5.cell? ⟨bz, 1, none⟩ = some (.int .i64 2) := by rw [← HZ1.out]; exact XZ.out.cell 1
 go_wp2_with (first
   | (refine wpList_load_row rfl 62 (.tmp 4) rfl bt rfl 62 (trc x s) (0, 0) _ X5.out Tryz.underlying62 rfl (tr_info _ _) ?_)
   | (go_at_call 56; refine (abortC_ok x s 3 _ H5.out (HT.out.step B5.out) HS.out y ms i HI.out HL.out HX.out HEV.out HY.out c' code HBL.out).mono ?_; rintro e V6 ⟨u, rfl, hu, P6, hs⟩; have U6 := Lib.hid hu; have S6 := Lib.hid ((CoS.below (N := fun _ => False) HM.out B5.out).trans hs); clear hu hs))
 go_ret
 exact ⟨_, rfl, own_less U6.out HB5.out, _, S6.out.fresh (fun k e => by simp only [or_false] at e)⟩
end
end Go.Proofs.YtadnlannbafjpaaGreat
