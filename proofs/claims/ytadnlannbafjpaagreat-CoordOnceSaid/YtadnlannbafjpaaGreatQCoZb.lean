/- A coordinator: a grant. -/
import Derived.Test.YtadnlannbafjpaaGreatQCoZa
namespace Go.Proofs.YtadnlannbafjpaaGreat
open Go.RowKit
set_option linter.unusedVariables false
set_option linter.unusedSimpArgs false
section
variable {g n : Nat} {c : Co} {P : Pt}
set_option maxRecDepth 100000 in
set_option maxHeartbeats 16000000 in
theorem comes_gra_err (x : Tr) (s : Sl) (m : List Int) (i : Nat) (w : World) (h : CoM w g n c P) (hi : i < P.L.length) (hl : P.L.length ≤ 1000) (hev : c.ev.length ≤ 90000) (hT : Tm w 0 x s) (hS : Short x) (hm : m.length = 28) (hx : x.tx = (i : Int) + 1) (hk : fld m 0 = 2) (y : Tr) (ms : List (List Int)) (cd : Int) (hcd : cd ≠ 0) (hy : ansL x m = (y, ms, cd)) :
   Calls Tryz.prog 61 #[.pointer (some ⟨g, 0, none⟩), .agg (trc x s), .agg (mc m)] w fun e w' => e = .returned (.slice none 0 0) ∧ Below w.heap.size w w' := by
 have X1 := Lib.hid ((Blk.new w 62 (trc x s)).alloc (.cells (mc m) 45))
 have M1 := Lib.hid (Blk.new_at (w := w.alloc (.cells (trc x s) 62)) (n := w.heap.size + 1) (by simp) 45 (mc m))
 have B1 := Lib.hid ((Joins.below_alloc1 w (.cells (trc x s) 62)).alloc (by simp) (.cells (mc m) 45))
 have HM := Lib.hid h
 have HT := Lib.hid hT
 have HS := Lib.hid hS
 have HTU := Lib.hid (fun k (hk : P.tur g k) => h.lt (k := k) (.inl hk))
 have HI := Lib.hid hi
 have HL := Lib.hid hl
 have HEV := Lib.hid hev
 have H28 := Lib.hid hm
 have HIM := Lib.hid (mc_info hm)
 have HX := Lib.hid hx
 have HK := Lib.hid hk
 have HY := Lib.hid hy
 have HCD := Lib.hid hcd
 clear hk hy hcd
 have heh := fun W => run_eql_held_nil (P := Tryz.prog) W 28 81 (.int .i64 cd) Tryz.underlying28
 clear h hT hS hi hl hev hm hx
 go_enter Tryz.func61, Tryz.ntmps61
 go_upto_region 1 with fail
 obtain ⟨bt, hg⟩ : ∃ bt, bt = w.heap.size := ⟨_, rfl⟩
 have HG := Lib.hid hg
 rw [← hg] at X1 M1 ⊢
 clear hg
 generalize (w.alloc (.cells (trc x s) 62)).alloc (.cells (mc m) 45) = V at X1 M1 B1 ⊢
 have c0 : V.cell? ⟨bt, 0, none⟩ = some (.int .i64 x.tx) := X1.out.cell 0
 have c6 : V.cell? ⟨bt, 6, none⟩ = some (.int .i64 x.a0) := X1.out.cell 6
 have c7 : V.cell? ⟨bt, 7, none⟩ = some (.int .i64 x.a1) := X1.out.cell 7
 have m8 := mc_cell H28.out M1.out (i := 8) (by omega)
 go_upto_region 2 with fail
 have E2 := Lib.hid (show Blk (V.alloc (.cells #[.int .i64 4, .int .i64 0, .int .i64 x.tx, .int .i64 x.a0, .int .i64 x.a1, .int .i64 0, .int .i64 (fld m 8)] 65)) V.heap.size 65 #[.int .i64 4, .int .i64 0, .int .i64 x.tx, .int .i64 x.a0, .int .i64 x.a1, .int .i64 0, .int .i64 (fld m 8)] from Blk.new _ _ _)
 have X2 := Lib.hid (X1.out.alloc (.cells #[.int .i64 4, .int .i64 0, .int .i64 x.tx, .int .i64 x.a0, .int .i64 x.a1, .int .i64 0, .int .i64 (fld m 8)] 65))
 have M2 := Lib.hid (M1.out.alloc (.cells #[.int .i64 4, .int .i64 0, .int .i64 x.tx, .int .i64 x.a0, .int .i64 x.a1, .int .i64 0, .int .i64 (fld m 8)] 65))
 have B2 := Lib.hid (stepA B1.out (.cells #[.int .i64 4, .int .i64 0, .int .i64 x.tx, .int .i64 x.a0, .int .i64 x.a1, .int .i64 0, .int .i64 (fld m 8)] 65))
 have hbe := X1.out.lt
 have hme := M1.out.lt
 clear X1 M1 B1 c0 c6 c7 m8
 generalize V.heap.size = be at E2 hbe hme ⊢
 generalize V.alloc (.cells #[.int .i64 4, .int .i64 0, .int .i64 x.tx, .int .i64 x.a0, .int .i64 x.a1, .int .i64 0, .int .i64 (fld m 8)] 65) = V2 at E2 X2 M2 B2 ⊢
 have m0 : V2.cell? ⟨bt + 1, 0, none⟩ = some (.int .i64 2) := by rw [← HK.out]; exact mc_cell H28.out M2.out (i := 0) (by omega)
 have BA := B2
 have HBA := Lib.hid BA.out.size
 have ERC := errV_pos HCD.out
 go_upto_region 10 with fail
 have m7 := mc_cell H28.out M2.out (i := 7) (by omega)
 have e0 : V2.cell? ⟨be, 0, none⟩ = some (.int .i64 4) := E2.out.cell 0
 have e5 : V2.cell? ⟨be, 5, none⟩ = some (.int .i64 0) := E2.out.cell 5
 have f0 := E2.out.frozen 0
 have f5 := E2.out.frozen 5
 have HBE := Lib.hid (show w.heap.size ≤ be from by have := HG.out; omega)
 have HBN := Lib.hid (show bt ≠ be ∧ bt + 1 ≠ be from ⟨by omega, by omega⟩)
 go_region
 have E9 := Lib.hid (show Blk (((V2.setCell ⟨be, 0, none⟩ (.int .i64 3)).setCell ⟨be, 5, none⟩ (.int .i64 (fld m 7))).drew) be 65 #[.int .i64 3, .int .i64 0, .int .i64 x.tx, .int .i64 x.a0, .int .i64 x.a1, .int .i64 (fld m 7), .int .i64 (fld m 8)] from ((E2.out.set_ 0 (.int .i64 3)).set_ 5 (.int .i64 (fld m 7))).drew)
 have X9 := Lib.hid (show Blk (((V2.setCell ⟨be, 0, none⟩ (.int .i64 3)).setCell ⟨be, 5, none⟩ (.int .i64 (fld m 7))).drew) bt 62 (trc x s) from ((X2.out.far (p := ⟨be, 0, none⟩) HBN.out.1 _).far (p := ⟨be, 5, none⟩) HBN.out.1 _).drew)
 have M9 := Lib.hid (show Blk (((V2.setCell ⟨be, 0, none⟩ (.int .i64 3)).setCell ⟨be, 5, none⟩ (.int .i64 (fld m 7))).drew) (bt + 1) 45 (mc m) from ((M2.out.far (p := ⟨be, 0, none⟩) HBN.out.2 _).far (p := ⟨be, 5, none⟩) HBN.out.2 _).drew)
 have B9 := Lib.hid (show Below w.heap.size w (((V2.setCell ⟨be, 0, none⟩ (.int .i64 3)).setCell ⟨be, 5, none⟩ (.int .i64 (fld m 7))).drew) from ((B2.out.setCell (p := ⟨be, 0, none⟩) HBE.out _).setCell (p := ⟨be, 5, none⟩) HBE.out _).drew)
 clear E2 X2 M2 B2 BA m0 m7 e0 e5 f0 f5 HBA
 generalize (((V2.setCell ⟨be, 0, none⟩ (.int .i64 3)).setCell ⟨be, 5, none⟩ (.int .i64 (fld m 7))).drew) = V9 at E9 X9 M9 B9 ⊢
 have E2 := E9
 have X2 := X9
 have M2 := M9
 have BA := B9
 have HBA := Lib.hid BA.out.size
 clear E9 X9 M9 B9
 go_upto_region 12 with (first
   | (refine wpList_load_row rfl 62 (.tmp 4) rfl bt rfl 62 (trc x s) (0, 0) _ X2.out Tryz.underlying62 rfl (tr_info _ _) ?_)
   | (refine wpList_load_row rfl 45 (.tmp 5) rfl (bt + 1) rfl 45 (mc m) (0, 0) _ M2.out Tryz.underlying45 rfl HIM.out ?_)
   | (go_at_call 104; refine (answered_any x s m _ (HT.out.step BA.out) HS.out H28.out).mono ?_; rw [HY.out]; rintro e V4 ⟨s2, rfl, ht2, hb2⟩; rw [ERC]; have T4 := Lib.hid ht2; have B4 := Lib.hid hb2; have H4 := Lib.hid ((HM.out.step BA.out).step hb2); clear ht2 hb2)
   | (refine wpList_store_mid (by rfl) 62 (.tmp 9) (.tmp 46) (by rfl) V4.heap.size 0 (trc y s2) (by rfl) (by rfl) ((show Blk (V4.alloc (.cells zTr 62)) V4.heap.size 62 (trc noTr noSl) from Blk.new V4 _ _).there (Nat.le_refl 13)) (tr_info _ _) T4.out.one ?_
      have XY := Lib.hid (show Blk ((V4.alloc (.cells zTr 62)).setCells V4.heap.size 0 (trc y s2).toList) V4.heap.size 62 (trc y s2) from (show Blk (V4.alloc (.cells zTr 62)) V4.heap.size 62 (trc noTr noSl) from Blk.new V4 _ _).put _ rfl)
      have EA := Lib.hid (show Below V4.heap.size V4 ((V4.alloc (.cells zTr 62)).setCells V4.heap.size 0 (trc y s2).toList) from Below.setCells (b := V4.heap.size) (Nat.le_refl _) (trc y s2).toList 0 _ (Joins.below_alloc1 V4 (.cells zTr 62)))
      have B5 := Lib.hid (stepB (stepB BA.out B4.out) EA.out)
      have H5 := Lib.hid (H4.out.step EA.out)
      have T5 := Lib.hid ((T4.out.step EA.out).less (Nat.zero_le _))
      have HB4 := Lib.hid (Nat.le_trans BA.out.size B4.out.size)
      have E5 := Lib.hid ((E2.out.here B4.out).here EA.out)
      generalize (V4.alloc (.cells zTr 62)).setCells V4.heap.size 0 (trc y s2).toList = V5 at XY EA B5 H5 T5 E5 ⊢
      generalize V4.heap.size = by1 at XY EA HB4 ⊢))
 go_wp2_with fail
 go_ret
 exact ⟨rfl, B5.out⟩
set_option maxRecDepth 100000 in
set_option maxHeartbeats 16000000 in
theorem comes_gra_ok (x : Tr) (s : Sl) (m : List Int) (i : Nat) (w : World) (h : CoM w g n c P) (hi : i < P.L.length) (hl : P.L.length ≤ 1000) (hev : c.ev.length ≤ 90000) (hT : Tm w 0 x s) (hS : Short x) (hm : m.length = 28) (hx : x.tx = (i : Int) + 1) (hk : fld m 0 = 2) (y : Tr) (ms : List (List Int)) (hy : ansL x m = (y, ms, 0)) (c' : Co) (hc' : c' = { c with txs := c.txs.set i y, ev := c.ev ++ [[3, 0, x.tx, x.a0, x.a1, fld m 7, fld m 8]] }) :
   Calls Tryz.prog 61 #[.pointer (some ⟨g, 0, none⟩), .agg (trc x s), .agg (mc m)] w fun e w' => e = .returned (.slice none 0 0) ∧ ∃ P', CoS w w' g n P (fun _ => False) c' P' := by
 have X1 := Lib.hid ((Blk.new w 62 (trc x s)).alloc (.cells (mc m) 45))
 have M1 := Lib.hid (Blk.new_at (w := w.alloc (.cells (trc x s) 62)) (n := w.heap.size + 1) (by simp) 45 (mc m))
 have B1 := Lib.hid ((Joins.below_alloc1 w (.cells (trc x s) 62)).alloc (by simp) (.cells (mc m) 45))
 have HM := Lib.hid h
 have HT := Lib.hid hT
 have HS := Lib.hid hS
 have HTU := Lib.hid (fun k (hk : P.tur g k) => h.lt (k := k) (.inl hk))
 have HI := Lib.hid hi
 have HL := Lib.hid hl
 have HEV := Lib.hid hev
 have H28 := Lib.hid hm
 have HIM := Lib.hid (mc_info hm)
 have HX := Lib.hid hx
 have HK := Lib.hid hk
 have HY := Lib.hid hy
 have HC := Lib.hid hc'
 have HY0 := Lib.hid ((ans_ok hy).1.trans hx)
 clear hk hy hc'
 have hen := fun W => run_eql_nil_nil (P := Tryz.prog) W 28 Tryz.underlying28
 clear h hT hS hi hl hev hm hx
 go_enter Tryz.func61, Tryz.ntmps61
 go_upto_region 1 with fail
 obtain ⟨bt, hg⟩ : ∃ bt, bt = w.heap.size := ⟨_, rfl⟩
 have HG := Lib.hid hg
 rw [← hg] at X1 M1 ⊢
 clear hg
 generalize (w.alloc (.cells (trc x s) 62)).alloc (.cells (mc m) 45) = V at X1 M1 B1 ⊢
 have c0 : V.cell? ⟨bt, 0, none⟩ = some (.int .i64 x.tx) := X1.out.cell 0
 have c6 : V.cell? ⟨bt, 6, none⟩ = some (.int .i64 x.a0) := X1.out.cell 6
 have c7 : V.cell? ⟨bt, 7, none⟩ = some (.int .i64 x.a1) := X1.out.cell 7
 have m8 := mc_cell H28.out M1.out (i := 8) (by omega)
 go_upto_region 2 with fail
 have E2 := Lib.hid (show Blk (V.alloc (.cells #[.int .i64 4, .int .i64 0, .int .i64 x.tx, .int .i64 x.a0, .int .i64 x.a1, .int .i64 0, .int .i64 (fld m 8)] 65)) V.heap.size 65 #[.int .i64 4, .int .i64 0, .int .i64 x.tx, .int .i64 x.a0, .int .i64 x.a1, .int .i64 0, .int .i64 (fld m 8)] from Blk.new _ _ _)
 have X2 := Lib.hid (X1.out.alloc (.cells #[.int .i64 4, .int .i64 0, .int .i64 x.tx, .int .i64 x.a0, .int .i64 x.a1, .int .i64 0, .int .i64 (fld m 8)] 65))
 have M2 := Lib.hid (M1.out.alloc (.cells #[.int .i64 4, .int .i64 0, .int .i64 x.tx, .int .i64 x.a0, .int .i64 x.a1, .int .i64 0, .int .i64 (fld m 8)] 65))
 have B2 := Lib.hid (stepA B1.out (.cells #[.int .i64 4, .int .i64 0, .int .i64 x.tx, .int .i64 x.a0, .int .i64 x.a1, .int .i64 0, .int .i64 (fld m 8)] 65))
 have hbe := X1.out.lt
 have hme := M1.out.lt
 clear X1 M1 B1 c0 c6 c7 m8
 generalize V.heap.size = be at E2 hbe hme ⊢
 generalize V.alloc (.cells #[.int .i64 4, .int .i64 0, .int .i64 x.tx, .int .i64 x.a0, .int .i64 x.a1, .int .i64 0, .int .i64 (fld m 8)] 65) = V2 at E2 X2 M2 B2 ⊢
 have m0 : V2.cell? ⟨bt + 1, 0, none⟩ = some (.int .i64 2) := by rw [← HK.out]; exact mc_cell H28.out M2.out (i := 0) (by omega)
 have BA := B2
 have HBA := Lib.hid BA.out.size
 have ERC := errV_zero
 go_upto_region 10 with fail
 have m7 := mc_cell H28.out M2.out (i := 7) (by omega)
 have e0 : V2.cell? ⟨be, 0, none⟩ = some (.int .i64 4) := E2.out.cell 0
 have e5 : V2.cell? ⟨be, 5, none⟩ = some (.int .i64 0) := E2.out.cell 5
 have f0 := E2.out.frozen 0
 have f5 := E2.out.frozen 5
 have HBE := Lib.hid (show w.heap.size ≤ be from by have := HG.out; omega)
 have HBN := Lib.hid (show bt ≠ be ∧ bt + 1 ≠ be from ⟨by omega, by omega⟩)
 go_region
 have E9 := Lib.hid (show Blk (((V2.setCell ⟨be, 0, none⟩ (.int .i64 3)).setCell ⟨be, 5, none⟩ (.int .i64 (fld m 7))).drew) be 65 #[.int .i64 3, .int .i64 0, .int .i64 x.tx, .int .i64 x.a0, .int .i64 x.a1, .int .i64 (fld m 7), .int .i64 (fld m 8)] from ((E2.out.set_ 0 (.int .i64 3)).set_ 5 (.int .i64 (fld m 7))).drew)
 have X9 := Lib.hid (show Blk (((V2.setCell ⟨be, 0, none⟩ (.int .i64 3)).setCell ⟨be, 5, none⟩ (.int .i64 (fld m 7))).drew) bt 62 (trc x s) from ((X2.out.far (p := ⟨be, 0, none⟩) HBN.out.1 _).far (p := ⟨be, 5, none⟩) HBN.out.1 _).drew)
 have M9 := Lib.hid (show Blk (((V2.setCell ⟨be, 0, none⟩ (.int .i64 3)).setCell ⟨be, 5, none⟩ (.int .i64 (fld m 7))).drew) (bt + 1) 45 (mc m) from ((M2.out.far (p := ⟨be, 0, none⟩) HBN.out.2 _).far (p := ⟨be, 5, none⟩) HBN.out.2 _).drew)
 have B9 := Lib.hid (show Below w.heap.size w (((V2.setCell ⟨be, 0, none⟩ (.int .i64 3)).setCell ⟨be, 5, none⟩ (.int .i64 (fld m 7))).drew) from ((B2.out.setCell (p := ⟨be, 0, none⟩) HBE.out _).setCell (p := ⟨be, 5, none⟩) HBE.out _).drew)
 clear E2 X2 M2 B2 BA m0 m7 e0 e5 f0 f5 HBA
 generalize (((V2.setCell ⟨be, 0, none⟩ (.int .i64 3)).setCell ⟨be, 5, none⟩ (.int .i64 (fld m 7))).drew) = V9 at E9 X9 M9 B9 ⊢
 have E2 := E9
 have X2 := X9
 have M2 := M9
 have BA := B9
 have HBA := Lib.hid BA.out.size
 clear E9 X9 M9 B9
 go_upto_region 13 with (first
   | (refine wpList_load_row rfl 62 (.tmp 4) rfl bt rfl 62 (trc x s) (0, 0) _ X2.out Tryz.underlying62 rfl (tr_info _ _) ?_)
   | (refine wpList_load_row rfl 45 (.tmp 5) rfl (bt + 1) rfl 45 (mc m) (0, 0) _ M2.out Tryz.underlying45 rfl HIM.out ?_)
   | (go_at_call 104; refine (answered_any x s m _ (HT.out.step BA.out) HS.out H28.out).mono ?_; rw [HY.out]; rintro e V4 ⟨s2, rfl, ht2, hb2⟩; rw [ERC]; have T4 := Lib.hid ht2; have B4 := Lib.hid hb2; have H4 := Lib.hid ((HM.out.step BA.out).step hb2); clear ht2 hb2)
   | (refine wpList_store_mid (by rfl) 62 (.tmp 9) (.tmp 46) (by rfl) V4.heap.size 0 (trc y s2) (by rfl) (by rfl) ((show Blk (V4.alloc (.cells zTr 62)) V4.heap.size 62 (trc noTr noSl) from Blk.new V4 _ _).there (Nat.le_refl 13)) (tr_info _ _) T4.out.one ?_
      have XY := Lib.hid (show Blk ((V4.alloc (.cells zTr 62)).setCells V4.heap.size 0 (trc y s2).toList) V4.heap.size 62 (trc y s2) from (show Blk (V4.alloc (.cells zTr 62)) V4.heap.size 62 (trc noTr noSl) from Blk.new V4 _ _).put _ rfl)
      have EA := Lib.hid (show Below V4.heap.size V4 ((V4.alloc (.cells zTr 62)).setCells V4.heap.size 0 (trc y s2).toList) from Below.setCells (b := V4.heap.size) (Nat.le_refl _) (trc y s2).toList 0 _ (Joins.below_alloc1 V4 (.cells zTr 62)))
      have B5 := Lib.hid (stepB (stepB BA.out B4.out) EA.out)
      have H5 := Lib.hid (H4.out.step EA.out)
      have T5 := Lib.hid ((T4.out.step EA.out).less (Nat.zero_le _))
      have HB4 := Lib.hid (Nat.le_trans BA.out.size B4.out.size)
      have E5 := Lib.hid ((E2.out.here B4.out).here EA.out)
      generalize (V4.alloc (.cells zTr 62)).setCells V4.heap.size 0 (trc y s2).toList = V5 at XY EA B5 H5 T5 E5 ⊢
      generalize V4.heap.size = by1 at XY EA HB4 ⊢))
 have HAP := Lib.hid (show ∀ k, P.vl.ownBlock = some k → ¬ SlB s2 k from fun k hk hs => by have h1 := (SlB.lt T4.out hs).1; have h2 := HTU.out k (.inr (.inr (.inr (.inl hk)))); have h3 := BA.out.size; omega)
 have HSB := Lib.hid (show ∀ k, SlB s2 k → w.heap.size ≤ k from fun k hs => Nat.le_trans BA.out.size (SlB.lt T4.out hs).1)
 obtain ⟨b, ca, hv, hc, hf, hbl⟩ := H5.out.r.txr.open HI.out
 have HV := Lib.hid hv
 clear hv hc hf hbl
 obtain ⟨N, hN⟩ : ∃ N, P.L.length = N := ⟨_, rfl⟩
 have HN := Lib.hid hN
 have w1 : IntKind.i64.wrap ((i : Int) + 1 - 1) = (i : Int) := by rw [show (i : Int) + 1 - 1 = (i : Int) by omega]; exact IntWalk.i64_in _ (by have := HI.out; have := HL.out; omega)
 have w2 : (i : Int) + 1 - 1 = (i : Int) := by omega
 have w0 : IntKind.i64.wrap (i : Int) = (i : Int) := IntWalk.i64_in _ (by have := HI.out; have := HL.out; omega)
 have d3 : decide ((i : Int) < (N : Int)) = true := by have := HI.out; simp; omega
 have hiN : i < N := by have := HI.out; omega
 have hnN : N ≤ 1000 := by have := HL.out; omega
 clear hN
 have KP := Lib.hid (show ∀ Y, Below V5.heap.size V5 Y → (Y.cell? ⟨g, 10, none⟩ = some (.slice (some ⟨b, 0, none⟩) N ca) ∧ Blk Y by1 62 (trc y s2) ∧ Y.cell? ⟨by1, 0, none⟩ = some (.int .i64 ((i : Int) + 1))) from fun Y hy =>
   ⟨by rw [← HN.out, ← HV.out]; exact (H5.out.step hy).box.cell 10, XY.out.here hy, by rw [← HY0.out]; exact (XY.out.here hy).cell 0⟩)
 refine wp_region_till 9 (fun w' => w'.cell? ⟨g, 10, none⟩ = some (.slice (some ⟨b, 0, none⟩) N ca) ∧ Blk w' by1 62 (trc y s2) ∧ w'.cell? ⟨by1, 0, none⟩ = some (.int .i64 ((i : Int) + 1))) (by kernel_rfl) (KP.out _ (Below.refl _ _).drew) (fun hHeld => ?_)
 have BD := Lib.hid (show Below V5.heap.size V5 V5.drew from (Below.refl _ _).drew)
 generalize V5.drew = V6 at BD hHeld ⊢
 have H6 := Lib.hid (H5.out.step BD.out)
 have T6 := Lib.hid (T5.out.step BD.out)
 have B6 := Lib.hid (stepB B5.out BD.out)
 have R6 := Lib.hid (show TxR V6 (.slice (some ⟨b, 0, none⟩) P.L.length ca) P.L from by rw [← HV.out]; exact H6.out.r.txr)
 refine wpTill_take (i := 0) (v := ?_) rfl (by kernel_rfl) (by kernel_rfl) (by kernel_rfl) (by kernel_rfl) (fun _ _ _ h => h) (Or.inl ⟨by rfl, ?_⟩) (by assumption) ?_
 rotate_left
 · (intro w0 hSw; (try dsimp only at hSw); go_simp; try with_reducible rfl)
 try simp only [List.getElem_toArray, List.getElem_cons_succ, List.getElem_cons_zero, Act.put, List.setIfInBounds_toArray, List.set_cons_zero, List.set_cons_succ]
 refine wpTill_take (i := 1) (v := ?_) rfl (by kernel_rfl) (by kernel_rfl) (by kernel_rfl) (by kernel_rfl) (fun _ _ _ h => h) (Or.inl ⟨by rfl, ?_⟩) (by assumption) ?_
 rotate_left
 · (intro w0 hSw; (try dsimp only at hSw); go_simp; try with_reducible rfl)
 try simp only [List.getElem_toArray, List.getElem_cons_succ, List.getElem_cons_zero, Act.put, List.setIfInBounds_toArray, List.set_cons_zero, List.set_cons_succ]
 refine wpTill_take (i := 2) (v := ?_) rfl (by kernel_rfl) (by kernel_rfl) (by kernel_rfl) (by kernel_rfl) (fun _ _ _ h => h) (Or.inl ⟨by rfl, ?_⟩) (by assumption) ?_
 rotate_left
 · (intro w0 hSw; (try dsimp only at hSw); go_simp; try with_reducible rfl)
 try simp only [List.getElem_toArray, List.getElem_cons_succ, List.getElem_cons_zero, Act.put, List.setIfInBounds_toArray, List.set_cons_zero, List.set_cons_succ]
 refine wpTill_take (i := 3) (v := ?_) rfl (by kernel_rfl) (by kernel_rfl) (by kernel_rfl) (by kernel_rfl) (fun _ _ _ h => h) (Or.inl ⟨by rfl, ?_⟩) (by assumption) ?_
 rotate_left
 · (intro w0 hSw; (try dsimp only at hSw); go_simp; try with_reducible rfl)
 try simp only [List.getElem_toArray, List.getElem_cons_succ, List.getElem_cons_zero, Act.put, List.setIfInBounds_toArray, List.set_cons_zero, List.set_cons_succ]
 refine wpTill_take (i := 4) (v := ?_) rfl (by kernel_rfl) (by kernel_rfl) (by kernel_rfl) (by kernel_rfl) (fun _ _ _ h => h) (Or.inl ⟨by rfl, ?_⟩) (by assumption) ?_
 rotate_left
 · (intro w0 hSw; (try dsimp only at hSw); go_simp; try with_reducible rfl)
 try simp only [List.getElem_toArray, List.getElem_cons_succ, List.getElem_cons_zero, Act.put, List.setIfInBounds_toArray, List.set_cons_zero, List.set_cons_succ]
 refine wpTill_take (i := 5) (v := ?_) rfl (by kernel_rfl) (by kernel_rfl) (by kernel_rfl) (by kernel_rfl) (fun _ _ _ h => h) (Or.inl ⟨by rfl, ?_⟩) (by assumption) ?_
 rotate_left
 · (intro w0 hSw; (try dsimp only at hSw); go_simp; try with_reducible rfl)
 try simp only [List.getElem_toArray, List.getElem_cons_succ, List.getElem_cons_zero, Act.put, List.setIfInBounds_toArray, List.set_cons_zero, List.set_cons_succ]
 refine wpTill_take (i := 6) (v := ?_) rfl (by kernel_rfl) (by kernel_rfl) (by kernel_rfl) (by kernel_rfl) (fun _ _ _ h => h) (Or.inl ⟨by rfl, ?_⟩) (by assumption) ?_
 rotate_left
 · (intro w0 hSw; (try dsimp only at hSw); go_simp; try with_reducible rfl)
 try simp only [List.getElem_toArray, List.getElem_cons_succ, List.getElem_cons_zero, Act.put, List.setIfInBounds_toArray, List.set_cons_zero, List.set_cons_succ]
 refine wpTill_take (i := 7) (v := .agg (trc y s2)) rfl (by kernel_rfl) (by kernel_rfl) (by kernel_rfl) (by kernel_rfl) (fun _ _ _ h => h) (Or.inl ⟨by rfl, fun w0 hSw => exec_load (x := .tmp 9) rfl rfl (tr_load hSw.2.1)⟩) (by assumption) ?_
 try simp only [List.getElem_toArray, List.getElem_cons_succ, List.getElem_cons_zero, Act.put, List.setIfInBounds_toArray, List.set_cons_zero, List.set_cons_succ]
 refine wpTill_take (i := 8) (v := ?_) rfl (by kernel_rfl) (by kernel_rfl) (by kernel_rfl) (by kernel_rfl) (fun _ _ _ h => h) (Or.inl ⟨by rfl, ?_⟩) (by assumption) ?_
 rotate_left
 · (intro w0 hSw; (try dsimp only at hSw); go_simp; try with_reducible rfl)
 try simp only [List.getElem_toArray, List.getElem_cons_succ, List.getElem_cons_zero, Act.put, List.setIfInBounds_toArray, List.set_cons_zero, List.set_cons_succ]
 refine wpTill_ready (rs := [9]) (by kernel_rfl) (by simp) ?_
 refine AllTill.last rfl (of_decide_eq_true (by kernel_rfl)) (fun K hK => ?_)
 refine step_store_mid (by rfl) 62 (.tmp 58) (.tmp 57) rfl b (i * 13) (trc y s2) rfl rfl (R6.out.there HI.out) (tr_info _ _) T6.out.one ?_
 have S7 := Lib.hid ((CoS.below (N := fun _ => False) HM.out B6.out).trans (CoS.put H6.out HI.out HV.out T6.out HAP.out))
 have E7 := Lib.hid (E5.out.here BD.out |>.farCells (b := b) (fun e => by have h1 := HTU.out b (.inr (.inr (.inl (by rw [HV.out]; rfl)))); have h2 := HBE.out; omega) (trc y s2).toList (i * 13))
 refine hK.out _ _ ?_
 clear hK K
 refine wpTill_done (by kernel_rfl) ?_ _
 clear KP hHeld BD R6 H6 T6 B6 H5 T5 B5 XY
 generalize V6.setCells b (i * 13) (trc y s2).toList = V7 at S7 E7 ⊢
 go_wp2_with (first
   | (refine wpList_load_row rfl 65 (.tmp 7) rfl be rfl 65 #[.int .i64 3, .int .i64 0, .int .i64 x.tx, .int .i64 x.a0, .int .i64 x.a1, .int .i64 (fld m 7), .int .i64 (fld m 8)] (0, 0) _ E7.out Tryz.underlying65 rfl (ev_info _ _ _ _ _ _ _) ?_)
   | (go_at_call 47; refine (note_any 3 0 x.tx x.a0 x.a1 (fld m 7) (fld m 8) _ S7.out.m (by have := HEV.out; show c.ev.length ≤ 100000; omega) _ rfl).mono ?_; rintro e V8 ⟨rfl, ve', hs⟩; have S8 := Lib.hid (S7.out.trans hs); clear hs))
 go_ret
 exact ⟨rfl, _, by rw [HC.out]; exact S8.out.fresh (N' := fun _ => False) (fun k e => by
     rcases e with (e | e) | e
     · exact e.elim
     · exact .inr (.inl (HSB.out k e))
     · exact e.elim)⟩
end
end Go.Proofs.YtadnlannbafjpaaGreat
