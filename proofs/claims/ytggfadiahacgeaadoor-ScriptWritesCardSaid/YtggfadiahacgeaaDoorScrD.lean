/- The program's read of five bytes. -/
import Derived.Test.YtggfadiahacgeaaDoorScrC
namespace Go.Proofs.YtggfadiahacgeaaDoor
open Go.RowKit
set_option linter.unusedVariables false
set_option linter.unusedSimpArgs false

theorem ent_load {w : World} {k : Nat} {a b c d e f : Value} (h : Blk w k 30 #[a, b, c, d, e, f]) : (loadVar 30 ⟨k, 0, none⟩).run Tryd.prog w = .ok (.agg #[a, b, c, d, e, f]) w :=
  run_loadVar_row w k _ 30 _ (0, 0) _ h Tryd.underlying30 rfl (info_ent a b c d e f)
theorem results_cell_e {P : Program} {fn : Func} {p : Tmp} {ty : TypeId} (h : fn.results = #[.cell p ty]) {tmps : Array Value} {w : World} {a : Addr} {u : Value} (hp : tmps.getD p undef = .pointer (some a))
    (hu : (loadVar ty a).run P w = .ok u w) : (results fn tmps).run P w = .ok u w := by
  have hp' : tmps[p]?.getD undef = .pointer (some a) := by simpa using hp
  simp [results, h, hp', asAddr, hu]
set_option maxRecDepth 100000 in
set_option maxHeartbeats 2000000 in
theorem read_pic_ok (bk off n cap : Nat) (a b c d e : Int) (hn : 5 ≤ n) (w : World) (hbk : bk < w.heap.size) (ha : 0 ≤ a ∧ a ≤ 255) (hb : 0 ≤ b ∧ b ≤ 255) (hc : 0 ≤ c ∧ c ≤ 255) (hd : 0 ≤ d ∧ d ≤ 255) (he : 0 ≤ e ∧ e ≤ 255)
    (h0 : w.cell? ⟨bk, off, none⟩ = some (.int .u8 a)) (h1 : w.cell? ⟨bk, off + 1, none⟩ = some (.int .u8 b)) (h2 : w.cell? ⟨bk, off + 2, none⟩ = some (.int .u8 c)) (h3 : w.cell? ⟨bk, off + 3, none⟩ = some (.int .u8 d)) (h4 : w.cell? ⟨bk, off + 4, none⟩ = some (.int .u8 e))
    (hp : picB a = true) (ho : okE a 0 0 0 e (b * 65536 + c * 256 + d) = true) :
    Calls Tryd.prog 21 #[.slice (some ⟨bk, off, none⟩) n cap] w fun x w' => x = .returned (.agg (ints [a, 0, 0, 0, e, b * 65536 + c * 256 + d]).toArray) ∧ Below w.heap.size w w' := by
  have HK := Lib.hid (fun Y (hy : Below w.heap.size w Y) => (show Y.cell? ⟨bk, off, none⟩ = some (.int .u8 a) ∧ Y.cell? ⟨bk, off + 1, none⟩ = some (.int .u8 b) ∧ Y.cell? ⟨bk, off + 2, none⟩ = some (.int .u8 c) ∧ Y.cell? ⟨bk, off + 3, none⟩ = some (.int .u8 d) ∧ Y.cell? ⟨bk, off + 4, none⟩ = some (.int .u8 e) from
    ⟨(hy.cell (p := ⟨bk, off, none⟩) hbk).trans h0, (hy.cell (p := ⟨bk, off + 1, none⟩) hbk).trans h1, (hy.cell (p := ⟨bk, off + 2, none⟩) hbk).trans h2, (hy.cell (p := ⟨bk, off + 3, none⟩) hbk).trans h3, (hy.cell (p := ⟨bk, off + 4, none⟩) hbk).trans h4⟩))
  have HP := Lib.hid hp
  have HO := Lib.hid ho
  have d1 : decide ((n : Int) < 5) = false := by simp; omega
  have d2 : decide (n < 5) = false := by simp; omega
  have l0 : 0 < n := by omega
  have l1 : 1 < n := by omega
  have l2 : 2 < n := by omega
  have l3 : 3 < n := by omega
  have l4 : 4 < n := by omega
  have wa : IntKind.i64.wrap a = a := IntWalk.i64_in _ (by omega)
  have wb : IntKind.i64.wrap b = b := IntWalk.i64_in _ (by omega)
  have wc : IntKind.i64.wrap c = c := IntWalk.i64_in _ (by omega)
  have wd : IntKind.i64.wrap d = d := IntWalk.i64_in _ (by omega)
  have we : IntKind.i64.wrap e = e := IntWalk.i64_in _ (by omega)
  have wb6 : IntKind.i64.wrap (b * 65536) = b * 65536 := IntWalk.i64_in _ (by omega)
  have wc8 : IntKind.i64.wrap (c * 256) = c * 256 := IntWalk.i64_in _ (by omega)
  have o1 : bits .or .i64 (b * 65536) (c * 256) = b * 65536 + c * 256 := bits_or_low _ _ 16 (by omega) (by omega) (by omega) (by omega) (by omega)
  have o2 : bits .or .i64 (b * 65536 + c * 256) d = b * 65536 + c * 256 + d := bits_or_low _ _ 8 (by omega) hd.1 (by omega) (by omega) (by omega)
  clear h0 h1 h2 h3 h4 hp ho ha hb hc hd he hn
  go_enter Tryd.func21, Tryd.ntmps21
  go_upto_region 3 with fail
  have R1 := Lib.hid (Blk.new w 30 (ints zE).toArray)
  have B1 := Lib.hid (Joins.below_alloc1 w (.cells (ints zE).toArray 30))
  have K1 := HK.out _ B1.out
  have HG := Lib.hid (Nat.le_refl w.heap.size)
  obtain ⟨g, hg⟩ : ∃ g, g = w.heap.size := ⟨_, rfl⟩
  have HGG := Lib.hid (show w.heap.size ≤ g from by omega)
  rw [← hg] at R1 ⊢
  clear hg
  have hV : w.alloc (.cells (ints zE).toArray 30) = w.alloc (.cells #[.int .i64 0, .int .i64 0, .int .i64 0, .int .i64 0, .int .i64 0, .int .i64 0] 30) := rfl
  rw [hV] at R1 B1 K1
  clear hV
  generalize w.alloc _ = V at R1 B1 K1 ⊢
  obtain ⟨k0, k1, k2, k3, k4⟩ := K1
  have a0 : ∀ o, (V.alloc o).cell? ⟨bk, off, none⟩ = some (.int .u8 a) := fun o => (HK.out _ (stepA B1.out o)).1
  have a4 : ∀ o, (V.alloc o).cell? ⟨bk, off + 4, none⟩ = some (.int .u8 e) := fun o => (HK.out _ (stepA B1.out o)).2.2.2.2
  have i0 : (0 : Int) < (n : Int) := by omega
  have i4 : (4 : Int) < (n : Int) := by omega
  have i1 : (1 : Int) < (n : Int) := by omega
  have i2 : (2 : Int) < (n : Int) := by omega
  have i3 : (3 : Int) < (n : Int) := by omega
  go_region
  have X2 := Lib.hid (show Blk (V.alloc (.cells #[.int .i64 a, .int .i64 0, .int .i64 0, .int .i64 0, .int .i64 e, .int .i64 0] 30)).drew V.heap.size 30 #[.int .i64 a, .int .i64 0, .int .i64 0, .int .i64 0, .int .i64 e, .int .i64 0] from (Blk.new V _ _).drew)
  have R2 := Lib.hid (show Blk (V.alloc (.cells #[.int .i64 a, .int .i64 0, .int .i64 0, .int .i64 0, .int .i64 e, .int .i64 0] 30)).drew g 30 (ints zE).toArray from (R1.out.alloc _).drew)
  have B2 := Lib.hid (show Below w.heap.size w (V.alloc (.cells #[.int .i64 a, .int .i64 0, .int .i64 0, .int .i64 0, .int .i64 e, .int .i64 0] 30)).drew from (stepA B1.out _).drew)
  have HGL := Lib.hid R1.out.lt
  have HGH := Lib.hid (show w.heap.size ≤ V.heap.size from B1.out.size)
  clear R1 B1 a0 a4 k0 k1 k2 k3 k4
  generalize (V.alloc _).drew = V2 at X2 R2 B2 ⊢
  generalize V.heap.size = eb at X2 HGL HGH ⊢
  have x0 := X2.out.cell 0
  go_upto_region 5 with (go_at_call 24; refine (picks_any a _).mono ?_; rintro e w1 ⟨rfl, hb⟩; rw [HP.out]; have B3 := Lib.hid (stepB B2.out hb); have X3 := Lib.hid (X2.out.here hb); have R3 := Lib.hid (R2.out.here hb); clear hb)
  clear X2 R2 B2 x0
  rename World => W
  obtain ⟨k0, k1, k2, k3, k4⟩ := HK.out _ B3.out
  have x5 := X3.out.cell 5
  have f5 := X3.out.frozen 5
  go_region
  have X4 := Lib.hid (show Blk (W.setCell ⟨eb, 5, none⟩ (.int .i64 (b * 65536 + c * 256 + d))).drew eb 30 #[.int .i64 a, .int .i64 0, .int .i64 0, .int .i64 0, .int .i64 e, .int .i64 (b * 65536 + c * 256 + d)] from (X3.out.set_ 5 (.int .i64 (b * 65536 + c * 256 + d))).drew)
  have R4 := Lib.hid (show Blk (W.setCell ⟨eb, 5, none⟩ (.int .i64 (b * 65536 + c * 256 + d))).drew g 30 (ints zE).toArray from (R3.out.far (p := ⟨eb, 5, none⟩) (by have := HGL.out; show g ≠ eb; omega) (.int .i64 (b * 65536 + c * 256 + d))).drew)
  have B4 := Lib.hid (show Below w.heap.size w (W.setCell ⟨eb, 5, none⟩ (.int .i64 (b * 65536 + c * 256 + d))).drew from (B3.out.setCell (p := ⟨eb, 5, none⟩) HGH.out (.int .i64 (b * 65536 + c * 256 + d))).drew)
  clear X3 R3 B3 k0 k1 k2 k3 k4 x5 f5
  generalize (W.setCell ⟨eb, 5, none⟩ (.int .i64 (b * 65536 + c * 256 + d))).drew = W4 at X4 R4 B4 ⊢
  have TKa := True.intro
  have TKb := True.intro
  go_wp2_with (first
    | (go_at_call 7; refine (sOk_any a 0 0 0 e (b * 65536 + c * 256 + d) _ HO.out _).mono ?_; rintro e w5 ⟨rfl, hb⟩; have B5 := Lib.hid (stepB B4.out hb); have X5 := Lib.hid (X4.out.here hb); have R5 := Lib.hid (R4.out.here hb); clear hb)
    | (have _t := TKa; refine wpList_load_row_g (by rfl) 30 (.tmp 3) (by rfl) eb (by rfl) _ _ (0, 0) _ X4.out Tryd.underlying30 rfl (info_ent _ _ _ _ _ _) ?_; clear _t TKa)
    | (have _t := TKb; refine wpList_load_row_g (by rfl) 30 (.tmp 3) (by rfl) eb (by rfl) _ _ (0, 0) _ X5.out Tryd.underlying30 rfl (info_ent _ _ _ _ _ _) ?_; clear _t TKb)
    | (refine wpList_store_mid (by rfl) 30 (.tmp 2) (.tmp 56) (by rfl) g 0 #[.int .i64 a, .int .i64 0, .int .i64 0, .int .i64 0, .int .i64 e, .int .i64 (b * 65536 + c * 256 + d)] (by rfl) (by rfl) (R5.out.there (Nat.le_refl 6)) (info_ent _ _ _ _ _ _) (ints_oneCell [a, 0, 0, 0, e, b * 65536 + c * 256 + d]) ?_))
  exact bodyPost_ret (v := .agg #[.int .i64 a, .int .i64 0, .int .i64 0, .int .i64 0, .int .i64 e, .int .i64 (b * 65536 + c * 256 + d)]) (results_cell_e rfl rfl (ent_load (R5.out.put #[.int .i64 a, .int .i64 0, .int .i64 0, .int .i64 0, .int .i64 e, .int .i64 (b * 65536 + c * 256 + d)] rfl))) rfl ⟨rfl, Below.setCells HGG.out _ _ _ B5.out⟩
set_option maxRecDepth 100000 in
set_option maxHeartbeats 2000000 in
theorem read_pic_no (bk off n cap : Nat) (a b c d e : Int) (hn : 5 ≤ n) (w : World) (hbk : bk < w.heap.size) (ha : 0 ≤ a ∧ a ≤ 255) (hb : 0 ≤ b ∧ b ≤ 255) (hc : 0 ≤ c ∧ c ≤ 255) (hd : 0 ≤ d ∧ d ≤ 255) (he : 0 ≤ e ∧ e ≤ 255)
    (h0 : w.cell? ⟨bk, off, none⟩ = some (.int .u8 a)) (h1 : w.cell? ⟨bk, off + 1, none⟩ = some (.int .u8 b)) (h2 : w.cell? ⟨bk, off + 2, none⟩ = some (.int .u8 c)) (h3 : w.cell? ⟨bk, off + 3, none⟩ = some (.int .u8 d)) (h4 : w.cell? ⟨bk, off + 4, none⟩ = some (.int .u8 e))
    (hp : picB a = true) (ho : okE a 0 0 0 e (b * 65536 + c * 256 + d) = false) :
    Calls Tryd.prog 21 #[.slice (some ⟨bk, off, none⟩) n cap] w fun x w' => x = .returned (.agg (ints zE).toArray) ∧ Below w.heap.size w w' := by
  have HK := Lib.hid (fun Y (hy : Below w.heap.size w Y) => (show Y.cell? ⟨bk, off, none⟩ = some (.int .u8 a) ∧ Y.cell? ⟨bk, off + 1, none⟩ = some (.int .u8 b) ∧ Y.cell? ⟨bk, off + 2, none⟩ = some (.int .u8 c) ∧ Y.cell? ⟨bk, off + 3, none⟩ = some (.int .u8 d) ∧ Y.cell? ⟨bk, off + 4, none⟩ = some (.int .u8 e) from
    ⟨(hy.cell (p := ⟨bk, off, none⟩) hbk).trans h0, (hy.cell (p := ⟨bk, off + 1, none⟩) hbk).trans h1, (hy.cell (p := ⟨bk, off + 2, none⟩) hbk).trans h2, (hy.cell (p := ⟨bk, off + 3, none⟩) hbk).trans h3, (hy.cell (p := ⟨bk, off + 4, none⟩) hbk).trans h4⟩))
  have HP := Lib.hid hp
  have HO := Lib.hid ho
  have d1 : decide ((n : Int) < 5) = false := by simp; omega
  have d2 : decide (n < 5) = false := by simp; omega
  have l0 : 0 < n := by omega
  have l1 : 1 < n := by omega
  have l2 : 2 < n := by omega
  have l3 : 3 < n := by omega
  have l4 : 4 < n := by omega
  have wa : IntKind.i64.wrap a = a := IntWalk.i64_in _ (by omega)
  have wb : IntKind.i64.wrap b = b := IntWalk.i64_in _ (by omega)
  have wc : IntKind.i64.wrap c = c := IntWalk.i64_in _ (by omega)
  have wd : IntKind.i64.wrap d = d := IntWalk.i64_in _ (by omega)
  have we : IntKind.i64.wrap e = e := IntWalk.i64_in _ (by omega)
  have wb6 : IntKind.i64.wrap (b * 65536) = b * 65536 := IntWalk.i64_in _ (by omega)
  have wc8 : IntKind.i64.wrap (c * 256) = c * 256 := IntWalk.i64_in _ (by omega)
  have o1 : bits .or .i64 (b * 65536) (c * 256) = b * 65536 + c * 256 := bits_or_low _ _ 16 (by omega) (by omega) (by omega) (by omega) (by omega)
  have o2 : bits .or .i64 (b * 65536 + c * 256) d = b * 65536 + c * 256 + d := bits_or_low _ _ 8 (by omega) hd.1 (by omega) (by omega) (by omega)
  clear h0 h1 h2 h3 h4 hp ho ha hb hc hd he hn
  go_enter Tryd.func21, Tryd.ntmps21
  go_upto_region 3 with fail
  have R1 := Lib.hid (Blk.new w 30 (ints zE).toArray)
  have B1 := Lib.hid (Joins.below_alloc1 w (.cells (ints zE).toArray 30))
  have K1 := HK.out _ B1.out
  have HG := Lib.hid (Nat.le_refl w.heap.size)
  obtain ⟨g, hg⟩ : ∃ g, g = w.heap.size := ⟨_, rfl⟩
  have HGG := Lib.hid (show w.heap.size ≤ g from by omega)
  rw [← hg] at R1 ⊢
  clear hg
  have hV : w.alloc (.cells (ints zE).toArray 30) = w.alloc (.cells #[.int .i64 0, .int .i64 0, .int .i64 0, .int .i64 0, .int .i64 0, .int .i64 0] 30) := rfl
  rw [hV] at R1 B1 K1
  clear hV
  generalize w.alloc _ = V at R1 B1 K1 ⊢
  obtain ⟨k0, k1, k2, k3, k4⟩ := K1
  have a0 : ∀ o, (V.alloc o).cell? ⟨bk, off, none⟩ = some (.int .u8 a) := fun o => (HK.out _ (stepA B1.out o)).1
  have a4 : ∀ o, (V.alloc o).cell? ⟨bk, off + 4, none⟩ = some (.int .u8 e) := fun o => (HK.out _ (stepA B1.out o)).2.2.2.2
  have i0 : (0 : Int) < (n : Int) := by omega
  have i4 : (4 : Int) < (n : Int) := by omega
  have i1 : (1 : Int) < (n : Int) := by omega
  have i2 : (2 : Int) < (n : Int) := by omega
  have i3 : (3 : Int) < (n : Int) := by omega
  go_region
  have X2 := Lib.hid (show Blk (V.alloc (.cells #[.int .i64 a, .int .i64 0, .int .i64 0, .int .i64 0, .int .i64 e, .int .i64 0] 30)).drew V.heap.size 30 #[.int .i64 a, .int .i64 0, .int .i64 0, .int .i64 0, .int .i64 e, .int .i64 0] from (Blk.new V _ _).drew)
  have R2 := Lib.hid (show Blk (V.alloc (.cells #[.int .i64 a, .int .i64 0, .int .i64 0, .int .i64 0, .int .i64 e, .int .i64 0] 30)).drew g 30 (ints zE).toArray from (R1.out.alloc _).drew)
  have B2 := Lib.hid (show Below w.heap.size w (V.alloc (.cells #[.int .i64 a, .int .i64 0, .int .i64 0, .int .i64 0, .int .i64 e, .int .i64 0] 30)).drew from (stepA B1.out _).drew)
  have HGL := Lib.hid R1.out.lt
  have HGH := Lib.hid (show w.heap.size ≤ V.heap.size from B1.out.size)
  clear R1 B1 a0 a4 k0 k1 k2 k3 k4
  generalize (V.alloc _).drew = V2 at X2 R2 B2 ⊢
  generalize V.heap.size = eb at X2 HGL HGH ⊢
  have x0 := X2.out.cell 0
  go_upto_region 5 with (go_at_call 24; refine (picks_any a _).mono ?_; rintro e w1 ⟨rfl, hb⟩; rw [HP.out]; have B3 := Lib.hid (stepB B2.out hb); have X3 := Lib.hid (X2.out.here hb); have R3 := Lib.hid (R2.out.here hb); clear hb)
  clear X2 R2 B2 x0
  rename World => W
  obtain ⟨k0, k1, k2, k3, k4⟩ := HK.out _ B3.out
  have x5 := X3.out.cell 5
  have f5 := X3.out.frozen 5
  go_region
  have X4 := Lib.hid (show Blk (W.setCell ⟨eb, 5, none⟩ (.int .i64 (b * 65536 + c * 256 + d))).drew eb 30 #[.int .i64 a, .int .i64 0, .int .i64 0, .int .i64 0, .int .i64 e, .int .i64 (b * 65536 + c * 256 + d)] from (X3.out.set_ 5 (.int .i64 (b * 65536 + c * 256 + d))).drew)
  have R4 := Lib.hid (show Blk (W.setCell ⟨eb, 5, none⟩ (.int .i64 (b * 65536 + c * 256 + d))).drew g 30 (ints zE).toArray from (R3.out.far (p := ⟨eb, 5, none⟩) (by have := HGL.out; show g ≠ eb; omega) (.int .i64 (b * 65536 + c * 256 + d))).drew)
  have B4 := Lib.hid (show Below w.heap.size w (W.setCell ⟨eb, 5, none⟩ (.int .i64 (b * 65536 + c * 256 + d))).drew from (B3.out.setCell (p := ⟨eb, 5, none⟩) HGH.out (.int .i64 (b * 65536 + c * 256 + d))).drew)
  clear X3 R3 B3 k0 k1 k2 k3 k4 x5 f5
  generalize (W.setCell ⟨eb, 5, none⟩ (.int .i64 (b * 65536 + c * 256 + d))).drew = W4 at X4 R4 B4 ⊢
  have TKa := True.intro
  have TKb := True.intro
  go_wp2_with (first
    | (go_at_call 7; refine (sOk_any a 0 0 0 e (b * 65536 + c * 256 + d) _ HO.out _).mono ?_; rintro e w5 ⟨rfl, hb⟩; have B5 := Lib.hid (stepB B4.out hb); have X5 := Lib.hid (X4.out.here hb); have R5 := Lib.hid (R4.out.here hb); clear hb)
    | (have _t := TKa; refine wpList_load_row_g (by rfl) 30 (.tmp 3) (by rfl) eb (by rfl) _ _ (0, 0) _ X4.out Tryd.underlying30 rfl (info_ent _ _ _ _ _ _) ?_; clear _t TKa)
    | (have _t := TKb; refine wpList_load_row_g (by rfl) 30 (.tmp 3) (by rfl) eb (by rfl) _ _ (0, 0) _ X5.out Tryd.underlying30 rfl (info_ent _ _ _ _ _ _) ?_; clear _t TKb)
    | (refine wpList_store_mid (by rfl) 30 (.tmp 2) (.tmp 55) (by rfl) g 0 (ints zE).toArray (by rfl) (by rfl) (R5.out.there (Nat.le_refl 6)) (info_ent _ _ _ _ _ _) (ints_oneCell zE) ?_))
  exact bodyPost_ret (v := .agg (ints zE).toArray) (results_cell_e rfl rfl (ent_load (R5.out.put (ints zE).toArray rfl))) rfl ⟨rfl, Below.setCells HGG.out _ _ _ B5.out⟩
set_option maxRecDepth 100000 in
set_option maxHeartbeats 2000000 in
theorem read_not_ok (bk off n cap : Nat) (a b c d e : Int) (hn : 5 ≤ n) (w : World) (hbk : bk < w.heap.size) (ha : 0 ≤ a ∧ a ≤ 255) (hb : 0 ≤ b ∧ b ≤ 255) (hc : 0 ≤ c ∧ c ≤ 255) (hd : 0 ≤ d ∧ d ≤ 255) (he : 0 ≤ e ∧ e ≤ 255)
    (h0 : w.cell? ⟨bk, off, none⟩ = some (.int .u8 a)) (h1 : w.cell? ⟨bk, off + 1, none⟩ = some (.int .u8 b)) (h2 : w.cell? ⟨bk, off + 2, none⟩ = some (.int .u8 c)) (h3 : w.cell? ⟨bk, off + 3, none⟩ = some (.int .u8 d)) (h4 : w.cell? ⟨bk, off + 4, none⟩ = some (.int .u8 e))
    (hp : picB a = false) (ho : okE a b c d e 0 = true) :
    Calls Tryd.prog 21 #[.slice (some ⟨bk, off, none⟩) n cap] w fun x w' => x = .returned (.agg (ints [a, b, c, d, e, 0]).toArray) ∧ Below w.heap.size w w' := by
  have HK := Lib.hid (fun Y (hy : Below w.heap.size w Y) => (show Y.cell? ⟨bk, off, none⟩ = some (.int .u8 a) ∧ Y.cell? ⟨bk, off + 1, none⟩ = some (.int .u8 b) ∧ Y.cell? ⟨bk, off + 2, none⟩ = some (.int .u8 c) ∧ Y.cell? ⟨bk, off + 3, none⟩ = some (.int .u8 d) ∧ Y.cell? ⟨bk, off + 4, none⟩ = some (.int .u8 e) from
    ⟨(hy.cell (p := ⟨bk, off, none⟩) hbk).trans h0, (hy.cell (p := ⟨bk, off + 1, none⟩) hbk).trans h1, (hy.cell (p := ⟨bk, off + 2, none⟩) hbk).trans h2, (hy.cell (p := ⟨bk, off + 3, none⟩) hbk).trans h3, (hy.cell (p := ⟨bk, off + 4, none⟩) hbk).trans h4⟩))
  have HP := Lib.hid hp
  have HO := Lib.hid ho
  have d1 : decide ((n : Int) < 5) = false := by simp; omega
  have d2 : decide (n < 5) = false := by simp; omega
  have l0 : 0 < n := by omega
  have l1 : 1 < n := by omega
  have l2 : 2 < n := by omega
  have l3 : 3 < n := by omega
  have l4 : 4 < n := by omega
  have wa : IntKind.i64.wrap a = a := IntWalk.i64_in _ (by omega)
  have wb : IntKind.i64.wrap b = b := IntWalk.i64_in _ (by omega)
  have wc : IntKind.i64.wrap c = c := IntWalk.i64_in _ (by omega)
  have wd : IntKind.i64.wrap d = d := IntWalk.i64_in _ (by omega)
  have we : IntKind.i64.wrap e = e := IntWalk.i64_in _ (by omega)
  clear h0 h1 h2 h3 h4 hp ho ha hb hc hd he hn
  go_enter Tryd.func21, Tryd.ntmps21
  go_upto_region 3 with fail
  have R1 := Lib.hid (Blk.new w 30 (ints zE).toArray)
  have B1 := Lib.hid (Joins.below_alloc1 w (.cells (ints zE).toArray 30))
  have K1 := HK.out _ B1.out
  have HG := Lib.hid (Nat.le_refl w.heap.size)
  obtain ⟨g, hg⟩ : ∃ g, g = w.heap.size := ⟨_, rfl⟩
  have HGG := Lib.hid (show w.heap.size ≤ g from by omega)
  rw [← hg] at R1 ⊢
  clear hg
  have hV : w.alloc (.cells (ints zE).toArray 30) = w.alloc (.cells #[.int .i64 0, .int .i64 0, .int .i64 0, .int .i64 0, .int .i64 0, .int .i64 0] 30) := rfl
  rw [hV] at R1 B1 K1
  clear hV
  generalize w.alloc _ = V at R1 B1 K1 ⊢
  obtain ⟨k0, k1, k2, k3, k4⟩ := K1
  have a0 : ∀ o, (V.alloc o).cell? ⟨bk, off, none⟩ = some (.int .u8 a) := fun o => (HK.out _ (stepA B1.out o)).1
  have a4 : ∀ o, (V.alloc o).cell? ⟨bk, off + 4, none⟩ = some (.int .u8 e) := fun o => (HK.out _ (stepA B1.out o)).2.2.2.2
  have i0 : (0 : Int) < (n : Int) := by omega
  have i4 : (4 : Int) < (n : Int) := by omega
  have i1 : (1 : Int) < (n : Int) := by omega
  have i2 : (2 : Int) < (n : Int) := by omega
  have i3 : (3 : Int) < (n : Int) := by omega
  go_region
  have X2 := Lib.hid (show Blk (V.alloc (.cells #[.int .i64 a, .int .i64 0, .int .i64 0, .int .i64 0, .int .i64 e, .int .i64 0] 30)).drew V.heap.size 30 #[.int .i64 a, .int .i64 0, .int .i64 0, .int .i64 0, .int .i64 e, .int .i64 0] from (Blk.new V _ _).drew)
  have R2 := Lib.hid (show Blk (V.alloc (.cells #[.int .i64 a, .int .i64 0, .int .i64 0, .int .i64 0, .int .i64 e, .int .i64 0] 30)).drew g 30 (ints zE).toArray from (R1.out.alloc _).drew)
  have B2 := Lib.hid (show Below w.heap.size w (V.alloc (.cells #[.int .i64 a, .int .i64 0, .int .i64 0, .int .i64 0, .int .i64 e, .int .i64 0] 30)).drew from (stepA B1.out _).drew)
  have HGL := Lib.hid R1.out.lt
  have HGH := Lib.hid (show w.heap.size ≤ V.heap.size from B1.out.size)
  clear R1 B1 a0 a4 k0 k1 k2 k3 k4
  generalize (V.alloc _).drew = V2 at X2 R2 B2 ⊢
  generalize V.heap.size = eb at X2 HGL HGH ⊢
  have x0 := X2.out.cell 0
  go_upto_region 6 with (go_at_call 24; refine (picks_any a _).mono ?_; rintro e w1 ⟨rfl, hb⟩; rw [HP.out]; have B3 := Lib.hid (stepB B2.out hb); have X3 := Lib.hid (X2.out.here hb); have R3 := Lib.hid (R2.out.here hb); clear hb)
  clear X2 R2 B2 x0
  rename World => W
  obtain ⟨k0, k1, k2, k3, k4⟩ := HK.out _ B3.out
  have x1 := X3.out.cell 1
  have x2 := X3.out.cell 2
  have x3 := X3.out.cell 3
  have f1 := X3.out.frozen 1
  have f2 := X3.out.frozen 2
  have f3 := X3.out.frozen 3
  go_region
  have X4 := Lib.hid (show Blk (((W.setCell ⟨eb, 1, none⟩ (.int .i64 b)).setCell ⟨eb, 2, none⟩ (.int .i64 c)).setCell ⟨eb, 3, none⟩ (.int .i64 d)).drew eb 30 #[.int .i64 a, .int .i64 b, .int .i64 c, .int .i64 d, .int .i64 e, .int .i64 0] from (((X3.out.set_ 1 (.int .i64 b)).set_ 2 (.int .i64 c)).set_ 3 (.int .i64 d)).drew)
  have R4 := Lib.hid (show Blk (((W.setCell ⟨eb, 1, none⟩ (.int .i64 b)).setCell ⟨eb, 2, none⟩ (.int .i64 c)).setCell ⟨eb, 3, none⟩ (.int .i64 d)).drew g 30 (ints zE).toArray from (((R3.out.far (p := ⟨eb, 1, none⟩) (by have := HGL.out; show g ≠ eb; omega) (.int .i64 b)).far (p := ⟨eb, 2, none⟩) (by have := HGL.out; show g ≠ eb; omega) (.int .i64 c)).far (p := ⟨eb, 3, none⟩) (by have := HGL.out; show g ≠ eb; omega) (.int .i64 d)).drew)
  have B4 := Lib.hid (show Below w.heap.size w (((W.setCell ⟨eb, 1, none⟩ (.int .i64 b)).setCell ⟨eb, 2, none⟩ (.int .i64 c)).setCell ⟨eb, 3, none⟩ (.int .i64 d)).drew from (((B3.out.setCell (p := ⟨eb, 1, none⟩) HGH.out (.int .i64 b)).setCell (p := ⟨eb, 2, none⟩) HGH.out (.int .i64 c)).setCell (p := ⟨eb, 3, none⟩) HGH.out (.int .i64 d)).drew)
  clear X3 R3 B3 k0 k1 k2 k3 k4 x1 x2 x3 f1 f2 f3
  generalize (((W.setCell ⟨eb, 1, none⟩ (.int .i64 b)).setCell ⟨eb, 2, none⟩ (.int .i64 c)).setCell ⟨eb, 3, none⟩ (.int .i64 d)).drew = W4 at X4 R4 B4 ⊢
  have TKa := True.intro
  have TKb := True.intro
  go_wp2_with (first
    | (go_at_call 7; refine (sOk_any a b c d e 0 _ HO.out _).mono ?_; rintro e w5 ⟨rfl, hb⟩; have B5 := Lib.hid (stepB B4.out hb); have X5 := Lib.hid (X4.out.here hb); have R5 := Lib.hid (R4.out.here hb); clear hb)
    | (have _t := TKa; refine wpList_load_row_g (by rfl) 30 (.tmp 3) (by rfl) eb (by rfl) _ _ (0, 0) _ X4.out Tryd.underlying30 rfl (info_ent _ _ _ _ _ _) ?_; clear _t TKa)
    | (have _t := TKb; refine wpList_load_row_g (by rfl) 30 (.tmp 3) (by rfl) eb (by rfl) _ _ (0, 0) _ X5.out Tryd.underlying30 rfl (info_ent _ _ _ _ _ _) ?_; clear _t TKb)
    | (refine wpList_store_mid (by rfl) 30 (.tmp 2) (.tmp 56) (by rfl) g 0 #[.int .i64 a, .int .i64 b, .int .i64 c, .int .i64 d, .int .i64 e, .int .i64 0] (by rfl) (by rfl) (R5.out.there (Nat.le_refl 6)) (info_ent _ _ _ _ _ _) (ints_oneCell [a, b, c, d, e, 0]) ?_))
  exact bodyPost_ret (v := .agg #[.int .i64 a, .int .i64 b, .int .i64 c, .int .i64 d, .int .i64 e, .int .i64 0]) (results_cell_e rfl rfl (ent_load (R5.out.put #[.int .i64 a, .int .i64 b, .int .i64 c, .int .i64 d, .int .i64 e, .int .i64 0] rfl))) rfl ⟨rfl, Below.setCells HGG.out _ _ _ B5.out⟩
set_option maxRecDepth 100000 in
set_option maxHeartbeats 2000000 in
theorem read_not_no (bk off n cap : Nat) (a b c d e : Int) (hn : 5 ≤ n) (w : World) (hbk : bk < w.heap.size) (ha : 0 ≤ a ∧ a ≤ 255) (hb : 0 ≤ b ∧ b ≤ 255) (hc : 0 ≤ c ∧ c ≤ 255) (hd : 0 ≤ d ∧ d ≤ 255) (he : 0 ≤ e ∧ e ≤ 255)
    (h0 : w.cell? ⟨bk, off, none⟩ = some (.int .u8 a)) (h1 : w.cell? ⟨bk, off + 1, none⟩ = some (.int .u8 b)) (h2 : w.cell? ⟨bk, off + 2, none⟩ = some (.int .u8 c)) (h3 : w.cell? ⟨bk, off + 3, none⟩ = some (.int .u8 d)) (h4 : w.cell? ⟨bk, off + 4, none⟩ = some (.int .u8 e))
    (hp : picB a = false) (ho : okE a b c d e 0 = false) :
    Calls Tryd.prog 21 #[.slice (some ⟨bk, off, none⟩) n cap] w fun x w' => x = .returned (.agg (ints zE).toArray) ∧ Below w.heap.size w w' := by
  have HK := Lib.hid (fun Y (hy : Below w.heap.size w Y) => (show Y.cell? ⟨bk, off, none⟩ = some (.int .u8 a) ∧ Y.cell? ⟨bk, off + 1, none⟩ = some (.int .u8 b) ∧ Y.cell? ⟨bk, off + 2, none⟩ = some (.int .u8 c) ∧ Y.cell? ⟨bk, off + 3, none⟩ = some (.int .u8 d) ∧ Y.cell? ⟨bk, off + 4, none⟩ = some (.int .u8 e) from
    ⟨(hy.cell (p := ⟨bk, off, none⟩) hbk).trans h0, (hy.cell (p := ⟨bk, off + 1, none⟩) hbk).trans h1, (hy.cell (p := ⟨bk, off + 2, none⟩) hbk).trans h2, (hy.cell (p := ⟨bk, off + 3, none⟩) hbk).trans h3, (hy.cell (p := ⟨bk, off + 4, none⟩) hbk).trans h4⟩))
  have HP := Lib.hid hp
  have HO := Lib.hid ho
  have d1 : decide ((n : Int) < 5) = false := by simp; omega
  have d2 : decide (n < 5) = false := by simp; omega
  have l0 : 0 < n := by omega
  have l1 : 1 < n := by omega
  have l2 : 2 < n := by omega
  have l3 : 3 < n := by omega
  have l4 : 4 < n := by omega
  have wa : IntKind.i64.wrap a = a := IntWalk.i64_in _ (by omega)
  have wb : IntKind.i64.wrap b = b := IntWalk.i64_in _ (by omega)
  have wc : IntKind.i64.wrap c = c := IntWalk.i64_in _ (by omega)
  have wd : IntKind.i64.wrap d = d := IntWalk.i64_in _ (by omega)
  have we : IntKind.i64.wrap e = e := IntWalk.i64_in _ (by omega)
  clear h0 h1 h2 h3 h4 hp ho ha hb hc hd he hn
  go_enter Tryd.func21, Tryd.ntmps21
  go_upto_region 3 with fail
  have R1 := Lib.hid (Blk.new w 30 (ints zE).toArray)
  have B1 := Lib.hid (Joins.below_alloc1 w (.cells (ints zE).toArray 30))
  have K1 := HK.out _ B1.out
  have HG := Lib.hid (Nat.le_refl w.heap.size)
  obtain ⟨g, hg⟩ : ∃ g, g = w.heap.size := ⟨_, rfl⟩
  have HGG := Lib.hid (show w.heap.size ≤ g from by omega)
  rw [← hg] at R1 ⊢
  clear hg
  have hV : w.alloc (.cells (ints zE).toArray 30) = w.alloc (.cells #[.int .i64 0, .int .i64 0, .int .i64 0, .int .i64 0, .int .i64 0, .int .i64 0] 30) := rfl
  rw [hV] at R1 B1 K1
  clear hV
  generalize w.alloc _ = V at R1 B1 K1 ⊢
  obtain ⟨k0, k1, k2, k3, k4⟩ := K1
  have a0 : ∀ o, (V.alloc o).cell? ⟨bk, off, none⟩ = some (.int .u8 a) := fun o => (HK.out _ (stepA B1.out o)).1
  have a4 : ∀ o, (V.alloc o).cell? ⟨bk, off + 4, none⟩ = some (.int .u8 e) := fun o => (HK.out _ (stepA B1.out o)).2.2.2.2
  have i0 : (0 : Int) < (n : Int) := by omega
  have i4 : (4 : Int) < (n : Int) := by omega
  have i1 : (1 : Int) < (n : Int) := by omega
  have i2 : (2 : Int) < (n : Int) := by omega
  have i3 : (3 : Int) < (n : Int) := by omega
  go_region
  have X2 := Lib.hid (show Blk (V.alloc (.cells #[.int .i64 a, .int .i64 0, .int .i64 0, .int .i64 0, .int .i64 e, .int .i64 0] 30)).drew V.heap.size 30 #[.int .i64 a, .int .i64 0, .int .i64 0, .int .i64 0, .int .i64 e, .int .i64 0] from (Blk.new V _ _).drew)
  have R2 := Lib.hid (show Blk (V.alloc (.cells #[.int .i64 a, .int .i64 0, .int .i64 0, .int .i64 0, .int .i64 e, .int .i64 0] 30)).drew g 30 (ints zE).toArray from (R1.out.alloc _).drew)
  have B2 := Lib.hid (show Below w.heap.size w (V.alloc (.cells #[.int .i64 a, .int .i64 0, .int .i64 0, .int .i64 0, .int .i64 e, .int .i64 0] 30)).drew from (stepA B1.out _).drew)
  have HGL := Lib.hid R1.out.lt
  have HGH := Lib.hid (show w.heap.size ≤ V.heap.size from B1.out.size)
  clear R1 B1 a0 a4 k0 k1 k2 k3 k4
  generalize (V.alloc _).drew = V2 at X2 R2 B2 ⊢
  generalize V.heap.size = eb at X2 HGL HGH ⊢
  have x0 := X2.out.cell 0
  go_upto_region 6 with (go_at_call 24; refine (picks_any a _).mono ?_; rintro e w1 ⟨rfl, hb⟩; rw [HP.out]; have B3 := Lib.hid (stepB B2.out hb); have X3 := Lib.hid (X2.out.here hb); have R3 := Lib.hid (R2.out.here hb); clear hb)
  clear X2 R2 B2 x0
  rename World => W
  obtain ⟨k0, k1, k2, k3, k4⟩ := HK.out _ B3.out
  have x1 := X3.out.cell 1
  have x2 := X3.out.cell 2
  have x3 := X3.out.cell 3
  have f1 := X3.out.frozen 1
  have f2 := X3.out.frozen 2
  have f3 := X3.out.frozen 3
  go_region
  have X4 := Lib.hid (show Blk (((W.setCell ⟨eb, 1, none⟩ (.int .i64 b)).setCell ⟨eb, 2, none⟩ (.int .i64 c)).setCell ⟨eb, 3, none⟩ (.int .i64 d)).drew eb 30 #[.int .i64 a, .int .i64 b, .int .i64 c, .int .i64 d, .int .i64 e, .int .i64 0] from (((X3.out.set_ 1 (.int .i64 b)).set_ 2 (.int .i64 c)).set_ 3 (.int .i64 d)).drew)
  have R4 := Lib.hid (show Blk (((W.setCell ⟨eb, 1, none⟩ (.int .i64 b)).setCell ⟨eb, 2, none⟩ (.int .i64 c)).setCell ⟨eb, 3, none⟩ (.int .i64 d)).drew g 30 (ints zE).toArray from (((R3.out.far (p := ⟨eb, 1, none⟩) (by have := HGL.out; show g ≠ eb; omega) (.int .i64 b)).far (p := ⟨eb, 2, none⟩) (by have := HGL.out; show g ≠ eb; omega) (.int .i64 c)).far (p := ⟨eb, 3, none⟩) (by have := HGL.out; show g ≠ eb; omega) (.int .i64 d)).drew)
  have B4 := Lib.hid (show Below w.heap.size w (((W.setCell ⟨eb, 1, none⟩ (.int .i64 b)).setCell ⟨eb, 2, none⟩ (.int .i64 c)).setCell ⟨eb, 3, none⟩ (.int .i64 d)).drew from (((B3.out.setCell (p := ⟨eb, 1, none⟩) HGH.out (.int .i64 b)).setCell (p := ⟨eb, 2, none⟩) HGH.out (.int .i64 c)).setCell (p := ⟨eb, 3, none⟩) HGH.out (.int .i64 d)).drew)
  clear X3 R3 B3 k0 k1 k2 k3 k4 x1 x2 x3 f1 f2 f3
  generalize (((W.setCell ⟨eb, 1, none⟩ (.int .i64 b)).setCell ⟨eb, 2, none⟩ (.int .i64 c)).setCell ⟨eb, 3, none⟩ (.int .i64 d)).drew = W4 at X4 R4 B4 ⊢
  have TKa := True.intro
  have TKb := True.intro
  go_wp2_with (first
    | (go_at_call 7; refine (sOk_any a b c d e 0 _ HO.out _).mono ?_; rintro e w5 ⟨rfl, hb⟩; have B5 := Lib.hid (stepB B4.out hb); have X5 := Lib.hid (X4.out.here hb); have R5 := Lib.hid (R4.out.here hb); clear hb)
    | (have _t := TKa; refine wpList_load_row_g (by rfl) 30 (.tmp 3) (by rfl) eb (by rfl) _ _ (0, 0) _ X4.out Tryd.underlying30 rfl (info_ent _ _ _ _ _ _) ?_; clear _t TKa)
    | (have _t := TKb; refine wpList_load_row_g (by rfl) 30 (.tmp 3) (by rfl) eb (by rfl) _ _ (0, 0) _ X5.out Tryd.underlying30 rfl (info_ent _ _ _ _ _ _) ?_; clear _t TKb)
    | (refine wpList_store_mid (by rfl) 30 (.tmp 2) (.tmp 55) (by rfl) g 0 (ints zE).toArray (by rfl) (by rfl) (R5.out.there (Nat.le_refl 6)) (info_ent _ _ _ _ _ _) (ints_oneCell zE) ?_))
  exact bodyPost_ret (v := .agg (ints zE).toArray) (results_cell_e rfl rfl (ent_load (R5.out.put (ints zE).toArray rfl))) rfl ⟨rfl, Below.setCells HGG.out _ _ _ B5.out⟩
theorem read_any (A : Option Addr) (n cap : Nat) (l : List UInt8) (w : World) (h : Reads w w.heap.size 1 A n (u8s l)) :
    Calls Tryd.prog 21 #[.slice A n cap] w fun x w' => x = .returned (.agg (ints (entAt l 0)).toArray) ∧ Below w.heap.size w w' := by
  have hl := h.u8_len
  by_cases hn : n < 5
  · rw [entAt_end (by omega)]
    exact read_short A n cap hn w
  · obtain ⟨b, off, rfl, hb, hc⟩ := u8_cells h (by omega)
    have h0 := hc 0 (by omega)
    rw [Nat.add_zero] at h0
    have h1 := hc 1 (by omega)
    have h2 := hc 2 (by omega)
    have h3 := hc 3 (by omega)
    have h4 := hc 4 (by omega)
    have e : entAt l 0 = rdE (byt l 0) (byt l 1) (byt l 2) (byt l 3) (byt l 4) := by unfold entAt; rw [if_pos (by omega)]
    rw [e]
    cases hp : picB (byt l 0)
    · rw [rdE_not hp]
      cases ho : okE (byt l 0) (byt l 1) (byt l 2) (byt l 3) (byt l 4) 0
      · exact read_not_no b off n cap _ _ _ _ _ (by omega) w hb (byt_bound _ _) (byt_bound _ _) (byt_bound _ _) (byt_bound _ _) (byt_bound _ _) h0 h1 h2 h3 h4 hp ho
      · exact read_not_ok b off n cap _ _ _ _ _ (by omega) w hb (byt_bound _ _) (byt_bound _ _) (byt_bound _ _) (byt_bound _ _) (byt_bound _ _) h0 h1 h2 h3 h4 hp ho
    · rw [rdE_pic hp]
      cases ho : okE (byt l 0) 0 0 0 (byt l 4) (byt l 1 * 65536 + byt l 2 * 256 + byt l 3)
      · exact read_pic_no b off n cap _ _ _ _ _ (by omega) w hb (byt_bound _ _) (byt_bound _ _) (byt_bound _ _) (byt_bound _ _) (byt_bound _ _) h0 h1 h2 h3 h4 hp ho
      · exact read_pic_ok b off n cap _ _ _ _ _ (by omega) w hb (byt_bound _ _) (byt_bound _ _) (byt_bound _ _) (byt_bound _ _) (byt_bound _ _) h0 h1 h2 h3 h4 hp ho
end Go.Proofs.YtggfadiahacgeaaDoor
