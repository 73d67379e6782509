/- Configs; a new coordinator. -/
import Derived.Test.YtadnlannbafjpaaGreatQCoV
namespace Go.Proofs.YtadnlannbafjpaaGreat
open Go.RowKit
set_option linter.unusedVariables false
set_option linter.unusedSimpArgs false
def upC (a n : Int) : Bool := decide (1 ≤ n) && decide (n ≤ a)
def cfgB (f : Cfg) : Bool := upC 64 f.sh && (upC 1000 f.le && (upC 1000 f.re && (upC 4096 f.sl && (upC 64 f.qu && upC 65536 f.fl))))
set_option maxRecDepth 100000 in
set_option maxHeartbeats 8000000 in
theorem upTo_b (a n : Int) (b : Bool) (hb : upC a n = b) (w : World) : Calls Tryz.prog 95 #[.int .i64 a, .int .i64 n] w fun e w' => e = .returned (.bool b) ∧ w = w' := by
 unfold upC at hb
 cases h1 : decide (1 ≤ n) with
 | false =>
   rw [h1] at hb
   obtain rfl : b = false := by rw [← hb]; rfl
   go_enter Tryz.func95, Tryz.ntmps95
   go_wp2_with fail
   go_ret
   exact ⟨rfl, rfl⟩
 | true =>
   rw [h1, Bool.true_and] at hb
   go_enter Tryz.func95, Tryz.ntmps95
   go_wp2_with fail
   go_ret
   exact ⟨rfl, rfl⟩
theorem info_cfg (f : Cfg) : (Tryz.prog.info? 23).map (·.size) = some (#[.int .i64 f.sh, .bool f.pb, .int .i64 f.le, .int .i64 f.re, .int .i64 f.sl, .int .i64 f.qu, .int .i64 f.fl] : Array Value).size := by kernel_rfl
set_option maxRecDepth 100000 in
set_option maxHeartbeats 8000000 in
theorem mayBe_0 (f : Cfg) (h0 : upC 64 f.sh = false) (w : World) : Calls Tryz.prog 53 #[.agg #[.int .i64 f.sh, .bool f.pb, .int .i64 f.le, .int .i64 f.re, .int .i64 f.sl, .int .i64 f.qu, .int .i64 f.fl]] w fun e w' => e = .returned (.bool false) ∧ Below w.heap.size w w' := by
 have X1 := Lib.hid (show Blk (w.alloc (.cells #[.int .i64 f.sh, .bool f.pb, .int .i64 f.le, .int .i64 f.re, .int .i64 f.sl, .int .i64 f.qu, .int .i64 f.fl] 23)) w.heap.size 23 #[.int .i64 f.sh, .bool f.pb, .int .i64 f.le, .int .i64 f.re, .int .i64 f.sl, .int .i64 f.qu, .int .i64 f.fl] from Blk.new w _ _)
 have B1 := Lib.hid (Joins.below_alloc1 w (.cells #[.int .i64 f.sh, .bool f.pb, .int .i64 f.le, .int .i64 f.re, .int .i64 f.sl, .int .i64 f.qu, .int .i64 f.fl] 23))
 have H0 := Lib.hid h0
 clear h0
 go_enter Tryz.func53, Tryz.ntmps53
 go_upto_region 1 with fail
 generalize w.heap.size = g at X1 ⊢
 generalize w.alloc (.cells #[.int .i64 f.sh, .bool f.pb, .int .i64 f.le, .int .i64 f.re, .int .i64 f.sl, .int .i64 f.qu, .int .i64 f.fl] 23) = V at X1 B1 ⊢
 have c0 : V.cell? ⟨g, 0, none⟩ = some (.int .i64 f.sh) := X1.out.cell 0
 go_wp2_with fail
 refine (upTo_b 64 f.sh false H0.out _).mono ?_
 rintro e w' ⟨rfl, rfl⟩
 go_wp2_with fail
 go_ret
 exact ⟨rfl, B1.out⟩
set_option maxRecDepth 100000 in
set_option maxHeartbeats 8000000 in
theorem mayBe_1 (f : Cfg) (h0 : upC 64 f.sh = true) (h1 : upC 1000 f.le = false) (w : World) : Calls Tryz.prog 53 #[.agg #[.int .i64 f.sh, .bool f.pb, .int .i64 f.le, .int .i64 f.re, .int .i64 f.sl, .int .i64 f.qu, .int .i64 f.fl]] w fun e w' => e = .returned (.bool false) ∧ Below w.heap.size w w' := by
 have X1 := Lib.hid (show Blk (w.alloc (.cells #[.int .i64 f.sh, .bool f.pb, .int .i64 f.le, .int .i64 f.re, .int .i64 f.sl, .int .i64 f.qu, .int .i64 f.fl] 23)) w.heap.size 23 #[.int .i64 f.sh, .bool f.pb, .int .i64 f.le, .int .i64 f.re, .int .i64 f.sl, .int .i64 f.qu, .int .i64 f.fl] from Blk.new w _ _)
 have B1 := Lib.hid (Joins.below_alloc1 w (.cells #[.int .i64 f.sh, .bool f.pb, .int .i64 f.le, .int .i64 f.re, .int .i64 f.sl, .int .i64 f.qu, .int .i64 f.fl] 23))
 have H0 := Lib.hid h0
 have H1 := Lib.hid h1
 clear h0 h1
 go_enter Tryz.func53, Tryz.ntmps53
 go_upto_region 1 with fail
 generalize w.heap.size = g at X1 ⊢
 generalize w.alloc (.cells #[.int .i64 f.sh, .bool f.pb, .int .i64 f.le, .int .i64 f.re, .int .i64 f.sl, .int .i64 f.qu, .int .i64 f.fl] 23) = V at X1 B1 ⊢
 have c0 : V.cell? ⟨g, 0, none⟩ = some (.int .i64 f.sh) := X1.out.cell 0
 have c1 : V.cell? ⟨g, 2, none⟩ = some (.int .i64 f.le) := X1.out.cell 2
 go_wp2_with fail
 refine (upTo_b 64 f.sh true H0.out _).mono ?_
 rintro e w' ⟨rfl, rfl⟩
 go_wp2_with fail
 refine (upTo_b 1000 f.le false H1.out _).mono ?_
 rintro e w' ⟨rfl, rfl⟩
 go_wp2_with fail
 go_ret
 exact ⟨rfl, B1.out⟩
set_option maxRecDepth 100000 in
set_option maxHeartbeats 8000000 in
theorem mayBe_2 (f : Cfg) (h0 : upC 64 f.sh = true) (h1 : upC 1000 f.le = true) (h2 : upC 1000 f.re = false) (w : World) : Calls Tryz.prog 53 #[.agg #[.int .i64 f.sh, .bool f.pb, .int .i64 f.le, .int .i64 f.re, .int .i64 f.sl, .int .i64 f.qu, .int .i64 f.fl]] w fun e w' => e = .returned (.bool false) ∧ Below w.heap.size w w' := by
 have X1 := Lib.hid (show Blk (w.alloc (.cells #[.int .i64 f.sh, .bool f.pb, .int .i64 f.le, .int .i64 f.re, .int .i64 f.sl, .int .i64 f.qu, .int .i64 f.fl] 23)) w.heap.size 23 #[.int .i64 f.sh, .bool f.pb, .int .i64 f.le, .int .i64 f.re, .int .i64 f.sl, .int .i64 f.qu, .int .i64 f.fl] from Blk.new w _ _)
 have B1 := Lib.hid (Joins.below_alloc1 w (.cells #[.int .i64 f.sh, .bool f.pb, .int .i64 f.le, .int .i64 f.re, .int .i64 f.sl, .int .i64 f.qu, .int .i64 f.fl] 23))
 have H0 := Lib.hid h0
 have H1 := Lib.hid h1
 have H2 := Lib.hid h2
 clear h0 h1 h2
 go_enter Tryz.func53, Tryz.ntmps53
 go_upto_region 1 with fail
 generalize w.heap.size = g at X1 ⊢
 generalize w.alloc (.cells #[.int .i64 f.sh, .bool f.pb, .int .i64 f.le, .int .i64 f.re, .int .i64 f.sl, .int .i64 f.qu, .int .i64 f.fl] 23) = V at X1 B1 ⊢
 have c0 : V.cell? ⟨g, 0, none⟩ = some (.int .i64 f.sh) := X1.out.cell 0
 have c1 : V.cell? ⟨g, 2, none⟩ = some (.int .i64 f.le) := X1.out.cell 2
 have c2 : V.cell? ⟨g, 3, none⟩ = some (.int .i64 f.re) := X1.out.cell 3
 go_wp2_with fail
 refine (upTo_b 64 f.sh true H0.out _).mono ?_
 rintro e w' ⟨rfl, rfl⟩
 go_wp2_with fail
 refine (upTo_b 1000 f.le true H1.out _).mono ?_
 rintro e w' ⟨rfl, rfl⟩
 go_wp2_with fail
 refine (upTo_b 1000 f.re false H2.out _).mono ?_
 rintro e w' ⟨rfl, rfl⟩
 go_wp2_with fail
 go_ret
 exact ⟨rfl, B1.out⟩
set_option maxRecDepth 100000 in
set_option maxHeartbeats 8000000 in
theorem mayBe_3 (f : Cfg) (h0 : upC 64 f.sh = true) (h1 : upC 1000 f.le = true) (h2 : upC 1000 f.re = true) (h3 : upC 4096 f.sl = false) (w : World) : Calls Tryz.prog 53 #[.agg #[.int .i64 f.sh, .bool f.pb, .int .i64 f.le, .int .i64 f.re, .int .i64 f.sl, .int .i64 f.qu, .int .i64 f.fl]] w fun e w' => e = .returned (.bool false) ∧ Below w.heap.size w w' := by
 have X1 := Lib.hid (show Blk (w.alloc (.cells #[.int .i64 f.sh, .bool f.pb, .int .i64 f.le, .int .i64 f.re, .int .i64 f.sl, .int .i64 f.qu, .int .i64 f.fl] 23)) w.heap.size 23 #[.int .i64 f.sh, .bool f.pb, .int .i64 f.le, .int .i64 f.re, .int .i64 f.sl, .int .i64 f.qu, .int .i64 f.fl] from Blk.new w _ _)
 have B1 := Lib.hid (Joins.below_alloc1 w (.cells #[.int .i64 f.sh, .bool f.pb, .int .i64 f.le, .int .i64 f.re, .int .i64 f.sl, .int .i64 f.qu, .int .i64 f.fl] 23))
 have H0 := Lib.hid h0
 have H1 := Lib.hid h1
 have H2 := Lib.hid h2
 have H3 := Lib.hid h3
 clear h0 h1 h2 h3
 go_enter Tryz.func53, Tryz.ntmps53
 go_upto_region 1 with fail
 generalize w.heap.size = g at X1 ⊢
 generalize w.alloc (.cells #[.int .i64 f.sh, .bool f.pb, .int .i64 f.le, .int .i64 f.re, .int .i64 f.sl, .int .i64 f.qu, .int .i64 f.fl] 23) = V at X1 B1 ⊢
 have c0 : V.cell? ⟨g, 0, none⟩ = some (.int .i64 f.sh) := X1.out.cell 0
 have c1 : V.cell? ⟨g, 2, none⟩ = some (.int .i64 f.le) := X1.out.cell 2
 have c2 : V.cell? ⟨g, 3, none⟩ = some (.int .i64 f.re) := X1.out.cell 3
 have c3 : V.cell? ⟨g, 4, none⟩ = some (.int .i64 f.sl) := X1.out.cell 4
 go_wp2_with fail
 refine (upTo_b 64 f.sh true H0.out _).mono ?_
 rintro e w' ⟨rfl, rfl⟩
 go_wp2_with fail
 refine (upTo_b 1000 f.le true H1.out _).mono ?_
 rintro e w' ⟨rfl, rfl⟩
 go_wp2_with fail
 refine (upTo_b 1000 f.re true H2.out _).mono ?_
 rintro e w' ⟨rfl, rfl⟩
 go_wp2_with fail
 refine (upTo_b 4096 f.sl false H3.out _).mono ?_
 rintro e w' ⟨rfl, rfl⟩
 go_wp2_with fail
 go_ret
 exact ⟨rfl, B1.out⟩
set_option maxRecDepth 100000 in
set_option maxHeartbeats 8000000 in
theorem mayBe_4 (f : Cfg) (h0 : upC 64 f.sh = true) (h1 : upC 1000 f.le = true) (h2 : upC 1000 f.re = true) (h3 : upC 4096 f.sl = true) (h4 : upC 64 f.qu = false) (w : World) : Calls Tryz.prog 53 #[.agg #[.int .i64 f.sh, .bool f.pb, .int .i64 f.le, .int .i64 f.re, .int .i64 f.sl, .int .i64 f.qu, .int .i64 f.fl]] w fun e w' => e = .returned (.bool false) ∧ Below w.heap.size w w' := by
 have X1 := Lib.hid (show Blk (w.alloc (.cells #[.int .i64 f.sh, .bool f.pb, .int .i64 f.le, .int .i64 f.re, .int .i64 f.sl, .int .i64 f.qu, .int .i64 f.fl] 23)) w.heap.size 23 #[.int .i64 f.sh, .bool f.pb, .int .i64 f.le, .int .i64 f.re, .int .i64 f.sl, .int .i64 f.qu, .int .i64 f.fl] from Blk.new w _ _)
 have B1 := Lib.hid (Joins.below_alloc1 w (.cells #[.int .i64 f.sh, .bool f.pb, .int .i64 f.le, .int .i64 f.re, .int .i64 f.sl, .int .i64 f.qu, .int .i64 f.fl] 23))
 have H0 := Lib.hid h0
 have H1 := Lib.hid h1
 have H2 := Lib.hid h2
 have H3 := Lib.hid h3
 have H4 := Lib.hid h4
 clear h0 h1 h2 h3 h4
 go_enter Tryz.func53, Tryz.ntmps53
 go_upto_region 1 with fail
 generalize w.heap.size = g at X1 ⊢
 generalize w.alloc (.cells #[.int .i64 f.sh, .bool f.pb, .int .i64 f.le, .int .i64 f.re, .int .i64 f.sl, .int .i64 f.qu, .int .i64 f.fl] 23) = V at X1 B1 ⊢
 have c0 : V.cell? ⟨g, 0, none⟩ = some (.int .i64 f.sh) := X1.out.cell 0
 have c1 : V.cell? ⟨g, 2, none⟩ = some (.int .i64 f.le) := X1.out.cell 2
 have c2 : V.cell? ⟨g, 3, none⟩ = some (.int .i64 f.re) := X1.out.cell 3
 have c3 : V.cell? ⟨g, 4, none⟩ = some (.int .i64 f.sl) := X1.out.cell 4
 have c4 : V.cell? ⟨g, 5, none⟩ = some (.int .i64 f.qu) := X1.out.cell 5
 go_wp2_with fail
 refine (upTo_b 64 f.sh true H0.out _).mono ?_
 rintro e w' ⟨rfl, rfl⟩
 go_wp2_with fail
 refine (upTo_b 1000 f.le true H1.out _).mono ?_
 rintro e w' ⟨rfl, rfl⟩
 go_wp2_with fail
 refine (upTo_b 1000 f.re true H2.out _).mono ?_
 rintro e w' ⟨rfl, rfl⟩
 go_wp2_with fail
 refine (upTo_b 4096 f.sl true H3.out _).mono ?_
 rintro e w' ⟨rfl, rfl⟩
 go_wp2_with fail
 refine (upTo_b 64 f.qu false H4.out _).mono ?_
 rintro e w' ⟨rfl, rfl⟩
 go_wp2_with fail
 go_ret
 exact ⟨rfl, B1.out⟩
set_option maxRecDepth 100000 in
set_option maxHeartbeats 8000000 in
theorem mayBe_5 (f : Cfg) (h0 : upC 64 f.sh = true) (h1 : upC 1000 f.le = true) (h2 : upC 1000 f.re = true) (h3 : upC 4096 f.sl = true) (h4 : upC 64 f.qu = true) (h5 : upC 65536 f.fl = false) (w : World) : Calls Tryz.prog 53 #[.agg #[.int .i64 f.sh, .bool f.pb, .int .i64 f.le, .int .i64 f.re, .int .i64 f.sl, .int .i64 f.qu, .int .i64 f.fl]] w fun e w' => e = .returned (.bool false) ∧ Below w.heap.size w w' := by
 have X1 := Lib.hid (show Blk (w.alloc (.cells #[.int .i64 f.sh, .bool f.pb, .int .i64 f.le, .int .i64 f.re, .int .i64 f.sl, .int .i64 f.qu, .int .i64 f.fl] 23)) w.heap.size 23 #[.int .i64 f.sh, .bool f.pb, .int .i64 f.le, .int .i64 f.re, .int .i64 f.sl, .int .i64 f.qu, .int .i64 f.fl] from Blk.new w _ _)
 have B1 := Lib.hid (Joins.below_alloc1 w (.cells #[.int .i64 f.sh, .bool f.pb, .int .i64 f.le, .int .i64 f.re, .int .i64 f.sl, .int .i64 f.qu, .int .i64 f.fl] 23))
 have H0 := Lib.hid h0
 have H1 := Lib.hid h1
 have H2 := Lib.hid h2
 have H3 := Lib.hid h3
 have H4 := Lib.hid h4
 have H5 := Lib.hid h5
 clear h0 h1 h2 h3 h4 h5
 go_enter Tryz.func53, Tryz.ntmps53
 go_upto_region 1 with fail
 generalize w.heap.size = g at X1 ⊢
 generalize w.alloc (.cells #[.int .i64 f.sh, .bool f.pb, .int .i64 f.le, .int .i64 f.re, .int .i64 f.sl, .int .i64 f.qu, .int .i64 f.fl] 23) = V at X1 B1 ⊢
 have c0 : V.cell? ⟨g, 0, none⟩ = some (.int .i64 f.sh) := X1.out.cell 0
 have c1 : V.cell? ⟨g, 2, none⟩ = some (.int .i64 f.le) := X1.out.cell 2
 have c2 : V.cell? ⟨g, 3, none⟩ = some (.int .i64 f.re) := X1.out.cell 3
 have c3 : V.cell? ⟨g, 4, none⟩ = some (.int .i64 f.sl) := X1.out.cell 4
 have c4 : V.cell? ⟨g, 5, none⟩ = some (.int .i64 f.qu) := X1.out.cell 5
 have c5 : V.cell? ⟨g, 6, none⟩ = some (.int .i64 f.fl) := X1.out.cell 6
 go_wp2_with fail
 refine (upTo_b 64 f.sh true H0.out _).mono ?_
 rintro e w' ⟨rfl, rfl⟩
 go_wp2_with fail
 refine (upTo_b 1000 f.le true H1.out _).mono ?_
 rintro e w' ⟨rfl, rfl⟩
 go_wp2_with fail
 refine (upTo_b 1000 f.re true H2.out _).mono ?_
 rintro e w' ⟨rfl, rfl⟩
 go_wp2_with fail
 refine (upTo_b 4096 f.sl true H3.out _).mono ?_
 rintro e w' ⟨rfl, rfl⟩
 go_wp2_with fail
 refine (upTo_b 64 f.qu true H4.out _).mono ?_
 rintro e w' ⟨rfl, rfl⟩
 go_wp2_with fail
 refine (upTo_b 65536 f.fl false H5.out _).mono ?_
 rintro e w' ⟨rfl, rfl⟩
 go_wp2_with fail
 go_ret
 exact ⟨rfl, B1.out⟩
set_option maxRecDepth 100000 in
set_option maxHeartbeats 8000000 in
theorem mayBe_6 (f : Cfg) (h0 : upC 64 f.sh = true) (h1 : upC 1000 f.le = true) (h2 : upC 1000 f.re = true) (h3 : upC 4096 f.sl = true) (h4 : upC 64 f.qu = true) (h5 : upC 65536 f.fl = true) (w : World) : Calls Tryz.prog 53 #[.agg #[.int .i64 f.sh, .bool f.pb, .int .i64 f.le, .int .i64 f.re, .int .i64 f.sl, .int .i64 f.qu, .int .i64 f.fl]] w fun e w' => e = .returned (.bool true) ∧ Below w.heap.size w w' := by
 have X1 := Lib.hid (show Blk (w.alloc (.cells #[.int .i64 f.sh, .bool f.pb, .int .i64 f.le, .int .i64 f.re, .int .i64 f.sl, .int .i64 f.qu, .int .i64 f.fl] 23)) w.heap.size 23 #[.int .i64 f.sh, .bool f.pb, .int .i64 f.le, .int .i64 f.re, .int .i64 f.sl, .int .i64 f.qu, .int .i64 f.fl] from Blk.new w _ _)
 have B1 := Lib.hid (Joins.below_alloc1 w (.cells #[.int .i64 f.sh, .bool f.pb, .int .i64 f.le, .int .i64 f.re, .int .i64 f.sl, .int .i64 f.qu, .int .i64 f.fl] 23))
 have H0 := Lib.hid h0
 have H1 := Lib.hid h1
 have H2 := Lib.hid h2
 have H3 := Lib.hid h3
 have H4 := Lib.hid h4
 have H5 := Lib.hid h5
 clear h0 h1 h2 h3 h4 h5
 go_enter Tryz.func53, Tryz.ntmps53
 go_upto_region 1 with fail
 generalize w.heap.size = g at X1 ⊢
 generalize w.alloc (.cells #[.int .i64 f.sh, .bool f.pb, .int .i64 f.le, .int .i64 f.re, .int .i64 f.sl, .int .i64 f.qu, .int .i64 f.fl] 23) = V at X1 B1 ⊢
 have c0 : V.cell? ⟨g, 0, none⟩ = some (.int .i64 f.sh) := X1.out.cell 0
 have c1 : V.cell? ⟨g, 2, none⟩ = some (.int .i64 f.le) := X1.out.cell 2
 have c2 : V.cell? ⟨g, 3, none⟩ = some (.int .i64 f.re) := X1.out.cell 3
 have c3 : V.cell? ⟨g, 4, none⟩ = some (.int .i64 f.sl) := X1.out.cell 4
 have c4 : V.cell? ⟨g, 5, none⟩ = some (.int .i64 f.qu) := X1.out.cell 5
 have c5 : V.cell? ⟨g, 6, none⟩ = some (.int .i64 f.fl) := X1.out.cell 6
 go_wp2_with fail
 refine (upTo_b 64 f.sh true H0.out _).mono ?_
 rintro e w' ⟨rfl, rfl⟩
 go_wp2_with fail
 refine (upTo_b 1000 f.le true H1.out _).mono ?_
 rintro e w' ⟨rfl, rfl⟩
 go_wp2_with fail
 refine (upTo_b 1000 f.re true H2.out _).mono ?_
 rintro e w' ⟨rfl, rfl⟩
 go_wp2_with fail
 refine (upTo_b 4096 f.sl true H3.out _).mono ?_
 rintro e w' ⟨rfl, rfl⟩
 go_wp2_with fail
 refine (upTo_b 64 f.qu true H4.out _).mono ?_
 rintro e w' ⟨rfl, rfl⟩
 go_wp2_with fail
 refine (upTo_b 65536 f.fl true H5.out _).mono ?_
 rintro e w' ⟨rfl, rfl⟩
 go_wp2_with fail
 go_ret
 exact ⟨rfl, B1.out⟩
theorem mayBe_any (f : Cfg) (b : Bool) (hb : cfgB f = b) (w : World) : Calls Tryz.prog 53 #[.agg #[.int .i64 f.sh, .bool f.pb, .int .i64 f.le, .int .i64 f.re, .int .i64 f.sl, .int .i64 f.qu, .int .i64 f.fl]] w fun e w' => e = .returned (.bool b) ∧ Below w.heap.size w w' := by
 unfold cfgB at hb
 cases h0 : upC 64 f.sh with
 | false =>
   obtain rfl : b = false := by rw [← hb, h0]; rfl
   exact mayBe_0 f h0 w
 | true =>
   cases h1 : upC 1000 f.le with
   | false =>
     obtain rfl : b = false := by rw [← hb, h0, h1]; rfl
     exact mayBe_1 f h0 h1 w
   | true =>
     cases h2 : upC 1000 f.re with
     | false =>
       obtain rfl : b = false := by rw [← hb, h0, h1, h2]; rfl
       exact mayBe_2 f h0 h1 h2 w
     | true =>
       cases h3 : upC 4096 f.sl with
       | false =>
         obtain rfl : b = false := by rw [← hb, h0, h1, h2, h3]; rfl
         exact mayBe_3 f h0 h1 h2 h3 w
       | true =>
         cases h4 : upC 64 f.qu with
         | false =>
           obtain rfl : b = false := by rw [← hb, h0, h1, h2, h3, h4]; rfl
           exact mayBe_4 f h0 h1 h2 h3 h4 w
         | true =>
           cases h5 : upC 65536 f.fl with
           | false =>
             obtain rfl : b = false := by rw [← hb, h0, h1, h2, h3, h4, h5]; rfl
             exact mayBe_5 f h0 h1 h2 h3 h4 h5 w
           | true =>
             obtain rfl : b = true := by rw [← hb, h0, h1, h2, h3, h4, h5]; rfl
             exact mayBe_6 f h0 h1 h2 h3 h4 h5 w
set_option maxRecDepth 100000 in
set_option maxHeartbeats 8000000 in
theorem check_any (f : Cfg) (b : Bool) (hb : cfgB f = b) (w : World) : Calls Tryz.prog 26 #[.agg #[.int .i64 f.sh, .bool f.pb, .int .i64 f.le, .int .i64 f.re, .int .i64 f.sl, .int .i64 f.qu, .int .i64 f.fl]] w fun e w' => e = .returned (if b = true then .nilIface else errno 13) ∧ Below w.heap.size w w' := by
 have X1 := Lib.hid (show Blk (w.alloc (.cells #[.int .i64 f.sh, .bool f.pb, .int .i64 f.le, .int .i64 f.re, .int .i64 f.sl, .int .i64 f.qu, .int .i64 f.fl] 23)) w.heap.size 23 #[.int .i64 f.sh, .bool f.pb, .int .i64 f.le, .int .i64 f.re, .int .i64 f.sl, .int .i64 f.qu, .int .i64 f.fl] from Blk.new w _ _)
 have B1 := Lib.hid (Joins.below_alloc1 w (.cells #[.int .i64 f.sh, .bool f.pb, .int .i64 f.le, .int .i64 f.re, .int .i64 f.sl, .int .i64 f.qu, .int .i64 f.fl] 23))
 have HB := Lib.hid hb
 have HI := Lib.hid (info_cfg f)
 clear hb
 cases b with
 | false =>
   rw [if_neg (by simp)]
   go_enter Tryz.func26, Tryz.ntmps26
   go_upto_region 1 with fail
   generalize w.heap.size = g at X1 ⊢
   generalize w.alloc (.cells #[.int .i64 f.sh, .bool f.pb, .int .i64 f.le, .int .i64 f.re, .int .i64 f.sl, .int .i64 f.qu, .int .i64 f.fl] 23) = V at X1 B1 ⊢
   go_wp2_with (first
     | (refine wpList_load_row rfl 23 (.tmp 1) rfl g rfl 23 #[.int .i64 f.sh, .bool f.pb, .int .i64 f.le, .int .i64 f.re, .int .i64 f.sl, .int .i64 f.qu, .int .i64 f.fl] (0, 0) _ X1.out Tryz.underlying23 rfl HI.out ?_)
     | (go_at_call 53; refine (mayBe_any f false HB.out _).mono ?_; rintro e V2 ⟨rfl, hb⟩; have B2 := Lib.hid (stepB B1.out hb); clear hb))
   go_ret
   exact ⟨rfl, B2.out⟩
 | true =>
   rw [if_pos rfl]
   go_enter Tryz.func26, Tryz.ntmps26
   go_upto_region 1 with fail
   generalize w.heap.size = g at X1 ⊢
   generalize w.alloc (.cells #[.int .i64 f.sh, .bool f.pb, .int .i64 f.le, .int .i64 f.re, .int .i64 f.sl, .int .i64 f.qu, .int .i64 f.fl] 23) = V at X1 B1 ⊢
   go_wp2_with (first
     | (refine wpList_load_row rfl 23 (.tmp 1) rfl g rfl 23 #[.int .i64 f.sh, .bool f.pb, .int .i64 f.le, .int .i64 f.re, .int .i64 f.sl, .int .i64 f.qu, .int .i64 f.fl] (0, 0) _ X1.out Tryz.underlying23 rfl HI.out ?_)
     | (go_at_call 53; refine (mayBe_any f true HB.out _).mono ?_; rintro e V2 ⟨rfl, hb⟩; have B2 := Lib.hid (stepB B1.out hb); clear hb))
   go_ret
   exact ⟨rfl, B2.out⟩
def newCo (f : Cfg) (n : Nat) : Co := ⟨f, List.replicate n noCl, 0, [], [], []⟩
set_option maxRecDepth 100000 in
set_option maxHeartbeats 8000000 in
theorem coNew_ok (f : Cfg) (n : Nat) (hf : cfgB f = true) (h1 : 1 ≤ n) (h8 : n ≤ 8) (w : World) : Calls Tryz.prog 10 #[.agg #[.int .i64 f.sh, .bool f.pb, .int .i64 f.le, .int .i64 f.re, .int .i64 f.sl, .int .i64 f.qu, .int .i64 f.fl], .int .i64 (n : Int)] w fun e w' => ∃ g, e = .returned (.tuple #[.pointer (some ⟨g, 0, none⟩), .nilIface]) ∧ ∃ P, CoM w' g n (newCo f n) P ∧ (∀ k, P.own g k → w.heap.size ≤ k) ∧ Below w.heap.size w w' := by
 have hn0 := fun W => run_neq_nil_nil (P := Tryz.prog) W 28 Tryz.underlying28
 have X1 := Lib.hid (show Blk (w.alloc (.cells #[.int .i64 f.sh, .bool f.pb, .int .i64 f.le, .int .i64 f.re, .int .i64 f.sl, .int .i64 f.qu, .int .i64 f.fl] 23)) w.heap.size 23 #[.int .i64 f.sh, .bool f.pb, .int .i64 f.le, .int .i64 f.re, .int .i64 f.sl, .int .i64 f.qu, .int .i64 f.fl] from Blk.new w _ _)
 have B1 := Lib.hid (Joins.below_alloc1 w (.cells #[.int .i64 f.sh, .bool f.pb, .int .i64 f.le, .int .i64 f.re, .int .i64 f.sl, .int .i64 f.qu, .int .i64 f.fl] 23))
 have HI := Lib.hid (info_cfg f)
 have HF := Lib.hid hf
 have HN1 := Lib.hid h1
 have HN8 := Lib.hid h8
 clear hf h1 h8
 go_enter Tryz.func10, Tryz.ntmps10
 go_upto_region 1 with fail
 generalize w.heap.size = g at X1 ⊢
 generalize w.alloc (.cells #[.int .i64 f.sh, .bool f.pb, .int .i64 f.le, .int .i64 f.re, .int .i64 f.sl, .int .i64 f.qu, .int .i64 f.fl] 23) = V at X1 B1 ⊢
 go_upto_region 7 with (first
   | (refine wpList_load_row rfl 23 (.tmp 2) rfl g rfl 23 #[.int .i64 f.sh, .bool f.pb, .int .i64 f.le, .int .i64 f.re, .int .i64 f.sl, .int .i64 f.qu, .int .i64 f.fl] (0, 0) _ X1.out Tryz.underlying23 rfl HI.out ?_)
   | (go_at_call 26; refine (check_any f true HF.out _).mono ?_; rintro e V2 ⟨rfl, hb⟩; rw [if_pos rfl]; have B2 := Lib.hid (stepB B1.out hb); have X2 := Lib.hid (X1.out.here hb); clear hb)
   | (go_at_call 27; refine (cNew_ok n HN1.out HN8.out _).mono ?_; rintro e V3 ⟨rfl, hc, hb⟩; have C3 := Lib.hid hc; have B3 := Lib.hid (stepB B2.out hb); have X3 := Lib.hid (X2.out.here hb); have L3 := Lib.hid B2.out.size; clear hc hb))
 generalize V2.heap.size = p at C3 L3 ⊢
 go_wp2_with (refine wpList_load_row rfl 23 (.tmp 2) rfl g rfl 23 #[.int .i64 f.sh, .bool f.pb, .int .i64 f.le, .int .i64 f.re, .int .i64 f.sl, .int .i64 f.qu, .int .i64 f.fl] (0, 0) _ X3.out Tryz.underlying23 rfl HI.out ?_)
 go_ret2
 have hb := Blk.new V3 79 (coc (newCo f n) n ⟨p, .slice none 0 0, .slice none 0 0, .slice none 0 0, []⟩)
 have hlt := C3.out.lt
 refine ⟨_, rfl, ⟨p, .slice none 0 0, .slice none 0 0, .slice none 0 0, []⟩, ⟨hb, ?_⟩, ?_, B3.out.alloc B3.out.size _⟩
 · exact { cli := C3.out.step (Joins.below_alloc1 V3 _)
           txr := World.ownsRow_nil _ _ _ _
           txs := rfl
           sls := fun q hq => by cases hq
           lfr := World.ownsRow_nil _ _ _ _
           evr := World.ownsRow_nil _ _ _ _
           ap := fun q hq => by cases hq }
 · intro k hk
   rcases hk with (hk | hk | hk | hk | hk) | ⟨q, hq, _⟩
   · rw [hk]; exact B3.out.size
   · rw [hk]; exact L3.out
   · cases hk
   · cases hk
   · cases hk
   · cases hq
set_option maxRecDepth 100000 in
set_option maxHeartbeats 8000000 in
theorem lplain_any (b : Bool) (f : Cfg) (hf : f = ⟨2, b, 5, 3, 40, 6, 1000⟩) (w : World) : Calls Tryz.prog 18 #[.bool b] w fun e w' => e = .returned (.agg #[.int .i64 f.sh, .bool f.pb, .int .i64 f.le, .int .i64 f.re, .int .i64 f.sl, .int .i64 f.qu, .int .i64 f.fl]) ∧ Below w.heap.size w w' := by
 subst hf
 have HI := Lib.hid (info_cfg ⟨2, b, 5, 3, 40, 6, 1000⟩)
 go_enter Tryz.func18, Tryz.ntmps18
 go_wp2_with fail
 exact bodyPost_ret (v := .agg #[.int .i64 2, .bool b, .int .i64 5, .int .i64 3, .int .i64 40, .int .i64 6, .int .i64 1000]) (results_one rfl rfl (run_loadVar_row _ _ _ 23 _ (0, 0) _ (Blk.new w 23 #[.int .i64 2, .bool b, .int .i64 5, .int .i64 3, .int .i64 40, .int .i64 6, .int .i64 1000]) Tryz.underlying23 rfl HI.out)) rfl ⟨rfl, Joins.below_alloc1 w (.cells #[.int .i64 2, .bool b, .int .i64 5, .int .i64 3, .int .i64 40, .int .i64 6, .int .i64 1000] 23)⟩
end Go.Proofs.YtadnlannbafjpaaGreat
