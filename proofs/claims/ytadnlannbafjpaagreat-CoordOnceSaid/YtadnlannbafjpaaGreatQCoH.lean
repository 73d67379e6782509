/- A coordinator: Handle. -/
import Derived.Test.YtadnlannbafjpaaGreatQCoTc
namespace Go.Proofs.YtadnlannbafjpaaGreat
open Go.RowKit
set_option linter.unusedVariables false
set_option linter.unusedSimpArgs false
section
variable {g n : Nat} {c : Co} {P : Pt}
set_option maxRecDepth 100000 in
set_option maxHeartbeats 2000000 in
theorem handle_form (m : List Int) (w : World) (h : CoM w g n c P) (hm : m.length = 28) (hb : mayB m = false) :
   Calls Tryz.prog 31 #[.pointer (some ⟨g, 0, none⟩), .agg (mc m)] w fun e w' => e = .returned (.tuple #[.slice none 0 0, errno 5]) ∧ Below w.heap.size w w' := by
 have hn0 := fun W => run_neq_nil_nil (P := Tryz.prog) W 28 Tryz.underlying28
 have hnn := fun W => run_neq_held_nil (P := Tryz.prog) W 28 81 (.int .i64 5) Tryz.underlying28
 have HM := Lib.hid h
 have HL := Lib.hid hm
 have HI := Lib.hid (mc_info hm)
 have TOK := Lib.hid True.intro
 have M1 := Lib.hid (show Blk (w.alloc (.cells (mc m) 45)) w.heap.size 45 (mc m) from Blk.new w _ _)
 have B1 := Lib.hid (Joins.below_alloc1 w (.cells (mc m) 45))
 have HB := Lib.hid hb
 clear hb
 clear h hm
 go_enter Tryz.func31, Tryz.ntmps31
 go_upto_region 1 with fail
 generalize w.heap.size = bm at M1 ⊢
 generalize w.alloc (.cells (mc m) 45) = V at M1 B1 ⊢
 go_wp2_with (first
   | (have _t := TOK; refine wpList_load_row_g (by rfl) 45 (.tmp 3) rfl bm rfl 45 (mc m) (0, 0) _ M1.out Tryz.underlying45 rfl HI.out ?_; clear _t TOK)
   | (go_at_call 58; refine (msgOk_any m HL.out _).mono ?_; rintro e V2 ⟨rfl, hb⟩; rw [HB.out]; rw [if_neg (by simp)]; have B2 := Lib.hid (stepB B1.out hb); have M2 := Lib.hid (M1.out.here hb); clear hb))
 go_ret2
 exact ⟨rfl, B2.out⟩
set_option maxRecDepth 100000 in
set_option maxHeartbeats 2000000 in
theorem handle_to (m : List Int) (w : World) (h : CoM w g n c P) (hm : m.length = 28) (hb : mayB m = true) (h2 : fld m 2 ≠ 0) :
   Calls Tryz.prog 31 #[.pointer (some ⟨g, 0, none⟩), .agg (mc m)] w fun e w' => e = .returned (.tuple #[.slice none 0 0, errno 1]) ∧ Below w.heap.size w w' := by
 have hn0 := fun W => run_neq_nil_nil (P := Tryz.prog) W 28 Tryz.underlying28
 have hnn := fun W => run_neq_held_nil (P := Tryz.prog) W 28 81 (.int .i64 5) Tryz.underlying28
 have HM := Lib.hid h
 have HL := Lib.hid hm
 have HI := Lib.hid (mc_info hm)
 have TOK := Lib.hid True.intro
 have M1 := Lib.hid (show Blk (w.alloc (.cells (mc m) 45)) w.heap.size 45 (mc m) from Blk.new w _ _)
 have B1 := Lib.hid (Joins.below_alloc1 w (.cells (mc m) 45))
 have HB := Lib.hid hb
 have d1 : (fld m 2 != 0) = true := by simp [h2]
 clear hb h2
 clear h hm
 go_enter Tryz.func31, Tryz.ntmps31
 go_upto_region 1 with fail
 generalize w.heap.size = bm at M1 ⊢
 generalize w.alloc (.cells (mc m) 45) = V at M1 B1 ⊢
 go_upto_region 6 with (first
   | (have _t := TOK; refine wpList_load_row_g (by rfl) 45 (.tmp 3) rfl bm rfl 45 (mc m) (0, 0) _ M1.out Tryz.underlying45 rfl HI.out ?_; clear _t TOK)
   | (go_at_call 58; refine (msgOk_any m HL.out _).mono ?_; rintro e V2 ⟨rfl, hb⟩; rw [HB.out]; rw [if_pos rfl]; have B2 := Lib.hid (stepB B1.out hb); have M2 := Lib.hid (M1.out.here hb); clear hb))
 have H2 := Lib.hid (HM.out.step B2.out)
 have m2 : V2.cell? ⟨bm, 2, none⟩ = some (.int .i64 (fld m 2)) := by exact mc_cell HL.out M2.out (i := 2) (by omega)
 have m1 : V2.cell? ⟨bm, 1, none⟩ = some (.int .i64 (fld m 1)) := mc_cell HL.out M2.out (i := 1) (by omega)
 have x0 : V2.cell? ⟨g, 0, none⟩ = some (.int .i64 c.cf.sh) := H2.out.box.cell 0
 generalize fld m 2 = k2 at m2 d1
 go_quiet (fail)
 have B3 := Lib.hid (below_drewN B2.out nq)
 have M3 := Lib.hid (M2.out.drewN nq)
 clear m2 m1 x0 M2 B2 H2 M1 B1
 generalize V2.drewN nq = V3 at B3 M3 ⊢
 go_wp2_with fail
 go_ret2
 exact ⟨rfl, B3.out⟩
set_option maxRecDepth 100000 in
set_option maxHeartbeats 2000000 in
theorem handle_from (m : List Int) (w : World) (h : CoM w g n c P) (hm : m.length = 28) (hb : mayB m = true) (h2 : fld m 2 = 0) (h1 : c.cf.sh < fld m 1) :
   Calls Tryz.prog 31 #[.pointer (some ⟨g, 0, none⟩), .agg (mc m)] w fun e w' => e = .returned (.tuple #[.slice none 0 0, errno 1]) ∧ Below w.heap.size w w' := by
 have hn0 := fun W => run_neq_nil_nil (P := Tryz.prog) W 28 Tryz.underlying28
 have hnn := fun W => run_neq_held_nil (P := Tryz.prog) W 28 81 (.int .i64 5) Tryz.underlying28
 have HM := Lib.hid h
 have HL := Lib.hid hm
 have HI := Lib.hid (mc_info hm)
 have TOK := Lib.hid True.intro
 have M1 := Lib.hid (show Blk (w.alloc (.cells (mc m) 45)) w.heap.size 45 (mc m) from Blk.new w _ _)
 have B1 := Lib.hid (Joins.below_alloc1 w (.cells (mc m) 45))
 have HB := Lib.hid hb
 have H0 := Lib.hid h2
 have d1 : decide (c.cf.sh < fld m 1) = true := by simp [h1]
 clear hb h2 h1
 clear h hm
 go_enter Tryz.func31, Tryz.ntmps31
 go_upto_region 1 with fail
 generalize w.heap.size = bm at M1 ⊢
 generalize w.alloc (.cells (mc m) 45) = V at M1 B1 ⊢
 go_upto_region 6 with (first
   | (have _t := TOK; refine wpList_load_row_g (by rfl) 45 (.tmp 3) rfl bm rfl 45 (mc m) (0, 0) _ M1.out Tryz.underlying45 rfl HI.out ?_; clear _t TOK)
   | (go_at_call 58; refine (msgOk_any m HL.out _).mono ?_; rintro e V2 ⟨rfl, hb⟩; rw [HB.out]; rw [if_pos rfl]; have B2 := Lib.hid (stepB B1.out hb); have M2 := Lib.hid (M1.out.here hb); clear hb))
 have H2 := Lib.hid (HM.out.step B2.out)
 have m2 : V2.cell? ⟨bm, 2, none⟩ = some (.int .i64 0) := by rw [← H0.out]; exact mc_cell HL.out M2.out (i := 2) (by omega)
 have m1 : V2.cell? ⟨bm, 1, none⟩ = some (.int .i64 (fld m 1)) := mc_cell HL.out M2.out (i := 1) (by omega)
 have x0 : V2.cell? ⟨g, 0, none⟩ = some (.int .i64 c.cf.sh) := H2.out.box.cell 0
 generalize fld m 1 = k1 at m1 d1
 go_quiet (fail)
 have B3 := Lib.hid (below_drewN B2.out nq)
 have M3 := Lib.hid (M2.out.drewN nq)
 clear m2 m1 x0 M2 B2 H2 M1 B1
 generalize V2.drewN nq = V3 at B3 M3 ⊢
 go_wp2_with fail
 go_ret2
 exact ⟨rfl, B3.out⟩
set_option maxRecDepth 100000 in
set_option maxHeartbeats 2000000 in
theorem handle_probe (m : List Int) (w : World) (h : CoM w g n c P) (hm : m.length = 28) (hb : mayB m = true) (h2 : fld m 2 = 0) (h1 : fld m 1 ≤ c.cf.sh) (hk : fld m 0 = 11) (r : Co × List (List Int)) (hc : ∀ W, CoM W g n c P → Calls Tryz.prog 59 #[.pointer (some ⟨g, 0, none⟩), .agg (mc m)] W (OkP W g n P r)) :
   Calls Tryz.prog 31 #[.pointer (some ⟨g, 0, none⟩), .agg (mc m)] w fun e w' => ∃ u, e = .returned (.tuple #[u, .nilIface]) ∧ MsgR w' w.heap.size u r.2 ∧ ∃ P', CoS w w' g n P (fun _ => False) r.1 P' := by
 have hn0 := fun W => run_neq_nil_nil (P := Tryz.prog) W 28 Tryz.underlying28
 have hnn := fun W => run_neq_held_nil (P := Tryz.prog) W 28 81 (.int .i64 5) Tryz.underlying28
 have HM := Lib.hid h
 have HL := Lib.hid hm
 have HI := Lib.hid (mc_info hm)
 have TOK := Lib.hid True.intro
 have M1 := Lib.hid (show Blk (w.alloc (.cells (mc m) 45)) w.heap.size 45 (mc m) from Blk.new w _ _)
 have B1 := Lib.hid (Joins.below_alloc1 w (.cells (mc m) 45))
 have HB := Lib.hid hb
 have H0 := Lib.hid h2
 have d1 : decide (c.cf.sh < fld m 1) = false := by simp; omega
 have HK := Lib.hid hk
 have HC := Lib.hid hc
 clear hb h2 h1 hk hc
 clear h hm
 go_enter Tryz.func31, Tryz.ntmps31
 go_upto_region 1 with fail
 generalize w.heap.size = bm at M1 ⊢
 generalize w.alloc (.cells (mc m) 45) = V at M1 B1 ⊢
 go_upto_region 6 with (first
   | (have _t := TOK; refine wpList_load_row_g (by rfl) 45 (.tmp 3) rfl bm rfl 45 (mc m) (0, 0) _ M1.out Tryz.underlying45 rfl HI.out ?_; clear _t TOK)
   | (go_at_call 58; refine (msgOk_any m HL.out _).mono ?_; rintro e V2 ⟨rfl, hb⟩; rw [HB.out]; rw [if_pos rfl]; have B2 := Lib.hid (stepB B1.out hb); have M2 := Lib.hid (M1.out.here hb); clear hb))
 have H2 := Lib.hid (HM.out.step B2.out)
 have m2 : V2.cell? ⟨bm, 2, none⟩ = some (.int .i64 0) := by rw [← H0.out]; exact mc_cell HL.out M2.out (i := 2) (by omega)
 have m1 : V2.cell? ⟨bm, 1, none⟩ = some (.int .i64 (fld m 1)) := mc_cell HL.out M2.out (i := 1) (by omega)
 have x0 : V2.cell? ⟨g, 0, none⟩ = some (.int .i64 c.cf.sh) := H2.out.box.cell 0
 generalize fld m 1 = k1 at m1 d1
 go_quiet (fail)
 have B3 := Lib.hid (below_drewN B2.out nq)
 have M3 := Lib.hid (M2.out.drewN nq)
 clear m2 m1 x0 M2 B2 H2 M1 B1
 generalize V2.drewN nq = V3 at B3 M3 ⊢
 have H3 := Lib.hid (HM.out.step B3.out)
 have HB3 := Lib.hid B3.out.size
 have m0 : V3.cell? ⟨bm, 0, none⟩ = some (.int .i64 11) := by rw [← HK.out]; exact mc_cell HL.out M3.out (i := 0) (by omega)
 have TOK2 := Lib.hid True.intro
 go_wp2_with (first
   | (have _t := TOK2; refine wpList_load_row_g (by rfl) 45 (.tmp 3) rfl bm rfl 45 (mc m) (0, 0) _ M3.out Tryz.underlying45 rfl HI.out ?_; clear _t TOK2)
   | (go_at_call 59; refine (HC.out _ H3.out).mono ?_; rintro e V4 ⟨u, rfl, hu, P4, hs⟩; have U4 := Lib.hid hu; have S4 := Lib.hid ((CoS.below (N := fun _ => False) HM.out B3.out).trans hs); clear hu hs))
 go_ret2
 exact ⟨_, rfl, own_less U4.out HB3.out, _, S4.out.fresh (fun k e => by simp only [or_false] at e)⟩
set_option maxRecDepth 100000 in
set_option maxHeartbeats 2000000 in
theorem handle_none (m : List Int) (w : World) (h : CoM w g n c P) (hm : m.length = 28) (hb : mayB m = true) (h2 : fld m 2 = 0) (h1 : fld m 1 ≤ c.cf.sh) (hk : fld m 0 ≠ 11) (hl : P.L.length ≤ 1000) (hn : inL c.txs (fld m 3) = false) :
   Calls Tryz.prog 31 #[.pointer (some ⟨g, 0, none⟩), .agg (mc m)] w fun e w' => e = .returned (.tuple #[.slice none 0 0, .nilIface]) ∧ Below w.heap.size w w' := by
 have hn0 := fun W => run_neq_nil_nil (P := Tryz.prog) W 28 Tryz.underlying28
 have hnn := fun W => run_neq_held_nil (P := Tryz.prog) W 28 81 (.int .i64 5) Tryz.underlying28
 have HM := Lib.hid h
 have HL := Lib.hid hm
 have HI := Lib.hid (mc_info hm)
 have TOK := Lib.hid True.intro
 have M1 := Lib.hid (show Blk (w.alloc (.cells (mc m) 45)) w.heap.size 45 (mc m) from Blk.new w _ _)
 have B1 := Lib.hid (Joins.below_alloc1 w (.cells (mc m) 45))
 have HB := Lib.hid hb
 have H0 := Lib.hid h2
 have d1 : decide (c.cf.sh < fld m 1) = false := by simp; omega
 have dk : (fld m 0 == 11) = false := by simp [hk]
 have HN := Lib.hid hn
 have HLL := Lib.hid hl
 clear hb h2 h1 hk hn hl
 clear h hm
 go_enter Tryz.func31, Tryz.ntmps31
 go_upto_region 1 with fail
 generalize w.heap.size = bm at M1 ⊢
 generalize w.alloc (.cells (mc m) 45) = V at M1 B1 ⊢
 go_upto_region 6 with (first
   | (have _t := TOK; refine wpList_load_row_g (by rfl) 45 (.tmp 3) rfl bm rfl 45 (mc m) (0, 0) _ M1.out Tryz.underlying45 rfl HI.out ?_; clear _t TOK)
   | (go_at_call 58; refine (msgOk_any m HL.out _).mono ?_; rintro e V2 ⟨rfl, hb⟩; rw [HB.out]; rw [if_pos rfl]; have B2 := Lib.hid (stepB B1.out hb); have M2 := Lib.hid (M1.out.here hb); clear hb))
 have H2 := Lib.hid (HM.out.step B2.out)
 have m2 : V2.cell? ⟨bm, 2, none⟩ = some (.int .i64 0) := by rw [← H0.out]; exact mc_cell HL.out M2.out (i := 2) (by omega)
 have m1 : V2.cell? ⟨bm, 1, none⟩ = some (.int .i64 (fld m 1)) := mc_cell HL.out M2.out (i := 1) (by omega)
 have x0 : V2.cell? ⟨g, 0, none⟩ = some (.int .i64 c.cf.sh) := H2.out.box.cell 0
 generalize fld m 1 = k1 at m1 d1
 go_quiet (fail)
 have B3 := Lib.hid (below_drewN B2.out nq)
 have M3 := Lib.hid (M2.out.drewN nq)
 clear m2 m1 x0 M2 B2 H2 M1 B1
 generalize V2.drewN nq = V3 at B3 M3 ⊢
 have H3 := Lib.hid (HM.out.step B3.out)
 have HB3 := Lib.hid B3.out.size
 have m0 : V3.cell? ⟨bm, 0, none⟩ = some (.int .i64 (fld m 0)) := by exact mc_cell HL.out M3.out (i := 0) (by omega)
 have TOK2 := Lib.hid True.intro
 have m3 := mc_cell HL.out M3.out (i := 3) (by omega)
 generalize fld m 0 = k0 at m0 dk
 go_upto_region 11 with (first
   | (go_at_call 60; refine (find_any (fld m 3) _ H3.out HLL.out _ rfl false HN.out).mono ?_; generalize eL c.txs (fld m 3) = z; rintro e V4 ⟨s, rfl, ht, hb⟩; have T4 := Lib.hid ht; have C4 := Lib.hid hb; clear ht hb)
   | (refine wpList_store_mid (by rfl) 62 (.tmp 7) (.tmp 42) (by rfl) V4.heap.size 0 (trc z s) (by rfl) (by rfl) ((show Blk (V4.alloc (.cells zTr 62)) V4.heap.size 62 (trc noTr noSl) from Blk.new V4 _ _).there (Nat.le_refl 13)) (tr_info _ _) (T4.out.step C4.out).one ?_
      have XZ := Lib.hid (show Blk ((V4.alloc (.cells zTr 62)).setCells V4.heap.size 0 (trc z s).toList) V4.heap.size 62 (trc z s) from (show Blk (V4.alloc (.cells zTr 62)) V4.heap.size 62 (trc noTr noSl) from Blk.new V4 _ _).put _ rfl)
      have EA := Lib.hid (show Below V4.heap.size V4 ((V4.alloc (.cells zTr 62)).setCells V4.heap.size 0 (trc z s).toList) from Below.setCells (b := V4.heap.size) (Nat.le_refl _) (trc z s).toList 0 _ (Joins.below_alloc1 V4 (.cells zTr 62)))
      have B5 := Lib.hid (stepB (stepB B3.out C4.out) EA.out)
      have M5 := Lib.hid ((M3.out.here C4.out).here EA.out)
      generalize (V4.alloc (.cells zTr 62)).setCells V4.heap.size 0 (trc z s).toList = V5 at XZ EA B5 M5 ⊢
      generalize V4.heap.size = bt at XZ EA ⊢))
 go_wp2_with fail
 go_ret2
 exact ⟨rfl, B5.out⟩
set_option maxRecDepth 100000 in
set_option maxHeartbeats 2000000 in
theorem handle_msg (m : List Int) (w : World) (h : CoM w g n c P) (hm : m.length = 28) (hb : mayB m = true) (h2 : fld m 2 = 0) (h1 : fld m 1 ≤ c.cf.sh) (hk : fld m 0 ≠ 11) (hl : P.L.length ≤ 1000) (hev : c.ev.length ≤ 90000) (i : Nat) (hi : i < P.L.length) (hix : fld m 3 = (i : Int) + 1) (x : Tr) (s : Sl) (hq : P.L[i] = (x, s)) (hS : Short x) (hx : x.tx = (i : Int) + 1) (ht : Shs x.tch) (hv : Shs x.vts) (ha : Shs x.acks) (hkk : 1 ≤ fld m 0 ∧ fld m 0 ≤ 10) (r : Co × List (List Int)) (hr : comesL c x m i = r) :
   Calls Tryz.prog 31 #[.pointer (some ⟨g, 0, none⟩), .agg (mc m)] w fun e w' => ∃ u, e = .returned (.tuple #[u, .nilIface]) ∧ MsgR w' w.heap.size u r.2 ∧ ∃ P', CoS w w' g n P (fun _ => False) r.1 P' := by
 have hn0 := fun W => run_neq_nil_nil (P := Tryz.prog) W 28 Tryz.underlying28
 have hnn := fun W => run_neq_held_nil (P := Tryz.prog) W 28 81 (.int .i64 5) Tryz.underlying28
 have HM := Lib.hid h
 have HL := Lib.hid hm
 have HI := Lib.hid (mc_info hm)
 have TOK := Lib.hid True.intro
 have M1 := Lib.hid (show Blk (w.alloc (.cells (mc m) 45)) w.heap.size 45 (mc m) from Blk.new w _ _)
 have B1 := Lib.hid (Joins.below_alloc1 w (.cells (mc m) 45))
 have HB := Lib.hid hb
 have H0 := Lib.hid h2
 have d1 : decide (c.cf.sh < fld m 1) = false := by simp; omega
 have dk : (fld m 0 == 11) = false := by simp [hk]
 have HT := Lib.hid (show Tm w 0 x s from by have := h.r.sls _ (List.getElem_mem hi); rw [hq] at this; exact this)
 have HC := Lib.hid (fun W (hW : CoM W g n c P) => show Calls Tryz.prog 60 #[.pointer (some ⟨g, 0, none⟩), .int .i64 ((i : Int) + 1)] W fun e w' => e = .returned (.tuple #[.agg (trc x s), .bool true]) ∧ Below W.heap.size W w' from find_some i W hW hi (by omega) (x, s) hq)
 have HCC := Lib.hid (fun W (hW : CoM W g n c P) (hT : Tm W 0 x s) => show Calls Tryz.prog 61 #[.pointer (some ⟨g, 0, none⟩), .agg (trc x s), .agg (mc m)] W (OkP W g n P r) from by rw [← hr]; exact comes_any x s m i W hW hi hl hev hT hS hm hx ht hv ha hkk)
 have HIX := Lib.hid hix
 clear hb h2 h1 hk hl hev hq hS hx ht hv ha hkk hr hix
 clear h hm
 go_enter Tryz.func31, Tryz.ntmps31
 go_upto_region 1 with fail
 generalize w.heap.size = bm at M1 ⊢
 generalize w.alloc (.cells (mc m) 45) = V at M1 B1 ⊢
 go_upto_region 6 with (first
   | (have _t := TOK; refine wpList_load_row_g (by rfl) 45 (.tmp 3) rfl bm rfl 45 (mc m) (0, 0) _ M1.out Tryz.underlying45 rfl HI.out ?_; clear _t TOK)
   | (go_at_call 58; refine (msgOk_any m HL.out _).mono ?_; rintro e V2 ⟨rfl, hb⟩; rw [HB.out]; rw [if_pos rfl]; have B2 := Lib.hid (stepB B1.out hb); have M2 := Lib.hid (M1.out.here hb); clear hb))
 have H2 := Lib.hid (HM.out.step B2.out)
 have m2 : V2.cell? ⟨bm, 2, none⟩ = some (.int .i64 0) := by rw [← H0.out]; exact mc_cell HL.out M2.out (i := 2) (by omega)
 have m1 : V2.cell? ⟨bm, 1, none⟩ = some (.int .i64 (fld m 1)) := mc_cell HL.out M2.out (i := 1) (by omega)
 have x0 : V2.cell? ⟨g, 0, none⟩ = some (.int .i64 c.cf.sh) := H2.out.box.cell 0
 generalize fld m 1 = k1 at m1 d1
 go_quiet (fail)
 have B3 := Lib.hid (below_drewN B2.out nq)
 have M3 := Lib.hid (M2.out.drewN nq)
 clear m2 m1 x0 M2 B2 H2 M1 B1
 generalize V2.drewN nq = V3 at B3 M3 ⊢
 have H3 := Lib.hid (HM.out.step B3.out)
 have HB3 := Lib.hid B3.out.size
 have m0 : V3.cell? ⟨bm, 0, none⟩ = some (.int .i64 (fld m 0)) := by exact mc_cell HL.out M3.out (i := 0) (by omega)
 have TOK2 := Lib.hid True.intro
 have m3 : V3.cell? ⟨bm, 3, none⟩ = some (.int .i64 ((i : Int) + 1)) := by rw [← HIX.out]; exact mc_cell HL.out M3.out (i := 3) (by omega)
 generalize fld m 0 = k0 at m0 dk
 go_upto_region 11 with (first
   | (go_at_call 60; refine (HC.out _ H3.out).mono ?_; rintro e V4 ⟨rfl, hb⟩; have T4 := Lib.hid (HT.out.step B3.out); have C4 := Lib.hid hb; clear hb)
   | (refine wpList_store_mid (by rfl) 62 (.tmp 7) (.tmp 42) (by rfl) V4.heap.size 0 (trc x s) (by rfl) (by rfl) ((show Blk (V4.alloc (.cells zTr 62)) V4.heap.size 62 (trc noTr noSl) from Blk.new V4 _ _).there (Nat.le_refl 13)) (tr_info _ _) (T4.out.step C4.out).one ?_
      have XZ := Lib.hid (show Blk ((V4.alloc (.cells zTr 62)).setCells V4.heap.size 0 (trc x s).toList) V4.heap.size 62 (trc x s) from (show Blk (V4.alloc (.cells zTr 62)) V4.heap.size 62 (trc noTr noSl) from Blk.new V4 _ _).put _ rfl)
      have EA := Lib.hid (show Below V4.heap.size V4 ((V4.alloc (.cells zTr 62)).setCells V4.heap.size 0 (trc x s).toList) from Below.setCells (b := V4.heap.size) (Nat.le_refl _) (trc x s).toList 0 _ (Joins.below_alloc1 V4 (.cells zTr 62)))
      have B5 := Lib.hid (stepB (stepB B3.out C4.out) EA.out)
      have M5 := Lib.hid ((M3.out.here C4.out).here EA.out)
      generalize (V4.alloc (.cells zTr 62)).setCells V4.heap.size 0 (trc x s).toList = V5 at XZ EA B5 M5 ⊢
      generalize V4.heap.size = bt at XZ EA ⊢))
 have HB5 := Lib.hid B5.out.size
 go_wp2_with (first
   | (refine wpList_load_row rfl 62 (.tmp 7) rfl bt rfl 62 (trc x s) (0, 0) _ XZ.out Tryz.underlying62 rfl (tr_info _ _) ?_)
   | (have _t := TOK2; refine wpList_load_row_g (by rfl) 45 (.tmp 3) rfl bm rfl 45 (mc m) (0, 0) _ M5.out Tryz.underlying45 rfl HI.out ?_; clear _t TOK2)
   | (go_at_call 61; refine (HCC.out _ (HM.out.step B5.out) (HT.out.step B5.out)).mono ?_; rintro e V6 ⟨u, rfl, hu, P6, hs⟩; have U6 := Lib.hid hu; have S6 := Lib.hid ((CoS.below (N := fun _ => False) HM.out B5.out).trans hs); clear hu hs))
 go_ret2
 exact ⟨_, rfl, own_less U6.out HB5.out, _, S6.out.fresh (fun k e => by simp only [or_false] at e)⟩
end
end Go.Proofs.YtadnlannbafjpaaGreat
