/- A coordinator: Commit, abort, Abort, Crash. -/
import Derived.Test.YtmfoffigmojdcaaGreatCoU
namespace Go.Proofs.YtmfoffigmojdcaaGreat
open Go.RowKit
set_option linter.unusedVariables false
set_option linter.unusedSimpArgs false

section
variable {g n : Nat} {c : Co} {P : Pt}
set_option maxRecDepth 100000 in
set_option maxHeartbeats 16000000 in
theorem commit_nil (id : Int) (w : World)  :
    Calls Tryz.prog 24 #[.pointer none, .int .i64 id] w fun e w' => e = .returned (.tuple #[.slice none 0 0, errno 1]) ∧ Below w.heap.size w w' := by
  have hn0 := fun W => run_neq_nil_nil (P := Tryz.prog) W 28 Tryz.underlying28
  have hnn := fun W => run_neq_held_nil (P := Tryz.prog) W 28 85 (.int .i64 1) Tryz.underlying28
  go_enter Tryz.func24, Tryz.ntmps24
  go_upto_region 2 with (first
    | (go_at_call 47; refine (current_nil id _).mono ?_; rintro e W1 ⟨rfl, hb⟩; have C1 := Lib.hid hb; have D1 := Lib.hid hb; clear hb)
    | (refine wpList_store_mid (by rfl) 62 (.tmp 6) (.tmp 12) (by rfl) W1.heap.size 0 (trc noTr noSl) (by rfl) (by rfl) ((show Blk (W1.alloc (.cells zTr 62)) W1.heap.size 62 (trc noTr noSl) from Blk.new W1 _ _).there (Nat.le_refl 13)) (tr_info _ _) (tr_one _ _ rfl rfl rfl rfl) ?_
       have XA := Lib.hid (show Blk ((W1.alloc (.cells zTr 62)).setCells W1.heap.size 0 (trc noTr noSl).toList) W1.heap.size 62 (trc noTr noSl) from (show Blk (W1.alloc (.cells zTr 62)) W1.heap.size 62 (trc noTr noSl) from Blk.new W1 _ _).put _ rfl)
       have EA := Lib.hid (show Below W1.heap.size W1 ((W1.alloc (.cells zTr 62)).setCells W1.heap.size 0 (trc noTr noSl).toList) from Below.setCells (b := W1.heap.size) (Nat.le_refl _) (trc noTr noSl).toList 0 _ (Joins.below_alloc1 W1 (.cells zTr 62)))
       have BA := Lib.hid (stepB C1.out EA.out)
       have EE := Lib.hid (stepB D1.out EA.out)
       have GA := Lib.hid C1.out.size
       generalize (W1.alloc (.cells zTr 62)).setCells W1.heap.size 0 (trc noTr noSl).toList = V1 at XA BA EE EA ⊢
       generalize W1.heap.size = bt at XA GA EA ⊢))
  go_wp2_with fail
  go_ret2
  exact ⟨rfl, BA.out⟩
set_option maxRecDepth 100000 in
set_option maxHeartbeats 16000000 in
theorem commit_may (id : Int) (w : World) (h : CoM w g n c P) (r : Int) (hr : mayL n c.cl id = r) (h0 : r ≠ 0) :
    Calls Tryz.prog 24 #[.pointer (some ⟨g, 0, none⟩), .int .i64 id] w fun e w' => e = .returned (.tuple #[.slice none 0 0, errV r]) ∧ Below w.heap.size w w' := by
  have hn0 := fun W => run_neq_nil_nil (P := Tryz.prog) W 28 Tryz.underlying28
  have hnn := fun W => run_neq_held_nil (P := Tryz.prog) W 28 85 (.int .i64 r) Tryz.underlying28
  have HM := Lib.hid h
  have HR := Lib.hid hr
  have H0 := Lib.hid h0
  have EV := Lib.hid (errV_pos h0)
  rw [EV.out]
  clear h hr h0
  go_enter Tryz.func24, Tryz.ntmps24
  go_upto_region 2 with (first
    | (go_at_call 47; refine (current_may id _ HM.out r HR.out H0.out).mono ?_; rintro e W1 ⟨rfl, hb⟩; rw [EV.out]; have C1 := Lib.hid hb; have D1 := Lib.hid hb; clear hb)
    | (refine wpList_store_mid (by rfl) 62 (.tmp 6) (.tmp 12) (by rfl) W1.heap.size 0 (trc noTr noSl) (by rfl) (by rfl) ((show Blk (W1.alloc (.cells zTr 62)) W1.heap.size 62 (trc noTr noSl) from Blk.new W1 _ _).there (Nat.le_refl 13)) (tr_info _ _) (tr_one _ _ rfl rfl rfl rfl) ?_
       have XA := Lib.hid (show Blk ((W1.alloc (.cells zTr 62)).setCells W1.heap.size 0 (trc noTr noSl).toList) W1.heap.size 62 (trc noTr noSl) from (show Blk (W1.alloc (.cells zTr 62)) W1.heap.size 62 (trc noTr noSl) from Blk.new W1 _ _).put _ rfl)
       have EA := Lib.hid (show Below W1.heap.size W1 ((W1.alloc (.cells zTr 62)).setCells W1.heap.size 0 (trc noTr noSl).toList) from Below.setCells (b := W1.heap.size) (Nat.le_refl _) (trc noTr noSl).toList 0 _ (Joins.below_alloc1 W1 (.cells zTr 62)))
       have BA := Lib.hid (stepB C1.out EA.out)
       have EE := Lib.hid (stepB D1.out EA.out)
       have GA := Lib.hid C1.out.size
       generalize (W1.alloc (.cells zTr 62)).setCells W1.heap.size 0 (trc noTr noSl).toList = V1 at XA BA EE EA ⊢
       generalize W1.heap.size = bt at XA GA EA ⊢))
  go_wp2_with fail
  go_ret2
  exact ⟨rfl, BA.out⟩
set_option maxRecDepth 100000 in
set_option maxHeartbeats 16000000 in
theorem commit_now (id : Int) (w : World) (h : CoM w g n c P) (hr : mayL n c.cl id = 0) (h0 : nowL n c.cl id = 0) :
    Calls Tryz.prog 24 #[.pointer (some ⟨g, 0, none⟩), .int .i64 id] w fun e w' => e = .returned (.tuple #[.slice none 0 0, errno 10]) ∧ Below w.heap.size w w' := by
  have hn0 := fun W => run_neq_nil_nil (P := Tryz.prog) W 28 Tryz.underlying28
  have hnn := fun W => run_neq_held_nil (P := Tryz.prog) W 28 85 (.int .i64 10) Tryz.underlying28
  have HM := Lib.hid h
  have HR := Lib.hid hr
  have H0 := Lib.hid h0
  clear h hr h0
  go_enter Tryz.func24, Tryz.ntmps24
  go_upto_region 2 with (first
    | (go_at_call 47; refine (current_now id _ HM.out HR.out H0.out).mono ?_; rintro e W1 ⟨rfl, hb⟩; have C1 := Lib.hid hb; have D1 := Lib.hid hb; clear hb)
    | (refine wpList_store_mid (by rfl) 62 (.tmp 6) (.tmp 12) (by rfl) W1.heap.size 0 (trc noTr noSl) (by rfl) (by rfl) ((show Blk (W1.alloc (.cells zTr 62)) W1.heap.size 62 (trc noTr noSl) from Blk.new W1 _ _).there (Nat.le_refl 13)) (tr_info _ _) (tr_one _ _ rfl rfl rfl rfl) ?_
       have XA := Lib.hid (show Blk ((W1.alloc (.cells zTr 62)).setCells W1.heap.size 0 (trc noTr noSl).toList) W1.heap.size 62 (trc noTr noSl) from (show Blk (W1.alloc (.cells zTr 62)) W1.heap.size 62 (trc noTr noSl) from Blk.new W1 _ _).put _ rfl)
       have EA := Lib.hid (show Below W1.heap.size W1 ((W1.alloc (.cells zTr 62)).setCells W1.heap.size 0 (trc noTr noSl).toList) from Below.setCells (b := W1.heap.size) (Nat.le_refl _) (trc noTr noSl).toList 0 _ (Joins.below_alloc1 W1 (.cells zTr 62)))
       have BA := Lib.hid (stepB C1.out EA.out)
       have EE := Lib.hid (stepB D1.out EA.out)
       have GA := Lib.hid C1.out.size
       generalize (W1.alloc (.cells zTr 62)).setCells W1.heap.size 0 (trc noTr noSl).toList = V1 at XA BA EE EA ⊢
       generalize W1.heap.size = bt at XA GA EA ⊢))
  go_wp2_with fail
  go_ret2
  exact ⟨rfl, BA.out⟩
set_option maxRecDepth 100000 in
set_option maxHeartbeats 16000000 in
theorem abrt_nil (id : Int) (w : World)  :
    Calls Tryz.prog 25 #[.pointer none, .int .i64 id] w fun e w' => e = .returned (.tuple #[.slice none 0 0, errno 1]) ∧ Below w.heap.size w w' := by
  have hn0 := fun W => run_neq_nil_nil (P := Tryz.prog) W 28 Tryz.underlying28
  have hnn := fun W => run_neq_held_nil (P := Tryz.prog) W 28 85 (.int .i64 1) Tryz.underlying28
  go_enter Tryz.func25, Tryz.ntmps25
  go_upto_region 2 with (first
    | (go_at_call 47; refine (current_nil id _).mono ?_; rintro e W1 ⟨rfl, hb⟩; have C1 := Lib.hid hb; have D1 := Lib.hid hb; clear hb)
    | (refine wpList_store_mid (by rfl) 62 (.tmp 6) (.tmp 12) (by rfl) W1.heap.size 0 (trc noTr noSl) (by rfl) (by rfl) ((show Blk (W1.alloc (.cells zTr 62)) W1.heap.size 62 (trc noTr noSl) from Blk.new W1 _ _).there (Nat.le_refl 13)) (tr_info _ _) (tr_one _ _ rfl rfl rfl rfl) ?_
       have XA := Lib.hid (show Blk ((W1.alloc (.cells zTr 62)).setCells W1.heap.size 0 (trc noTr noSl).toList) W1.heap.size 62 (trc noTr noSl) from (show Blk (W1.alloc (.cells zTr 62)) W1.heap.size 62 (trc noTr noSl) from Blk.new W1 _ _).put _ rfl)
       have EA := Lib.hid (show Below W1.heap.size W1 ((W1.alloc (.cells zTr 62)).setCells W1.heap.size 0 (trc noTr noSl).toList) from Below.setCells (b := W1.heap.size) (Nat.le_refl _) (trc noTr noSl).toList 0 _ (Joins.below_alloc1 W1 (.cells zTr 62)))
       have BA := Lib.hid (stepB C1.out EA.out)
       have EE := Lib.hid (stepB D1.out EA.out)
       have GA := Lib.hid C1.out.size
       generalize (W1.alloc (.cells zTr 62)).setCells W1.heap.size 0 (trc noTr noSl).toList = V1 at XA BA EE EA ⊢
       generalize W1.heap.size = bt at XA GA EA ⊢))
  go_wp2_with fail
  go_ret2
  exact ⟨rfl, BA.out⟩
set_option maxRecDepth 100000 in
set_option maxHeartbeats 16000000 in
theorem abrt_may (id : Int) (w : World) (h : CoM w g n c P) (r : Int) (hr : mayL n c.cl id = r) (h0 : r ≠ 0) :
    Calls Tryz.prog 25 #[.pointer (some ⟨g, 0, none⟩), .int .i64 id] w fun e w' => e = .returned (.tuple #[.slice none 0 0, errV r]) ∧ Below w.heap.size w w' := by
  have hn0 := fun W => run_neq_nil_nil (P := Tryz.prog) W 28 Tryz.underlying28
  have hnn := fun W => run_neq_held_nil (P := Tryz.prog) W 28 85 (.int .i64 r) Tryz.underlying28
  have HM := Lib.hid h
  have HR := Lib.hid hr
  have H0 := Lib.hid h0
  have EV := Lib.hid (errV_pos h0)
  rw [EV.out]
  clear h hr h0
  go_enter Tryz.func25, Tryz.ntmps25
  go_upto_region 2 with (first
    | (go_at_call 47; refine (current_may id _ HM.out r HR.out H0.out).mono ?_; rintro e W1 ⟨rfl, hb⟩; rw [EV.out]; have C1 := Lib.hid hb; have D1 := Lib.hid hb; clear hb)
    | (refine wpList_store_mid (by rfl) 62 (.tmp 6) (.tmp 12) (by rfl) W1.heap.size 0 (trc noTr noSl) (by rfl) (by rfl) ((show Blk (W1.alloc (.cells zTr 62)) W1.heap.size 62 (trc noTr noSl) from Blk.new W1 _ _).there (Nat.le_refl 13)) (tr_info _ _) (tr_one _ _ rfl rfl rfl rfl) ?_
       have XA := Lib.hid (show Blk ((W1.alloc (.cells zTr 62)).setCells W1.heap.size 0 (trc noTr noSl).toList) W1.heap.size 62 (trc noTr noSl) from (show Blk (W1.alloc (.cells zTr 62)) W1.heap.size 62 (trc noTr noSl) from Blk.new W1 _ _).put _ rfl)
       have EA := Lib.hid (show Below W1.heap.size W1 ((W1.alloc (.cells zTr 62)).setCells W1.heap.size 0 (trc noTr noSl).toList) from Below.setCells (b := W1.heap.size) (Nat.le_refl _) (trc noTr noSl).toList 0 _ (Joins.below_alloc1 W1 (.cells zTr 62)))
       have BA := Lib.hid (stepB C1.out EA.out)
       have EE := Lib.hid (stepB D1.out EA.out)
       have GA := Lib.hid C1.out.size
       generalize (W1.alloc (.cells zTr 62)).setCells W1.heap.size 0 (trc noTr noSl).toList = V1 at XA BA EE EA ⊢
       generalize W1.heap.size = bt at XA GA EA ⊢))
  go_wp2_with fail
  go_ret2
  exact ⟨rfl, BA.out⟩
set_option maxRecDepth 100000 in
set_option maxHeartbeats 16000000 in
theorem abrt_now (id : Int) (w : World) (h : CoM w g n c P) (hr : mayL n c.cl id = 0) (h0 : nowL n c.cl id = 0) :
    Calls Tryz.prog 25 #[.pointer (some ⟨g, 0, none⟩), .int .i64 id] w fun e w' => e = .returned (.tuple #[.slice none 0 0, errno 10]) ∧ Below w.heap.size w w' := by
  have hn0 := fun W => run_neq_nil_nil (P := Tryz.prog) W 28 Tryz.underlying28
  have hnn := fun W => run_neq_held_nil (P := Tryz.prog) W 28 85 (.int .i64 10) Tryz.underlying28
  have HM := Lib.hid h
  have HR := Lib.hid hr
  have H0 := Lib.hid h0
  clear h hr h0
  go_enter Tryz.func25, Tryz.ntmps25
  go_upto_region 2 with (first
    | (go_at_call 47; refine (current_now id _ HM.out HR.out H0.out).mono ?_; rintro e W1 ⟨rfl, hb⟩; have C1 := Lib.hid hb; have D1 := Lib.hid hb; clear hb)
    | (refine wpList_store_mid (by rfl) 62 (.tmp 6) (.tmp 12) (by rfl) W1.heap.size 0 (trc noTr noSl) (by rfl) (by rfl) ((show Blk (W1.alloc (.cells zTr 62)) W1.heap.size 62 (trc noTr noSl) from Blk.new W1 _ _).there (Nat.le_refl 13)) (tr_info _ _) (tr_one _ _ rfl rfl rfl rfl) ?_
       have XA := Lib.hid (show Blk ((W1.alloc (.cells zTr 62)).setCells W1.heap.size 0 (trc noTr noSl).toList) W1.heap.size 62 (trc noTr noSl) from (show Blk (W1.alloc (.cells zTr 62)) W1.heap.size 62 (trc noTr noSl) from Blk.new W1 _ _).put _ rfl)
       have EA := Lib.hid (show Below W1.heap.size W1 ((W1.alloc (.cells zTr 62)).setCells W1.heap.size 0 (trc noTr noSl).toList) from Below.setCells (b := W1.heap.size) (Nat.le_refl _) (trc noTr noSl).toList 0 _ (Joins.below_alloc1 W1 (.cells zTr 62)))
       have BA := Lib.hid (stepB C1.out EA.out)
       have EE := Lib.hid (stepB D1.out EA.out)
       have GA := Lib.hid C1.out.size
       generalize (W1.alloc (.cells zTr 62)).setCells W1.heap.size 0 (trc noTr noSl).toList = V1 at XA BA EE EA ⊢
       generalize W1.heap.size = bt at XA GA EA ⊢))
  go_wp2_with fail
  go_ret2
  exact ⟨rfl, BA.out⟩
set_option maxRecDepth 100000 in
set_option maxHeartbeats 16000000 in
theorem commit_err (id : Int) (w : World) (h : CoM w g n c P) (hr : mayL n c.cl id = 0) (i : Nat) (h0 : nowL n c.cl id = (i : Int) + 1) (hi : i < P.L.length) (hl : P.L.length ≤ 1000) (x : Tr) (s : Sl) (hq : P.L[i] = (x, s)) (hS : Short x) (hT : Shs x.tch) (hV : Shs x.vts) (y : Tr) (ms : List (List Int)) (cd : Int) (hcd : cd ≠ 0) (hy : finL x = (y, ms, cd)) :
    Calls Tryz.prog 24 #[.pointer (some ⟨g, 0, none⟩), .int .i64 id] w fun e w' => e = .returned (.tuple #[.slice none 0 0, errno cd]) ∧ Below w.heap.size w w' := by
  have hn0 := fun W => run_neq_nil_nil (P := Tryz.prog) W 28 Tryz.underlying28
  have HM := Lib.hid h
  have HR := Lib.hid hr
  have H0 := Lib.hid h0
  have HI := Lib.hid hi
  have HQ := Lib.hid hq
  have HT := Lib.hid (show Tm w 0 x s from by have := h.r.sls _ (List.getElem_mem hi); rw [hq] at this; exact this)
  have HTU := Lib.hid (fun k (hk : P.tur g k) => h.lt (k := k) (.inl hk))
  have HL := Lib.hid hl
  clear hr h0 hq hl
  have HS := Lib.hid hS
  have HTC := Lib.hid hT
  have HVC := Lib.hid hV
  have HY := Lib.hid hy
  have HCD := Lib.hid hcd
  have EV := Lib.hid (errV_pos hcd)
  clear h hS hT hV hy hcd
  go_enter Tryz.func24, Tryz.ntmps24
  go_upto_region 2 with (first
    | (go_at_call 47; refine (current_ok id _ HM.out HR.out i H0.out HI.out (by have := HL.out; omega) (x, s) HQ.out).mono ?_; rintro e W1 ⟨rfl, hb⟩; rw [show ((x, s) : Tr × Sl).1 = x from rfl, show ((x, s) : Tr × Sl).2 = s from rfl]; have C1 := Lib.hid hb; have D1 := Lib.hid hb; clear hb)
    | (refine wpList_store_mid (by rfl) 62 (.tmp 6) (.tmp 12) (by rfl) W1.heap.size 0 (trc x s) (by rfl) (by rfl) ((show Blk (W1.alloc (.cells zTr 62)) W1.heap.size 62 (trc noTr noSl) from Blk.new W1 _ _).there (Nat.le_refl 13)) (tr_info _ _) (HT.out.step C1.out).one ?_
       have XA := Lib.hid (show Blk ((W1.alloc (.cells zTr 62)).setCells W1.heap.size 0 (trc x s).toList) W1.heap.size 62 (trc x s) from (show Blk (W1.alloc (.cells zTr 62)) W1.heap.size 62 (trc noTr noSl) from Blk.new W1 _ _).put _ rfl)
       have EA := Lib.hid (show Below W1.heap.size W1 ((W1.alloc (.cells zTr 62)).setCells W1.heap.size 0 (trc x s).toList) from Below.setCells (b := W1.heap.size) (Nat.le_refl _) (trc x s).toList 0 _ (Joins.below_alloc1 W1 (.cells zTr 62)))
       have BA := Lib.hid (stepB C1.out EA.out)
       have EE := Lib.hid (stepB D1.out EA.out)
       have GA := Lib.hid C1.out.size
       generalize (W1.alloc (.cells zTr 62)).setCells W1.heap.size 0 (trc x s).toList = V1 at XA BA EE EA ⊢
       generalize W1.heap.size = bt at XA GA EA ⊢))
  go_wp2_with (first
    | (refine wpList_load_row rfl 62 (.tmp 6) rfl bt rfl 62 (trc x s) (0, 0) _ XA.out Tryz.underlying62 rfl (tr_info _ _) ?_)
    | (go_at_call 51; refine (finish_any x s _ (HT.out.step BA.out) HS.out HTC.out HVC.out).mono ?_; rw [HY.out]; rintro e V4 ⟨s2, u, rfl, ht2, hu2, hb2⟩; have T4 := Lib.hid ht2; have U4 := Lib.hid hu2; have B4 := Lib.hid hb2; have H4 := Lib.hid ((HM.out.step BA.out).step hb2); clear ht2 hu2 hb2)
    | (go_at_call 49; refine (becomes_err (g := g) y s2 u cd _ HCD.out).mono ?_; rintro e V5 ⟨rfl, hb⟩; have B5 := Lib.hid (stepB (stepB BA.out B4.out) hb); rw [EV.out]; clear hb))
  go_ret2
  exact ⟨rfl, B5.out⟩
theorem fin_ok {x y : Tr} {ms : List (List Int)} (h : finL x = (y, ms, 0)) : y.tx = x.tx ∧ (y.st = 2 ∨ y.st = 3) ∧ x.st = 1 := by
  unfold finL at h
  split at h; · injection h with _ h; injection h with _ h; cases h
  split at h; · injection h with _ h; injection h with _ h; cases h
  rename_i h1 h2
  have h1 : x.st = 1 := by omega
  injection h with h _
  subst h
  refine ⟨?_, ?_, h1⟩
  · unfold goOnL; split; rfl; split <;> rfl
  · unfold goOnL
    split
    · exact .inl rfl
    · rename_i h3
      have hn : x.tch = [] := Decidable.byContradiction fun e => h3 ⟨h1, e⟩
      split
      · rename_i h4; exact absurd (by rw [hn]; rfl) h4
      · exact .inr rfl
set_option maxRecDepth 100000 in
set_option maxHeartbeats 16000000 in
theorem commit_ok (id : Int) (w : World) (h : CoM w g n c P) (hr : mayL n c.cl id = 0) (i : Nat) (h0 : nowL n c.cl id = (i : Int) + 1) (hi : i < P.L.length) (hl : P.L.length ≤ 1000) (x : Tr) (s : Sl) (hq : P.L[i] = (x, s)) (hS : Short x) (hT : Shs x.tch) (hV : Shs x.vts) (y : Tr) (ms : List (List Int)) (hx : x.tx = (i : Int) + 1) (hev : c.ev.length ≤ 90000) (hy : finL x = (y, ms, 0)) (c' : Co) (code : Int) (hbl : becL c y i = (c', code)) :
    Calls Tryz.prog 24 #[.pointer (some ⟨g, 0, none⟩), .int .i64 id] w fun e w' => ∃ u, e = .returned (.tuple #[u, errV code]) ∧ MsgR w' w.heap.size u ms ∧ ∃ P', CoS w w' g n P (fun _ => False) c' P' := by
  have hn0 := fun W => run_neq_nil_nil (P := Tryz.prog) W 28 Tryz.underlying28
  have HM := Lib.hid h
  have HR := Lib.hid hr
  have H0 := Lib.hid h0
  have HI := Lib.hid hi
  have HQ := Lib.hid hq
  have HT := Lib.hid (show Tm w 0 x s from by have := h.r.sls _ (List.getElem_mem hi); rw [hq] at this; exact this)
  have HTU := Lib.hid (fun k (hk : P.tur g k) => h.lt (k := k) (.inl hk))
  have HL := Lib.hid hl
  clear hr h0 hq hl
  have HS := Lib.hid hS
  have HTC := Lib.hid hT
  have HVC := Lib.hid hV
  have HY := Lib.hid hy
  have HEV := Lib.hid hev
  have HBL := Lib.hid hbl
  have HFO := Lib.hid (fin_ok hy)
  have HYX := Lib.hid (HFO.out.1.trans hx)
  have HYS := Lib.hid (show 1 ≤ y.st ∧ y.st ≤ 4 from by have := HFO.out.2.1; omega)
  have HY1 := Lib.hid (show y.st ≠ 1 from by have := HFO.out.2.1; omega)
  clear h hS hT hV hy hx hev hbl
  go_enter Tryz.func24, Tryz.ntmps24
  go_upto_region 2 with (first
    | (go_at_call 47; refine (current_ok id _ HM.out HR.out i H0.out HI.out (by have := HL.out; omega) (x, s) HQ.out).mono ?_; rintro e W1 ⟨rfl, hb⟩; rw [show ((x, s) : Tr × Sl).1 = x from rfl, show ((x, s) : Tr × Sl).2 = s from rfl]; have C1 := Lib.hid hb; have D1 := Lib.hid hb; clear hb)
    | (refine wpList_store_mid (by rfl) 62 (.tmp 6) (.tmp 12) (by rfl) W1.heap.size 0 (trc x s) (by rfl) (by rfl) ((show Blk (W1.alloc (.cells zTr 62)) W1.heap.size 62 (trc noTr noSl) from Blk.new W1 _ _).there (Nat.le_refl 13)) (tr_info _ _) (HT.out.step C1.out).one ?_
       have XA := Lib.hid (show Blk ((W1.alloc (.cells zTr 62)).setCells W1.heap.size 0 (trc x s).toList) W1.heap.size 62 (trc x s) from (show Blk (W1.alloc (.cells zTr 62)) W1.heap.size 62 (trc noTr noSl) from Blk.new W1 _ _).put _ rfl)
       have EA := Lib.hid (show Below W1.heap.size W1 ((W1.alloc (.cells zTr 62)).setCells W1.heap.size 0 (trc x s).toList) from Below.setCells (b := W1.heap.size) (Nat.le_refl _) (trc x s).toList 0 _ (Joins.below_alloc1 W1 (.cells zTr 62)))
       have BA := Lib.hid (stepB C1.out EA.out)
       have EE := Lib.hid (stepB D1.out EA.out)
       have GA := Lib.hid C1.out.size
       generalize (W1.alloc (.cells zTr 62)).setCells W1.heap.size 0 (trc x s).toList = V1 at XA BA EE EA ⊢
       generalize W1.heap.size = bt at XA GA EA ⊢))
  go_wp2_with (first
    | (refine wpList_load_row rfl 62 (.tmp 6) rfl bt rfl 62 (trc x s) (0, 0) _ XA.out Tryz.underlying62 rfl (tr_info _ _) ?_)
    | (go_at_call 51; refine (finish_any x s _ (HT.out.step BA.out) HS.out HTC.out HVC.out).mono ?_; rw [HY.out]; rintro e V4 ⟨s2, u, rfl, ht2, hu2, hb2⟩; have T4 := Lib.hid ht2; have U4 := Lib.hid hu2; have B4 := Lib.hid hb2; have H4 := Lib.hid ((HM.out.step BA.out).step hb2); clear ht2 hu2 hb2)
    | (go_at_call 49
       rw [errV_zero]
       refine (becomes_any y s2 u i _ H4.out (T4.out.less (Nat.zero_le _)) (fun k hk hs => by have h1 := (SlB.lt T4.out hs).1; have h2 := HTU.out k (.inr (.inr (.inr (.inl hk)))); have h3 := BA.out.size; omega) HI.out (by have := HL.out; omega) (by have := HEV.out; omega) HYX.out HYS.out (fun e => by have := HY1.out; omega) c' code HBL.out).mono ?_
       rintro e V5 ⟨rfl, P5, hs5⟩
       have S5 := Lib.hid (((CoS.below (N := fun _ => False) HM.out (stepB BA.out B4.out)).trans hs5).fresh (N' := fun _ => False) (fun k e => by
         rcases e with e | e
         · exact e.elim
         · have h1 := (SlB.lt T4.out e).1; have h3 := BA.out.size; exact .inr (.inl (by omega))))
       have U5 := Lib.hid (own_offM U4.out H4.out hs5.turn (by decide) (by decide) (by decide) (by decide) (by decide))
       clear hs5))
  go_ret2
  exact ⟨_, rfl, own_less U5.out BA.out.size, _, S5.out⟩
set_option maxRecDepth 100000 in
set_option maxHeartbeats 16000000 in
theorem abortC_err (x : Tr) (s : Sl) (r : Int) (w : World) (h : CoM w g n c P) (hT : Tm w 0 x s) (hS : Short x) (y : Tr) (ms : List (List Int)) (cd : Int) (hcd : cd ≠ 0) (hy : abtL x r = (y, ms, cd)) :
    Calls Tryz.prog 52 #[.pointer (some ⟨g, 0, none⟩), .agg (trc x s), .int .i64 r] w fun e w' => e = .returned (.slice none 0 0) ∧ Below w.heap.size w w' := by
  have X1 := Lib.hid (show Blk (w.alloc (.cells (trc x s) 62)) w.heap.size 62 (trc x s) from Blk.new w _ _)
  have B1 := Lib.hid (Joins.below_alloc1 w (.cells (trc x s) 62))
  have HM := Lib.hid h
  have HT := Lib.hid hT
  have HS := Lib.hid hS
  have HTU := Lib.hid (fun k (hk : P.tur g k) => h.lt (k := k) (.inl hk))
  have HY := Lib.hid hy
  have HCD := Lib.hid hcd
  have EV := Lib.hid (errV_pos hcd)
  clear h hT hS hy hcd
  go_enter Tryz.func52, Tryz.ntmps52
  go_upto_region 1 with fail
  generalize w.heap.size = bt at X1 ⊢
  generalize w.alloc (.cells (trc x s) 62) = V at X1 B1 ⊢
  have BA := B1
  have HBA := Lib.hid BA.out.size
  go_wp2_with (first
    | (refine wpList_load_row rfl 62 (.tmp 4) rfl bt rfl 62 (trc x s) (0, 0) _ X1.out Tryz.underlying62 rfl (tr_info _ _) ?_)
    | (go_at_call 96; refine (abort_any x s r _ (HT.out.step BA.out) HS.out).mono ?_; rw [HY.out]; rintro e V4 ⟨s2, u, rfl, ht2, hu2, hb2⟩; have T4 := Lib.hid ht2; have U4 := Lib.hid hu2; have B4 := Lib.hid hb2; have H4 := Lib.hid ((HM.out.step BA.out).step hb2); clear ht2 hu2 hb2)
    | (go_at_call 49; refine (becomes_err (g := g) y s2 u cd _ HCD.out).mono ?_; rintro e V5 ⟨rfl, hb⟩; have B5 := Lib.hid (stepB (stepB BA.out B4.out) hb); rw [EV.out]; clear hb))
  go_ret
  exact ⟨rfl, B5.out⟩
theorem abt_ok {x y : Tr} {r : Int} {ms : List (List Int)} (h : abtL x r = (y, ms, 0)) : y.tx = x.tx ∧ y.st = 4 := by
  unfold abtL at h
  split at h; · injection h with _ h; injection h with _ h; cases h
  split at h; · injection h with _ h; injection h with _ h; cases h
  injection h with h _
  subst h
  exact ⟨rfl, rfl⟩
set_option maxRecDepth 100000 in
set_option maxHeartbeats 16000000 in
theorem abortC_ok (x : Tr) (s : Sl) (r : Int) (w : World) (h : CoM w g n c P) (hT : Tm w 0 x s) (hS : Short x) (y : Tr) (ms : List (List Int)) (i : Nat) (hi : i < P.L.length) (hl : P.L.length ≤ 1000) (hx : x.tx = (i : Int) + 1) (hev : c.ev.length ≤ 90000) (hy : abtL x r = (y, ms, 0)) (c' : Co) (code : Int) (hbl : becL c y i = (c', code)) :
    Calls Tryz.prog 52 #[.pointer (some ⟨g, 0, none⟩), .agg (trc x s), .int .i64 r] w fun e w' => ∃ u, e = .returned u ∧ MsgR w' w.heap.size u ms ∧ ∃ P', CoS w w' g n P (fun _ => False) c' P' := by
  have X1 := Lib.hid (show Blk (w.alloc (.cells (trc x s) 62)) w.heap.size 62 (trc x s) from Blk.new w _ _)
  have B1 := Lib.hid (Joins.below_alloc1 w (.cells (trc x s) 62))
  have HM := Lib.hid h
  have HT := Lib.hid hT
  have HS := Lib.hid hS
  have HTU := Lib.hid (fun k (hk : P.tur g k) => h.lt (k := k) (.inl hk))
  have HY := Lib.hid hy
  have HI := Lib.hid hi
  have HL := Lib.hid hl
  have HEV := Lib.hid hev
  have HBL := Lib.hid hbl
  have HYX := Lib.hid ((abt_ok hy).1.trans hx)
  have HYS := Lib.hid (show 1 ≤ y.st ∧ y.st ≤ 4 from by have := (abt_ok hy).2; omega)
  have HY1 := Lib.hid (show y.st ≠ 1 from by have := (abt_ok hy).2; omega)
  clear h hT hS hy hi hl hx hev hbl
  go_enter Tryz.func52, Tryz.ntmps52
  go_upto_region 1 with fail
  generalize w.heap.size = bt at X1 ⊢
  generalize w.alloc (.cells (trc x s) 62) = V at X1 B1 ⊢
  have BA := B1
  have HBA := Lib.hid BA.out.size
  go_wp2_with (first
    | (refine wpList_load_row rfl 62 (.tmp 4) rfl bt rfl 62 (trc x s) (0, 0) _ X1.out Tryz.underlying62 rfl (tr_info _ _) ?_)
    | (go_at_call 96; refine (abort_any x s r _ (HT.out.step BA.out) HS.out).mono ?_; rw [HY.out]; rintro e V4 ⟨s2, u, rfl, ht2, hu2, hb2⟩; have T4 := Lib.hid ht2; have U4 := Lib.hid hu2; have B4 := Lib.hid hb2; have H4 := Lib.hid ((HM.out.step BA.out).step hb2); clear ht2 hu2 hb2)
    | (go_at_call 49
       rw [errV_zero]
       refine (becomes_any y s2 u i _ H4.out (T4.out.less (Nat.zero_le _)) (fun k hk hs => by have h1 := (SlB.lt T4.out hs).1; have h2 := HTU.out k (.inr (.inr (.inr (.inl hk)))); have h3 := BA.out.size; omega) HI.out (by have := HL.out; omega) (by have := HEV.out; omega) HYX.out HYS.out (fun e => by have := HY1.out; omega) c' code HBL.out).mono ?_
       rintro e V5 ⟨rfl, P5, hs5⟩
       have S5 := Lib.hid (((CoS.below (N := fun _ => False) HM.out (stepB BA.out B4.out)).trans hs5).fresh (N' := fun _ => False) (fun k e => by
         rcases e with e | e
         · exact e.elim
         · have h1 := (SlB.lt T4.out e).1; have h3 := BA.out.size; exact .inr (.inl (by omega))))
       have U5 := Lib.hid (own_offM U4.out H4.out hs5.turn (by decide) (by decide) (by decide) (by decide) (by decide))
       clear hs5))
  go_ret
  exact ⟨_, rfl, own_less U5.out BA.out.size, _, S5.out⟩
set_option maxRecDepth 100000 in
set_option maxHeartbeats 16000000 in
theorem abrt_state (id : Int) (w : World) (h : CoM w g n c P) (hr : mayL n c.cl id = 0) (i : Nat) (h0 : nowL n c.cl id = (i : Int) + 1) (hi : i < P.L.length) (hl : P.L.length ≤ 1000) (x : Tr) (s : Sl) (hq : P.L[i] = (x, s)) (hst : x.st ≠ 1) :
    Calls Tryz.prog 25 #[.pointer (some ⟨g, 0, none⟩), .int .i64 id] w fun e w' => e = .returned (.tuple #[.slice none 0 0, errno 11]) ∧ Below w.heap.size w w' := by
  have hn0 := fun W => run_neq_nil_nil (P := Tryz.prog) W 28 Tryz.underlying28
  have HM := Lib.hid h
  have HR := Lib.hid hr
  have H0 := Lib.hid h0
  have HI := Lib.hid hi
  have HQ := Lib.hid hq
  have HT := Lib.hid (show Tm w 0 x s from by have := h.r.sls _ (List.getElem_mem hi); rw [hq] at this; exact this)
  have HTU := Lib.hid (fun k (hk : P.tur g k) => h.lt (k := k) (.inl hk))
  have HL := Lib.hid hl
  clear hr h0 hq hl
  have e1 : (x.st != 1) = true := by simpa using hst
  clear h hst
  go_enter Tryz.func25, Tryz.ntmps25
  go_upto_region 2 with (first
    | (go_at_call 47; refine (current_ok id _ HM.out HR.out i H0.out HI.out (by have := HL.out; omega) (x, s) HQ.out).mono ?_; rintro e W1 ⟨rfl, hb⟩; rw [show ((x, s) : Tr × Sl).1 = x from rfl, show ((x, s) : Tr × Sl).2 = s from rfl]; have C1 := Lib.hid hb; have D1 := Lib.hid hb; clear hb)
    | (refine wpList_store_mid (by rfl) 62 (.tmp 6) (.tmp 12) (by rfl) W1.heap.size 0 (trc x s) (by rfl) (by rfl) ((show Blk (W1.alloc (.cells zTr 62)) W1.heap.size 62 (trc noTr noSl) from Blk.new W1 _ _).there (Nat.le_refl 13)) (tr_info _ _) (HT.out.step C1.out).one ?_
       have XA := Lib.hid (show Blk ((W1.alloc (.cells zTr 62)).setCells W1.heap.size 0 (trc x s).toList) W1.heap.size 62 (trc x s) from (show Blk (W1.alloc (.cells zTr 62)) W1.heap.size 62 (trc noTr noSl) from Blk.new W1 _ _).put _ rfl)
       have EA := Lib.hid (show Below W1.heap.size W1 ((W1.alloc (.cells zTr 62)).setCells W1.heap.size 0 (trc x s).toList) from Below.setCells (b := W1.heap.size) (Nat.le_refl _) (trc x s).toList 0 _ (Joins.below_alloc1 W1 (.cells zTr 62)))
       have BA := Lib.hid (stepB C1.out EA.out)
       have EE := Lib.hid (stepB D1.out EA.out)
       have GA := Lib.hid C1.out.size
       generalize (W1.alloc (.cells zTr 62)).setCells W1.heap.size 0 (trc x s).toList = V1 at XA BA EE EA ⊢
       generalize W1.heap.size = bt at XA GA EA ⊢))
  have c1 : V1.cell? ⟨bt, 1, none⟩ = some (.int .i64 x.st) := XA.out.cell 1
  go_wp2_with fail
  go_ret2
  exact ⟨rfl, BA.out⟩
set_option maxRecDepth 100000 in
set_option maxHeartbeats 16000000 in
theorem abrt_ok (id : Int) (w : World) (h : CoM w g n c P) (hr : mayL n c.cl id = 0) (i : Nat) (h0 : nowL n c.cl id = (i : Int) + 1) (hi : i < P.L.length) (hl : P.L.length ≤ 1000) (x : Tr) (s : Sl) (hq : P.L[i] = (x, s)) (hS : Short x) (hx : x.tx = (i : Int) + 1) (hev : c.ev.length ≤ 90000) (hst : x.st = 1) (y : Tr) (ms : List (List Int)) (hy : abtL x 1 = (y, ms, 0)) (c' : Co) (code : Int) (hbl : becL c y i = (c', code)) :
    Calls Tryz.prog 25 #[.pointer (some ⟨g, 0, none⟩), .int .i64 id] w fun e w' => ∃ u, e = .returned (.tuple #[u, .nilIface]) ∧ MsgR w' w.heap.size u ms ∧ ∃ P', CoS w w' g n P (fun _ => False) c' P' := by
  have hn0 := fun W => run_neq_nil_nil (P := Tryz.prog) W 28 Tryz.underlying28
  have HM := Lib.hid h
  have HR := Lib.hid hr
  have H0 := Lib.hid h0
  have HI := Lib.hid hi
  have HQ := Lib.hid hq
  have HT := Lib.hid (show Tm w 0 x s from by have := h.r.sls _ (List.getElem_mem hi); rw [hq] at this; exact this)
  have HTU := Lib.hid (fun k (hk : P.tur g k) => h.lt (k := k) (.inl hk))
  have HL := Lib.hid hl
  clear hr h0 hq hl
  have e1 : (x.st != 1) = false := by simpa using hst
  have HS := Lib.hid hS
  have HX := Lib.hid hx
  have HEV := Lib.hid hev
  have HY := Lib.hid hy
  have HBL := Lib.hid hbl
  clear h hst hS hx hev hy hbl
  go_enter Tryz.func25, Tryz.ntmps25
  go_upto_region 2 with (first
    | (go_at_call 47; refine (current_ok id _ HM.out HR.out i H0.out HI.out (by have := HL.out; omega) (x, s) HQ.out).mono ?_; rintro e W1 ⟨rfl, hb⟩; rw [show ((x, s) : Tr × Sl).1 = x from rfl, show ((x, s) : Tr × Sl).2 = s from rfl]; have C1 := Lib.hid hb; have D1 := Lib.hid hb; clear hb)
    | (refine wpList_store_mid (by rfl) 62 (.tmp 6) (.tmp 12) (by rfl) W1.heap.size 0 (trc x s) (by rfl) (by rfl) ((show Blk (W1.alloc (.cells zTr 62)) W1.heap.size 62 (trc noTr noSl) from Blk.new W1 _ _).there (Nat.le_refl 13)) (tr_info _ _) (HT.out.step C1.out).one ?_
       have XA := Lib.hid (show Blk ((W1.alloc (.cells zTr 62)).setCells W1.heap.size 0 (trc x s).toList) W1.heap.size 62 (trc x s) from (show Blk (W1.alloc (.cells zTr 62)) W1.heap.size 62 (trc noTr noSl) from Blk.new W1 _ _).put _ rfl)
       have EA := Lib.hid (show Below W1.heap.size W1 ((W1.alloc (.cells zTr 62)).setCells W1.heap.size 0 (trc x s).toList) from Below.setCells (b := W1.heap.size) (Nat.le_refl _) (trc x s).toList 0 _ (Joins.below_alloc1 W1 (.cells zTr 62)))
       have BA := Lib.hid (stepB C1.out EA.out)
       have EE := Lib.hid (stepB D1.out EA.out)
       have GA := Lib.hid C1.out.size
       generalize (W1.alloc (.cells zTr 62)).setCells W1.heap.size 0 (trc x s).toList = V1 at XA BA EE EA ⊢
       generalize W1.heap.size = bt at XA GA EA ⊢))
  have c1 : V1.cell? ⟨bt, 1, none⟩ = some (.int .i64 x.st) := XA.out.cell 1
  go_wp2_with (first
    | (refine wpList_load_row rfl 62 (.tmp 6) rfl bt rfl 62 (trc x s) (0, 0) _ XA.out Tryz.underlying62 rfl (tr_info _ _) ?_)
    | (go_at_call 52; refine (abortC_ok x s 1 _ (HM.out.step BA.out) (HT.out.step BA.out) HS.out y ms i HI.out HL.out HX.out HEV.out HY.out c' code HBL.out).mono ?_; rintro e V5 ⟨u, rfl, hu, P5, hs⟩; have U5 := Lib.hid hu; have S5 := Lib.hid (((CoS.below (N := fun _ => False) HM.out BA.out).trans hs).fresh (N' := fun _ => False) (fun k e => by simp only [or_false] at e)); clear hu hs))
  go_ret2
  exact ⟨_, rfl, own_less U5.out BA.out.size, _, S5.out⟩
set_option maxRecDepth 100000 in
set_option maxHeartbeats 8000000 in
theorem crash_nil (id : Int) (w : World) : Calls Tryz.prog 27 #[.pointer none, .int .i64 id] w fun e w' => e = .returned (errno 1) ∧ w = w' := by
  go_enter Tryz.func27, Tryz.ntmps27
  go_wp2_with fail
  go_ret
  exact ⟨rfl, rfl⟩
set_option maxRecDepth 100000 in
set_option maxHeartbeats 8000000 in
theorem crash_err (id : Int) (w : World) (h : CoM w g n c P) (cl' : List Cl) (cd : Int) (hcd : cd ≠ 0) (hk : crashL c.cl id c.tm = (cl', cd)) : Calls Tryz.prog 27 #[.pointer (some ⟨g, 0, none⟩), .int .i64 id] w fun e w' => e = .returned (errno cd) ∧ ∃ P', CoS w w' g n P (fun _ => False) { c with cl := cl' } P' := by
  have HM := Lib.hid h
  have hnn := fun W => run_neq_held_nil (P := Tryz.prog) W 28 85 (.int .i64 cd) Tryz.underlying28
  have HK := Lib.hid hk
  have EV := Lib.hid (errV_pos hcd)
  clear h hk hcd
  have KQ := Lib.hid (show ∀ Y, Turn (fun k => k = P.p) w Y → (Y.cell? ⟨g, 7, none⟩ = some (.pointer (some ⟨P.p, 0, none⟩)) ∧ Y.cell? ⟨g, 9, none⟩ = some (.int .i64 c.tm)) from fun Y hy =>
    ⟨(HM.out.box.turn hy (fun e => heap_ne HM.out.box HM.out.r.cli.box (by decide) e)).cell 7, (HM.out.box.turn hy (fun e => heap_ne HM.out.box HM.out.r.cli.box (by decide) e)).cell 9⟩)
  go_enter Tryz.func27, Tryz.ntmps27
  go_upto_region 3 with fail
  refine wp_region_held_drew (S := fun w' => w'.cell? ⟨g, 7, none⟩ = some (.pointer (some ⟨P.p, 0, none⟩)) ∧ w'.cell? ⟨g, 9, none⟩ = some (.int .i64 c.tm)) (by kernel_rfl) (KQ.out _ (Turn.refl _ _).drew) (fun hHeld => ?_)
  have BD := Lib.hid (show Below w.heap.size w w.drew from (Below.refl _ _).drew)
  have TD := Lib.hid (show Turn (fun k => k = P.p) w w.drew from (Turn.refl _ _).drew)
  generalize w.drew = V9 at BD TD hHeld ⊢
  have S9 := Lib.hid (CoS.below (N := fun _ => False) HM.out BD.out)
  refine wpAnyH_take (i := 0) (v := ?_) rfl (by kernel_rfl) (by kernel_rfl) (by kernel_rfl) (fun _ _ _ h => h) (Or.inl ⟨by rfl, ?_⟩) (by assumption) ?_
  rotate_left
  · (intro w0 hSw; (try dsimp only at hSw); go_simp; try with_reducible rfl)
  try simp only [List.getElem_toArray, List.getElem_cons_succ, List.getElem_cons_zero, Act.put, List.setIfInBounds_toArray, List.set_cons_zero, List.set_cons_succ]
  refine wpAnyH_take (i := 1) (v := ?_) rfl (by kernel_rfl) (by kernel_rfl) (by kernel_rfl) (fun _ _ _ h => h) (Or.inl ⟨by rfl, ?_⟩) (by assumption) ?_
  rotate_left
  · (intro w0 hSw; (try dsimp only at hSw); go_simp; try with_reducible rfl)
  try simp only [List.getElem_toArray, List.getElem_cons_succ, List.getElem_cons_zero, Act.put, List.setIfInBounds_toArray, List.set_cons_zero, List.set_cons_succ]
  refine wpAnyH_take (i := 2) (v := ?_) rfl (by kernel_rfl) (by kernel_rfl) (by kernel_rfl) (fun _ _ _ h => h) (Or.inl ⟨by rfl, ?_⟩) (by assumption) ?_
  rotate_left
  · (intro w0 hSw; (try dsimp only at hSw); go_simp; try with_reducible rfl)
  try simp only [List.getElem_toArray, List.getElem_cons_succ, List.getElem_cons_zero, Act.put, List.setIfInBounds_toArray, List.set_cons_zero, List.set_cons_succ]
  refine wpAnyH_take (i := 3) (v := ?_) rfl (by kernel_rfl) (by kernel_rfl) (by kernel_rfl) (fun _ _ _ h => h) (Or.inl ⟨by rfl, ?_⟩) (by assumption) ?_
  rotate_left
  · (intro w0 hSw; (try dsimp only at hSw); go_simp; try with_reducible rfl)
  try simp only [List.getElem_toArray, List.getElem_cons_succ, List.getElem_cons_zero, Act.put, List.setIfInBounds_toArray, List.set_cons_zero, List.set_cons_succ]
  refine wpAnyH_take (i := 4) (v := ?_) rfl (by kernel_rfl) (by kernel_rfl) (by kernel_rfl) (fun _ _ _ h => h) (Or.inl ⟨by rfl, ?_⟩) (by assumption) ?_
  rotate_left
  · (intro w0 hSw; (try dsimp only at hSw); go_simp; try with_reducible rfl)
  try simp only [List.getElem_toArray, List.getElem_cons_succ, List.getElem_cons_zero, Act.put, List.setIfInBounds_toArray, List.set_cons_zero, List.set_cons_succ]
  refine wpAnyH_take (i := 5) (v := ?_) rfl (by kernel_rfl) (by kernel_rfl) (by kernel_rfl) (fun _ _ _ h => h) (Or.inl ⟨by rfl, ?_⟩) (by assumption) ?_
  rotate_left
  · (intro w0 hSw; (try dsimp only at hSw); go_simp; try with_reducible rfl)
  try simp only [List.getElem_toArray, List.getElem_cons_succ, List.getElem_cons_zero, Act.put, List.setIfInBounds_toArray, List.set_cons_zero, List.set_cons_succ]
  refine wpAnyH_take (i := 6) (v := ?_) rfl (by kernel_rfl) (by kernel_rfl) (by kernel_rfl) (fun _ _ _ h => h) (Or.inl ⟨by rfl, ?_⟩) (by assumption) ?_
  rotate_left
  · (intro w0 hSw; (try dsimp only at hSw); go_simp; try with_reducible rfl)
  try simp only [List.getElem_toArray, List.getElem_cons_succ, List.getElem_cons_zero, Act.put, List.setIfInBounds_toArray, List.set_cons_zero, List.set_cons_succ]
  refine wpAnyH_take (i := 7) (v := ?_) rfl (by kernel_rfl) (by kernel_rfl) (by kernel_rfl) (fun _ _ _ h => h) (Or.inl ⟨by rfl, ?_⟩) (by assumption) ?_
  rotate_left
  · (intro w0 hSw; (try dsimp only at hSw); go_simp; try with_reducible rfl)
  try simp only [List.getElem_toArray, List.getElem_cons_succ, List.getElem_cons_zero, Act.put, List.setIfInBounds_toArray, List.set_cons_zero, List.set_cons_succ]
  refine wpAnyH_take (i := 8) (v := ?_) rfl (by kernel_rfl) (by kernel_rfl) (by kernel_rfl) (fun _ _ _ h => h) (Or.inl ⟨by rfl, ?_⟩) (by assumption) ?_
  rotate_left
  · (intro w0 hSw; (try dsimp only at hSw); go_simp; try with_reducible rfl)
  try simp only [List.getElem_toArray, List.getElem_cons_succ, List.getElem_cons_zero, Act.put, List.setIfInBounds_toArray, List.set_cons_zero, List.set_cons_succ]
  refine wpAnyH_ready (rs := [9]) (by kernel_rfl) (by simp) ?_
  refine AllReadyH.cons rfl (fun K hK => ?_) AllReadyH.nil
  go_simp
  refine (cCrash_any id c.tm _ S9.out.m.r.cli).mono ?_
  rintro e V10 ⟨rfl, hc, ht⟩
  try go_simp
  rw [HK.out] at hc
  rw [HK.out]
  have S10 := Lib.hid (S9.out.trans (CoS.cli (N := fun _ => False) S9.out.m ht hc))
  refine hK.out _ _ (KQ.out _ (TD.out.trans ht (fun _ _ e => e))) (fun hHeld => ?_)
  clear hK K ht hc
  refine wpAnyH_take (i := 10) (v := ?_) rfl (by kernel_rfl) (by kernel_rfl) (by kernel_rfl) (fun _ _ _ h => h) (Or.inl ⟨by rfl, ?_⟩) (by assumption) ?_
  rotate_left
  · (intro w0 hSw; (try dsimp only at hSw); go_simp; try with_reducible rfl)
  try simp only [List.getElem_toArray, List.getElem_cons_succ, List.getElem_cons_zero, Act.put, List.setIfInBounds_toArray, List.set_cons_zero, List.set_cons_succ]
  refine wpAnyH_done (by kernel_rfl) ?_ _
  clear hHeld
  rw [EV.out]
  go_wp2_with fail
  go_ret
  exact ⟨rfl, _, S10.out.fresh (fun k e => by simp only [or_false] at e)⟩
set_option maxRecDepth 100000 in
set_option maxHeartbeats 8000000 in
theorem crash_ok (id : Int) (w : World) (h : CoM w g n c P) (hev : c.ev.length ≤ 90000) (cl' : List Cl) (hk : crashL c.cl id c.tm = (cl', 0)) (c' : Co) (hc' : c' = { c with cl := cl', ev := c.ev ++ [[8, id, 0, 0, 0, 0, 0]] }) : Calls Tryz.prog 27 #[.pointer (some ⟨g, 0, none⟩), .int .i64 id] w fun e w' => e = .returned .nilIface ∧ ∃ P', CoS w w' g n P (fun _ => False) c' P' := by
  have HM := Lib.hid h
  have hn0 := fun W => run_neq_nil_nil (P := Tryz.prog) W 28 Tryz.underlying28
  have HK := Lib.hid hk
  have HEV := Lib.hid hev
  have HC := Lib.hid hc'
  clear h hk hev hc'
  have KQ := Lib.hid (show ∀ Y, Turn (fun k => k = P.p) w Y → (Y.cell? ⟨g, 7, none⟩ = some (.pointer (some ⟨P.p, 0, none⟩)) ∧ Y.cell? ⟨g, 9, none⟩ = some (.int .i64 c.tm)) from fun Y hy =>
    ⟨(HM.out.box.turn hy (fun e => heap_ne HM.out.box HM.out.r.cli.box (by decide) e)).cell 7, (HM.out.box.turn hy (fun e => heap_ne HM.out.box HM.out.r.cli.box (by decide) e)).cell 9⟩)
  go_enter Tryz.func27, Tryz.ntmps27
  go_upto_region 3 with fail
  refine wp_region_held_drew (S := fun w' => w'.cell? ⟨g, 7, none⟩ = some (.pointer (some ⟨P.p, 0, none⟩)) ∧ w'.cell? ⟨g, 9, none⟩ = some (.int .i64 c.tm)) (by kernel_rfl) (KQ.out _ (Turn.refl _ _).drew) (fun hHeld => ?_)
  have BD := Lib.hid (show Below w.heap.size w w.drew from (Below.refl _ _).drew)
  have TD := Lib.hid (show Turn (fun k => k = P.p) w w.drew from (Turn.refl _ _).drew)
  generalize w.drew = V9 at BD TD hHeld ⊢
  have S9 := Lib.hid (CoS.below (N := fun _ => False) HM.out BD.out)
  refine wpAnyH_take (i := 0) (v := ?_) rfl (by kernel_rfl) (by kernel_rfl) (by kernel_rfl) (fun _ _ _ h => h) (Or.inl ⟨by rfl, ?_⟩) (by assumption) ?_
  rotate_left
  · (intro w0 hSw; (try dsimp only at hSw); go_simp; try with_reducible rfl)
  try simp only [List.getElem_toArray, List.getElem_cons_succ, List.getElem_cons_zero, Act.put, List.setIfInBounds_toArray, List.set_cons_zero, List.set_cons_succ]
  refine wpAnyH_take (i := 1) (v := ?_) rfl (by kernel_rfl) (by kernel_rfl) (by kernel_rfl) (fun _ _ _ h => h) (Or.inl ⟨by rfl, ?_⟩) (by assumption) ?_
  rotate_left
  · (intro w0 hSw; (try dsimp only at hSw); go_simp; try with_reducible rfl)
  try simp only [List.getElem_toArray, List.getElem_cons_succ, List.getElem_cons_zero, Act.put, List.setIfInBounds_toArray, List.set_cons_zero, List.set_cons_succ]
  refine wpAnyH_take (i := 2) (v := ?_) rfl (by kernel_rfl) (by kernel_rfl) (by kernel_rfl) (fun _ _ _ h => h) (Or.inl ⟨by rfl, ?_⟩) (by assumption) ?_
  rotate_left
  · (intro w0 hSw; (try dsimp only at hSw); go_simp; try with_reducible rfl)
  try simp only [List.getElem_toArray, List.getElem_cons_succ, List.getElem_cons_zero, Act.put, List.setIfInBounds_toArray, List.set_cons_zero, List.set_cons_succ]
  refine wpAnyH_take (i := 3) (v := ?_) rfl (by kernel_rfl) (by kernel_rfl) (by kernel_rfl) (fun _ _ _ h => h) (Or.inl ⟨by rfl, ?_⟩) (by assumption) ?_
  rotate_left
  · (intro w0 hSw; (try dsimp only at hSw); go_simp; try with_reducible rfl)
  try simp only [List.getElem_toArray, List.getElem_cons_succ, List.getElem_cons_zero, Act.put, List.setIfInBounds_toArray, List.set_cons_zero, List.set_cons_succ]
  refine wpAnyH_take (i := 4) (v := ?_) rfl (by kernel_rfl) (by kernel_rfl) (by kernel_rfl) (fun _ _ _ h => h) (Or.inl ⟨by rfl, ?_⟩) (by assumption) ?_
  rotate_left
  · (intro w0 hSw; (try dsimp only at hSw); go_simp; try with_reducible rfl)
  try simp only [List.getElem_toArray, List.getElem_cons_succ, List.getElem_cons_zero, Act.put, List.setIfInBounds_toArray, List.set_cons_zero, List.set_cons_succ]
  refine wpAnyH_take (i := 5) (v := ?_) rfl (by kernel_rfl) (by kernel_rfl) (by kernel_rfl) (fun _ _ _ h => h) (Or.inl ⟨by rfl, ?_⟩) (by assumption) ?_
  rotate_left
  · (intro w0 hSw; (try dsimp only at hSw); go_simp; try with_reducible rfl)
  try simp only [List.getElem_toArray, List.getElem_cons_succ, List.getElem_cons_zero, Act.put, List.setIfInBounds_toArray, List.set_cons_zero, List.set_cons_succ]
  refine wpAnyH_take (i := 6) (v := ?_) rfl (by kernel_rfl) (by kernel_rfl) (by kernel_rfl) (fun _ _ _ h => h) (Or.inl ⟨by rfl, ?_⟩) (by assumption) ?_
  rotate_left
  · (intro w0 hSw; (try dsimp only at hSw); go_simp; try with_reducible rfl)
  try simp only [List.getElem_toArray, List.getElem_cons_succ, List.getElem_cons_zero, Act.put, List.setIfInBounds_toArray, List.set_cons_zero, List.set_cons_succ]
  refine wpAnyH_take (i := 7) (v := ?_) rfl (by kernel_rfl) (by kernel_rfl) (by kernel_rfl) (fun _ _ _ h => h) (Or.inl ⟨by rfl, ?_⟩) (by assumption) ?_
  rotate_left
  · (intro w0 hSw; (try dsimp only at hSw); go_simp; try with_reducible rfl)
  try simp only [List.getElem_toArray, List.getElem_cons_succ, List.getElem_cons_zero, Act.put, List.setIfInBounds_toArray, List.set_cons_zero, List.set_cons_succ]
  refine wpAnyH_take (i := 8) (v := ?_) rfl (by kernel_rfl) (by kernel_rfl) (by kernel_rfl) (fun _ _ _ h => h) (Or.inl ⟨by rfl, ?_⟩) (by assumption) ?_
  rotate_left
  · (intro w0 hSw; (try dsimp only at hSw); go_simp; try with_reducible rfl)
  try simp only [List.getElem_toArray, List.getElem_cons_succ, List.getElem_cons_zero, Act.put, List.setIfInBounds_toArray, List.set_cons_zero, List.set_cons_succ]
  refine wpAnyH_ready (rs := [9]) (by kernel_rfl) (by simp) ?_
  refine AllReadyH.cons rfl (fun K hK => ?_) AllReadyH.nil
  go_simp
  refine (cCrash_any id c.tm _ S9.out.m.r.cli).mono ?_
  rintro e V10 ⟨rfl, hc, ht⟩
  try go_simp
  rw [HK.out] at hc
  rw [HK.out]
  have S10 := Lib.hid (S9.out.trans (CoS.cli (N := fun _ => False) S9.out.m ht hc))
  refine hK.out _ _ (KQ.out _ (TD.out.trans ht (fun _ _ e => e))) (fun hHeld => ?_)
  clear hK K ht hc
  refine wpAnyH_take (i := 10) (v := ?_) rfl (by kernel_rfl) (by kernel_rfl) (by kernel_rfl) (fun _ _ _ h => h) (Or.inl ⟨by rfl, ?_⟩) (by assumption) ?_
  rotate_left
  · (intro w0 hSw; (try dsimp only at hSw); go_simp; try with_reducible rfl)
  try simp only [List.getElem_toArray, List.getElem_cons_succ, List.getElem_cons_zero, Act.put, List.setIfInBounds_toArray, List.set_cons_zero, List.set_cons_succ]
  refine wpAnyH_done (by kernel_rfl) ?_ _
  clear hHeld
  rw [errV_zero]
  go_wp2_with (go_at_call 46; refine (note_any 8 id 0 0 0 0 0 _ S10.out.m (by have := HEV.out; show c.ev.length ≤ 100000; omega) _ rfl).mono ?_; rintro e V11 ⟨rfl, ve', hs⟩; have S11 := Lib.hid (S10.out.trans hs); clear hs)
  go_ret
  exact ⟨rfl, _, by rw [HC.out]; exact S11.out.fresh (fun k e => by simp only [or_false] at e)⟩
set_option maxRecDepth 100000 in
set_option maxHeartbeats 8000000 in
theorem handle_nil (m : List Int) (w : World) : Calls Tryz.prog 26 #[.pointer none, .agg (mc m)] w fun e w' => e = .returned (.tuple #[.slice none 0 0, errno 1]) ∧ Below w.heap.size w w' := by
  have B1 := Lib.hid (Joins.below_alloc1 w (.cells (mc m) 45))
  go_enter Tryz.func26, Tryz.ntmps26
  go_wp2_with fail
  go_ret2
  exact ⟨rfl, B1.out⟩
set_option maxRecDepth 100000 in
set_option maxHeartbeats 8000000 in
theorem tick_nil (w : World) : Calls Tryz.prog 28 #[.pointer none] w fun e w' => e = .returned (.slice none 0 0) ∧ w = w' := by
  go_enter Tryz.func28, Tryz.ntmps28
  go_wp2_with fail
  go_ret
  exact ⟨rfl, rfl⟩
abbrev zVw : Array Value := #[.int .i64 0, .int .i64 0, .slice none 0 0, .slice none 0 0]
theorem info_view : (Tryz.prog.info? 56).map (·.size) = some zVw.size := by kernel_rfl
set_option maxRecDepth 100000 in
set_option maxHeartbeats 8000000 in
theorem view_nil (w : World) : Calls Tryz.prog 20 #[.pointer none] w fun e w' => e = .returned (.agg zVw) ∧ Below w.heap.size w w' := by
  have Z1 := Lib.hid (show Blk (w.alloc (.cells zVw 56)) w.heap.size 56 zVw from Blk.new w _ _)
  have B1 := Lib.hid (Joins.below_alloc1 w (.cells zVw 56))
  go_enter Tryz.func20, Tryz.ntmps20
  go_wp2_with (refine wpList_store_mid (by rfl) 56 (.tmp 2) (.tmp 8) (by rfl) w.heap.size 0 zVw (by rfl) (by rfl) (Z1.out.there (Nat.le_refl 4)) info_view (by kernel_rfl) ?_
               have Z2 := Lib.hid (Z1.out.put zVw rfl)
               have E2 := Lib.hid (Below.setCells (b := w.heap.size) (Nat.le_refl _) zVw.toList 0 _ B1.out)
               generalize (w.alloc (.cells zVw 56)).setCells w.heap.size 0 zVw.toList = W2 at Z2 E2 ⊢)
  exact bodyPost_ret (v := .agg zVw) (results_one rfl rfl (run_loadVar_row _ _ _ 56 zVw (0, 0) _ Z2.out Tryz.underlying56 rfl info_view)) rfl ⟨rfl, E2.out⟩
end
end Go.Proofs.YtmfoffigmojdcaaGreat
