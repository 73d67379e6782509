/- A coordinator: Commit, abort, Abort, Crash. -/
import Derived.Test.YtadnlannbafjpaaGreatQCoU
import Derived.Deep.DeepCutAuto
namespace Go.Proofs.YtadnlannbafjpaaGreat
open Go.RowKit
set_option linter.unusedVariables false
set_option linter.unusedSimpArgs false
section
variable {g n : Nat} {c : Co} {P : Pt}
set_option maxRecDepth 100000 in
set_option maxHeartbeats 16000000 in
theorem commit_may (id : Int) (w : World) (h : CoM w g n c P) (r : Int) (hr : mayL n c.cl id = r) (h0 : r ≠ 0) :
   Calls Tryz.prog 25 #[.pointer (some ⟨g, 0, none⟩), .int .i64 id] w fun e w' => e = .returned (.tuple #[.slice none 0 0, errV r]) ∧ Below w.heap.size w w' := by
 have hn0 := fun W => run_neq_nil_nil (P := Tryz.prog) W 28 Tryz.underlying28
 have hnn := fun W => run_neq_held_nil (P := Tryz.prog) W 28 81 (.int .i64 r) Tryz.underlying28
 have HM := Lib.hid h
 have HR := Lib.hid hr
 have H0 := Lib.hid h0
 have EV := Lib.hid (errV_pos h0)
 rw [EV.out]
 clear h hr h0
 go_enter Tryz.func25, Tryz.ntmps25
 go_upto_region 2 with (first
   | (go_at_call 48; refine (current_may id _ HM.out r HR.out H0.out).mono ?_; rintro e W1 ⟨rfl, hb⟩; rw [EV.out]; have C1 := Lib.hid hb; have D1 := Lib.hid hb; clear hb)
   | (refine wpList_store_mid (by rfl) 62 (.tmp 6) (.tmp 12) (by rfl) W1.heap.size 0 (trc noTr noSl) (by rfl) (by rfl) ((show Blk (W1.alloc (.cells zTr 62)) W1.heap.size 62 (trc noTr noSl) from Blk.new W1 _ _).there (Nat.le_refl 13)) (tr_info _ _) (tr_one _ _ rfl rfl rfl rfl) ?_
      have XA := Lib.hid (show Blk ((W1.alloc (.cells zTr 62)).setCells W1.heap.size 0 (trc noTr noSl).toList) W1.heap.size 62 (trc noTr noSl) from (show Blk (W1.alloc (.cells zTr 62)) W1.heap.size 62 (trc noTr noSl) from Blk.new W1 _ _).put _ rfl)
      have EA := Lib.hid (show Below W1.heap.size W1 ((W1.alloc (.cells zTr 62)).setCells W1.heap.size 0 (trc noTr noSl).toList) from Below.setCells (b := W1.heap.size) (Nat.le_refl _) (trc noTr noSl).toList 0 _ (Joins.below_alloc1 W1 (.cells zTr 62)))
      have BA := Lib.hid (stepB C1.out EA.out)
      have EE := Lib.hid (stepB D1.out EA.out)
      have GA := Lib.hid C1.out.size
      generalize (W1.alloc (.cells zTr 62)).setCells W1.heap.size 0 (trc noTr noSl).toList = V1 at XA BA EE EA ⊢
      generalize W1.heap.size = bt at XA GA EA ⊢))
 go_wp2_with fail
 go_ret2
 exact ⟨rfl, BA.out⟩
set_option maxRecDepth 100000 in
set_option maxHeartbeats 16000000 in
theorem commit_now (id : Int) (w : World) (h : CoM w g n c P) (hr : mayL n c.cl id = 0) (h0 : nowL n c.cl id = 0) :
   Calls Tryz.prog 25 #[.pointer (some ⟨g, 0, none⟩), .int .i64 id] w fun e w' => e = .returned (.tuple #[.slice none 0 0, errno 10]) ∧ Below w.heap.size w w' := by
 have hn0 := fun W => run_neq_nil_nil (P := Tryz.prog) W 28 Tryz.underlying28
 have hnn := fun W => run_neq_held_nil (P := Tryz.prog) W 28 81 (.int .i64 10) Tryz.underlying28
 have HM := Lib.hid h
 have HR := Lib.hid hr
 have H0 := Lib.hid h0
 clear h hr h0
 go_enter Tryz.func25, Tryz.ntmps25
 go_upto_region 2 with (first
   | (go_at_call 48; refine (current_now id _ HM.out HR.out H0.out).mono ?_; rintro e W1 ⟨rfl, hb⟩; have C1 := Lib.hid hb; have D1 := Lib.hid hb; clear hb)
   | (refine wpList_store_mid (by rfl) 62 (.tmp 6) (.tmp 12) (by rfl) W1.heap.size 0 (trc noTr noSl) (by rfl) (by rfl) ((show Blk (W1.alloc (.cells zTr 62)) W1.heap.size 62 (trc noTr noSl) from Blk.new W1 _ _).there (Nat.le_refl 13)) (tr_info _ _) (tr_one _ _ rfl rfl rfl rfl) ?_
      have XA := Lib.hid (show Blk ((W1.alloc (.cells zTr 62)).setCells W1.heap.size 0 (trc noTr noSl).toList) W1.heap.size 62 (trc noTr noSl) from (show Blk (W1.alloc (.cells zTr 62)) W1.heap.size 62 (trc noTr noSl) from Blk.new W1 _ _).put _ rfl)
      have EA := Lib.hid (show Below W1.heap.size W1 ((W1.alloc (.cells zTr 62)).setCells W1.heap.size 0 (trc noTr noSl).toList) from Below.setCells (b := W1.heap.size) (Nat.le_refl _) (trc noTr noSl).toList 0 _ (Joins.below_alloc1 W1 (.cells zTr 62)))
      have BA := Lib.hid (stepB C1.out EA.out)
      have EE := Lib.hid (stepB D1.out EA.out)
      have GA := Lib.hid C1.out.size
      generalize (W1.alloc (.cells zTr 62)).setCells W1.heap.size 0 (trc noTr noSl).toList = V1 at XA BA EE EA ⊢
      generalize W1.heap.size = bt at XA GA EA ⊢))
 go_wp2_with fail
 go_ret2
 exact ⟨rfl, BA.out⟩
set_option maxRecDepth 100000 in
set_option maxHeartbeats 16000000 in
theorem abrt_may (id : Int) (w : World) (h : CoM w g n c P) (r : Int) (hr : mayL n c.cl id = r) (h0 : r ≠ 0) :
   Calls Tryz.prog 29 #[.pointer (some ⟨g, 0, none⟩), .int .i64 id] w fun e w' => e = .returned (.tuple #[.slice none 0 0, errV r]) ∧ Below w.heap.size w w' := by
 have hn0 := fun W => run_neq_nil_nil (P := Tryz.prog) W 28 Tryz.underlying28
 have hnn := fun W => run_neq_held_nil (P := Tryz.prog) W 28 81 (.int .i64 r) Tryz.underlying28
 have HM := Lib.hid h
 have HR := Lib.hid hr
 have H0 := Lib.hid h0
 have EV := Lib.hid (errV_pos h0)
 rw [EV.out]
 clear h hr h0
 go_enter Tryz.func29, Tryz.ntmps29
 go_upto_region 2 with (first
   | (go_at_call 48; refine (current_may id _ HM.out r HR.out H0.out).mono ?_; rintro e W1 ⟨rfl, hb⟩; rw [EV.out]; have C1 := Lib.hid hb; have D1 := Lib.hid hb; clear hb)
   | (refine wpList_store_mid (by rfl) 62 (.tmp 6) (.tmp 12) (by rfl) W1.heap.size 0 (trc noTr noSl) (by rfl) (by rfl) ((show Blk (W1.alloc (.cells zTr 62)) W1.heap.size 62 (trc noTr noSl) from Blk.new W1 _ _).there (Nat.le_refl 13)) (tr_info _ _) (tr_one _ _ rfl rfl rfl rfl) ?_
      have XA := Lib.hid (show Blk ((W1.alloc (.cells zTr 62)).setCells W1.heap.size 0 (trc noTr noSl).toList) W1.heap.size 62 (trc noTr noSl) from (show Blk (W1.alloc (.cells zTr 62)) W1.heap.size 62 (trc noTr noSl) from Blk.new W1 _ _).put _ rfl)
      have EA := Lib.hid (show Below W1.heap.size W1 ((W1.alloc (.cells zTr 62)).setCells W1.heap.size 0 (trc noTr noSl).toList) from Below.setCells (b := W1.heap.size) (Nat.le_refl _) (trc noTr noSl).toList 0 _ (Joins.below_alloc1 W1 (.cells zTr 62)))
      have BA := Lib.hid (stepB C1.out EA.out)
      have EE := Lib.hid (stepB D1.out EA.out)
      have GA := Lib.hid C1.out.size
      generalize (W1.alloc (.cells zTr 62)).setCells W1.heap.size 0 (trc noTr noSl).toList = V1 at XA BA EE EA ⊢
      generalize W1.heap.size = bt at XA GA EA ⊢))
 go_wp2_with fail
 go_ret2
 exact ⟨rfl, BA.out⟩
set_option maxRecDepth 100000 in
set_option maxHeartbeats 16000000 in
theorem abrt_now (id : Int) (w : World) (h : CoM w g n c P) (hr : mayL n c.cl id = 0) (h0 : nowL n c.cl id = 0) :
   Calls Tryz.prog 29 #[.pointer (some ⟨g, 0, none⟩), .int .i64 id] w fun e w' => e = .returned (.tuple #[.slice none 0 0, errno 10]) ∧ Below w.heap.size w w' := by
 have hn0 := fun W => run_neq_nil_nil (P := Tryz.prog) W 28 Tryz.underlying28
 have hnn := fun W => run_neq_held_nil (P := Tryz.prog) W 28 81 (.int .i64 10) Tryz.underlying28
 have HM := Lib.hid h
 have HR := Lib.hid hr
 have H0 := Lib.hid h0
 clear h hr h0
 go_enter Tryz.func29, Tryz.ntmps29
 go_upto_region 2 with (first
   | (go_at_call 48; refine (current_now id _ HM.out HR.out H0.out).mono ?_; rintro e W1 ⟨rfl, hb⟩; have C1 := Lib.hid hb; have D1 := Lib.hid hb; clear hb)
   | (refine wpList_store_mid (by rfl) 62 (.tmp 6) (.tmp 12) (by rfl) W1.heap.size 0 (trc noTr noSl) (by rfl) (by rfl) ((show Blk (W1.alloc (.cells zTr 62)) W1.heap.size 62 (trc noTr noSl) from Blk.new W1 _ _).there (Nat.le_refl 13)) (tr_info _ _) (tr_one _ _ rfl rfl rfl rfl) ?_
      have XA := Lib.hid (show Blk ((W1.alloc (.cells zTr 62)).setCells W1.heap.size 0 (trc noTr noSl).toList) W1.heap.size 62 (trc noTr noSl) from (show Blk (W1.alloc (.cells zTr 62)) W1.heap.size 62 (trc noTr noSl) from Blk.new W1 _ _).put _ rfl)
      have EA := Lib.hid (show Below W1.heap.size W1 ((W1.alloc (.cells zTr 62)).setCells W1.heap.size 0 (trc noTr noSl).toList) from Below.setCells (b := W1.heap.size) (Nat.le_refl _) (trc noTr noSl).toList 0 _ (Joins.below_alloc1 W1 (.cells zTr 62)))
      have BA := Lib.hid (stepB C1.out EA.out)
      have EE := Lib.hid (stepB D1.out EA.out)
      have GA := Lib.hid C1.out.size
      generalize (W1.alloc (.cells zTr 62)).setCells W1.heap.size 0 (trc noTr noSl).toList = V1 at XA BA EE EA ⊢
      generalize W1.heap.size = bt at XA GA EA ⊢))
 go_wp2_with fail
 go_ret2
 exact ⟨rfl, BA.out⟩
set_option maxRecDepth 100000 in
set_option maxHeartbeats 16000000 in
theorem commit_err (id : Int) (w : World) (h : CoM w g n c P) (hr : mayL n c.cl id = 0) (i : Nat) (h0 : nowL n c.cl id = (i : Int) + 1) (hi : i < P.L.length) (hl : P.L.length ≤ 1000) (x : Tr) (s : Sl) (hq : P.L[i] = (x, s)) (hS : Short x) (hT : Shs x.tch) (hV : Shs x.vts) (y : Tr) (ms : List (List Int)) (cd : Int) (hcd : cd ≠ 0) (hy : finL x = (y, ms, cd)) :
   Calls Tryz.prog 25 #[.pointer (some ⟨g, 0, none⟩), .int .i64 id] w fun e w' => e = .returned (.tuple #[.slice none 0 0, errno cd]) ∧ Below w.heap.size w w' := by
 have hn0 := fun W => run_neq_nil_nil (P := Tryz.prog) W 28 Tryz.underlying28
 have HM := Lib.hid h
 have HR := Lib.hid hr
 have H0 := Lib.hid h0
 have HI := Lib.hid hi
 have HQ := Lib.hid hq
 have HT := Lib.hid (show Tm w 0 x s from by have := h.r.sls _ (List.getElem_mem hi); rw [hq] at this; exact this)
 have HTU := Lib.hid (fun k (hk : P.tur g k) => h.lt (k := k) (.inl hk))
 have HL := Lib.hid hl
 clear hr h0 hq hl
 have HS := Lib.hid hS
 have HTC := Lib.hid hT
 have HVC := Lib.hid hV
 have HY := Lib.hid hy
 have HCD := Lib.hid hcd
 have EV := Lib.hid (errV_pos hcd)
 clear h hS hT hV hy hcd
 go_enter Tryz.func25, Tryz.ntmps25
 go_upto_region 2 with (first
   | (go_at_call 48; refine (current_ok id _ HM.out HR.out i H0.out HI.out (by have := HL.out; omega) (x, s) HQ.out).mono ?_; rintro e W1 ⟨rfl, hb⟩; rw [show ((x, s) : Tr × Sl).1 = x from rfl, show ((x, s) : Tr × Sl).2 = s from rfl]; have C1 := Lib.hid hb; have D1 := Lib.hid hb; clear hb)
   | (refine wpList_store_mid (by rfl) 62 (.tmp 6) (.tmp 12) (by rfl) W1.heap.size 0 (trc x s) (by rfl) (by rfl) ((show Blk (W1.alloc (.cells zTr 62)) W1.heap.size 62 (trc noTr noSl) from Blk.new W1 _ _).there (Nat.le_refl 13)) (tr_info _ _) (HT.out.step C1.out).one ?_
      have XA := Lib.hid (show Blk ((W1.alloc (.cells zTr 62)).setCells W1.heap.size 0 (trc x s).toList) W1.heap.size 62 (trc x s) from (show Blk (W1.alloc (.cells zTr 62)) W1.heap.size 62 (trc noTr noSl) from Blk.new W1 _ _).put _ rfl)
      have EA := Lib.hid (show Below W1.heap.size W1 ((W1.alloc (.cells zTr 62)).setCells W1.heap.size 0 (trc x s).toList) from Below.setCells (b := W1.heap.size) (Nat.le_refl _) (trc x s).toList 0 _ (Joins.below_alloc1 W1 (.cells zTr 62)))
      have BA := Lib.hid (stepB C1.out EA.out)
      have EE := Lib.hid (stepB D1.out EA.out)
      have GA := Lib.hid C1.out.size
      generalize (W1.alloc (.cells zTr 62)).setCells W1.heap.size 0 (trc x s).toList = V1 at XA BA EE EA ⊢
      generalize W1.heap.size = bt at XA GA EA ⊢))
 go_wp2_with (first
   | (refine wpList_load_row rfl 62 (.tmp 6) rfl bt rfl 62 (trc x s) (0, 0) _ XA.out Tryz.underlying62 rfl (tr_info _ _) ?_)
   | (go_at_call 52; refine (finish_any x s _ (HT.out.step BA.out) HS.out HTC.out HVC.out).mono ?_; rw [HY.out]; rintro e V4 ⟨s2, u, rfl, ht2, hu2, hb2⟩; have T4 := Lib.hid ht2; have U4 := Lib.hid hu2; have B4 := Lib.hid hb2; have H4 := Lib.hid ((HM.out.step BA.out).step hb2); clear ht2 hu2 hb2)
   | (go_at_call 50; refine (becomes_err (g := g) y s2 u cd _ HCD.out).mono ?_; rintro e V5 ⟨rfl, hb⟩; have B5 := Lib.hid (stepB (stepB BA.out B4.out) hb); rw [EV.out]; clear hb))
 go_ret2
 exact ⟨rfl, B5.out⟩
theorem fin_ok {x y : Tr} {ms : List (List Int)} (h : finL x = (y, ms, 0)) : y.tx = x.tx ∧ (y.st = 2 ∨ y.st = 3) ∧ x.st = 1 := by
 unfold finL at h
 split at h; · injection h with _ h; injection h with _ h; cases h
 split at h; · injection h with _ h; injection h with _ h; cases h
 rename_i h1 h2
 have h1 : x.st = 1 := by omega
 injection h with h _
 subst h
 refine ⟨?_, ?_, h1⟩
 · unfold goOnL; split; rfl; split <;> rfl
 · unfold goOnL
   split
   · exact .inl rfl
   · rename_i h3
     have hn : x.tch = [] := Decidable.byContradiction fun e => h3 ⟨h1, e⟩
     split
     · rename_i h4; exact absurd (by rw [hn]; rfl) h4
     · exact .inr rfl
set_option maxRecDepth 100000 in
set_option maxHeartbeats 16000000 in
theorem commit_ok (id : Int) (w : World) (h : CoM w g n c P) (hr : mayL n c.cl id = 0) (i : Nat) (h0 : nowL n c.cl id = (i : Int) + 1) (hi : i < P.L.length) (hl : P.L.length ≤ 1000) (x : Tr) (s : Sl) (hq : P.L[i] = (x, s)) (hS : Short x) (hT : Shs x.tch) (hV : Shs x.vts) (y : Tr) (ms : List (List Int)) (hx : x.tx = (i : Int) + 1) (hev : c.ev.length ≤ 90000) (hy : finL x = (y, ms, 0)) (c' : Co) (code : Int) (hbl : becL c y i = (c', code)) :
   Calls Tryz.prog 25 #[.pointer (some ⟨g, 0, none⟩), .int .i64 id] w fun e w' => ∃ u, e = .returned (.tuple #[u, errV code]) ∧ MsgR w' w.heap.size u ms ∧ ∃ P', CoS w w' g n P (fun _ => False) c' P' := by
 have hn0 := fun W => run_neq_nil_nil (P := Tryz.prog) W 28 Tryz.underlying28
 have HM := Lib.hid h
 have HR := Lib.hid hr
 have H0 := Lib.hid h0
 have HI := Lib.hid hi
 have HQ := Lib.hid hq
 have HT := Lib.hid (show Tm w 0 x s from by have := h.r.sls _ (List.getElem_mem hi); rw [hq] at this; exact this)
 have HTU := Lib.hid (fun k (hk : P.tur g k) => h.lt (k := k) (.inl hk))
 have HL := Lib.hid hl
 clear hr h0 hq hl
 have HS := Lib.hid hS
 have HTC := Lib.hid hT
 have HVC := Lib.hid hV
 have HY := Lib.hid hy
 have HEV := Lib.hid hev
 have HBL := Lib.hid hbl
 have HFO := Lib.hid (fin_ok hy)
 have HYX := Lib.hid (HFO.out.1.trans hx)
 have HYS := Lib.hid (show 1 ≤ y.st ∧ y.st ≤ 4 from by have := HFO.out.2.1; omega)
 have HY1 := Lib.hid (show y.st ≠ 1 from by have := HFO.out.2.1; omega)
 clear h hS hT hV hy hx hev hbl
 go_enter Tryz.func25, Tryz.ntmps25
 go_upto_region 2 with (first
   | (go_at_call 48; refine (current_ok id _ HM.out HR.out i H0.out HI.out (by have := HL.out; omega) (x, s) HQ.out).mono ?_; rintro e W1 ⟨rfl, hb⟩; rw [show ((x, s) : Tr × Sl).1 = x from rfl, show ((x, s) : Tr × Sl).2 = s from rfl]; have C1 := Lib.hid hb; have D1 := Lib.hid hb; clear hb)
   | (refine wpList_store_mid (by rfl) 62 (.tmp 6) (.tmp 12) (by rfl) W1.heap.size 0 (trc x s) (by rfl) (by rfl) ((show Blk (W1.alloc (.cells zTr 62)) W1.heap.size 62 (trc noTr noSl) from Blk.new W1 _ _).there (Nat.le_refl 13)) (tr_info _ _) (HT.out.step C1.out).one ?_
      have XA := Lib.hid (show Blk ((W1.alloc (.cells zTr 62)).setCells W1.heap.size 0 (trc x s).toList) W1.heap.size 62 (trc x s) from (show Blk (W1.alloc (.cells zTr 62)) W1.heap.size 62 (trc noTr noSl) from Blk.new W1 _ _).put _ rfl)
      have EA := Lib.hid (show Below W1.heap.size W1 ((W1.alloc (.cells zTr 62)).setCells W1.heap.size 0 (trc x s).toList) from Below.setCells (b := W1.heap.size) (Nat.le_refl _) (trc x s).toList 0 _ (Joins.below_alloc1 W1 (.cells zTr 62)))
      have BA := Lib.hid (stepB C1.out EA.out)
      have EE := Lib.hid (stepB D1.out EA.out)
      have GA := Lib.hid C1.out.size
      generalize (W1.alloc (.cells zTr 62)).setCells W1.heap.size 0 (trc x s).toList = V1 at XA BA EE EA ⊢
      generalize W1.heap.size = bt at XA GA EA ⊢))
 go_wp2_with (first
   | (refine wpList_load_row rfl 62 (.tmp 6) rfl bt rfl 62 (trc x s) (0, 0) _ XA.out Tryz.underlying62 rfl (tr_info _ _) ?_)
   | (go_at_call 52; refine (finish_any x s _ (HT.out.step BA.out) HS.out HTC.out HVC.out).mono ?_; rw [HY.out]; rintro e V4 ⟨s2, u, rfl, ht2, hu2, hb2⟩; have T4 := Lib.hid ht2; have U4 := Lib.hid hu2; have B4 := Lib.hid hb2; have H4 := Lib.hid ((HM.out.step BA.out).step hb2); clear ht2 hu2 hb2)
   | (go_at_call 50
      rw [errV_zero]
      refine (becomes_any y s2 u i _ H4.out (T4.out.less (Nat.zero_le _)) (fun k hk hs => by have h1 := (SlB.lt T4.out hs).1; have h2 := HTU.out k (.inr (.inr (.inr (.inl hk)))); have h3 := BA.out.size; omega) HI.out (by have := HL.out; omega) (by have := HEV.out; omega) HYX.out HYS.out (fun e => by have := HY1.out; omega) c' code HBL.out).mono ?_
      rintro e V5 ⟨rfl, P5, hs5⟩
      have S5 := Lib.hid (((CoS.below (N := fun _ => False) HM.out (stepB BA.out B4.out)).trans hs5).fresh (N' := fun _ => False) (fun k e => by
        rcases e with e | e
        · exact e.elim
        · have h1 := (SlB.lt T4.out e).1; have h3 := BA.out.size; exact .inr (.inl (by omega))))
      have U5 := Lib.hid (own_offM U4.out H4.out hs5.turn (by decide) (by decide) (by decide) (by decide) (by decide))
      clear hs5))
 go_ret2
 exact ⟨_, rfl, own_less U5.out BA.out.size, _, S5.out⟩
set_option maxRecDepth 100000 in
set_option maxHeartbeats 16000000 in
theorem abortC_err (x : Tr) (s : Sl) (r : Int) (w : World) (h : CoM w g n c P) (hT : Tm w 0 x s) (hS : Short x) (y : Tr) (ms : List (List Int)) (cd : Int) (hcd : cd ≠ 0) (hy : abtL x r = (y, ms, cd)) :
   Calls Tryz.prog 56 #[.pointer (some ⟨g, 0, none⟩), .agg (trc x s), .int .i64 r] w fun e w' => e = .returned (.slice none 0 0) ∧ Below w.heap.size w w' := by
 have X1 := Lib.hid (show Blk (w.alloc (.cells (trc x s) 62)) w.heap.size 62 (trc x s) from Blk.new w _ _)
 have B1 := Lib.hid (Joins.below_alloc1 w (.cells (trc x s) 62))
 have HM := Lib.hid h
 have HT := Lib.hid hT
 have HS := Lib.hid hS
 have HTU := Lib.hid (fun k (hk : P.tur g k) => h.lt (k := k) (.inl hk))
 have HY := Lib.hid hy
 have HCD := Lib.hid hcd
 have EV := Lib.hid (errV_pos hcd)
 clear h hT hS hy hcd
 go_enter Tryz.func56, Tryz.ntmps56
 go_upto_region 1 with fail
 generalize w.heap.size = bt at X1 ⊢
 generalize w.alloc (.cells (trc x s) 62) = V at X1 B1 ⊢
 have BA := B1
 have HBA := Lib.hid BA.out.size
 go_wp2_with (first
   | (refine wpList_load_row rfl 62 (.tmp 4) rfl bt rfl 62 (trc x s) (0, 0) _ X1.out Tryz.underlying62 rfl (tr_info _ _) ?_)
   | (go_at_call 96; refine (abort_any x s r _ (HT.out.step BA.out) HS.out).mono ?_; rw [HY.out]; rintro e V4 ⟨s2, u, rfl, ht2, hu2, hb2⟩; have T4 := Lib.hid ht2; have U4 := Lib.hid hu2; have B4 := Lib.hid hb2; have H4 := Lib.hid ((HM.out.step BA.out).step hb2); clear ht2 hu2 hb2)
   | (go_at_call 50; refine (becomes_err (g := g) y s2 u cd _ HCD.out).mono ?_; rintro e V5 ⟨rfl, hb⟩; have B5 := Lib.hid (stepB (stepB BA.out B4.out) hb); rw [EV.out]; clear hb))
 go_ret
 exact ⟨rfl, B5.out⟩
theorem abt_ok {x y : Tr} {r : Int} {ms : List (List Int)} (h : abtL x r = (y, ms, 0)) : y.tx = x.tx ∧ y.st = 4 := by
 unfold abtL at h
 split at h; · injection h with _ h; injection h with _ h; cases h
 split at h; · injection h with _ h; injection h with _ h; cases h
 injection h with h _
 subst h
 exact ⟨rfl, rfl⟩
set_option maxRecDepth 100000 in
set_option maxHeartbeats 16000000 in
theorem abortC_ok (x : Tr) (s : Sl) (r : Int) (w : World) (h : CoM w g n c P) (hT : Tm w 0 x s) (hS : Short x) (y : Tr) (ms : List (List Int)) (i : Nat) (hi : i < P.L.length) (hl : P.L.length ≤ 1000) (hx : x.tx = (i : Int) + 1) (hev : c.ev.length ≤ 90000) (hy : abtL x r = (y, ms, 0)) (c' : Co) (code : Int) (hbl : becL c y i = (c', code)) :
   Calls Tryz.prog 56 #[.pointer (some ⟨g, 0, none⟩), .agg (trc x s), .int .i64 r] w fun e w' => ∃ u, e = .returned u ∧ MsgR w' w.heap.size u ms ∧ ∃ P', CoS w w' g n P (fun _ => False) c' P' := by
 have X1 := Lib.hid (show Blk (w.alloc (.cells (trc x s) 62)) w.heap.size 62 (trc x s) from Blk.new w _ _)
 have B1 := Lib.hid (Joins.below_alloc1 w (.cells (trc x s) 62))
 have HM := Lib.hid h
 have HT := Lib.hid hT
 have HS := Lib.hid hS
 have HTU := Lib.hid (fun k (hk : P.tur g k) => h.lt (k := k) (.inl hk))
 have HY := Lib.hid hy
 have HI := Lib.hid hi
 have HL := Lib.hid hl
 have HEV := Lib.hid hev
 have HBL := Lib.hid hbl
 have HYX := Lib.hid ((abt_ok hy).1.trans hx)
 have HYS := Lib.hid (show 1 ≤ y.st ∧ y.st ≤ 4 from by have := (abt_ok hy).2; omega)
 have HY1 := Lib.hid (show y.st ≠ 1 from by have := (abt_ok hy).2; omega)
 clear h hT hS hy hi hl hx hev hbl
 go_enter Tryz.func56, Tryz.ntmps56
 go_upto_region 1 with fail
 generalize w.heap.size = bt at X1 ⊢
 generalize w.alloc (.cells (trc x s) 62) = V at X1 B1 ⊢
 have BA := B1
 have HBA := Lib.hid BA.out.size
 go_wp2_with (first
   | (refine wpList_load_row rfl 62 (.tmp 4) rfl bt rfl 62 (trc x s) (0, 0) _ X1.out Tryz.underlying62 rfl (tr_info _ _) ?_)
   | (go_at_call 96; refine (abort_any x s r _ (HT.out.step BA.out) HS.out).mono ?_; rw [HY.out]; rintro e V4 ⟨s2, u, rfl, ht2, hu2, hb2⟩; have T4 := Lib.hid ht2; have U4 := Lib.hid hu2; have B4 := Lib.hid hb2; have H4 := Lib.hid ((HM.out.step BA.out).step hb2); clear ht2 hu2 hb2)
   | (go_at_call 50
      rw [errV_zero]
      refine (becomes_any y s2 u i _ H4.out (T4.out.less (Nat.zero_le _)) (fun k hk hs => by have h1 := (SlB.lt T4.out hs).1; have h2 := HTU.out k (.inr (.inr (.inr (.inl hk)))); have h3 := BA.out.size; omega) HI.out (by have := HL.out; omega) (by have := HEV.out; omega) HYX.out HYS.out (fun e => by have := HY1.out; omega) c' code HBL.out).mono ?_
      rintro e V5 ⟨rfl, P5, hs5⟩
      have S5 := Lib.hid (((CoS.below (N := fun _ => False) HM.out (stepB BA.out B4.out)).trans hs5).fresh (N' := fun _ => False) (fun k e => by
        rcases e with e | e
        · exact e.elim
        · have h1 := (SlB.lt T4.out e).1; have h3 := BA.out.size; exact .inr (.inl (by omega))))
      have U5 := Lib.hid (own_offM U4.out H4.out hs5.turn (by decide) (by decide) (by decide) (by decide) (by decide))
      clear hs5))
 go_ret
 exact ⟨_, rfl, own_less U5.out BA.out.size, _, S5.out⟩
set_option maxRecDepth 100000 in
set_option maxHeartbeats 16000000 in
theorem abrt_state (id : Int) (w : World) (h : CoM w g n c P) (hr : mayL n c.cl id = 0) (i : Nat) (h0 : nowL n c.cl id = (i : Int) + 1) (hi : i < P.L.length) (hl : P.L.length ≤ 1000) (x : Tr) (s : Sl) (hq : P.L[i] = (x, s)) (hst : x.st ≠ 1) :
   Calls Tryz.prog 29 #[.pointer (some ⟨g, 0, none⟩), .int .i64 id] w fun e w' => e = .returned (.tuple #[.slice none 0 0, errno 11]) ∧ Below w.heap.size w w' := by
 have hn0 := fun W => run_neq_nil_nil (P := Tryz.prog) W 28 Tryz.underlying28
 have HM := Lib.hid h
 have HR := Lib.hid hr
 have H0 := Lib.hid h0
 have HI := Lib.hid hi
 have HQ := Lib.hid hq
 have HT := Lib.hid (show Tm w 0 x s from by have := h.r.sls _ (List.getElem_mem hi); rw [hq] at this; exact this)
 have HTU := Lib.hid (fun k (hk : P.tur g k) => h.lt (k := k) (.inl hk))
 have HL := Lib.hid hl
 clear hr h0 hq hl
 have e1 : (x.st != 1) = true := by simpa using hst
 clear h hst
 go_enter Tryz.func29, Tryz.ntmps29
 go_upto_region 2 with (first
   | (go_at_call 48; refine (current_ok id _ HM.out HR.out i H0.out HI.out (by have := HL.out; omega) (x, s) HQ.out).mono ?_; rintro e W1 ⟨rfl, hb⟩; rw [show ((x, s) : Tr × Sl).1 = x from rfl, show ((x, s) : Tr × Sl).2 = s from rfl]; have C1 := Lib.hid hb; have D1 := Lib.hid hb; clear hb)
   | (refine wpList_store_mid (by rfl) 62 (.tmp 6) (.tmp 12) (by rfl) W1.heap.size 0 (trc x s) (by rfl) (by rfl) ((show Blk (W1.alloc (.cells zTr 62)) W1.heap.size 62 (trc noTr noSl) from Blk.new W1 _ _).there (Nat.le_refl 13)) (tr_info _ _) (HT.out.step C1.out).one ?_
      have XA := Lib.hid (show Blk ((W1.alloc (.cells zTr 62)).setCells W1.heap.size 0 (trc x s).toList) W1.heap.size 62 (trc x s) from (show Blk (W1.alloc (.cells zTr 62)) W1.heap.size 62 (trc noTr noSl) from Blk.new W1 _ _).put _ rfl)
      have EA := Lib.hid (show Below W1.heap.size W1 ((W1.alloc (.cells zTr 62)).setCells W1.heap.size 0 (trc x s).toList) from Below.setCells (b := W1.heap.size) (Nat.le_refl _) (trc x s).toList 0 _ (Joins.below_alloc1 W1 (.cells zTr 62)))
      have BA := Lib.hid (stepB C1.out EA.out)
      have EE := Lib.hid (stepB D1.out EA.out)
      have GA := Lib.hid C1.out.size
      generalize (W1.alloc (.cells zTr 62)).setCells W1.heap.size 0 (trc x s).toList = V1 at XA BA EE EA ⊢
      generalize W1.heap.size = bt at XA GA EA ⊢))
 have c1 : V1.cell? ⟨bt, 1, none⟩ = some (.int .i64 x.st) := XA.out.cell 1
 go_wp2_with fail
 go_ret2
 exact ⟨rfl, BA.out⟩
set_option maxRecDepth 100000 in
set_option maxHeartbeats 16000000 in
theorem abrt_ok (id : Int) (w : World) (h : CoM w g n c P) (hr : mayL n c.cl id = 0) (i : Nat) (h0 : nowL n c.cl id = (i : Int) + 1) (hi : i < P.L.length) (hl : P.L.length ≤ 1000) (x : Tr) (s : Sl) (hq : P.L[i] = (x, s)) (hS : Short x) (hx : x.tx = (i : Int) + 1) (hev : c.ev.length ≤ 90000) (hst : x.st = 1) (y : Tr) (ms : List (List Int)) (hy : abtL x 1 = (y, ms, 0)) (c' : Co) (code : Int) (hbl : becL c y i = (c', code)) :
   Calls Tryz.prog 29 #[.pointer (some ⟨g, 0, none⟩), .int .i64 id] w fun e w' => ∃ u, e = .returned (.tuple #[u, .nilIface]) ∧ MsgR w' w.heap.size u ms ∧ ∃ P', CoS w w' g n P (fun _ => False) c' P' := by
 have hn0 := fun W => run_neq_nil_nil (P := Tryz.prog) W 28 Tryz.underlying28
 have HM := Lib.hid h
 have HR := Lib.hid hr
 have H0 := Lib.hid h0
 have HI := Lib.hid hi
 have HQ := Lib.hid hq
 have HT := Lib.hid (show Tm w 0 x s from by have := h.r.sls _ (List.getElem_mem hi); rw [hq] at this; exact this)
 have HTU := Lib.hid (fun k (hk : P.tur g k) => h.lt (k := k) (.inl hk))
 have HL := Lib.hid hl
 clear hr h0 hq hl
 have e1 : (x.st != 1) = false := by simpa using hst
 have HS := Lib.hid hS
 have HX := Lib.hid hx
 have HEV := Lib.hid hev
 have HY := Lib.hid hy
 have HBL := Lib.hid hbl
 clear h hst hS hx hev hy hbl
 go_enter Tryz.func29, Tryz.ntmps29
 go_upto_region 2 with (first
   | (go_at_call 48; refine (current_ok id _ HM.out HR.out i H0.out HI.out (by have := HL.out; omega) (x, s) HQ.out).mono ?_; rintro e W1 ⟨rfl, hb⟩; rw [show ((x, s) : Tr × Sl).1 = x from rfl, show ((x, s) : Tr × Sl).2 = s from rfl]; have C1 := Lib.hid hb; have D1 := Lib.hid hb; clear hb)
   | (refine wpList_store_mid (by rfl) 62 (.tmp 6) (.tmp 12) (by rfl) W1.heap.size 0 (trc x s) (by rfl) (by rfl) ((show Blk (W1.alloc (.cells zTr 62)) W1.heap.size 62 (trc noTr noSl) from Blk.new W1 _ _).there (Nat.le_refl 13)) (tr_info _ _) (HT.out.step C1.out).one ?_
      have XA := Lib.hid (show Blk ((W1.alloc (.cells zTr 62)).setCells W1.heap.size 0 (trc x s).toList) W1.heap.size 62 (trc x s) from (show Blk (W1.alloc (.cells zTr 62)) W1.heap.size 62 (trc noTr noSl) from Blk.new W1 _ _).put _ rfl)
      have EA := Lib.hid (show Below W1.heap.size W1 ((W1.alloc (.cells zTr 62)).setCells W1.heap.size 0 (trc x s).toList) from Below.setCells (b := W1.heap.size) (Nat.le_refl _) (trc x s).toList 0 _ (Joins.below_alloc1 W1 (.cells zTr 62)))
      have BA := Lib.hid (stepB C1.out EA.out)
      have EE := Lib.hid (stepB D1.out EA.out)
      have GA := Lib.hid C1.out.size
      generalize (W1.alloc (.cells zTr 62)).setCells W1.heap.size 0 (trc x s).toList = V1 at XA BA EE EA ⊢
      generalize W1.heap.size = bt at XA GA EA ⊢))
 have c1 : V1.cell? ⟨bt, 1, none⟩ = some (.int .i64 x.st) := XA.out.cell 1
 go_wp2_with (first
   | (refine wpList_load_row rfl 62 (.tmp 6) rfl bt rfl 62 (trc x s) (0, 0) _ XA.out Tryz.underlying62 rfl (tr_info _ _) ?_)
   | (go_at_call 56; refine (abortC_ok x s 1 _ (HM.out.step BA.out) (HT.out.step BA.out) HS.out y ms i HI.out HL.out HX.out HEV.out HY.out c' code HBL.out).mono ?_; rintro e V5 ⟨u, rfl, hu, P5, hs⟩; have U5 := Lib.hid hu; have S5 := Lib.hid (((CoS.below (N := fun _ => False) HM.out BA.out).trans hs).fresh (N' := fun _ => False) (fun k e => by simp only [or_false] at e)); clear hu hs))
 go_ret2
 exact ⟨_, rfl, own_less U5.out BA.out.size, _, S5.out⟩
set_option maxRecDepth 100000 in
set_option maxHeartbeats 8000000 in
theorem crash_err (id : Int) (w : World) (h : CoM w g n c P) (cl' : List Cl) (cd : Int) (hcd : cd ≠ 0) (hk : crashL c.cl id c.tm = (cl', cd)) : Calls Tryz.prog 30 #[.pointer (some ⟨g, 0, none⟩), .int .i64 id] w fun e w' => e = .returned (errno cd) ∧ ∃ P', CoS w w' g n P (fun _ => False) { c with cl := cl' } P' := by
 have HM := Lib.hid h
 have hnn := fun W => run_neq_held_nil (P := Tryz.prog) W 28 81 (.int .i64 cd) Tryz.underlying28
 have HK := Lib.hid hk
 have EV := Lib.hid (errV_pos hcd)
 clear h hk hcd
 have KQ := Lib.hid (show ∀ Y, Turn (fun k => k = P.p) w Y → (Y.cell? ⟨g, 7, none⟩ = some (.pointer (some ⟨P.p, 0, none⟩)) ∧ Y.cell? ⟨g, 9, none⟩ = some (.int .i64 c.tm)) from fun Y hy =>
   ⟨(HM.out.box.turn hy (fun e => heap_ne HM.out.box HM.out.r.cli.box (by decide) e)).cell 7, (HM.out.box.turn hy (fun e => heap_ne HM.out.box HM.out.r.cli.box (by decide) e)).cell 9⟩)
 go_enter Tryz.func30, Tryz.ntmps30
 go_upto_region 3 with fail
 refine wp_region_held_drew (S := fun w' => w'.cell? ⟨g, 7, none⟩ = some (.pointer (some ⟨P.p, 0, none⟩)) ∧ w'.cell? ⟨g, 9, none⟩ = some (.int .i64 c.tm)) (by kernel_rfl) (KQ.out _ (Turn.refl _ _).drew) (fun hHeld => ?_)
 have BD := Lib.hid (show Below w.heap.size w w.drew from (Below.refl _ _).drew)
 have TD := Lib.hid (show Turn (fun k => k = P.p) w w.drew from (Turn.refl _ _).drew)
 generalize w.drew = V9 at BD TD hHeld ⊢
 have S9 := Lib.hid (CoS.below (N := fun _ => False) HM.out BD.out)
 refine wpAnyH_take (i := 0) (v := ?_) rfl (by kernel_rfl) (by kernel_rfl) (by kernel_rfl) (fun _ _ _ h => h) (Or.inl ⟨by rfl, ?_⟩) (by assumption) ?_
 rotate_left
 · (intro w0 hSw; (try dsimp only at hSw); go_simp; try with_reducible rfl)
 try simp only [List.getElem_toArray, List.getElem_cons_succ, List.getElem_cons_zero, Act.put, List.setIfInBounds_toArray, List.set_cons_zero, List.set_cons_succ]
 refine wpAnyH_take (i := 1) (v := ?_) rfl (by kernel_rfl) (by kernel_rfl) (by kernel_rfl) (fun _ _ _ h => h) (Or.inl ⟨by rfl, ?_⟩) (by assumption) ?_
 rotate_left
 · (intro w0 hSw; (try dsimp only at hSw); go_simp; try with_reducible rfl)
 try simp only [List.getElem_toArray, List.getElem_cons_succ, List.getElem_cons_zero, Act.put, List.setIfInBounds_toArray, List.set_cons_zero, List.set_cons_succ]
 refine wpAnyH_take (i := 2) (v := ?_) rfl (by kernel_rfl) (by kernel_rfl) (by kernel_rfl) (fun _ _ _ h => h) (Or.inl ⟨by rfl, ?_⟩) (by assumption) ?_
 rotate_left
 · (intro w0 hSw; (try dsimp only at hSw); go_simp; try with_reducible rfl)
 try simp only [List.getElem_toArray, List.getElem_cons_succ, List.getElem_cons_zero, Act.put, List.setIfInBounds_toArray, List.set_cons_zero, List.set_cons_succ]
 refine wpAnyH_take (i := 3) (v := ?_) rfl (by kernel_rfl) (by kernel_rfl) (by kernel_rfl) (fun _ _ _ h => h) (Or.inl ⟨by rfl, ?_⟩) (by assumption) ?_
 rotate_left
 · (intro w0 hSw; (try dsimp only at hSw); go_simp; try with_reducible rfl)
 try simp only [List.getElem_toArray, List.getElem_cons_succ, List.getElem_cons_zero, Act.put, List.setIfInBounds_toArray, List.set_cons_zero, List.set_cons_succ]
 refine wpAnyH_take (i := 4) (v := ?_) rfl (by kernel_rfl) (by kernel_rfl) (by kernel_rfl) (fun _ _ _ h => h) (Or.inl ⟨by rfl, ?_⟩) (by assumption) ?_
 rotate_left
 · (intro w0 hSw; (try dsimp only at hSw); go_simp; try with_reducible rfl)
 try simp only [List.getElem_toArray, List.getElem_cons_succ, List.getElem_cons_zero, Act.put, List.setIfInBounds_toArray, List.set_cons_zero, List.set_cons_succ]
 refine wpAnyH_take (i := 5) (v := ?_) rfl (by kernel_rfl) (by kernel_rfl) (by kernel_rfl) (fun _ _ _ h => h) (Or.inl ⟨by rfl, ?_⟩) (by assumption) ?_
 rotate_left
 · (intro w0 hSw; (try dsimp only at hSw); go_simp; try with_reducible rfl)
 try simp only [List.getElem_toArray, List.getElem_cons_succ, List.getElem_cons_zero, Act.put, List.setIfInBounds_toArray, List.set_cons_zero, List.set_cons_succ]
 refine wpAnyH_take (i := 6) (v := ?_) rfl (by kernel_rfl) (by kernel_rfl) (by kernel_rfl) (fun _ _ _ h => h) (Or.inl ⟨by rfl, ?_⟩) (by assumption) ?_
 rotate_left
 · (intro w0 hSw; (try dsimp only at hSw); go_simp; try with_reducible rfl)
 try simp only [List.getElem_toArray, List.getElem_cons_succ, List.getElem_cons_zero, Act.put, List.setIfInBounds_toArray, List.set_cons_zero, List.set_cons_succ]
 refine wpAnyH_take (i := 7) (v := ?_) rfl (by kernel_rfl) (by kernel_rfl) (by kernel_rfl) (fun _ _ _ h => h) (Or.inl ⟨by rfl, ?_⟩) (by assumption) ?_
 rotate_left
 · (intro w0 hSw; (try dsimp only at hSw); go_simp; try with_reducible rfl)
 try simp only [List.getElem_toArray, List.getElem_cons_succ, List.getElem_cons_zero, Act.put, List.setIfInBounds_toArray, List.set_cons_zero, List.set_cons_succ]
 refine wpAnyH_take (i := 8) (v := ?_) rfl (by kernel_rfl) (by kernel_rfl) (by kernel_rfl) (fun _ _ _ h => h) (Or.inl ⟨by rfl, ?_⟩) (by assumption) ?_
 rotate_left
 · (intro w0 hSw; (try dsimp only at hSw); go_simp; try with_reducible rfl)
 try simp only [List.getElem_toArray, List.getElem_cons_succ, List.getElem_cons_zero, Act.put, List.setIfInBounds_toArray, List.set_cons_zero, List.set_cons_succ]
 refine wpAnyH_ready (rs := [9]) (by kernel_rfl) (by simp) ?_
 refine AllReadyH.cons rfl (fun K hK => ?_) AllReadyH.nil
 go_simp
 refine (cCrash_any id c.tm _ S9.out.m.r.cli).mono ?_
 rintro e V10 ⟨rfl, hc, ht⟩
 try go_simp
 rw [HK.out] at hc
 rw [HK.out]
 have S10 := Lib.hid (S9.out.trans (CoS.cli (N := fun _ => False) S9.out.m ht hc))
 refine hK.out _ _ (KQ.out _ (TD.out.trans ht (fun _ _ e => e))) (fun hHeld => ?_)
 clear hK K ht hc
 refine wpAnyH_take (i := 10) (v := ?_) rfl (by kernel_rfl) (by kernel_rfl) (by kernel_rfl) (fun _ _ _ h => h) (Or.inl ⟨by rfl, ?_⟩) (by assumption) ?_
 rotate_left
 · (intro w0 hSw; (try dsimp only at hSw); go_simp; try with_reducible rfl)
 try simp only [List.getElem_toArray, List.getElem_cons_succ, List.getElem_cons_zero, Act.put, List.setIfInBounds_toArray, List.set_cons_zero, List.set_cons_succ]
 refine wpAnyH_done (by kernel_rfl) ?_ _
 clear hHeld
 rw [EV.out]
 go_wp2_with fail
 go_ret
 exact ⟨rfl, _, S10.out.fresh (fun k e => by simp only [or_false] at e)⟩
set_option maxRecDepth 100000 in
set_option maxHeartbeats 8000000 in
theorem crash_ok (id : Int) (w : World) (h : CoM w g n c P) (hev : c.ev.length ≤ 90000) (cl' : List Cl) (hk : crashL c.cl id c.tm = (cl', 0)) (c' : Co) (hc' : c' = { c with cl := cl', ev := c.ev ++ [[8, id, 0, 0, 0, 0, 0]] }) : Calls Tryz.prog 30 #[.pointer (some ⟨g, 0, none⟩), .int .i64 id] w fun e w' => e = .returned .nilIface ∧ ∃ P', CoS w w' g n P (fun _ => False) c' P' := by
 have HM := Lib.hid h
 have hn0 := fun W => run_neq_nil_nil (P := Tryz.prog) W 28 Tryz.underlying28
 have HK := Lib.hid hk
 have HEV := Lib.hid hev
 have HC := Lib.hid hc'
 clear h hk hev hc'
 have KQ := Lib.hid (show ∀ Y, Turn (fun k => k = P.p) w Y → (Y.cell? ⟨g, 7, none⟩ = some (.pointer (some ⟨P.p, 0, none⟩)) ∧ Y.cell? ⟨g, 9, none⟩ = some (.int .i64 c.tm)) from fun Y hy =>
   ⟨(HM.out.box.turn hy (fun e => heap_ne HM.out.box HM.out.r.cli.box (by decide) e)).cell 7, (HM.out.box.turn hy (fun e => heap_ne HM.out.box HM.out.r.cli.box (by decide) e)).cell 9⟩)
 go_enter Tryz.func30, Tryz.ntmps30
 go_upto_region 3 with fail
 refine wp_region_held_drew (S := fun w' => w'.cell? ⟨g, 7, none⟩ = some (.pointer (some ⟨P.p, 0, none⟩)) ∧ w'.cell? ⟨g, 9, none⟩ = some (.int .i64 c.tm)) (by kernel_rfl) (KQ.out _ (Turn.refl _ _).drew) (fun hHeld => ?_)
 have BD := Lib.hid (show Below w.heap.size w w.drew from (Below.refl _ _).drew)
 have TD := Lib.hid (show Turn (fun k => k = P.p) w w.drew from (Turn.refl _ _).drew)
 generalize w.drew = V9 at BD TD hHeld ⊢
 have S9 := Lib.hid (CoS.below (N := fun _ => False) HM.out BD.out)
 refine wpAnyH_take (i := 0) (v := ?_) rfl (by kernel_rfl) (by kernel_rfl) (by kernel_rfl) (fun _ _ _ h => h) (Or.inl ⟨by rfl, ?_⟩) (by assumption) ?_
 rotate_left
 · (intro w0 hSw; (try dsimp only at hSw); go_simp; try with_reducible rfl)
 try simp only [List.getElem_toArray, List.getElem_cons_succ, List.getElem_cons_zero, Act.put, List.setIfInBounds_toArray, List.set_cons_zero, List.set_cons_succ]
 refine wpAnyH_take (i := 1) (v := ?_) rfl (by kernel_rfl) (by kernel_rfl) (by kernel_rfl) (fun _ _ _ h => h) (Or.inl ⟨by rfl, ?_⟩) (by assumption) ?_
 rotate_left
 · (intro w0 hSw; (try dsimp only at hSw); go_simp; try with_reducible rfl)
 try simp only [List.getElem_toArray, List.getElem_cons_succ, List.getElem_cons_zero, Act.put, List.setIfInBounds_toArray, List.set_cons_zero, List.set_cons_succ]
 refine wpAnyH_take (i := 2) (v := ?_) rfl (by kernel_rfl) (by kernel_rfl) (by kernel_rfl) (fun _ _ _ h => h) (Or.inl ⟨by rfl, ?_⟩) (by assumption) ?_
 rotate_left
 · (intro w0 hSw; (try dsimp only at hSw); go_simp; try with_reducible rfl)
 try simp only [List.getElem_toArray, List.getElem_cons_succ, List.getElem_cons_zero, Act.put, List.setIfInBounds_toArray, List.set_cons_zero, List.set_cons_succ]
 refine wpAnyH_take (i := 3) (v := ?_) rfl (by kernel_rfl) (by kernel_rfl) (by kernel_rfl) (fun _ _ _ h => h) (Or.inl ⟨by rfl, ?_⟩) (by assumption) ?_
 rotate_left
 · (intro w0 hSw; (try dsimp only at hSw); go_simp; try with_reducible rfl)
 try simp only [List.getElem_toArray, List.getElem_cons_succ, List.getElem_cons_zero, Act.put, List.setIfInBounds_toArray, List.set_cons_zero, List.set_cons_succ]
 refine wpAnyH_take (i := 4) (v := ?_) rfl (by kernel_rfl) (by kernel_rfl) (by kernel_rfl) (fun _ _ _ h => h) (Or.inl ⟨by rfl, ?_⟩) (by assumption) ?_
 rotate_left
 · (intro w0 hSw; (try dsimp only at hSw); go_simp; try with_reducible rfl)
 try simp only [List.getElem_toArray, List.getElem_cons_succ, List.getElem_cons_zero, Act.put, List.setIfInBounds_toArray, List.set_cons_zero, List.set_cons_succ]
 refine wpAnyH_take (i := 5) (v := ?_) rfl (by kernel_rfl) (by kernel_rfl) (by kernel_rfl) (fun _ _ _ h => h) (Or.inl ⟨by rfl, ?_⟩) (by assumption) ?_
 rotate_left
 · (intro w0 hSw; (try dsimp only at hSw); go_simp; try with_reducible rfl)
 try simp only [List.getElem_toArray, List.getElem_cons_succ, List.getElem_cons_zero, Act.put, List.setIfInBounds_toArray, List.set_cons_zero, List.set_cons_succ]
 refine wpAnyH_take (i := 6) (v := ?_) rfl (by kernel_rfl) (by kernel_rfl) (by kernel_rfl) (fun _ _ _ h => h) (Or.inl ⟨by rfl, ?_⟩) (by assumption) ?_
 rotate_left
 · (intro w0 hSw; (try dsimp only at hSw); go_simp; try with_reducible rfl)
 try simp only [List.getElem_toArray, List.getElem_cons_succ, List.getElem_cons_zero, Act.put, List.setIfInBounds_toArray, List.set_cons_zero, List.set_cons_succ]
 refine wpAnyH_take (i := 7) (v := ?_) rfl (by kernel_rfl) (by kernel_rfl) (by kernel_rfl) (fun _ _ _ h => h) (Or.inl ⟨by rfl, ?_⟩) (by assumption) ?_
 rotate_left
 · (intro w0 hSw; (try dsimp only at hSw); go_simp; try with_reducible rfl)
 try simp only [List.getElem_toArray, List.getElem_cons_succ, List.getElem_cons_zero, Act.put, List.setIfInBounds_toArray, List.set_cons_zero, List.set_cons_succ]
 refine wpAnyH_take (i := 8) (v := ?_) rfl (by kernel_rfl) (by kernel_rfl) (by kernel_rfl) (fun _ _ _ h => h) (Or.inl ⟨by rfl, ?_⟩) (by assumption) ?_
 rotate_left
 · (intro w0 hSw; (try dsimp only at hSw); go_simp; try with_reducible rfl)
 try simp only [List.getElem_toArray, List.getElem_cons_succ, List.getElem_cons_zero, Act.put, List.setIfInBounds_toArray, List.set_cons_zero, List.set_cons_succ]
 refine wpAnyH_ready (rs := [9]) (by kernel_rfl) (by simp) ?_
 refine AllReadyH.cons rfl (fun K hK => ?_) AllReadyH.nil
 go_simp
 refine (cCrash_any id c.tm _ S9.out.m.r.cli).mono ?_
 rintro e V10 ⟨rfl, hc, ht⟩
 try go_simp
 rw [HK.out] at hc
 rw [HK.out]
 have S10 := Lib.hid (S9.out.trans (CoS.cli (N := fun _ => False) S9.out.m ht hc))
 refine hK.out _ _ (KQ.out _ (TD.out.trans ht (fun _ _ e => e))) (fun hHeld => ?_)
 clear hK K ht hc
 refine wpAnyH_take (i := 10) (v := ?_) rfl (by kernel_rfl) (by kernel_rfl) (by kernel_rfl) (fun _ _ _ h => h) (Or.inl ⟨by rfl, ?_⟩) (by assumption) ?_
 rotate_left
 · (intro w0 hSw; (try dsimp only at hSw); go_simp; try with_reducible rfl)
 try simp only [List.getElem_toArray, List.getElem_cons_succ, List.getElem_cons_zero, Act.put, List.setIfInBounds_toArray, List.set_cons_zero, List.set_cons_succ]
 refine wpAnyH_done (by kernel_rfl) ?_ _
 clear hHeld
 rw [errV_zero]
 go_wp2_with (go_at_call 47; refine (note_any 8 id 0 0 0 0 0 _ S10.out.m (by have := HEV.out; show c.ev.length ≤ 100000; omega) _ rfl).mono ?_; rintro e V11 ⟨rfl, ve', hs⟩; have S11 := Lib.hid (S10.out.trans hs); clear hs)
 go_ret
 exact ⟨rfl, _, by rw [HC.out]; exact S11.out.fresh (fun k e => by simp only [or_false] at e)⟩
abbrev zVw : Array Value := #[.int .i64 0, .int .i64 0, .slice none 0 0, .slice none 0 0]
theorem info_view : (Tryz.prog.info? 56).map (·.size) = some zVw.size := by kernel_rfl
end
def stepC (c : Co) (n k : Nat) : List (List Int) :=
 if nowL n c.cl ((k : Int) + 1) = 0 then [] else
 if (c.txs.getD (nowL n c.cl ((k : Int) + 1) - 1).toNat noTr).op = true then [[nowL n c.cl ((k : Int) + 1), (c.txs.getD (nowL n c.cl ((k : Int) + 1) - 1).toNat noTr).sq]] else []
def openC (c : Co) (n : Nat) : Nat → List (List Int)
 | 0 => []
 | k + 1 => openC c n k ++ stepC c n k
theorem stepC_2 {c : Co} {n k : Nat} : ∀ o ∈ stepC c n k, o.length = 2 := by
 intro o ho
 unfold stepC at ho
 split at ho
 · cases ho
 · split at ho
   · rw [List.mem_singleton.1 ho]; rfl
   · cases ho
theorem openC_2 {c : Co} {n : Nat} : ∀ {k : Nat}, ∀ o ∈ openC c n k, o.length = 2
 | 0, o, ho => by cases ho
 | k + 1, o, ho => by
   rcases List.mem_append.1 ho with ho | ho
   · exact openC_2 o ho
   · exact stepC_2 o ho
theorem openC_len {c : Co} {n : Nat} : ∀ k : Nat, (openC c n k).length ≤ k
 | 0 => Nat.le_refl _
 | k + 1 => by
   have h1 := openC_len (c := c) (n := n) k
   have h2 : (stepC c n k).length ≤ 1 := by
     unfold stepC
     split
     · exact Nat.zero_le _
     · split
       · exact Nat.le_refl _
       · exact Nat.zero_le _
   show (openC c n k ++ stepC c n k).length ≤ k + 1
   rw [List.length_append]; omega
theorem info_step3 : (Tryz.prog.info? 42).map (fun i => (i.zero, i.size, i.bytes)) = some (some (.agg #[.int .i64 0, .int .i64 0]), 2, 16) := by kernel_rfl
section
variable {g n : Nat} {c : Co} {P : Pt}
set_option maxRecDepth 100000 in
set_option maxHeartbeats 2000000 in
theorem open_any (w : World) (h : CoM w g n c P) (hn : n ≤ 8) (hl : P.L.length ≤ 1000) (hok : ∀ k : Nat, k < n → nowL n c.cl ((k : Int) + 1) = 0 ∨ ∃ i : Nat, i < P.L.length ∧ nowL n c.cl ((k : Int) + 1) = (i : Int) + 1) :
   Calls Tryz.prog 100 #[.pointer (some ⟨g, 0, none⟩)] w fun e w' => ∃ u, e = .returned u ∧ w'.ownsRow w.heap.size 42 2 u (openC c n n).length (ints (openC c n n).flatten) ∧ Below w.heap.size w w' := by
 have hen := fun W => run_eql_nil_nil (P := Tryz.prog) W 28 Tryz.underlying28
 have heh := fun W => run_eql_held_nil (P := Tryz.prog) W 28 81 (.int .i64 10) Tryz.underlying28
 obtain ⟨i0, hi0, hz0, hz1, hz2⟩ := info_parts info_step3
 have HM := Lib.hid h
 have HN := Lib.hid hn
 have HL := Lib.hid hl
 have HOK := Lib.hid hok
 clear h hl hok
 go_enter Tryz.func100, Tryz.ntmps100
 go_wp2_with fail
 go_loopw [3, 4] (fun s3 s4 wr => ∃ k : Nat, s4 = .int .i64 ((k : Int) + 1) ∧ k ≤ n ∧ wr.ownsRow w.heap.size 42 2 s3 (openC c n k).length (ints (openC c n k).flatten) ∧ Below w.heap.size w wr) (fun _ s4 _ => 20 - (RowKit.intOf s4).toNat)
 case atStart => exact ⟨0, rfl, Nat.zero_le _, World.ownsRow_nil _ _ _ _, Below.refl _ _⟩
 case round =>
   obtain ⟨k, rfl, hk, hrow, hbl⟩ := hrel
   have RO := Lib.hid hrow
   have BL := Lib.hid hbl
   clear hrow hbl
   have HR := Lib.hid (HM.out.step BL.out)
   have x7 : wr.cell? ⟨g, 7, none⟩ = some (.pointer (some ⟨P.p, 0, none⟩)) := HR.out.box.cell 7
   have x8 : wr.cell? ⟨g, 8, none⟩ = some (.int .i64 (n : Int)) := HR.out.box.cell 8
   by_cases hkn : k < n
   · have d0 : decide ((k : Int) + 1 ≤ (n : Int)) = true := by simp; omega
     obtain ⟨v, hv⟩ : ∃ v, nowL n c.cl ((k : Int) + 1) = v := ⟨_, rfl⟩
     have HV := Lib.hid hv
     have HO := HOK.out k hkn
     rw [hv] at HO
     clear hv
     by_cases h0 : v = 0
     · subst h0
       have N2 := Lib.hid (show openC c n (k + 1) = openC c n k from by show openC c n k ++ stepC c n k = _; unfold stepC; rw [if_pos HV.out, List.append_nil])
       go_wp2_with (go_at_call 44; refine (cNow_any _ _ HR.out.r.cli 0 HV.out).mono ?_; rintro e w' ⟨rfl, rfl⟩; rw [show nowV 0 = .tuple #[.int .i64 0, errno 10] from rfl])
       go_roundw
       case rel => exact ⟨k + 1, by go_num, by omega, by rw [N2.out]; exact RO.out, BL.out⟩
       case measure => simp [RowKit.intOf]; omega
     · obtain ⟨i, hi, hvi⟩ := HO.resolve_left h0
       subst hvi
       have HI := Lib.hid hi
       obtain ⟨b, ca, hvt, hc, _, _⟩ := HR.out.r.txr.open hi
       have x10 : wr.cell? ⟨g, 10, none⟩ = some (.slice (some ⟨b, 0, none⟩) P.L.length ca) := by rw [← hvt]; exact HR.out.box.cell 10
       obtain ⟨x, hq⟩ : ∃ x, (P.L[i]).1 = x := ⟨_, rfl⟩
       have HX := Lib.hid (show c.txs.getD ((i : Int) + 1 - 1).toNat noTr = x from by
         rw [← HR.out.r.txs, show ((i : Int) + 1 - 1).toNat = i from by omega, List.getD_eq_getElem?_getD, List.getElem?_map, List.getElem?_eq_getElem hi]; exact hq)
       have c3 : wr.cell? ⟨b, i * 13 + 3, none⟩ = some (.int .i64 x.sq) := hc 3 _ (by rw [← hq]; rfl)
       have c4 : wr.cell? ⟨b, i * 13 + 4, none⟩ = some (.bool x.op) := hc 4 _ (by rw [← hq]; rfl)
       have w1 : IntKind.i64.wrap ((i : Int) + 1 - 1) = (i : Int) := by rw [show (i : Int) + 1 - 1 = (i : Int) by omega]; exact IntWalk.i64_in _ (by have := HI.out; have := HL.out; omega)
       have w2 : (i : Int) + 1 - 1 = (i : Int) := by omega
       have w0 : IntKind.i64.wrap (i : Int) = (i : Int) := IntWalk.i64_in _ (by have := HI.out; have := HL.out; omega)
       have d3 : decide ((i : Int) < (P.L.length : Int)) = true := by simp; omega
       have l1000 : P.L.length ≤ 1000 := HL.out
       clear hc hvt hq
       generalize P.L.length = N at x10 d3 l1000 hi
       cases ho : x.op with
       | false =>
         rw [ho] at c4
         have N2 := Lib.hid (show openC c n (k + 1) = openC c n k from by
           show openC c n k ++ stepC c n k = _
           unfold stepC
           rw [HV.out, if_neg h0, HX.out, ho, if_neg (by simp), List.append_nil])
         clear ho
         go_wp2_with (go_at_call 44; refine (cNow_any _ _ HR.out.r.cli ((i : Int) + 1) HV.out).mono ?_; rintro e w' ⟨rfl, rfl⟩; rw [show nowV ((i : Int) + 1) = .tuple #[.int .i64 ((i : Int) + 1), .nilIface] from by unfold nowV; rw [if_neg h0]])
         go_roundw
         case rel => exact ⟨k + 1, by go_num, by omega, by rw [N2.out]; exact RO.out, BL.out⟩
         case measure => simp [RowKit.intOf]; omega
       | true =>
         rw [ho] at c4
         have N2 := Lib.hid (show openC c n (k + 1) = openC c n k ++ [[(i : Int) + 1, x.sq]] from by
           show openC c n k ++ stepC c n k = _
           unfold stepC
           rw [HV.out, if_neg h0, HX.out, ho, if_pos rfl])
         have KL := Lib.hid (openC_len (c := c) (n := n) k)
         clear ho HX
         generalize x.sq = sq at c3 N2
         have HS := Lib.hid BL.out.size
         have O1 := Lib.hid (show ∀ v ∈ ints [(i : Int) + 1, sq], v.oneCell' = true from fun v hv => by obtain ⟨c, _, rfl⟩ := List.mem_map.1 hv; rfl)
         go_wp2_with (first
           | (go_at_call 44; refine (cNow_any _ _ HR.out.r.cli ((i : Int) + 1) HV.out).mono ?_; rintro e w' ⟨rfl, rfl⟩; rw [show nowV ((i : Int) + 1) = .tuple #[.int .i64 ((i : Int) + 1), .nilIface] from by unfold nowV; rw [if_neg h0]])
           | (at_builtin
              have RN := Lib.hid (reads_flat (V := wr) 42 [(i : Int) + 1, sq] (size := 2) rfl)
              go_loud (refine wpList_append_any _ rfl (.tmp 37) (.tmp 49) _ rfl w.heap.size 42 i0 _ 2 16 Tryz.underlying173 hi0 hz0 hz1 hz2 rfl (by omega) _ (openC c n k).length _ rfl (RO.out.alloc _) _ _ 1 1 (ints [(i : Int) + 1, sq]) rfl RN.out O1.out (by have := KL.out; simp only [maxLen]; omega) (by have := KL.out; omega) (by have := HS.out; simp; omega) ?_)
              intro v9 w9 hown9 hg9 hv9
              have O9 := Lib.hid hown9
              have G9 := Lib.hid hg9
              clear hown9 hg9 hv9))
         go_roundw
         case rel =>
           refine ⟨k + 1, by go_num, by omega, ?_, below_own (BL.out.alloc HS.out _) G9.out (RO.out.alloc _) (Nat.le_refl _) (by have := HS.out; simp; omega)⟩
           rw [N2.out, List.length_append, List.flatten_append, show ints ((openC c n k).flatten ++ [[(i : Int) + 1, sq]].flatten) = ints (openC c n k).flatten ++ ints [(i : Int) + 1, sq] by simp [ints]]
           exact O9.out
         case measure => simp [RowKit.intOf]; omega
   · obtain rfl : k = n := by omega
     have d0 : decide ((k : Int) + 1 ≤ (k : Int)) = false := decide_eq_false (by omega)
     go_wp2_with fail
     go_ret
     exact ⟨_, rfl, RO.out, BL.out⟩
end
end Go.Proofs.YtadnlannbafjpaaGreat
