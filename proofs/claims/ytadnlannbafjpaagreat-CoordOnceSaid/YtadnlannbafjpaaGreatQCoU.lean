/- A coordinator: Lock. -/
import Derived.Test.YtadnlannbafjpaaGreatQCoR
namespace Go.Proofs.YtadnlannbafjpaaGreat
open Go.RowKit
set_option linter.unusedVariables false
set_option linter.unusedSimpArgs false
theorem ask_ok {x y : Tr} {sh a0 a1 md : Int} {ms : List (List Int)} (h : askL x sh a0 a1 md = (y, ms, 0)) : y.tx = x.tx ∧ y.st = x.st ∧ x.st = 1 := by
 unfold askL at h
 split at h; · injection h with _ h; injection h with _ h; cases h
 split at h; · injection h with _ h; injection h with _ h; cases h
 split at h; · injection h with _ h; injection h with _ h; cases h
 split at h; · injection h with _ h; injection h with _ h; cases h
 rename_i h1 h2 h3 h4
 injection h with h _
 subst h
 exact ⟨rfl, rfl, by omega⟩
section
variable {g n : Nat} {c : Co} {P : Pt}
set_option maxRecDepth 100000 in
set_option maxHeartbeats 16000000 in
theorem lock_may (id a0 a1 md : Int) (w : World) (h : CoM w g n c P) (r : Int) (hr : mayL n c.cl id = r) (h0 : r ≠ 0) :
   Calls Tryz.prog 24 #[.pointer (some ⟨g, 0, none⟩), .int .i64 id, .agg #[.int .i64 a0, .int .i64 a1], .int .i64 md] w fun e w' => e = .returned (.tuple #[.slice none 0 0, errV r]) ∧ Below w.heap.size w w' := by
 have hn0 := fun W => run_neq_nil_nil (P := Tryz.prog) W 28 Tryz.underlying28
 have A1 := Lib.hid (show Blk (w.alloc (.cells #[.int .i64 a0, .int .i64 a1] 39)) w.heap.size 39 #[.int .i64 a0, .int .i64 a1] from Blk.new w _ _)
 have B1 := Lib.hid (Joins.below_alloc1 w (.cells #[.int .i64 a0, .int .i64 a1] 39))
 have hnn := fun W => run_neq_held_nil (P := Tryz.prog) W 28 81 (.int .i64 r) Tryz.underlying28
 have H1 := Lib.hid (h.step B1.out)
 have HM := Lib.hid h
 have HR := Lib.hid hr
 have H0 := Lib.hid h0
 have EV := Lib.hid (errV_pos h0)
 rw [EV.out]
 clear h hr h0
 go_enter Tryz.func24, Tryz.ntmps24
 go_upto_region 1 with fail
 obtain ⟨ba, hba⟩ : ∃ ba, ba = w.heap.size := ⟨_, rfl⟩
 have HBA := Lib.hid hba
 rw [← hba] at A1 ⊢
 clear hba
 generalize w.alloc (.cells #[.int .i64 a0, .int .i64 a1] 39) = V at A1 B1 H1 ⊢
 go_upto_region 2 with (first
   | (go_at_call 48; refine (current_may id _ H1.out r HR.out H0.out).mono ?_; rintro e W1 ⟨rfl, hb⟩; rw [EV.out]; have C1 := Lib.hid (stepB B1.out hb); have D1 := Lib.hid hb; clear hb)
   | (refine wpList_store_mid (by rfl) 62 (.tmp 10) (.tmp 18) (by rfl) W1.heap.size 0 (trc noTr noSl) (by rfl) (by rfl) ((show Blk (W1.alloc (.cells zTr 62)) W1.heap.size 62 (trc noTr noSl) from Blk.new W1 _ _).there (Nat.le_refl 13)) (tr_info _ _) (tr_one _ _ rfl rfl rfl rfl) ?_
      have XA := Lib.hid (show Blk ((W1.alloc (.cells zTr 62)).setCells W1.heap.size 0 (trc noTr noSl).toList) W1.heap.size 62 (trc noTr noSl) from (show Blk (W1.alloc (.cells zTr 62)) W1.heap.size 62 (trc noTr noSl) from Blk.new W1 _ _).put _ rfl)
      have EA := Lib.hid (show Below W1.heap.size W1 ((W1.alloc (.cells zTr 62)).setCells W1.heap.size 0 (trc noTr noSl).toList) from Below.setCells (b := W1.heap.size) (Nat.le_refl _) (trc noTr noSl).toList 0 _ (Joins.below_alloc1 W1 (.cells zTr 62)))
      have BA := Lib.hid (stepB C1.out EA.out)
      have EE := Lib.hid (stepB D1.out EA.out)
      have GA := Lib.hid C1.out.size
      generalize (W1.alloc (.cells zTr 62)).setCells W1.heap.size 0 (trc noTr noSl).toList = V1 at XA BA EE EA ⊢
      generalize W1.heap.size = bt at XA GA EA ⊢))
 go_wp2_with fail
 go_ret2
 exact ⟨rfl, BA.out⟩
set_option maxRecDepth 100000 in
set_option maxHeartbeats 16000000 in
theorem lock_now (id a0 a1 md : Int) (w : World) (h : CoM w g n c P) (hr : mayL n c.cl id = 0) (h0 : nowL n c.cl id = 0) :
   Calls Tryz.prog 24 #[.pointer (some ⟨g, 0, none⟩), .int .i64 id, .agg #[.int .i64 a0, .int .i64 a1], .int .i64 md] w fun e w' => e = .returned (.tuple #[.slice none 0 0, errno 10]) ∧ Below w.heap.size w w' := by
 have hn0 := fun W => run_neq_nil_nil (P := Tryz.prog) W 28 Tryz.underlying28
 have A1 := Lib.hid (show Blk (w.alloc (.cells #[.int .i64 a0, .int .i64 a1] 39)) w.heap.size 39 #[.int .i64 a0, .int .i64 a1] from Blk.new w _ _)
 have B1 := Lib.hid (Joins.below_alloc1 w (.cells #[.int .i64 a0, .int .i64 a1] 39))
 have hnn := fun W => run_neq_held_nil (P := Tryz.prog) W 28 81 (.int .i64 10) Tryz.underlying28
 have H1 := Lib.hid (h.step B1.out)
 have HM := Lib.hid h
 have HR := Lib.hid hr
 have H0 := Lib.hid h0
 clear h hr h0
 go_enter Tryz.func24, Tryz.ntmps24
 go_upto_region 1 with fail
 obtain ⟨ba, hba⟩ : ∃ ba, ba = w.heap.size := ⟨_, rfl⟩
 have HBA := Lib.hid hba
 rw [← hba] at A1 ⊢
 clear hba
 generalize w.alloc (.cells #[.int .i64 a0, .int .i64 a1] 39) = V at A1 B1 H1 ⊢
 go_upto_region 2 with (first
   | (go_at_call 48; refine (current_now id _ H1.out HR.out H0.out).mono ?_; rintro e W1 ⟨rfl, hb⟩; have C1 := Lib.hid (stepB B1.out hb); have D1 := Lib.hid hb; clear hb)
   | (refine wpList_store_mid (by rfl) 62 (.tmp 10) (.tmp 18) (by rfl) W1.heap.size 0 (trc noTr noSl) (by rfl) (by rfl) ((show Blk (W1.alloc (.cells zTr 62)) W1.heap.size 62 (trc noTr noSl) from Blk.new W1 _ _).there (Nat.le_refl 13)) (tr_info _ _) (tr_one _ _ rfl rfl rfl rfl) ?_
      have XA := Lib.hid (show Blk ((W1.alloc (.cells zTr 62)).setCells W1.heap.size 0 (trc noTr noSl).toList) W1.heap.size 62 (trc noTr noSl) from (show Blk (W1.alloc (.cells zTr 62)) W1.heap.size 62 (trc noTr noSl) from Blk.new W1 _ _).put _ rfl)
      have EA := Lib.hid (show Below W1.heap.size W1 ((W1.alloc (.cells zTr 62)).setCells W1.heap.size 0 (trc noTr noSl).toList) from Below.setCells (b := W1.heap.size) (Nat.le_refl _) (trc noTr noSl).toList 0 _ (Joins.below_alloc1 W1 (.cells zTr 62)))
      have BA := Lib.hid (stepB C1.out EA.out)
      have EE := Lib.hid (stepB D1.out EA.out)
      have GA := Lib.hid C1.out.size
      generalize (W1.alloc (.cells zTr 62)).setCells W1.heap.size 0 (trc noTr noSl).toList = V1 at XA BA EE EA ⊢
      generalize W1.heap.size = bt at XA GA EA ⊢))
 go_wp2_with fail
 go_ret2
 exact ⟨rfl, BA.out⟩
set_option maxRecDepth 100000 in
set_option maxHeartbeats 16000000 in
theorem lock_res (id a0 a1 md : Int) (w : World) (h : CoM w g n c P) (hr : mayL n c.cl id = 0) (i : Nat) (h0 : nowL n c.cl id = (i : Int) + 1) (hi : i < P.L.length) (hl : P.L.length ≤ 1000) (x : Tr) (s : Sl) (hq : P.L[i] = (x, s)) (hres : okR a0 a1 = false) :
   Calls Tryz.prog 24 #[.pointer (some ⟨g, 0, none⟩), .int .i64 id, .agg #[.int .i64 a0, .int .i64 a1], .int .i64 md] w fun e w' => e = .returned (.tuple #[.slice none 0 0, errno 1]) ∧ Below w.heap.size w w' := by
 have hn0 := fun W => run_neq_nil_nil (P := Tryz.prog) W 28 Tryz.underlying28
 have A1 := Lib.hid (show Blk (w.alloc (.cells #[.int .i64 a0, .int .i64 a1] 39)) w.heap.size 39 #[.int .i64 a0, .int .i64 a1] from Blk.new w _ _)
 have B1 := Lib.hid (Joins.below_alloc1 w (.cells #[.int .i64 a0, .int .i64 a1] 39))
 have hnn := fun W => run_neq_held_nil (P := Tryz.prog) W 28 81 (.int .i64 1) Tryz.underlying28
 have H1 := Lib.hid (h.step B1.out)
 have HM := Lib.hid h
 have HR := Lib.hid hr
 have H0 := Lib.hid h0
 have HI := Lib.hid hi
 have HQ := Lib.hid hq
 have HT := Lib.hid (show Tm w 0 x s from by have := h.r.sls _ (List.getElem_mem hi); rw [hq] at this; exact this)
 have HTU := Lib.hid (fun k (hk : P.tur g k) => h.lt (k := k) (.inl hk))
 have HL := Lib.hid hl
 clear hr h0 hq hl
 have HRS := Lib.hid hres
 clear h hres
 go_enter Tryz.func24, Tryz.ntmps24
 go_upto_region 1 with fail
 obtain ⟨ba, hba⟩ : ∃ ba, ba = w.heap.size := ⟨_, rfl⟩
 have HBA := Lib.hid hba
 rw [← hba] at A1 ⊢
 clear hba
 generalize w.alloc (.cells #[.int .i64 a0, .int .i64 a1] 39) = V at A1 B1 H1 ⊢
 go_upto_region 2 with (first
   | (go_at_call 48; refine (current_ok id _ H1.out HR.out i H0.out HI.out (by have := HL.out; omega) (x, s) HQ.out).mono ?_; rintro e W1 ⟨rfl, hb⟩; rw [show ((x, s) : Tr × Sl).1 = x from rfl, show ((x, s) : Tr × Sl).2 = s from rfl]; have C1 := Lib.hid (stepB B1.out hb); have D1 := Lib.hid hb; clear hb)
   | (refine wpList_store_mid (by rfl) 62 (.tmp 10) (.tmp 18) (by rfl) W1.heap.size 0 (trc x s) (by rfl) (by rfl) ((show Blk (W1.alloc (.cells zTr 62)) W1.heap.size 62 (trc noTr noSl) from Blk.new W1 _ _).there (Nat.le_refl 13)) (tr_info _ _) (HT.out.step C1.out).one ?_
      have XA := Lib.hid (show Blk ((W1.alloc (.cells zTr 62)).setCells W1.heap.size 0 (trc x s).toList) W1.heap.size 62 (trc x s) from (show Blk (W1.alloc (.cells zTr 62)) W1.heap.size 62 (trc noTr noSl) from Blk.new W1 _ _).put _ rfl)
      have EA := Lib.hid (show Below W1.heap.size W1 ((W1.alloc (.cells zTr 62)).setCells W1.heap.size 0 (trc x s).toList) from Below.setCells (b := W1.heap.size) (Nat.le_refl _) (trc x s).toList 0 _ (Joins.below_alloc1 W1 (.cells zTr 62)))
      have BA := Lib.hid (stepB C1.out EA.out)
      have EE := Lib.hid (stepB D1.out EA.out)
      have GA := Lib.hid C1.out.size
      generalize (W1.alloc (.cells zTr 62)).setCells W1.heap.size 0 (trc x s).toList = V1 at XA BA EE EA ⊢
      generalize W1.heap.size = bt at XA GA EA ⊢))
 go_upto_region 4 with fail
 have H2 := Lib.hid (H1.out.step EE.out)
 have A2 := Lib.hid (A1.out.here EE.out)
 have KP := Lib.hid (show ∀ Y, Below V1.heap.size V1 Y → (Y.cell? ⟨ba, 0, none⟩ = some (.int .i64 a0) ∧ Y.cell? ⟨ba, 1, none⟩ = some (.int .i64 a1) ∧ Y.cell? ⟨g, 0, none⟩ = some (.int .i64 c.cf.sh)) from fun Y hy =>
   ⟨(A2.out.here hy).cell 0, (A2.out.here hy).cell 1, (H2.out.step hy).box.cell 0⟩)
 refine wp_region_held_drew (S := fun w' => w'.cell? ⟨ba, 0, none⟩ = some (.int .i64 a0) ∧ w'.cell? ⟨ba, 1, none⟩ = some (.int .i64 a1) ∧ w'.cell? ⟨g, 0, none⟩ = some (.int .i64 c.cf.sh)) (by kernel_rfl) (KP.out _ (Below.refl _ _).drew) (fun hHeld => ?_)
 have BD := Lib.hid (show Below V1.heap.size V1 V1.drew from (Below.refl _ _).drew)
 generalize V1.drew = V2 at BD hHeld ⊢
 refine wpAnyH_take (i := 0) (v := ?_) rfl (by kernel_rfl) (by kernel_rfl) (by kernel_rfl) (fun _ _ _ h => h) (Or.inl ⟨by rfl, ?_⟩) (by assumption) ?_
 rotate_left
 · (intro w0 hSw; (try dsimp only at hSw); go_simp; try with_reducible rfl)
 try simp only [List.getElem_toArray, List.getElem_cons_succ, List.getElem_cons_zero, Act.put, List.setIfInBounds_toArray, List.set_cons_zero, List.set_cons_succ]
 refine wpAnyH_take (i := 1) (v := ?_) rfl (by kernel_rfl) (by kernel_rfl) (by kernel_rfl) (fun _ _ _ h => h) (Or.inl ⟨by rfl, ?_⟩) (by assumption) ?_
 rotate_left
 · (intro w0 hSw; (try dsimp only at hSw); go_simp; try with_reducible rfl)
 try simp only [List.getElem_toArray, List.getElem_cons_succ, List.getElem_cons_zero, Act.put, List.setIfInBounds_toArray, List.set_cons_zero, List.set_cons_succ]
 refine wpAnyH_take (i := 2) (v := ?_) rfl (by kernel_rfl) (by kernel_rfl) (by kernel_rfl) (fun _ _ _ h => h) (Or.inl ⟨by rfl, ?_⟩) (by assumption) ?_
 rotate_left
 · (intro w0 hSw; (try dsimp only at hSw); go_simp; try with_reducible rfl)
 try simp only [List.getElem_toArray, List.getElem_cons_succ, List.getElem_cons_zero, Act.put, List.setIfInBounds_toArray, List.set_cons_zero, List.set_cons_succ]
 refine wpAnyH_take (i := 3) (v := ?_) rfl (by kernel_rfl) (by kernel_rfl) (by kernel_rfl) (fun _ _ _ h => h) (Or.inl ⟨by rfl, ?_⟩) (by assumption) ?_
 rotate_left
 · (intro w0 hSw; (try dsimp only at hSw); go_simp; try with_reducible rfl)
 try simp only [List.getElem_toArray, List.getElem_cons_succ, List.getElem_cons_zero, Act.put, List.setIfInBounds_toArray, List.set_cons_zero, List.set_cons_succ]
 refine wpAnyH_take (i := 4) (v := ?_) rfl (by kernel_rfl) (by kernel_rfl) (by kernel_rfl) (fun _ _ _ h => h) (Or.inl ⟨by rfl, ?_⟩) (by assumption) ?_
 rotate_left
 · (intro w0 hSw; (try dsimp only at hSw); go_simp; try with_reducible rfl)
 try simp only [List.getElem_toArray, List.getElem_cons_succ, List.getElem_cons_zero, Act.put, List.setIfInBounds_toArray, List.set_cons_zero, List.set_cons_succ]
 refine wpAnyH_take (i := 5) (v := ?_) rfl (by kernel_rfl) (by kernel_rfl) (by kernel_rfl) (fun _ _ _ h => h) (Or.inl ⟨by rfl, ?_⟩) (by assumption) ?_
 rotate_left
 · (intro w0 hSw; (try dsimp only at hSw); go_simp; try with_reducible rfl)
 try simp only [List.getElem_toArray, List.getElem_cons_succ, List.getElem_cons_zero, Act.put, List.setIfInBounds_toArray, List.set_cons_zero, List.set_cons_succ]
 refine wpAnyH_ready (rs := [6]) (by kernel_rfl) (by simp) ?_
 refine AllReadyH.cons rfl (fun K hK => ?_) AllReadyH.nil
 go_simp
 refine (shard_no a0 a1 c.cf.sh HRS.out _).mono ?_
 rintro e V3 ⟨rfl, hb⟩
 try go_simp
 have B3 := Lib.hid (BD.out.trans (hb.mono BD.out.size))
 clear hb
 refine hK.out _ _ (KP.out _ B3.out) (fun hHeld => ?_)
 clear hK K
 refine wpAnyH_take (i := 7) (v := ?_) rfl (by kernel_rfl) (by kernel_rfl) (by kernel_rfl) (fun _ _ _ h => h) (Or.inl ⟨by rfl, ?_⟩) (by assumption) ?_
 rotate_left
 · (intro w0 hSw; (try dsimp only at hSw); go_simp; try with_reducible rfl)
 try simp only [List.getElem_toArray, List.getElem_cons_succ, List.getElem_cons_zero, Act.put, List.setIfInBounds_toArray, List.set_cons_zero, List.set_cons_succ]
 refine wpAnyH_take (i := 8) (v := ?_) rfl (by kernel_rfl) (by kernel_rfl) (by kernel_rfl) (fun _ _ _ h => h) (Or.inl ⟨by rfl, ?_⟩) (by assumption) ?_
 rotate_left
 · (intro w0 hSw; (try dsimp only at hSw); go_simp; try with_reducible rfl)
 try simp only [List.getElem_toArray, List.getElem_cons_succ, List.getElem_cons_zero, Act.put, List.setIfInBounds_toArray, List.set_cons_zero, List.set_cons_succ]
 refine wpAnyH_take (i := 9) (v := ?_) rfl (by kernel_rfl) (by kernel_rfl) (by kernel_rfl) (fun _ _ _ h => h) (Or.inl ⟨by rfl, ?_⟩) (by assumption) ?_
 rotate_left
 · (intro w0 hSw; (try dsimp only at hSw); go_simp; try with_reducible rfl)
 try simp only [List.getElem_toArray, List.getElem_cons_succ, List.getElem_cons_zero, Act.put, List.setIfInBounds_toArray, List.set_cons_zero, List.set_cons_succ]
 refine wpAnyH_take (i := 10) (v := ?_) rfl (by kernel_rfl) (by kernel_rfl) (by kernel_rfl) (fun _ _ _ h => h) (Or.inl ⟨by rfl, ?_⟩) (by assumption) ?_
 rotate_left
 · (intro w0 hSw; (try dsimp only at hSw); go_simp; try with_reducible rfl)
 try simp only [List.getElem_toArray, List.getElem_cons_succ, List.getElem_cons_zero, Act.put, List.setIfInBounds_toArray, List.set_cons_zero, List.set_cons_succ]
 refine wpAnyH_take (i := 11) (v := ?_) rfl (by kernel_rfl) (by kernel_rfl) (by kernel_rfl) (fun _ _ _ h => h) (Or.inl ⟨by rfl, ?_⟩) (by assumption) ?_
 rotate_left
 · (intro w0 hSw; (try dsimp only at hSw); go_simp; try with_reducible rfl)
 try simp only [List.getElem_toArray, List.getElem_cons_succ, List.getElem_cons_zero, Act.put, List.setIfInBounds_toArray, List.set_cons_zero, List.set_cons_succ]
 refine wpAnyH_done (by kernel_rfl) ?_ _
 clear hHeld
 go_wp2_with fail
 go_ret2
 exact ⟨rfl, stepB BA.out B3.out⟩
set_option maxRecDepth 100000 in
set_option maxHeartbeats 16000000 in
theorem lock_err (id a0 a1 md : Int) (w : World) (h : CoM w g n c P) (hr : mayL n c.cl id = 0) (i : Nat) (h0 : nowL n c.cl id = (i : Int) + 1) (hi : i < P.L.length) (hl : P.L.length ≤ 1000) (x : Tr) (s : Sl) (hq : P.L[i] = (x, s)) (hS : Short x) (hT : Shs x.tch) (hq0 : 0 ≤ x.sq) (hres : okR a0 a1 = true) (hsh : 1 ≤ c.cf.sh ∧ c.cf.sh ≤ 64) (y : Tr) (ms : List (List Int)) (cd : Int) (hcd : cd ≠ 0) (hy : askL x (shardF a0 c.cf.sh) a0 a1 md = (y, ms, cd)) :
   Calls Tryz.prog 24 #[.pointer (some ⟨g, 0, none⟩), .int .i64 id, .agg #[.int .i64 a0, .int .i64 a1], .int .i64 md] w fun e w' => e = .returned (.tuple #[.slice none 0 0, errno cd]) ∧ Below w.heap.size w w' := by
 have hn0 := fun W => run_neq_nil_nil (P := Tryz.prog) W 28 Tryz.underlying28
 have A1 := Lib.hid (show Blk (w.alloc (.cells #[.int .i64 a0, .int .i64 a1] 39)) w.heap.size 39 #[.int .i64 a0, .int .i64 a1] from Blk.new w _ _)
 have B1 := Lib.hid (Joins.below_alloc1 w (.cells #[.int .i64 a0, .int .i64 a1] 39))
 have hnn := fun W => run_neq_held_nil (P := Tryz.prog) W 28 81 (.int .i64 cd) Tryz.underlying28
 have H1 := Lib.hid (h.step B1.out)
 have HM := Lib.hid h
 have HR := Lib.hid hr
 have H0 := Lib.hid h0
 have HI := Lib.hid hi
 have HQ := Lib.hid hq
 have HT := Lib.hid (show Tm w 0 x s from by have := h.r.sls _ (List.getElem_mem hi); rw [hq] at this; exact this)
 have HTU := Lib.hid (fun k (hk : P.tur g k) => h.lt (k := k) (.inl hk))
 have HL := Lib.hid hl
 clear hr h0 hq hl
 have HS := Lib.hid hS
 have HTC := Lib.hid hT
 have HQ0 := Lib.hid hq0
 have HRS := Lib.hid hres
 have HSH := Lib.hid hsh
 have HY := Lib.hid hy
 clear h hS hT hq0 hres hsh hy
 have HCD := Lib.hid hcd
 have EV := Lib.hid (errV_pos hcd)
 clear hcd
 go_enter Tryz.func24, Tryz.ntmps24
 go_upto_region 1 with fail
 obtain ⟨ba, hba⟩ : ∃ ba, ba = w.heap.size := ⟨_, rfl⟩
 have HBA := Lib.hid hba
 rw [← hba] at A1 ⊢
 clear hba
 generalize w.alloc (.cells #[.int .i64 a0, .int .i64 a1] 39) = V at A1 B1 H1 ⊢
 go_upto_region 2 with (first
   | (go_at_call 48; refine (current_ok id _ H1.out HR.out i H0.out HI.out (by have := HL.out; omega) (x, s) HQ.out).mono ?_; rintro e W1 ⟨rfl, hb⟩; rw [show ((x, s) : Tr × Sl).1 = x from rfl, show ((x, s) : Tr × Sl).2 = s from rfl]; have C1 := Lib.hid (stepB B1.out hb); have D1 := Lib.hid hb; clear hb)
   | (refine wpList_store_mid (by rfl) 62 (.tmp 10) (.tmp 18) (by rfl) W1.heap.size 0 (trc x s) (by rfl) (by rfl) ((show Blk (W1.alloc (.cells zTr 62)) W1.heap.size 62 (trc noTr noSl) from Blk.new W1 _ _).there (Nat.le_refl 13)) (tr_info _ _) (HT.out.step C1.out).one ?_
      have XA := Lib.hid (show Blk ((W1.alloc (.cells zTr 62)).setCells W1.heap.size 0 (trc x s).toList) W1.heap.size 62 (trc x s) from (show Blk (W1.alloc (.cells zTr 62)) W1.heap.size 62 (trc noTr noSl) from Blk.new W1 _ _).put _ rfl)
      have EA := Lib.hid (show Below W1.heap.size W1 ((W1.alloc (.cells zTr 62)).setCells W1.heap.size 0 (trc x s).toList) from Below.setCells (b := W1.heap.size) (Nat.le_refl _) (trc x s).toList 0 _ (Joins.below_alloc1 W1 (.cells zTr 62)))
      have BA := Lib.hid (stepB C1.out EA.out)
      have EE := Lib.hid (stepB D1.out EA.out)
      have GA := Lib.hid C1.out.size
      generalize (W1.alloc (.cells zTr 62)).setCells W1.heap.size 0 (trc x s).toList = V1 at XA BA EE EA ⊢
      generalize W1.heap.size = bt at XA GA EA ⊢))
 go_upto_region 4 with fail
 have H2 := Lib.hid (H1.out.step EE.out)
 have A2 := Lib.hid (A1.out.here EE.out)
 have KP := Lib.hid (show ∀ Y, Below V1.heap.size V1 Y → (Y.cell? ⟨ba, 0, none⟩ = some (.int .i64 a0) ∧ Y.cell? ⟨ba, 1, none⟩ = some (.int .i64 a1) ∧ Y.cell? ⟨g, 0, none⟩ = some (.int .i64 c.cf.sh)) from fun Y hy =>
   ⟨(A2.out.here hy).cell 0, (A2.out.here hy).cell 1, (H2.out.step hy).box.cell 0⟩)
 refine wp_region_held_drew (S := fun w' => w'.cell? ⟨ba, 0, none⟩ = some (.int .i64 a0) ∧ w'.cell? ⟨ba, 1, none⟩ = some (.int .i64 a1) ∧ w'.cell? ⟨g, 0, none⟩ = some (.int .i64 c.cf.sh)) (by kernel_rfl) (KP.out _ (Below.refl _ _).drew) (fun hHeld => ?_)
 have BD := Lib.hid (show Below V1.heap.size V1 V1.drew from (Below.refl _ _).drew)
 generalize V1.drew = V2 at BD hHeld ⊢
 refine wpAnyH_take (i := 0) (v := ?_) rfl (by kernel_rfl) (by kernel_rfl) (by kernel_rfl) (fun _ _ _ h => h) (Or.inl ⟨by rfl, ?_⟩) (by assumption) ?_
 rotate_left
 · (intro w0 hSw; (try dsimp only at hSw); go_simp; try with_reducible rfl)
 try simp only [List.getElem_toArray, List.getElem_cons_succ, List.getElem_cons_zero, Act.put, List.setIfInBounds_toArray, List.set_cons_zero, List.set_cons_succ]
 refine wpAnyH_take (i := 1) (v := ?_) rfl (by kernel_rfl) (by kernel_rfl) (by kernel_rfl) (fun _ _ _ h => h) (Or.inl ⟨by rfl, ?_⟩) (by assumption) ?_
 rotate_left
 · (intro w0 hSw; (try dsimp only at hSw); go_simp; try with_reducible rfl)
 try simp only [List.getElem_toArray, List.getElem_cons_succ, List.getElem_cons_zero, Act.put, List.setIfInBounds_toArray, List.set_cons_zero, List.set_cons_succ]
 refine wpAnyH_take (i := 2) (v := ?_) rfl (by kernel_rfl) (by kernel_rfl) (by kernel_rfl) (fun _ _ _ h => h) (Or.inl ⟨by rfl, ?_⟩) (by assumption) ?_
 rotate_left
 · (intro w0 hSw; (try dsimp only at hSw); go_simp; try with_reducible rfl)
 try simp only [List.getElem_toArray, List.getElem_cons_succ, List.getElem_cons_zero, Act.put, List.setIfInBounds_toArray, List.set_cons_zero, List.set_cons_succ]
 refine wpAnyH_take (i := 3) (v := ?_) rfl (by kernel_rfl) (by kernel_rfl) (by kernel_rfl) (fun _ _ _ h => h) (Or.inl ⟨by rfl, ?_⟩) (by assumption) ?_
 rotate_left
 · (intro w0 hSw; (try dsimp only at hSw); go_simp; try with_reducible rfl)
 try simp only [List.getElem_toArray, List.getElem_cons_succ, List.getElem_cons_zero, Act.put, List.setIfInBounds_toArray, List.set_cons_zero, List.set_cons_succ]
 refine wpAnyH_take (i := 4) (v := ?_) rfl (by kernel_rfl) (by kernel_rfl) (by kernel_rfl) (fun _ _ _ h => h) (Or.inl ⟨by rfl, ?_⟩) (by assumption) ?_
 rotate_left
 · (intro w0 hSw; (try dsimp only at hSw); go_simp; try with_reducible rfl)
 try simp only [List.getElem_toArray, List.getElem_cons_succ, List.getElem_cons_zero, Act.put, List.setIfInBounds_toArray, List.set_cons_zero, List.set_cons_succ]
 refine wpAnyH_take (i := 5) (v := ?_) rfl (by kernel_rfl) (by kernel_rfl) (by kernel_rfl) (fun _ _ _ h => h) (Or.inl ⟨by rfl, ?_⟩) (by assumption) ?_
 rotate_left
 · (intro w0 hSw; (try dsimp only at hSw); go_simp; try with_reducible rfl)
 try simp only [List.getElem_toArray, List.getElem_cons_succ, List.getElem_cons_zero, Act.put, List.setIfInBounds_toArray, List.set_cons_zero, List.set_cons_succ]
 refine wpAnyH_ready (rs := [6]) (by kernel_rfl) (by simp) ?_
 refine AllReadyH.cons rfl (fun K hK => ?_) AllReadyH.nil
 go_simp
 refine (shard_yes a0 a1 c.cf.sh HRS.out HSH.out.1 HSH.out.2 _).mono ?_
 rintro e V3 ⟨rfl, hb⟩
 try go_simp
 have B3 := Lib.hid (BD.out.trans (hb.mono BD.out.size))
 clear hb
 refine hK.out _ _ (KP.out _ B3.out) (fun hHeld => ?_)
 clear hK K
 refine wpAnyH_take (i := 7) (v := ?_) rfl (by kernel_rfl) (by kernel_rfl) (by kernel_rfl) (fun _ _ _ h => h) (Or.inl ⟨by rfl, ?_⟩) (by assumption) ?_
 rotate_left
 · (intro w0 hSw; (try dsimp only at hSw); go_simp; try with_reducible rfl)
 try simp only [List.getElem_toArray, List.getElem_cons_succ, List.getElem_cons_zero, Act.put, List.setIfInBounds_toArray, List.set_cons_zero, List.set_cons_succ]
 refine wpAnyH_take (i := 8) (v := ?_) rfl (by kernel_rfl) (by kernel_rfl) (by kernel_rfl) (fun _ _ _ h => h) (Or.inl ⟨by rfl, ?_⟩) (by assumption) ?_
 rotate_left
 · (intro w0 hSw; (try dsimp only at hSw); go_simp; try with_reducible rfl)
 try simp only [List.getElem_toArray, List.getElem_cons_succ, List.getElem_cons_zero, Act.put, List.setIfInBounds_toArray, List.set_cons_zero, List.set_cons_succ]
 refine wpAnyH_take (i := 9) (v := ?_) rfl (by kernel_rfl) (by kernel_rfl) (by kernel_rfl) (fun _ _ _ h => h) (Or.inl ⟨by rfl, ?_⟩) (by assumption) ?_
 rotate_left
 · (intro w0 hSw; (try dsimp only at hSw); go_simp; try with_reducible rfl)
 try simp only [List.getElem_toArray, List.getElem_cons_succ, List.getElem_cons_zero, Act.put, List.setIfInBounds_toArray, List.set_cons_zero, List.set_cons_succ]
 refine wpAnyH_take (i := 10) (v := ?_) rfl (by kernel_rfl) (by kernel_rfl) (by kernel_rfl) (fun _ _ _ h => h) (Or.inl ⟨by rfl, ?_⟩) (by assumption) ?_
 rotate_left
 · (intro w0 hSw; (try dsimp only at hSw); go_simp; try with_reducible rfl)
 try simp only [List.getElem_toArray, List.getElem_cons_succ, List.getElem_cons_zero, Act.put, List.setIfInBounds_toArray, List.set_cons_zero, List.set_cons_succ]
 refine wpAnyH_take (i := 11) (v := ?_) rfl (by kernel_rfl) (by kernel_rfl) (by kernel_rfl) (fun _ _ _ h => h) (Or.inl ⟨by rfl, ?_⟩) (by assumption) ?_
 rotate_left
 · (intro w0 hSw; (try dsimp only at hSw); go_simp; try with_reducible rfl)
 try simp only [List.getElem_toArray, List.getElem_cons_succ, List.getElem_cons_zero, Act.put, List.setIfInBounds_toArray, List.set_cons_zero, List.set_cons_succ]
 refine wpAnyH_done (by kernel_rfl) ?_ _
 clear hHeld
 have H3 := Lib.hid (H2.out.step B3.out)
 have A3 := Lib.hid (A2.out.here B3.out)
 have X3 := Lib.hid (XA.out.here B3.out)
 have T3 := Lib.hid ((HT.out.step BA.out).step B3.out)
 have C3 := Lib.hid (stepB BA.out B3.out)
 clear KP BD B3 H2 A2 XA BA EE EA C1 D1 A1 B1 H1
 generalize shardF a0 c.cf.sh = sf at HY ⊢
 have a0c : V3.cell? ⟨ba, 0, none⟩ = some (.int .i64 a0) := A3.out.cell 0
 have a1c : V3.cell? ⟨ba, 1, none⟩ = some (.int .i64 a1) := A3.out.cell 1
 go_upto_region 8 with (first
   | (refine wpList_load_row rfl 62 (.tmp 10) rfl bt rfl 62 (trc x s) (0, 0) _ X3.out Tryz.underlying62 rfl (tr_info _ _) ?_)
   | (go_at_call 51; refine (ask_any x s a0 a1 sf md _ T3.out HS.out HTC.out HQ0.out).mono ?_; rw [HY.out]; rintro e V4 ⟨s2, u, rfl, ht2, hu2, hb2⟩; have T4 := Lib.hid ht2; have U4 := Lib.hid hu2; have B4 := Lib.hid hb2; have H4 := Lib.hid (H3.out.step hb2); clear ht2 hu2 hb2)
   | (go_at_call 50; refine (becomes_err (g := g) y s2 u cd _ HCD.out).mono ?_; rintro e V5 ⟨rfl, hb⟩; have B5 := Lib.hid (stepB (stepB C3.out B4.out) hb); rw [EV.out]; clear hb))
 go_wp2_with fail
 go_ret2
 exact ⟨rfl, B5.out⟩
set_option maxRecDepth 100000 in
set_option maxHeartbeats 16000000 in
theorem lock_ok (id a0 a1 md : Int) (w : World) (h : CoM w g n c P) (hr : mayL n c.cl id = 0) (i : Nat) (h0 : nowL n c.cl id = (i : Int) + 1) (hi : i < P.L.length) (hl : P.L.length ≤ 1000) (x : Tr) (s : Sl) (hq : P.L[i] = (x, s)) (hS : Short x) (hT : Shs x.tch) (hq0 : 0 ≤ x.sq) (hres : okR a0 a1 = true) (hsh : 1 ≤ c.cf.sh ∧ c.cf.sh ≤ 64) (y : Tr) (ms : List (List Int)) (hx : x.tx = (i : Int) + 1) (hev : c.ev.length ≤ 90000) (hy : askL x (shardF a0 c.cf.sh) a0 a1 md = (y, ms, 0)) (c' : Co) (hc' : c' = { c with txs := c.txs.set i y, ev := c.ev ++ [[2, 0, (i : Int) + 1, a0, a1, md, 0]] }) :
   Calls Tryz.prog 24 #[.pointer (some ⟨g, 0, none⟩), .int .i64 id, .agg #[.int .i64 a0, .int .i64 a1], .int .i64 md] w fun e w' => ∃ u, e = .returned (.tuple #[u, .nilIface]) ∧ MsgR w' w.heap.size u ms ∧ ∃ P', CoS w w' g n P (fun _ => False) c' P' := by
 have hn0 := fun W => run_neq_nil_nil (P := Tryz.prog) W 28 Tryz.underlying28
 have A1 := Lib.hid (show Blk (w.alloc (.cells #[.int .i64 a0, .int .i64 a1] 39)) w.heap.size 39 #[.int .i64 a0, .int .i64 a1] from Blk.new w _ _)
 have B1 := Lib.hid (Joins.below_alloc1 w (.cells #[.int .i64 a0, .int .i64 a1] 39))
 have H1 := Lib.hid (h.step B1.out)
 have HM := Lib.hid h
 have HR := Lib.hid hr
 have H0 := Lib.hid h0
 have HI := Lib.hid hi
 have HQ := Lib.hid hq
 have HT := Lib.hid (show Tm w 0 x s from by have := h.r.sls _ (List.getElem_mem hi); rw [hq] at this; exact this)
 have HTU := Lib.hid (fun k (hk : P.tur g k) => h.lt (k := k) (.inl hk))
 have HL := Lib.hid hl
 clear hr h0 hq hl
 have HX := Lib.hid hx
 have HEV := Lib.hid hev
 have HC := Lib.hid hc'
 have HAK := Lib.hid (ask_ok hy)
 have HBL := Lib.hid (show becL c y i = ({ c with txs := c.txs.set i y }, 0) from by
   have e1 : (c.txs.getD i noTr).st = x.st := by rw [← h.r.txs, List.getD_eq_getElem?_getD, List.getElem?_map, List.getElem?_eq_getElem HI.out, HQ.out]; rfl
   unfold becL
   rw [if_pos (by rw [e1, HAK.out.2.1])])
 have HS := Lib.hid hS
 have HTC := Lib.hid hT
 have HQ0 := Lib.hid hq0
 have HRS := Lib.hid hres
 have HSH := Lib.hid hsh
 have HY := Lib.hid hy
 clear h hS hT hq0 hres hsh hy
 clear hx hev hc'
 go_enter Tryz.func24, Tryz.ntmps24
 go_upto_region 1 with fail
 obtain ⟨ba, hba⟩ : ∃ ba, ba = w.heap.size := ⟨_, rfl⟩
 have HBA := Lib.hid hba
 rw [← hba] at A1 ⊢
 clear hba
 generalize w.alloc (.cells #[.int .i64 a0, .int .i64 a1] 39) = V at A1 B1 H1 ⊢
 go_upto_region 2 with (first
   | (go_at_call 48; refine (current_ok id _ H1.out HR.out i H0.out HI.out (by have := HL.out; omega) (x, s) HQ.out).mono ?_; rintro e W1 ⟨rfl, hb⟩; rw [show ((x, s) : Tr × Sl).1 = x from rfl, show ((x, s) : Tr × Sl).2 = s from rfl]; have C1 := Lib.hid (stepB B1.out hb); have D1 := Lib.hid hb; clear hb)
   | (refine wpList_store_mid (by rfl) 62 (.tmp 10) (.tmp 18) (by rfl) W1.heap.size 0 (trc x s) (by rfl) (by rfl) ((show Blk (W1.alloc (.cells zTr 62)) W1.heap.size 62 (trc noTr noSl) from Blk.new W1 _ _).there (Nat.le_refl 13)) (tr_info _ _) (HT.out.step C1.out).one ?_
      have XA := Lib.hid (show Blk ((W1.alloc (.cells zTr 62)).setCells W1.heap.size 0 (trc x s).toList) W1.heap.size 62 (trc x s) from (show Blk (W1.alloc (.cells zTr 62)) W1.heap.size 62 (trc noTr noSl) from Blk.new W1 _ _).put _ rfl)
      have EA := Lib.hid (show Below W1.heap.size W1 ((W1.alloc (.cells zTr 62)).setCells W1.heap.size 0 (trc x s).toList) from Below.setCells (b := W1.heap.size) (Nat.le_refl _) (trc x s).toList 0 _ (Joins.below_alloc1 W1 (.cells zTr 62)))
      have BA := Lib.hid (stepB C1.out EA.out)
      have EE := Lib.hid (stepB D1.out EA.out)
      have GA := Lib.hid C1.out.size
      generalize (W1.alloc (.cells zTr 62)).setCells W1.heap.size 0 (trc x s).toList = V1 at XA BA EE EA ⊢
      generalize W1.heap.size = bt at XA GA EA ⊢))
 go_upto_region 4 with fail
 have H2 := Lib.hid (H1.out.step EE.out)
 have A2 := Lib.hid (A1.out.here EE.out)
 have KP := Lib.hid (show ∀ Y, Below V1.heap.size V1 Y → (Y.cell? ⟨ba, 0, none⟩ = some (.int .i64 a0) ∧ Y.cell? ⟨ba, 1, none⟩ = some (.int .i64 a1) ∧ Y.cell? ⟨g, 0, none⟩ = some (.int .i64 c.cf.sh)) from fun Y hy =>
   ⟨(A2.out.here hy).cell 0, (A2.out.here hy).cell 1, (H2.out.step hy).box.cell 0⟩)
 refine wp_region_held_drew (S := fun w' => w'.cell? ⟨ba, 0, none⟩ = some (.int .i64 a0) ∧ w'.cell? ⟨ba, 1, none⟩ = some (.int .i64 a1) ∧ w'.cell? ⟨g, 0, none⟩ = some (.int .i64 c.cf.sh)) (by kernel_rfl) (KP.out _ (Below.refl _ _).drew) (fun hHeld => ?_)
 have BD := Lib.hid (show Below V1.heap.size V1 V1.drew from (Below.refl _ _).drew)
 generalize V1.drew = V2 at BD hHeld ⊢
 refine wpAnyH_take (i := 0) (v := ?_) rfl (by kernel_rfl) (by kernel_rfl) (by kernel_rfl) (fun _ _ _ h => h) (Or.inl ⟨by rfl, ?_⟩) (by assumption) ?_
 rotate_left
 · (intro w0 hSw; (try dsimp only at hSw); go_simp; try with_reducible rfl)
 try simp only [List.getElem_toArray, List.getElem_cons_succ, List.getElem_cons_zero, Act.put, List.setIfInBounds_toArray, List.set_cons_zero, List.set_cons_succ]
 refine wpAnyH_take (i := 1) (v := ?_) rfl (by kernel_rfl) (by kernel_rfl) (by kernel_rfl) (fun _ _ _ h => h) (Or.inl ⟨by rfl, ?_⟩) (by assumption) ?_
 rotate_left
 · (intro w0 hSw; (try dsimp only at hSw); go_simp; try with_reducible rfl)
 try simp only [List.getElem_toArray, List.getElem_cons_succ, List.getElem_cons_zero, Act.put, List.setIfInBounds_toArray, List.set_cons_zero, List.set_cons_succ]
 refine wpAnyH_take (i := 2) (v := ?_) rfl (by kernel_rfl) (by kernel_rfl) (by kernel_rfl) (fun _ _ _ h => h) (Or.inl ⟨by rfl, ?_⟩) (by assumption) ?_
 rotate_left
 · (intro w0 hSw; (try dsimp only at hSw); go_simp; try with_reducible rfl)
 try simp only [List.getElem_toArray, List.getElem_cons_succ, List.getElem_cons_zero, Act.put, List.setIfInBounds_toArray, List.set_cons_zero, List.set_cons_succ]
 refine wpAnyH_take (i := 3) (v := ?_) rfl (by kernel_rfl) (by kernel_rfl) (by kernel_rfl) (fun _ _ _ h => h) (Or.inl ⟨by rfl, ?_⟩) (by assumption) ?_
 rotate_left
 · (intro w0 hSw; (try dsimp only at hSw); go_simp; try with_reducible rfl)
 try simp only [List.getElem_toArray, List.getElem_cons_succ, List.getElem_cons_zero, Act.put, List.setIfInBounds_toArray, List.set_cons_zero, List.set_cons_succ]
 refine wpAnyH_take (i := 4) (v := ?_) rfl (by kernel_rfl) (by kernel_rfl) (by kernel_rfl) (fun _ _ _ h => h) (Or.inl ⟨by rfl, ?_⟩) (by assumption) ?_
 rotate_left
 · (intro w0 hSw; (try dsimp only at hSw); go_simp; try with_reducible rfl)
 try simp only [List.getElem_toArray, List.getElem_cons_succ, List.getElem_cons_zero, Act.put, List.setIfInBounds_toArray, List.set_cons_zero, List.set_cons_succ]
 refine wpAnyH_take (i := 5) (v := ?_) rfl (by kernel_rfl) (by kernel_rfl) (by kernel_rfl) (fun _ _ _ h => h) (Or.inl ⟨by rfl, ?_⟩) (by assumption) ?_
 rotate_left
 · (intro w0 hSw; (try dsimp only at hSw); go_simp; try with_reducible rfl)
 try simp only [List.getElem_toArray, List.getElem_cons_succ, List.getElem_cons_zero, Act.put, List.setIfInBounds_toArray, List.set_cons_zero, List.set_cons_succ]
 refine wpAnyH_ready (rs := [6]) (by kernel_rfl) (by simp) ?_
 refine AllReadyH.cons rfl (fun K hK => ?_) AllReadyH.nil
 go_simp
 refine (shard_yes a0 a1 c.cf.sh HRS.out HSH.out.1 HSH.out.2 _).mono ?_
 rintro e V3 ⟨rfl, hb⟩
 try go_simp
 have B3 := Lib.hid (BD.out.trans (hb.mono BD.out.size))
 clear hb
 refine hK.out _ _ (KP.out _ B3.out) (fun hHeld => ?_)
 clear hK K
 refine wpAnyH_take (i := 7) (v := ?_) rfl (by kernel_rfl) (by kernel_rfl) (by kernel_rfl) (fun _ _ _ h => h) (Or.inl ⟨by rfl, ?_⟩) (by assumption) ?_
 rotate_left
 · (intro w0 hSw; (try dsimp only at hSw); go_simp; try with_reducible rfl)
 try simp only [List.getElem_toArray, List.getElem_cons_succ, List.getElem_cons_zero, Act.put, List.setIfInBounds_toArray, List.set_cons_zero, List.set_cons_succ]
 refine wpAnyH_take (i := 8) (v := ?_) rfl (by kernel_rfl) (by kernel_rfl) (by kernel_rfl) (fun _ _ _ h => h) (Or.inl ⟨by rfl, ?_⟩) (by assumption) ?_
 rotate_left
 · (intro w0 hSw; (try dsimp only at hSw); go_simp; try with_reducible rfl)
 try simp only [List.getElem_toArray, List.getElem_cons_succ, List.getElem_cons_zero, Act.put, List.setIfInBounds_toArray, List.set_cons_zero, List.set_cons_succ]
 refine wpAnyH_take (i := 9) (v := ?_) rfl (by kernel_rfl) (by kernel_rfl) (by kernel_rfl) (fun _ _ _ h => h) (Or.inl ⟨by rfl, ?_⟩) (by assumption) ?_
 rotate_left
 · (intro w0 hSw; (try dsimp only at hSw); go_simp; try with_reducible rfl)
 try simp only [List.getElem_toArray, List.getElem_cons_succ, List.getElem_cons_zero, Act.put, List.setIfInBounds_toArray, List.set_cons_zero, List.set_cons_succ]
 refine wpAnyH_take (i := 10) (v := ?_) rfl (by kernel_rfl) (by kernel_rfl) (by kernel_rfl) (fun _ _ _ h => h) (Or.inl ⟨by rfl, ?_⟩) (by assumption) ?_
 rotate_left
 · (intro w0 hSw; (try dsimp only at hSw); go_simp; try with_reducible rfl)
 try simp only [List.getElem_toArray, List.getElem_cons_succ, List.getElem_cons_zero, Act.put, List.setIfInBounds_toArray, List.set_cons_zero, List.set_cons_succ]
 refine wpAnyH_take (i := 11) (v := ?_) rfl (by kernel_rfl) (by kernel_rfl) (by kernel_rfl) (fun _ _ _ h => h) (Or.inl ⟨by rfl, ?_⟩) (by assumption) ?_
 rotate_left
 · (intro w0 hSw; (try dsimp only at hSw); go_simp; try with_reducible rfl)
 try simp only [List.getElem_toArray, List.getElem_cons_succ, List.getElem_cons_zero, Act.put, List.setIfInBounds_toArray, List.set_cons_zero, List.set_cons_succ]
 refine wpAnyH_done (by kernel_rfl) ?_ _
 clear hHeld
 have H3 := Lib.hid (H2.out.step B3.out)
 have A3 := Lib.hid (A2.out.here B3.out)
 have X3 := Lib.hid (XA.out.here B3.out)
 have T3 := Lib.hid ((HT.out.step BA.out).step B3.out)
 have C3 := Lib.hid (stepB BA.out B3.out)
 clear KP BD B3 H2 A2 XA BA EE EA C1 D1 A1 B1 H1
 generalize shardF a0 c.cf.sh = sf at HY ⊢
 have a0c : V3.cell? ⟨ba, 0, none⟩ = some (.int .i64 a0) := A3.out.cell 0
 have a1c : V3.cell? ⟨ba, 1, none⟩ = some (.int .i64 a1) := A3.out.cell 1
 go_upto_region 8 with (first
   | (refine wpList_load_row rfl 62 (.tmp 10) rfl bt rfl 62 (trc x s) (0, 0) _ X3.out Tryz.underlying62 rfl (tr_info _ _) ?_)
   | (go_at_call 51; refine (ask_any x s a0 a1 sf md _ T3.out HS.out HTC.out HQ0.out).mono ?_; rw [HY.out]; rintro e V4 ⟨s2, u, rfl, ht2, hu2, hb2⟩; have T4 := Lib.hid ht2; have U4 := Lib.hid hu2; have B4 := Lib.hid hb2; have H4 := Lib.hid (H3.out.step hb2); clear ht2 hu2 hb2)
   | (go_at_call 50
      rw [errV_zero]
      refine (becomes_any y s2 u i _ H4.out (T4.out.less (Nat.zero_le _)) (fun k hk hs => by have h1 := (SlB.lt T4.out hs).1; have h2 := HTU.out k (.inr (.inr (.inr (.inl hk)))); have h3 := C3.out.size; omega) HI.out (by have := HL.out; omega) (by have := HEV.out; omega) (HAK.out.1.trans HX.out) (by have h1 := HAK.out.2.1; have h2 := HAK.out.2.2; omega) (fun _ => by rw [HQ.out]; exact HAK.out.2.2) _ 0 HBL.out).mono ?_
      rintro e V5 ⟨rfl, P5, hs5⟩
      rw [errV_zero]
      have S5 := Lib.hid (((CoS.below (N := fun _ => False) HM.out (stepB C3.out B4.out)).trans hs5).fresh (N' := fun _ => False) (fun k e => by
        rcases e with e | e
        · exact e.elim
        · have h1 := (SlB.lt T4.out e).1; have h3 := C3.out.size; exact .inr (.inl (by omega))))
      have U5 := Lib.hid (own_offM U4.out H4.out hs5.turn (by decide) (by decide) (by decide) (by decide) (by decide))
      have NBT := Lib.hid (show ¬ P.tur g bt from fun e => by have h1 := HTU.out _ e; have := GA.out; omega)
      have NBA := Lib.hid (show ¬ P.tur g ba from fun e => by have h1 := HTU.out _ e; have := HBA.out; omega)
      have X5 := Lib.hid ((X3.out.here B4.out).turn hs5.turn NBT.out)
      have A5 := Lib.hid ((A3.out.here B4.out).turn hs5.turn NBA.out)
      have N5 := Lib.hid (show ∀ k, k < V4.heap.size → ¬ P.tur g k → ¬ P5.tur g k from fun k hk hn e => (hs5.tur k e).elim hn (fun e => by omega))
      have L5 := Lib.hid (show bt < V4.heap.size ∧ ba < V4.heap.size from ⟨(X3.out.here B4.out).lt, (A3.out.here B4.out).lt⟩)
      clear hs5))
 clear a0c a1c
 have c0 : V5.cell? ⟨bt, 0, none⟩ = some (.int .i64 ((i : Int) + 1)) := by rw [← HX.out]; exact X5.out.cell 0
 have a0c : V5.cell? ⟨ba, 0, none⟩ = some (.int .i64 a0) := A5.out.cell 0
 have a1c : V5.cell? ⟨ba, 1, none⟩ = some (.int .i64 a1) := A5.out.cell 1
 go_upto_region 11 with (go_at_call 47; refine (note_any 2 0 ((i : Int) + 1) a0 a1 md 0 _ S5.out.m (by have := HEV.out; show c.ev.length ≤ 100000; omega) _ rfl).mono ?_; rintro e V6 ⟨rfl, ve', hs⟩; have S6 := Lib.hid (S5.out.trans hs); have U6 := Lib.hid (own_offM U5.out S5.out.m hs.turn (by decide) (by decide) (by decide) (by decide) (by decide)); clear hs)
 go_wp2_with fail
 go_ret2
 exact ⟨_, rfl, own_less U6.out C3.out.size, _, by rw [HC.out]; exact S6.out.fresh (fun k e => by simp only [or_false] at e)⟩
end
end Go.Proofs.YtadnlannbafjpaaGreat
