/- A coordinator: whose transaction it is (current). -/
import Derived.Test.YtmfoffigmojdcaaGreatCoP
namespace Go.Proofs.YtmfoffigmojdcaaGreat
open Go.RowKit
set_option linter.unusedVariables false
set_option linter.unusedSimpArgs false

theorem run_equalIn_nil_heldI {P : Program} (w : World) (d : Nat) (t u : TypeId) (x : Value) (h : P.underlying t = some (.interface (P.methodsAt t))) : (Op.equalIn (d + 1) t .nilIface (.iface u x)).run P w = .ok false w := by
  simp [Op.equalIn, run_underlying h]
theorem run_equal_nil_heldI {P : Program} (w : World) (t u : TypeId) (x : Value) (h : P.underlying t = some (.interface (P.methodsAt t))) : (Op.equal t .nilIface (.iface u x)).run P w = .ok false w := run_equalIn_nil_heldI w 9999 t u x h
theorem run_eql_nil_heldI {P : Program} (W : World) (t u : TypeId) (x : Value) (h : P.underlying t = some (.interface (P.methodsAt t))) : (binOp .eql t .nilIface (.iface u x)).run P W = .ok (.bool false) W := by
  simp only [binOp]
  simp [run_equal_nil_heldI W t u x h]
set_option maxRecDepth 100000 in
set_option maxHeartbeats 8000000 in
theorem is_nil (b : Int) (w : World) : Calls Tryz.prog 33 #[.nilIface, .iface 85 (.int .i64 b)] w fun e w' => e = .returned (.bool false) ∧ w = w' := by
  have h0 := fun W => run_eql_nil_nil (P := Tryz.prog) W 28 Tryz.underlying28
  have h1 := fun W => run_eql_nil_heldI (P := Tryz.prog) W 28 85 (.int .i64 b) Tryz.underlying28
  go_enter Tryz.func33, Tryz.ntmps33
  go_wp2_with fail
  go_ret
  exact ⟨rfl, rfl⟩
section
variable {g n : Nat} {c : Co} {P : Pt}
/-- What keeps a client from doing anything with its transaction. -/
def curE (n : Nat) (cl : List Cl) (id : Int) : Int := if mayL n cl id = 0 then (if nowL n cl id = 0 then 10 else 0) else mayL n cl id
set_option maxRecDepth 100000 in
set_option maxHeartbeats 8000000 in
theorem current_nil (id : Int) (w : World) : Calls Tryz.prog 47 #[.pointer none, .int .i64 id] w fun e w' => e = .returned (.tuple #[.agg (trc noTr noSl), errno 1]) ∧ Below w.heap.size w w' := by
  have hnn := fun W => run_neq_held_nil (P := Tryz.prog) W 28 85 (.int .i64 1) Tryz.underlying28
  have X1 := Lib.hid (show Blk (w.alloc (.cells zTr 62)) w.heap.size 62 (trc noTr noSl) from Blk.new w _ _)
  have B1 := Lib.hid (Joins.below_alloc1 w (.cells zTr 62))
  go_enter Tryz.func47, Tryz.ntmps47
  go_upto_region 1 with fail
  obtain ⟨gz, hgz⟩ : ∃ gz, gz = w.heap.size := ⟨_, rfl⟩
  have HG := Lib.hid hgz
  rw [← hgz] at X1 ⊢
  clear hgz
  generalize w.alloc (.cells zTr 62) = V at X1 B1 ⊢
  go_wp2_with (first
    | (go_at_call 42; refine (may_nil id _).mono ?_; rintro e w' ⟨rfl, rfl⟩)
    | (refine wpList_store_mid (by rfl) 62 (.tmp 4) (.tmp 14) (by rfl) gz 0 (trc noTr noSl) (by rfl) (by rfl) (X1.out.there (Nat.le_refl 13)) (tr_info _ _) (tr_one _ _ rfl rfl rfl rfl) ?_
       have Z2 := Lib.hid (X1.out.put (trc noTr noSl) rfl)
       have E2 := Lib.hid (show Below w.heap.size w (V.setCells gz 0 (trc noTr noSl).toList) from Below.setCells (by have := HG.out; omega) _ _ _ B1.out)
       generalize V.setCells gz 0 (trc noTr noSl).toList = W2 at Z2 E2 ⊢))
  exact bodyPost_ret (v := .tuple #[.agg (trc noTr noSl), errno 1]) (results_cell_and rfl rfl rfl (tr_load Z2.out)) rfl ⟨rfl, E2.out⟩
set_option maxRecDepth 100000 in
set_option maxHeartbeats 8000000 in
theorem current_may (id : Int) (w : World) (h : CoM w g n c P) (r : Int) (hr : mayL n c.cl id = r) (h0 : r ≠ 0) : Calls Tryz.prog 47 #[.pointer (some ⟨g, 0, none⟩), .int .i64 id] w fun e w' => e = .returned (.tuple #[.agg (trc noTr noSl), errV r]) ∧ Below w.heap.size w w' := by
  have hnn := fun W => run_neq_held_nil (P := Tryz.prog) W 28 85 (.int .i64 r) Tryz.underlying28
  have X1 := Lib.hid (show Blk (w.alloc (.cells zTr 62)) w.heap.size 62 (trc noTr noSl) from Blk.new w _ _)
  have B1 := Lib.hid (Joins.below_alloc1 w (.cells zTr 62))
  have H1 := Lib.hid (h.step B1.out)
  have HR := Lib.hid hr
  have EV := Lib.hid (errV_pos h0)
  clear h hr h0
  go_enter Tryz.func47, Tryz.ntmps47
  go_upto_region 1 with fail
  obtain ⟨gz, hgz⟩ : ∃ gz, gz = w.heap.size := ⟨_, rfl⟩
  have HG := Lib.hid hgz
  rw [← hgz] at X1 ⊢
  clear hgz
  generalize w.alloc (.cells zTr 62) = V at X1 B1 H1 ⊢
  go_wp2_with (first
    | (go_at_call 42; refine (may_any id _ H1.out r HR.out).mono ?_; rintro e w' ⟨rfl, rfl⟩; rw [EV.out])
    | (refine wpList_store_mid (by rfl) 62 (.tmp 4) (.tmp 14) (by rfl) gz 0 (trc noTr noSl) (by rfl) (by rfl) (X1.out.there (Nat.le_refl 13)) (tr_info _ _) (tr_one _ _ rfl rfl rfl rfl) ?_
       have Z2 := Lib.hid (X1.out.put (trc noTr noSl) rfl)
       have E2 := Lib.hid (show Below w.heap.size w (V.setCells gz 0 (trc noTr noSl).toList) from Below.setCells (by have := HG.out; omega) _ _ _ B1.out)
       generalize V.setCells gz 0 (trc noTr noSl).toList = W2 at Z2 E2 ⊢))
  rw [EV.out]
  exact bodyPost_ret (v := .tuple #[.agg (trc noTr noSl), errno r]) (results_cell_and rfl rfl rfl (tr_load Z2.out)) rfl ⟨rfl, E2.out⟩
set_option maxRecDepth 100000 in
set_option maxHeartbeats 8000000 in
theorem current_now (id : Int) (w : World) (h : CoM w g n c P) (hr : mayL n c.cl id = 0) (h0 : nowL n c.cl id = 0) : Calls Tryz.prog 47 #[.pointer (some ⟨g, 0, none⟩), .int .i64 id] w fun e w' => e = .returned (.tuple #[.agg (trc noTr noSl), errno 10]) ∧ Below w.heap.size w w' := by
  have hnn := fun W => run_neq_held_nil (P := Tryz.prog) W 28 85 (.int .i64 10) Tryz.underlying28
  have hn0 := fun W => run_neq_nil_nil (P := Tryz.prog) W 28 Tryz.underlying28
  have X1 := Lib.hid (show Blk (w.alloc (.cells zTr 62)) w.heap.size 62 (trc noTr noSl) from Blk.new w _ _)
  have B1 := Lib.hid (Joins.below_alloc1 w (.cells zTr 62))
  have H1 := Lib.hid (h.step B1.out)
  have HR := Lib.hid hr
  have HN := Lib.hid h0
  clear h hr h0
  go_enter Tryz.func47, Tryz.ntmps47
  go_upto_region 1 with fail
  obtain ⟨gz, hgz⟩ : ∃ gz, gz = w.heap.size := ⟨_, rfl⟩
  have HG := Lib.hid hgz
  rw [← hgz] at X1 ⊢
  clear hgz
  generalize w.alloc (.cells zTr 62) = V at X1 B1 H1 ⊢
  have k7 : V.cell? ⟨g, 7, none⟩ = some (.pointer (some ⟨P.p, 0, none⟩)) := H1.out.box.cell 7
  go_wp2_with (first
    | (go_at_call 42; refine (may_any id _ H1.out 0 HR.out).mono ?_; rintro e w' ⟨rfl, rfl⟩; rw [errV_zero])
    | (go_at_call 43; refine (cNow_any id _ H1.out.r.cli 0 HN.out).mono ?_; rintro e w' ⟨rfl, rfl⟩; rw [show nowV 0 = .tuple #[.int .i64 0, errno 10] from rfl])
    | (refine wpList_store_mid (by rfl) 62 (.tmp 4) (.tmp 27) (by rfl) gz 0 (trc noTr noSl) (by rfl) (by rfl) (X1.out.there (Nat.le_refl 13)) (tr_info _ _) (tr_one _ _ rfl rfl rfl rfl) ?_
       have Z2 := Lib.hid (X1.out.put (trc noTr noSl) rfl)
       have E2 := Lib.hid (show Below w.heap.size w (V.setCells gz 0 (trc noTr noSl).toList) from Below.setCells (by have := HG.out; omega) _ _ _ B1.out)
       generalize V.setCells gz 0 (trc noTr noSl).toList = W2 at Z2 E2 ⊢))
  exact bodyPost_ret (v := .tuple #[.agg (trc noTr noSl), errno 10]) (results_cell_and rfl rfl rfl (tr_load Z2.out)) rfl ⟨rfl, E2.out⟩
set_option maxRecDepth 100000 in
set_option maxHeartbeats 8000000 in
theorem current_ok (id : Int) (w : World) (h : CoM w g n c P) (hr : mayL n c.cl id = 0) (i : Nat) (h0 : nowL n c.cl id = (i : Int) + 1) (hi : i < P.L.length) (hl : P.L.length ≤ 100000) (q : Tr × Sl) (hq : P.L[i] = q) : Calls Tryz.prog 47 #[.pointer (some ⟨g, 0, none⟩), .int .i64 id] w fun e w' => e = .returned (.tuple #[.agg (trc q.1 q.2), .nilIface]) ∧ Below w.heap.size w w' := by
  have hn0 := fun W => run_neq_nil_nil (P := Tryz.prog) W 28 Tryz.underlying28
  have X1 := Lib.hid (show Blk (w.alloc (.cells zTr 62)) w.heap.size 62 (trc noTr noSl) from Blk.new w _ _)
  have B1 := Lib.hid (Joins.below_alloc1 w (.cells zTr 62))
  have H1 := Lib.hid (h.step B1.out)
  have HR := Lib.hid hr
  have HN := Lib.hid h0
  have HM := Lib.hid (h.r.sls q (hq ▸ List.getElem_mem hi))
  obtain ⟨b, ca, ev, hc, _, _⟩ := H1.out.r.txr.open hi
  rw [hq] at hc
  have HC := Lib.hid (TxR.row hc)
  have EV := Lib.hid ev
  have w1 : IntKind.i64.wrap ((i : Int) + 1 - 1) = (i : Int) := by rw [show (i : Int) + 1 - 1 = (i : Int) by omega]; exact IntWalk.i64_in _ (by omega)
  have w2 : (i : Int) + 1 - 1 = (i : Int) := by omega
  have w0 : IntKind.i64.wrap (i : Int) = (i : Int) := IntWalk.i64_in _ (by omega)
  have d3 : decide ((i : Int) < (P.L.length : Int)) = true := by simp; omega
  have HV := Lib.hid (show nowV ((i : Int) + 1) = .tuple #[.int .i64 ((i : Int) + 1), .nilIface] from by unfold nowV; rw [if_neg (by omega)])
  clear h hr h0 hc ev hq
  go_enter Tryz.func47, Tryz.ntmps47
  go_upto_region 1 with fail
  obtain ⟨gz, hgz⟩ : ∃ gz, gz = w.heap.size := ⟨_, rfl⟩
  have HG := Lib.hid hgz
  rw [← hgz] at X1 ⊢
  clear hgz
  generalize w.alloc (.cells zTr 62) = V at X1 B1 H1 HC ⊢
  have k7 : V.cell? ⟨g, 7, none⟩ = some (.pointer (some ⟨P.p, 0, none⟩)) := H1.out.box.cell 7
  have k10 : V.cell? ⟨g, 10, none⟩ = some (.slice (some ⟨b, 0, none⟩) P.L.length ca) := by rw [← EV.out]; exact H1.out.box.cell 10
  generalize P.L.length = N at hi hl k10 d3
  go_wp2_with (first
    | (go_at_call 42; refine (may_any id _ H1.out 0 HR.out).mono ?_; rintro e w' ⟨rfl, rfl⟩; rw [errV_zero])
    | (go_at_call 43; refine (cNow_any id _ H1.out.r.cli ((i : Int) + 1) HN.out).mono ?_; rintro e w' ⟨rfl, rfl⟩; rw [HV.out])
    | (refine wpList_load_cells rfl 62 (.tmp 35) rfl ⟨b, i * 13, none⟩ rfl (trv q) _ HC.out Tryz.underlying62 rfl (trv_info q) ?_)
    | (refine wpList_store_mid (by rfl) 62 (.tmp 4) (.tmp 36) (by rfl) gz 0 (trc q.1 q.2) (by rfl) (by rfl) (X1.out.there (Nat.le_refl 13)) (tr_info _ _) HM.out.one ?_
       have Z2 := Lib.hid (X1.out.put (trc q.1 q.2) rfl)
       have E2 := Lib.hid (show Below w.heap.size w (V.setCells gz 0 (trc q.1 q.2).toList) from Below.setCells (by have := HG.out; omega) _ _ _ B1.out)
       generalize V.setCells gz 0 (trc q.1 q.2).toList = W2 at Z2 E2 ⊢))
  exact bodyPost_ret (v := .tuple #[.agg (trc q.1 q.2), .nilIface]) (results_cell_and rfl rfl rfl (tr_load Z2.out)) rfl ⟨rfl, E2.out⟩
end
end Go.Proofs.YtmfoffigmojdcaaGreat
