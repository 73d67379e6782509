/- A coordinator: whose transaction it is (current). -/
import Derived.Test.YtadnlannbafjpaaGreatQCoP
namespace Go.Proofs.YtadnlannbafjpaaGreat
open Go.RowKit
set_option linter.unusedVariables false
set_option linter.unusedSimpArgs false
theorem run_equalIn_nil_heldI {P : Program} (w : World) (d : Nat) (t u : TypeId) (x : Value) (h : P.underlying t = some (.interface (P.methodsAt t))) : (Op.equalIn (d + 1) t .nilIface (.iface u x)).run P w = .ok false w := by
 simp [Op.equalIn, run_underlying h]
theorem run_equal_nil_heldI {P : Program} (w : World) (t u : TypeId) (x : Value) (h : P.underlying t = some (.interface (P.methodsAt t))) : (Op.equal t .nilIface (.iface u x)).run P w = .ok false w := run_equalIn_nil_heldI w 9999 t u x h
theorem run_eql_nil_heldI {P : Program} (W : World) (t u : TypeId) (x : Value) (h : P.underlying t = some (.interface (P.methodsAt t))) : (binOp .eql t .nilIface (.iface u x)).run P W = .ok (.bool false) W := by
 simp only [binOp]
 simp [run_equal_nil_heldI W t u x h]
set_option maxRecDepth 100000 in
set_option maxHeartbeats 8000000 in
theorem is_nil (b : Int) (w : World) : Calls Tryz.prog 28 #[.nilIface, .iface 81 (.int .i64 b)] w fun e w' => e = .returned (.bool false) ∧ w = w' := by
 have h0 := fun W => run_eql_nil_nil (P := Tryz.prog) W 28 Tryz.underlying28
 have h1 := fun W => run_eql_nil_heldI (P := Tryz.prog) W 28 81 (.int .i64 b) Tryz.underlying28
 go_enter Tryz.func28, Tryz.ntmps28
 go_wp2_with fail
 go_ret
 exact ⟨rfl, rfl⟩
section
variable {g n : Nat} {c : Co} {P : Pt}
set_option maxRecDepth 100000 in
set_option maxHeartbeats 8000000 in
theorem current_nil (id : Int) (w : World) : Calls Tryz.prog 48 #[.pointer none, .int .i64 id] w fun e w' => e = .returned (.tuple #[.agg (trc noTr noSl), errno 1]) ∧ Below w.heap.size w w' := by
 have hnn := fun W => run_neq_held_nil (P := Tryz.prog) W 28 81 (.int .i64 1) Tryz.underlying28
 have X1 := Lib.hid (show Blk (w.alloc (.cells zTr 62)) w.heap.size 62 (trc noTr noSl) from Blk.new w _ _)
 have B1 := Lib.hid (Joins.below_alloc1 w (.cells zTr 62))
 go_enter Tryz.func48, Tryz.ntmps48
 go_upto_region 1 with fail
 obtain ⟨gz, hgz⟩ : ∃ gz, gz = w.heap.size := ⟨_, rfl⟩
 have HG := Lib.hid hgz
 rw [← hgz] at X1 ⊢
 clear hgz
 generalize w.alloc (.cells zTr 62) = V at X1 B1 ⊢
 go_wp2_with (first
   | (go_at_call 43; refine (may_nil id _).mono ?_; rintro e w' ⟨rfl, rfl⟩)
   | (refine wpList_store_mid (by rfl) 62 (.tmp 4) (.tmp 14) (by rfl) gz 0 (trc noTr noSl) (by rfl) (by rfl) (X1.out.there (Nat.le_refl 13)) (tr_info _ _) (tr_one _ _ rfl rfl rfl rfl) ?_
      have Z2 := Lib.hid (X1.out.put (trc noTr noSl) rfl)
      have E2 := Lib.hid (show Below w.heap.size w (V.setCells gz 0 (trc noTr noSl).toList) from Below.setCells (by have := HG.out; omega) _ _ _ B1.out)
      generalize V.setCells gz 0 (trc noTr noSl).toList = W2 at Z2 E2 ⊢))
 exact bodyPost_ret (v := .tuple #[.agg (trc noTr noSl), errno 1]) (results_cell_and rfl rfl rfl (tr_load Z2.out)) rfl ⟨rfl, E2.out⟩
set_option maxRecDepth 100000 in
set_option maxHeartbeats 8000000 in
theorem current_may (id : Int) (w : World) (h : CoM w g n c P) (r : Int) (hr : mayL n c.cl id = r) (h0 : r ≠ 0) : Calls Tryz.prog 48 #[.pointer (some ⟨g, 0, none⟩), .int .i64 id] w fun e w' => e = .returned (.tuple #[.agg (trc noTr noSl), errV r]) ∧ Below w.heap.size w w' := by
 have hnn := fun W => run_neq_held_nil (P := Tryz.prog) W 28 81 (.int .i64 r) Tryz.underlying28
 have X1 := Lib.hid (show Blk (w.alloc (.cells zTr 62)) w.heap.size 62 (trc noTr noSl) from Blk.new w _ _)
 have B1 := Lib.hid (Joins.below_alloc1 w (.cells zTr 62))
 have H1 := Lib.hid (h.step B1.out)
 have HR := Lib.hid hr
 have EV := Lib.hid (errV_pos h0)
 clear h hr h0
 go_enter Tryz.func48, Tryz.ntmps48
 go_upto_region 1 with fail
 obtain ⟨gz, hgz⟩ : ∃ gz, gz = w.heap.size := ⟨_, rfl⟩
 have HG := Lib.hid hgz
 rw [← hgz] at X1 ⊢
 clear hgz
 generalize w.alloc (.cells zTr 62) = V at X1 B1 H1 ⊢
 go_wp2_with (first
   | (go_at_call 43; refine (may_any id _ H1.out r HR.out).mono ?_; rintro e w' ⟨rfl, rfl⟩; rw [EV.out])
   | (refine wpList_store_mid (by rfl) 62 (.tmp 4) (.tmp 14) (by rfl) gz 0 (trc noTr noSl) (by rfl) (by rfl) (X1.out.there (Nat.le_refl 13)) (tr_info _ _) (tr_one _ _ rfl rfl rfl rfl) ?_
      have Z2 := Lib.hid (X1.out.put (trc noTr noSl) rfl)
      have E2 := Lib.hid (show Below w.heap.size w (V.setCells gz 0 (trc noTr noSl).toList) from Below.setCells (by have := HG.out; omega) _ _ _ B1.out)
      generalize V.setCells gz 0 (trc noTr noSl).toList = W2 at Z2 E2 ⊢))
 rw [EV.out]
 exact bodyPost_ret (v := .tuple #[.agg (trc noTr noSl), errno r]) (results_cell_and rfl rfl rfl (tr_load Z2.out)) rfl ⟨rfl, E2.out⟩
set_option maxRecDepth 100000 in
set_option maxHeartbeats 8000000 in
theorem current_now (id : Int) (w : World) (h : CoM w g n c P) (hr : mayL n c.cl id = 0) (h0 : nowL n c.cl id = 0) : Calls Tryz.prog 48 #[.pointer (some ⟨g, 0, none⟩), .int .i64 id] w fun e w' => e = .returned (.tuple #[.agg (trc noTr noSl), errno 10]) ∧ Below w.heap.size w w' := by
 have hnn := fun W => run_neq_held_nil (P := Tryz.prog) W 28 81 (.int .i64 10) Tryz.underlying28
 have hn0 := fun W => run_neq_nil_nil (P := Tryz.prog) W 28 Tryz.underlying28
 have X1 := Lib.hid (show Blk (w.alloc (.cells zTr 62)) w.heap.size 62 (trc noTr noSl) from Blk.new w _ _)
 have B1 := Lib.hid (Joins.below_alloc1 w (.cells zTr 62))
 have H1 := Lib.hid (h.step B1.out)
 have HR := Lib.hid hr
 have HN := Lib.hid h0
 clear h hr h0
 go_enter Tryz.func48, Tryz.ntmps48
 go_upto_region 1 with fail
 obtain ⟨gz, hgz⟩ : ∃ gz, gz = w.heap.size := ⟨_, rfl⟩
 have HG := Lib.hid hgz
 rw [← hgz] at X1 ⊢
 clear hgz
 generalize w.alloc (.cells zTr 62) = V at X1 B1 H1 ⊢
 have k7 : V.cell? ⟨g, 7, none⟩ = some (.pointer (some ⟨P.p, 0, none⟩)) := H1.out.box.cell 7
 go_wp2_with (first
   | (go_at_call 43; refine (may_any id _ H1.out 0 HR.out).mono ?_; rintro e w' ⟨rfl, rfl⟩; rw [errV_zero])
   | (go_at_call 44; refine (cNow_any id _ H1.out.r.cli 0 HN.out).mono ?_; rintro e w' ⟨rfl, rfl⟩; rw [show nowV 0 = .tuple #[.int .i64 0, errno 10] from rfl])
   | (refine wpList_store_mid (by rfl) 62 (.tmp 4) (.tmp 27) (by rfl) gz 0 (trc noTr noSl) (by rfl) (by rfl) (X1.out.there (Nat.le_refl 13)) (tr_info _ _) (tr_one _ _ rfl rfl rfl rfl) ?_
      have Z2 := Lib.hid (X1.out.put (trc noTr noSl) rfl)
      have E2 := Lib.hid (show Below w.heap.size w (V.setCells gz 0 (trc noTr noSl).toList) from Below.setCells (by have := HG.out; omega) _ _ _ B1.out)
      generalize V.setCells gz 0 (trc noTr noSl).toList = W2 at Z2 E2 ⊢))
 exact bodyPost_ret (v := .tuple #[.agg (trc noTr noSl), errno 10]) (results_cell_and rfl rfl rfl (tr_load Z2.out)) rfl ⟨rfl, E2.out⟩
set_option maxRecDepth 100000 in
set_option maxHeartbeats 8000000 in
theorem current_ok (id : Int) (w : World) (h : CoM w g n c P) (hr : mayL n c.cl id = 0) (i : Nat) (h0 : nowL n c.cl id = (i : Int) + 1) (hi : i < P.L.length) (hl : P.L.length ≤ 100000) (q : Tr × Sl) (hq : P.L[i] = q) : Calls Tryz.prog 48 #[.pointer (some ⟨g, 0, none⟩), .int .i64 id] w fun e w' => e = .returned (.tuple #[.agg (trc q.1 q.2), .nilIface]) ∧ Below w.heap.size w w' := by
 have hn0 := fun W => run_neq_nil_nil (P := Tryz.prog) W 28 Tryz.underlying28
 have X1 := Lib.hid (show Blk (w.alloc (.cells zTr 62)) w.heap.size 62 (trc noTr noSl) from Blk.new w _ _)
 have B1 := Lib.hid (Joins.below_alloc1 w (.cells zTr 62))
 have H1 := Lib.hid (h.step B1.out)
 have HR := Lib.hid hr
 have HN := Lib.hid h0
 have HM := Lib.hid (h.r.sls q (hq ▸ List.getElem_mem hi))
 obtain ⟨b, ca, ev, hc, _, _⟩ := H1.out.r.txr.open hi
 rw [hq] at hc
 have HC := Lib.hid (TxR.row hc)
 have EV := Lib.hid ev
 have w1 : IntKind.i64.wrap ((i : Int) + 1 - 1) = (i : Int) := by rw [show (i : Int) + 1 - 1 = (i : Int) by omega]; exact IntWalk.i64_in _ (by omega)
 have w2 : (i : Int) + 1 - 1 = (i : Int) := by omega
 have w0 : IntKind.i64.wrap (i : Int) = (i : Int) := IntWalk.i64_in _ (by omega)
 have d3 : decide ((i : Int) < (P.L.length : Int)) = true := by simp; omega
 have HV := Lib.hid (show nowV ((i : Int) + 1) = .tuple #[.int .i64 ((i : Int) + 1), .nilIface] from by unfold nowV; rw [if_neg (by omega)])
 clear h hr h0 hc ev hq
 go_enter Tryz.func48, Tryz.ntmps48
 go_upto_region 1 with fail
 obtain ⟨gz, hgz⟩ : ∃ gz, gz = w.heap.size := ⟨_, rfl⟩
 have HG := Lib.hid hgz
 rw [← hgz] at X1 ⊢
 clear hgz
 generalize w.alloc (.cells zTr 62) = V at X1 B1 H1 HC ⊢
 have k7 : V.cell? ⟨g, 7, none⟩ = some (.pointer (some ⟨P.p, 0, none⟩)) := H1.out.box.cell 7
 have k10 : V.cell? ⟨g, 10, none⟩ = some (.slice (some ⟨b, 0, none⟩) P.L.length ca) := by rw [← EV.out]; exact H1.out.box.cell 10
 generalize P.L.length = N at hi hl k10 d3
 go_wp2_with (first
   | (go_at_call 43; refine (may_any id _ H1.out 0 HR.out).mono ?_; rintro e w' ⟨rfl, rfl⟩; rw [errV_zero])
   | (go_at_call 44; refine (cNow_any id _ H1.out.r.cli ((i : Int) + 1) HN.out).mono ?_; rintro e w' ⟨rfl, rfl⟩; rw [HV.out])
   | (refine wpList_load_cells rfl 62 (.tmp 35) rfl ⟨b, i * 13, none⟩ rfl (trv q) _ HC.out Tryz.underlying62 rfl (trv_info q) ?_)
   | (refine wpList_store_mid (by rfl) 62 (.tmp 4) (.tmp 36) (by rfl) gz 0 (trc q.1 q.2) (by rfl) (by rfl) (X1.out.there (Nat.le_refl 13)) (tr_info _ _) HM.out.one ?_
      have Z2 := Lib.hid (X1.out.put (trc q.1 q.2) rfl)
      have E2 := Lib.hid (show Below w.heap.size w (V.setCells gz 0 (trc q.1 q.2).toList) from Below.setCells (by have := HG.out; omega) _ _ _ B1.out)
      generalize V.setCells gz 0 (trc q.1 q.2).toList = W2 at Z2 E2 ⊢))
 exact bodyPost_ret (v := .tuple #[.agg (trc q.1 q.2), .nilIface]) (results_cell_and rfl rfl rfl (tr_load Z2.out)) rfl ⟨rfl, E2.out⟩
end
section
variable {w w' w9 : World} {g n : Nat} {c : Co} {P : Pt}
theorem CoS.addT (h : CoM w g n c P) {v9 : Value} {y : Tr} {s : Sl} (ht : Turn (fun k => P.vt.ownBlock = some k) w w9) (hr : TxR w9 v9 (P.L ++ [(y, s)])) (hq : ∀ k, v9.ownBlock = some k → P.vt.ownBlock = some k ∨ w.heap.size ≤ k) (hT : Tm w 0 y s) (hap : ∀ k, P.vl.ownBlock = some k → ¬ SlB s k) :
   CoS w (w9.setCell ⟨g, 10, none⟩ v9) g n P (SlB s) { c with txs := c.txs ++ [y] } { P with vt := v9, L := P.L ++ [(y, s)] } := by
 have hgb : ¬ (P.vt.ownBlock = some g) := fun e => by
   obtain ⟨cur, hh, _⟩ := own_heap h.r.txr g e
   exact heap_ne h.box hh (by decide) rfl
 have X9 := h.box.turn ht hgb
 have C9 := h.r.chT ht hr (fun q hq => (List.mem_append.1 hq).imp id (fun e => by rw [List.mem_singleton.1 e]; exact ⟨hT, hap⟩))
 rw [show (P.L ++ [(y, s)]).map Prod.fst = c.txs ++ [y] by rw [List.map_append, h.r.txs]; rfl] at C9
 have RV : Turn (fun k => k = g) w9 (w9.setCell ⟨g, 10, none⟩ v9) := (Turn.refl (fun k => k = g) w9).setCell (p := ⟨g, 10, none⟩) (fun _ => rfl) _
 exact { m := ⟨X9.set_ 10 _, C9.turn RV (fun k hk => C9.offB X9 (by decide) (by decide) (by decide) (by decide) (by decide) hk)⟩
         turn := (ht.mono (fun k _ e => .inr (.inr (.inl e)))).trans RV (fun k _ e => .inl e)
         tur := fun k hk => by
           rcases hk with hk | hk | hk | hk | hk
           · exact .inl (.inl hk)
           · exact .inl (.inr (.inl hk))
           · exact (hq k hk).imp (fun e => .inr (.inr (.inl e))) id
           · exact .inl (.inr (.inr (.inr (.inl hk))))
           · exact .inl (.inr (.inr (.inr (.inr hk))))
         own := fun k hk => by
           rcases hk with (hk | hk | hk | hk | hk) | ⟨q, hm, hk⟩
           · exact .inl (.inl (.inl hk))
           · exact .inl (.inl (.inr (.inl hk)))
           · exact (hq k hk).elim (fun e => .inl (.inl (.inr (.inr (.inl e))))) (fun e => .inr (.inl e))
           · exact .inl (.inl (.inr (.inr (.inr (.inl hk)))))
           · exact .inl (.inl (.inr (.inr (.inr (.inr hk)))))
           · rcases List.mem_append.1 hm with hm | hm
             · exact .inl (.inr ⟨q, hm, hk⟩)
             · rw [List.mem_singleton.1 hm] at hk; exact .inr (.inr hk) }
theorem CoS.addL (h : CoM w g n c P) {v9 : Value} {l9 : List Int} (ht : Turn (fun k => P.vl.ownBlock = some k) w w9) (hr : NumR w9 0 v9 l9) (hq : ∀ k, v9.ownBlock = some k → P.vl.ownBlock = some k ∨ w.heap.size ≤ k) :
   CoS w (w9.setCell ⟨g, 11, none⟩ v9) g n P (fun _ => False) { c with lf := l9 } { P with vl := v9 } := by
 have hgb : ¬ (P.vl.ownBlock = some g) := fun e => by
   obtain ⟨cur, hh, _⟩ := own_heap h.r.lfr g e
   exact heap_ne h.box hh (by decide) rfl
 have X9 := h.box.turn ht hgb
 have C9 := h.r.chL ht hr (fun q hm k hk => by
   rcases hq k hk with e | e
   · exact h.r.ap q hm k e
   · intro hs; have := (hs.lt (h.r.sls q hm)).2; omega)
 have RV : Turn (fun k => k = g) w9 (w9.setCell ⟨g, 11, none⟩ v9) := (Turn.refl (fun k => k = g) w9).setCell (p := ⟨g, 11, none⟩) (fun _ => rfl) _
 exact { m := ⟨X9.set_ 11 _, C9.turn RV (fun k hk => C9.offB X9 (by decide) (by decide) (by decide) (by decide) (by decide) hk)⟩
         turn := (ht.mono (fun k _ e => .inr (.inr (.inr (.inl e))))).trans RV (fun k _ e => .inl e)
         tur := fun k hk => by
           rcases hk with hk | hk | hk | hk | hk
           · exact .inl (.inl hk)
           · exact .inl (.inr (.inl hk))
           · exact .inl (.inr (.inr (.inl hk)))
           · exact (hq k hk).imp (fun e => .inr (.inr (.inr (.inl e)))) id
           · exact .inl (.inr (.inr (.inr (.inr hk))))
         own := fun k hk => by
           rcases hk with (hk | hk | hk | hk | hk) | hk
           · exact .inl (.inl (.inl hk))
           · exact .inl (.inl (.inr (.inl hk)))
           · exact .inl (.inl (.inr (.inr (.inl hk))))
           · exact (hq k hk).elim (fun e => .inl (.inl (.inr (.inr (.inr (.inl e)))))) (fun e => .inr (.inl e))
           · exact .inl (.inl (.inr (.inr (.inr (.inr hk)))))
           · exact .inl (.inr hk) }
end
theorem readsV_blk {w : World} {g size : Nat} {t : TypeId} {l : List Value} (h : Blk w g t l.toArray) (hl : l.length = size) : Reads w w.heap.size size (some ⟨g, 0, none⟩) 1 l :=
 ⟨by omega, fun _ => ⟨_, rfl, h.lt, fun j u hu => by
   have h1 := h.cell j
   have h2 : (⟨g, 0, none⟩ : Addr).add j = ⟨g, j, none⟩ := by unfold Addr.add; split <;> simp_all
   rw [h2, h1]; simpa using hu⟩⟩
theorem info_txn3 : (Tryz.prog.info? 62).map (fun i => (i.zero, i.size, i.bytes)) = some (some (.agg zTr), 13, 168) := by kernel_rfl
section
variable {g n : Nat} {c : Co} {P : Pt}
set_option maxRecDepth 100000 in
set_option maxHeartbeats 8000000 in
theorem begin_may (id : Int) (w : World) (h : CoM w g n c P) (r : Int) (hr : mayL n c.cl id = r) (h0 : r ≠ 0) : Calls Tryz.prog 23 #[.pointer (some ⟨g, 0, none⟩), .int .i64 id] w fun e w' => e = .returned (.tuple #[.int .i64 0, errV r]) ∧ w = w' := by
 have hnn := fun W => run_neq_held_nil (P := Tryz.prog) W 28 81 (.int .i64 r) Tryz.underlying28
 have HM := Lib.hid h
 have HR := Lib.hid hr
 have EV := Lib.hid (errV_pos h0)
 rw [EV.out]
 clear h hr h0
 go_enter Tryz.func23, Tryz.ntmps23
 go_wp2_with (go_at_call 43; refine (may_any id _ HM.out r HR.out).mono ?_; rintro e w' ⟨rfl, rfl⟩; rw [EV.out])
 go_ret2
 exact ⟨rfl, rfl⟩
set_option maxRecDepth 100000 in
set_option maxHeartbeats 8000000 in
theorem begin_busy (id : Int) (w : World) (h : CoM w g n c P) (hr : mayL n c.cl id = 0) (tx : Int) (ht : nowL n c.cl id = tx) (h0 : tx ≠ 0) : Calls Tryz.prog 23 #[.pointer (some ⟨g, 0, none⟩), .int .i64 id] w fun e w' => e = .returned (.tuple #[.int .i64 0, errno 8]) ∧ w = w' := by
 have hn0 := fun W => run_neq_nil_nil (P := Tryz.prog) W 28 Tryz.underlying28
 have HM := Lib.hid h
 have HR := Lib.hid hr
 have HN := Lib.hid ht
 have HV := Lib.hid (show nowV tx = .tuple #[.int .i64 tx, .nilIface] from by unfold nowV; rw [if_neg h0])
 have k7 : w.cell? ⟨g, 7, none⟩ = some (.pointer (some ⟨P.p, 0, none⟩)) := h.box.cell 7
 clear h hr h0 ht
 go_enter Tryz.func23, Tryz.ntmps23
 go_wp2_with (first
   | (go_at_call 43; refine (may_any id _ HM.out 0 HR.out).mono ?_; rintro e w' ⟨rfl, rfl⟩; rw [errV_zero])
   | (go_at_call 44; refine (cNow_any id _ HM.out.r.cli tx HN.out).mono ?_; rintro e w' ⟨rfl, rfl⟩; rw [HV.out])
   | (go_at_call 28; refine (is_nil 10 _).mono ?_; rintro e w' ⟨rfl, rfl⟩))
 go_ret2
 exact ⟨rfl, rfl⟩
set_option maxRecDepth 100000 in
set_option maxHeartbeats 32000000 in
theorem begin_ok (id : Int) (w : World) (h : CoM w g n c P) (hr : mayL n c.cl id = 0) (h0 : nowL n c.cl id = 0) (N : Nat) (hN : P.L.length = N) (hl : N ≤ 1000) (hf : c.lf.length ≤ 1000) (he : c.ev.length ≤ 100000) (cl' : List Cl) (hb : beginL c.cl id ((N : Int) + 1) = (cl', 0)) (c' : Co) (hc' : c' = { c with cl := cl', txs := c.txs ++ [newL ((N : Int) + 1)], lf := c.lf ++ [(N : Int) + 1], ev := c.ev ++ [[1, id, (N : Int) + 1, 0, 0, 0, 0]] }) :
   Calls Tryz.prog 23 #[.pointer (some ⟨g, 0, none⟩), .int .i64 id] w fun e w' => e = .returned (.tuple #[.int .i64 ((N : Int) + 1), .nilIface]) ∧ ∃ P', CoS w w' g n P (fun _ => False) c' P' := by
 have hnn := fun W => run_neq_held_nil (P := Tryz.prog) W 28 81 (.int .i64 10) Tryz.underlying28
 have hn0 := fun W => run_neq_nil_nil (P := Tryz.prog) W 28 Tryz.underlying28
 obtain ⟨i0, hi0, hz0, hz1, hz2⟩ := info_parts info_txn3
 obtain ⟨j0, hj0, hy0, hy1, hy2⟩ := info_parts info_int
 have HM := Lib.hid h
 have HR := Lib.hid hr
 have HNW := Lib.hid h0
 have HB := Lib.hid hb
 have HC := Lib.hid hc'
 have HE := Lib.hid he
 have HF := Lib.hid hf
 have HLN := Lib.hid hN
 have k7 : w.cell? ⟨g, 7, none⟩ = some (.pointer (some ⟨P.p, 0, none⟩)) := h.box.cell 7
 obtain ⟨A, ca, ev⟩ := own_len h.r.txr
 rw [hN] at ev
 have EV := Lib.hid ev
 have k10 : w.cell? ⟨g, 10, none⟩ = some (.slice A N ca) := by rw [← ev]; exact h.box.cell 10
 have w1 : IntKind.i64.wrap ((N : Int) + 1) = (N : Int) + 1 := IntWalk.i64_in _ (by omega)
 clear h hr h0 hb hc' he hf hN ev
 go_enter Tryz.func23, Tryz.ntmps23
 go_upto_region 8 with (first
   | (go_at_call 43; refine (may_any id _ HM.out 0 HR.out).mono ?_; rintro e w' ⟨rfl, rfl⟩; rw [errV_zero])
   | (go_at_call 44; refine (cNow_any id _ HM.out.r.cli 0 HNW.out).mono ?_; rintro e w' ⟨rfl, rfl⟩; rw [show nowV 0 = .tuple #[.int .i64 0, errno 10] from rfl])
   | (go_at_call 28; refine (is_errno 10 10 _).mono ?_; rintro e w' ⟨rfl, rfl⟩; rw [show ((10 : Int) == 10) = true from rfl])
   | (go_at_call 45; refine (new_ok ((N : Int) + 1) (by omega) (by omega) _).mono ?_; rintro e W1 ⟨rfl, hb⟩; have B1 := Lib.hid hb; clear hb)
   | (refine wpList_store_mid (by rfl) 62 (.tmp 9) (.tmp 40) (by rfl) W1.heap.size 0 (trc (newL ((N : Int) + 1)) noSl) (by rfl) (by rfl) ((show Blk (W1.alloc (.cells zTr 62)) W1.heap.size 62 (trc noTr noSl) from Blk.new W1 _ _).there (Nat.le_refl 13)) (tr_info _ _) (tr_one _ _ rfl rfl rfl rfl) ?_
      have XA := Lib.hid (show Blk ((W1.alloc (.cells zTr 62)).setCells W1.heap.size 0 (trc (newL ((N : Int) + 1)) noSl).toList) W1.heap.size 62 (trc (newL ((N : Int) + 1)) noSl) from (show Blk (W1.alloc (.cells zTr 62)) W1.heap.size 62 (trc noTr noSl) from Blk.new W1 _ _).put _ rfl)
      have BA := Lib.hid (stepB B1.out (show Below W1.heap.size W1 ((W1.alloc (.cells zTr 62)).setCells W1.heap.size 0 (trc (newL ((N : Int) + 1)) noSl).toList) from Below.setCells (b := W1.heap.size) (Nat.le_refl _) (trc (newL ((N : Int) + 1)) noSl).toList 0 _ (Joins.below_alloc1 W1 (.cells zTr 62))))
      have GA := Lib.hid B1.out.size
      generalize (W1.alloc (.cells zTr 62)).setCells W1.heap.size 0 (trc (newL ((N : Int) + 1)) noSl).toList = V at XA BA ⊢
      generalize W1.heap.size = bt at XA GA ⊢))
 clear k7 k10 B1
 have S1 := Lib.hid (CoS.below (N := fun _ => False) HM.out BA.out)
 have HTU := Lib.hid (fun k (hk : P.tur g k) => HM.out.lt (k := k) (.inl hk))
 go_upto_region 10 with (go_at_call 28; refine (is_nil 1 _).mono ?_; rintro e w' ⟨rfl, rfl⟩)
 -- the client has it
 have KQ := Lib.hid (show ∀ Y, Turn (fun k => k = P.p) V Y → (Y.cell? ⟨g, 7, none⟩ = some (.pointer (some ⟨P.p, 0, none⟩)) ∧ Y.cell? ⟨bt, 0, none⟩ = some (.int .i64 ((N : Int) + 1))) from fun Y hy =>
   ⟨(S1.out.m.box.turn hy (fun e => heap_ne S1.out.m.box S1.out.m.r.cli.box (by decide) e)).cell 7, (XA.out.turn hy (fun e => heap_ne XA.out S1.out.m.r.cli.box (by decide) e)).cell 0⟩)
 refine wp_region_held_drew (S := fun w' => w'.cell? ⟨g, 7, none⟩ = some (.pointer (some ⟨P.p, 0, none⟩)) ∧ w'.cell? ⟨bt, 0, none⟩ = some (.int .i64 ((N : Int) + 1))) (by kernel_rfl) (KQ.out _ (Turn.refl _ _).drew) (fun hHeld => ?_)
 have BD := Lib.hid (show Below V.heap.size V V.drew from (Below.refl _ _).drew)
 have TD := Lib.hid (show Turn (fun k => k = P.p) V V.drew from (Turn.refl _ _).drew)
 have X2 := Lib.hid (XA.out.here BD.out)
 generalize V.drew = V2 at BD TD X2 hHeld ⊢
 have S2 := Lib.hid (S1.out.trans (CoS.below (N := fun _ => False) S1.out.m BD.out))
 refine wpAnyH_take (i := 0) (v := ?_) rfl (by kernel_rfl) (by kernel_rfl) (by kernel_rfl) (fun _ _ _ h => h) (Or.inl ⟨by rfl, ?_⟩) (by assumption) ?_
 rotate_left
 · (intro w0 hSw; (try dsimp only at hSw); go_simp; try with_reducible rfl)
 try simp only [List.getElem_toArray, List.getElem_cons_succ, List.getElem_cons_zero, Act.put, List.setIfInBounds_toArray, List.set_cons_zero, List.set_cons_succ]
 refine wpAnyH_take (i := 1) (v := ?_) rfl (by kernel_rfl) (by kernel_rfl) (by kernel_rfl) (fun _ _ _ h => h) (Or.inl ⟨by rfl, ?_⟩) (by assumption) ?_
 rotate_left
 · (intro w0 hSw; (try dsimp only at hSw); go_simp; try with_reducible rfl)
 try simp only [List.getElem_toArray, List.getElem_cons_succ, List.getElem_cons_zero, Act.put, List.setIfInBounds_toArray, List.set_cons_zero, List.set_cons_succ]
 refine wpAnyH_take (i := 2) (v := ?_) rfl (by kernel_rfl) (by kernel_rfl) (by kernel_rfl) (fun _ _ _ h => h) (Or.inl ⟨by rfl, ?_⟩) (by assumption) ?_
 rotate_left
 · (intro w0 hSw; (try dsimp only at hSw); go_simp; try with_reducible rfl)
 try simp only [List.getElem_toArray, List.getElem_cons_succ, List.getElem_cons_zero, Act.put, List.setIfInBounds_toArray, List.set_cons_zero, List.set_cons_succ]
 refine wpAnyH_take (i := 3) (v := ?_) rfl (by kernel_rfl) (by kernel_rfl) (by kernel_rfl) (fun _ _ _ h => h) (Or.inl ⟨by rfl, ?_⟩) (by assumption) ?_
 rotate_left
 · (intro w0 hSw; (try dsimp only at hSw); go_simp; try with_reducible rfl)
 try simp only [List.getElem_toArray, List.getElem_cons_succ, List.getElem_cons_zero, Act.put, List.setIfInBounds_toArray, List.set_cons_zero, List.set_cons_succ]
 refine wpAnyH_take (i := 4) (v := ?_) rfl (by kernel_rfl) (by kernel_rfl) (by kernel_rfl) (fun _ _ _ h => h) (Or.inl ⟨by rfl, ?_⟩) (by assumption) ?_
 rotate_left
 · (intro w0 hSw; (try dsimp only at hSw); go_simp; try with_reducible rfl)
 try simp only [List.getElem_toArray, List.getElem_cons_succ, List.getElem_cons_zero, Act.put, List.setIfInBounds_toArray, List.set_cons_zero, List.set_cons_succ]
 refine wpAnyH_take (i := 5) (v := ?_) rfl (by kernel_rfl) (by kernel_rfl) (by kernel_rfl) (fun _ _ _ h => h) (Or.inl ⟨by rfl, ?_⟩) (by assumption) ?_
 rotate_left
 · (intro w0 hSw; (try dsimp only at hSw); go_simp; try with_reducible rfl)
 try simp only [List.getElem_toArray, List.getElem_cons_succ, List.getElem_cons_zero, Act.put, List.setIfInBounds_toArray, List.set_cons_zero, List.set_cons_succ]
 refine wpAnyH_take (i := 6) (v := ?_) rfl (by kernel_rfl) (by kernel_rfl) (by kernel_rfl) (fun _ _ _ h => h) (Or.inl ⟨by rfl, ?_⟩) (by assumption) ?_
 rotate_left
 · (intro w0 hSw; (try dsimp only at hSw); go_simp; try with_reducible rfl)
 try simp only [List.getElem_toArray, List.getElem_cons_succ, List.getElem_cons_zero, Act.put, List.setIfInBounds_toArray, List.set_cons_zero, List.set_cons_succ]
 refine wpAnyH_ready (rs := [7]) (by kernel_rfl) (by simp) ?_
 refine AllReadyH.cons rfl (fun K hK => ?_) AllReadyH.nil
 go_simp
 refine (cBegin_any id ((N : Int) + 1) _ S2.out.m.r.cli).mono ?_
 rintro e V3 ⟨rfl, hc, ht⟩
 try go_simp
 rw [HB.out] at hc
 rw [HB.out, show ((cl', 0) : List Cl × Int).2 = 0 from rfl, errV_zero]
 have S3 := Lib.hid (S2.out.trans (CoS.cli (N := fun _ => False) S2.out.m ht hc))
 have X3 := Lib.hid (X2.out.turn ht (fun e => heap_ne X2.out S2.out.m.r.cli.box (by decide) e))
 refine hK.out _ _ (KQ.out _ (TD.out.trans ht (fun _ _ e => e))) (fun hHeld => ?_)
 clear hK K ht hc
 refine wpAnyH_take (i := 8) (v := ?_) rfl (by kernel_rfl) (by kernel_rfl) (by kernel_rfl) (fun _ _ _ h => h) (Or.inl ⟨by rfl, ?_⟩) (by assumption) ?_
 rotate_left
 · (intro w0 hSw; (try dsimp only at hSw); go_simp; try with_reducible rfl)
 try simp only [List.getElem_toArray, List.getElem_cons_succ, List.getElem_cons_zero, Act.put, List.setIfInBounds_toArray, List.set_cons_zero, List.set_cons_succ]
 refine wpAnyH_done (by kernel_rfl) ?_ _
 clear hHeld KQ BD TD X2 S2 S1 XA BA
 go_upto_region 13 with fail
 -- the transaction among the others
 have R3 := Lib.hid (show TxR V3 (.slice A N ca) P.L from by rw [← EV.out]; exact S3.out.m.r.txr)
 have KP := Lib.hid (show ∀ Y, Below V3.heap.size V3 Y → (Y.cell? ⟨g, 10, none⟩ = some (.slice A N ca) ∧ Blk Y bt 62 #[.int .i64 ((N : Int) + 1), .int .i64 1, .int .i64 0, .int .i64 0, .bool false, .int .i64 0, .int .i64 0, .int .i64 0, .int .i64 0, .slice none 0 0, .slice none 0 0, .slice none 0 0, .slice none 0 0]) from fun Y hy =>
   ⟨by rw [← EV.out]; exact (S3.out.m.step hy).box.cell 10, X3.out.here hy⟩)
 refine wp_region_till 10 (fun w' => w'.cell? ⟨g, 10, none⟩ = some (.slice A N ca) ∧ Blk w' bt 62 #[.int .i64 ((N : Int) + 1), .int .i64 1, .int .i64 0, .int .i64 0, .bool false, .int .i64 0, .int .i64 0, .int .i64 0, .int .i64 0, .slice none 0 0, .slice none 0 0, .slice none 0 0, .slice none 0 0]) (by kernel_rfl) (KP.out _ (Below.refl _ _).drew) (fun hHeld => ?_)
 have BD := Lib.hid (show Below V3.heap.size V3 V3.drew from (Below.refl _ _).drew)
 generalize V3.drew = V4 at BD hHeld ⊢
 refine wpTill_take (i := 0) (v := ?_) rfl (by kernel_rfl) (by kernel_rfl) (by kernel_rfl) (by kernel_rfl) (fun _ _ _ h => h) (Or.inl ⟨by rfl, ?_⟩) (by assumption) ?_
 rotate_left
 · (intro w0 hSw; (try dsimp only at hSw); go_simp; try with_reducible rfl)
 try simp only [List.getElem_toArray, List.getElem_cons_succ, List.getElem_cons_zero, Act.put, List.setIfInBounds_toArray, List.set_cons_zero, List.set_cons_succ]
 refine wpTill_take (i := 1) (v := ?_) rfl (by kernel_rfl) (by kernel_rfl) (by kernel_rfl) (by kernel_rfl) (fun _ _ _ h => h) (Or.inl ⟨by rfl, ?_⟩) (by assumption) ?_
 rotate_left
 · (intro w0 hSw; (try dsimp only at hSw); go_simp; try with_reducible rfl)
 try simp only [List.getElem_toArray, List.getElem_cons_succ, List.getElem_cons_zero, Act.put, List.setIfInBounds_toArray, List.set_cons_zero, List.set_cons_succ]
 refine wpTill_take (i := 2) (v := ?_) rfl (by kernel_rfl) (by kernel_rfl) (by kernel_rfl) (by kernel_rfl) (fun _ _ _ h => h) (Or.inl ⟨by rfl, ?_⟩) (by assumption) ?_
 rotate_left
 · (intro w0 hSw; (try dsimp only at hSw); go_simp; try with_reducible rfl)
 try simp only [List.getElem_toArray, List.getElem_cons_succ, List.getElem_cons_zero, Act.put, List.setIfInBounds_toArray, List.set_cons_zero, List.set_cons_succ]
 refine wpTill_take (i := 3) (v := ?_) rfl (by kernel_rfl) (by kernel_rfl) (by kernel_rfl) (by kernel_rfl) (fun _ _ _ h => h) (Or.inl ⟨by rfl, ?_⟩) (by assumption) ?_
 rotate_left
 · (intro w0 hSw; (try dsimp only at hSw); go_simp; try with_reducible rfl)
 try simp only [List.getElem_toArray, List.getElem_cons_succ, List.getElem_cons_zero, Act.put, List.setIfInBounds_toArray, List.set_cons_zero, List.set_cons_succ]
 refine wpTill_take (i := 4) (v := ?_) rfl (by kernel_rfl) (by kernel_rfl) (by kernel_rfl) (by kernel_rfl) (fun _ _ _ h => h) (Or.inl ⟨by rfl, ?_⟩) (by assumption) ?_
 rotate_left
 · (intro w0 hSw; (try dsimp only at hSw); go_simp; try with_reducible rfl)
 try simp only [List.getElem_toArray, List.getElem_cons_succ, List.getElem_cons_zero, Act.put, List.setIfInBounds_toArray, List.set_cons_zero, List.set_cons_succ]
 refine wpTill_take (i := 5) (v := .agg #[.int .i64 ((N : Int) + 1), .int .i64 1, .int .i64 0, .int .i64 0, .bool false, .int .i64 0, .int .i64 0, .int .i64 0, .int .i64 0, .slice none 0 0, .slice none 0 0, .slice none 0 0, .slice none 0 0]) rfl (by kernel_rfl) (by kernel_rfl) (by kernel_rfl) (by kernel_rfl) (fun _ _ _ h => h) (Or.inl ⟨by rfl, fun w0 hSw => exec_load (x := .tmp 9) rfl rfl (tr_load (x := newL ((N : Int) + 1)) (s := noSl) hSw.2)⟩) (by assumption) ?_
 try simp only [List.getElem_toArray, List.getElem_cons_succ, List.getElem_cons_zero, Act.put, List.setIfInBounds_toArray, List.set_cons_zero, List.set_cons_succ]
 refine wpTill_ready (rs := [6]) (by kernel_rfl) (by simp) ?_
 refine AllTill.cons rfl (fun K hK => ?_) AllTill.nil
 go_simp
 have NB := Lib.hid (show Blk (V4.alloc (.cells #[.int .i64 ((N : Int) + 1), .int .i64 1, .int .i64 0, .int .i64 0, .bool false, .int .i64 0, .int .i64 0, .int .i64 0, .int .i64 0, .slice none 0 0, .slice none 0 0, .slice none 0 0, .slice none 0 0] 62)) V4.heap.size 62 (trv (newL ((N : Int) + 1), noSl)).toArray from Blk.new _ _ _)
 have B5 := Lib.hid (BD.out.alloc BD.out.size (.cells #[.int .i64 ((N : Int) + 1), .int .i64 1, .int .i64 0, .int .i64 0, .bool false, .int .i64 0, .int .i64 0, .int .i64 0, .int .i64 0, .slice none 0 0, .slice none 0 0, .slice none 0 0, .slice none 0 0] 62))
 refine hK.out _ _ (KP.out _ B5.out) (fun hHeld => ?_)
 clear hK K
 generalize V4.heap.size = nb at NB ⊢
 generalize V4.alloc (.cells #[.int .i64 ((N : Int) + 1), .int .i64 1, .int .i64 0, .int .i64 0, .bool false, .int .i64 0, .int .i64 0, .int .i64 0, .int .i64 0, .slice none 0 0, .slice none 0 0, .slice none 0 0, .slice none 0 0] 62) = V5 at NB B5 hHeld ⊢
 have S5 := Lib.hid (S3.out.trans (CoS.below (N := fun _ => False) S3.out.m B5.out))
 have R5 := Lib.hid (show TxR V5 (.slice A N ca) P.L from by rw [← EV.out]; exact S5.out.m.r.txr)
 have X5 := Lib.hid (X3.out.here B5.out)
 refine wpTill_ready (rs := [7]) (by kernel_rfl) (by simp) ?_
 refine AllTill.cons rfl (fun K hK => ?_) AllTill.nil
 refine step_append_any _ rfl (.tmp 61) (.tmp 63) _ rfl 0 62 i0 _ 13 168 Tryz.underlying53 hi0 hz0 hz1 hz2 rfl (by omega) (.slice A N ca) N (rowT P.L) rfl (by have := R5.out; unfold TxR at this; rw [HLN.out] at this; exact this) _ _ 1 1 (trv (newL ((N : Int) + 1), noSl)) rfl (readsV_blk NB.out rfl) (fun v hv => rowT_one (w := V5) (L := [(newL ((N : Int) + 1), noSl)]) (fun q hq => by rw [List.mem_singleton.1 hq]; exact Tm.new V5 0 _) v (by simpa [rowT] using hv)) (by simp only [maxLen]; omega) (by omega) (Nat.zero_le _) ?_
 intro v9 W9 hown hgr h3
 obtain ⟨A9, c9, rfl⟩ := own_len hown
 have T9 := Lib.hid (show Turn (fun k => P.vt.ownBlock = some k) V5 W9 from (Turn.refl _ _).grown hgr (fun k hk _ => by rw [EV.out]; exact hk))
 have R9 := Lib.hid (show TxR W9 (.slice A9 (N + 1) c9) (P.L ++ [(newL ((N : Int) + 1), noSl)]) from by
   unfold TxR
   rw [show (P.L ++ [(newL ((N : Int) + 1), noSl)]).length = N + 1 from by rw [List.length_append, HLN.out]; rfl, show rowT (P.L ++ [(newL ((N : Int) + 1), noSl)]) = rowT P.L ++ trv (newL ((N : Int) + 1), noSl) from by simp [rowT]]
   exact hown)
 have Q9 := Lib.hid (show ∀ k, (Value.slice A9 (N + 1) c9).ownBlock = some k → P.vt.ownBlock = some k ∨ V5.heap.size ≤ k from fun k hk => by
   rcases h3 with e | e
   · left; rw [EV.out, ← e]; exact hk
   · right; rw [e] at hk; cases hk; exact Nat.le_refl _)
 have S9 := Lib.hid (CoS.addT S5.out.m T9.out R9.out Q9.out (Tm.new V5 0 _) (fun k _ e => by rcases e with e | e | e | e <;> cases e))
 have X9 := Lib.hid (X5.out.turn T9.out (fun e => by have h1 := HTU.out _ (.inr (.inr (.inl e))); have := GA.out; omega))
 have hgb : ¬ (P.vt.ownBlock = some g) := fun e => by
   obtain ⟨cur, hh, _⟩ := own_heap S5.out.m.r.txr g e
   exact heap_ne S5.out.m.box hh (by decide) rfl
 have k10 : W9.cell? ⟨g, 10, none⟩ = some (.slice A N ca) := by rw [← EV.out]; exact (S5.out.m.box.turn T9.out hgb).cell 10
 have f10 := (S5.out.m.box.turn T9.out hgb).frozen 10
 clear hown hgr h3 hgb
 refine hK.out _ _ ⟨k10, X9.out⟩ (fun hHeld => ?_)
 clear hK K
 refine wpTill_pure (i := 8) (v := ?_) rfl (by kernel_rfl) (by kernel_rfl) (by kernel_rfl) (by kernel_rfl) (fun _ _ _ h => h) (Or.inl ⟨by rfl, ?_⟩) (by first | (exact fun _ => by assumption) | (exact fun hf => by cases hf)) ?_
 rotate_left
 · (intro w0 hSw; clear hSw; go_simp; try with_reducible rfl)
 try simp only [List.getElem_toArray, List.getElem_cons_succ, List.getElem_cons_zero, Act.put, List.setIfInBounds_toArray, List.set_cons_zero, List.set_cons_succ]
 refine wpTill_take (i := 9) (v := ?_) rfl (by kernel_rfl) (by kernel_rfl) (by kernel_rfl) (by kernel_rfl) (fun _ _ _ h => h) (Or.inl ⟨by rfl, ?_⟩) (by assumption) ?_
 rotate_left
 · (intro w0 hSw; (try dsimp only at hSw); go_simp; try with_reducible rfl)
 try simp only [List.getElem_toArray, List.getElem_cons_succ, List.getElem_cons_zero, Act.put, List.setIfInBounds_toArray, List.set_cons_zero, List.set_cons_succ]
 refine wpTill_ready (rs := [10]) (by kernel_rfl) (by simp) ?_
 refine AllTill.last rfl (of_decide_eq_true (by kernel_rfl)) (fun K hK => ?_)
 go_simp
 refine hK.out _ _ ?_
 clear hK K
 refine wpTill_done (by kernel_rfl) ?_ _
 have S10 := Lib.hid ((S5.out.trans S9.out).fresh (N' := fun _ => False) (fun k e => by
   rcases e with e | e
   · simp only [or_false] at e
   · rcases e with e | e | e | e <;> cases e))
 have VTN := Lib.hid (show ¬ ((Value.slice A9 (N + 1) c9).ownBlock = some bt) from fun e => by
   rcases Q9.out bt e with e | e
   · have h1 := HTU.out _ (.inr (.inr (.inl e))); have := GA.out; omega
   · have := X5.out.lt; omega)
 have X10 := Lib.hid (show Blk (W9.setCell ⟨g, 10, none⟩ (.slice A9 (N + 1) c9)) bt 62 (trc (newL ((N : Int) + 1)) noSl) from X9.out.far (by have h1 := HTU.out g (.inl rfl); have := GA.out; simp only; omega) _)
 clear k10 f10 hHeld KP R3 BD NB B5 S5 R5 X5 T9 R9 Q9 S9 X9 X3 S3
 generalize W9.setCell ⟨g, 10, none⟩ (.slice A9 (N + 1) c9) = V6 at S10 X10 ⊢
 -- its number among those that may not be over
 obtain ⟨Al, cal, evl⟩ := own_len S10.out.m.r.lfr
 have EVL := Lib.hid (show P.vl = .slice Al c.lf.length cal from evl)
 have HTL := Lib.hid (show ∀ k, P.vl.ownBlock = some k → k < w.heap.size from fun k hk => HTU.out k (.inr (.inr (.inr (.inl hk)))))
 clear evl
 go_upto_region 14 with fail
 have KP := Lib.hid (show ∀ Y, Below V6.heap.size V6 Y → (Y.cell? ⟨g, 11, none⟩ = some (.slice Al c.lf.length cal) ∧ Y.cell? ⟨bt, 0, none⟩ = some (.int .i64 ((N : Int) + 1))) from fun Y hy =>
   ⟨by rw [← EVL.out]; exact (S10.out.m.step hy).box.cell 11, (X10.out.here hy).cell 0⟩)
 refine wp_region_till 11 (fun w' => w'.cell? ⟨g, 11, none⟩ = some (.slice Al c.lf.length cal) ∧ w'.cell? ⟨bt, 0, none⟩ = some (.int .i64 ((N : Int) + 1))) (by kernel_rfl) (KP.out _ (Below.refl _ _).drew) (fun hHeld => ?_)
 have BD := Lib.hid (show Below V6.heap.size V6 V6.drew from (Below.refl _ _).drew)
 generalize V6.drew = V7 at BD hHeld ⊢
 refine wpTill_take (i := 0) (v := ?_) rfl (by kernel_rfl) (by kernel_rfl) (by kernel_rfl) (by kernel_rfl) (fun _ _ _ h => h) (Or.inl ⟨by rfl, ?_⟩) (by assumption) ?_
 rotate_left
 · (intro w0 hSw; (try dsimp only at hSw); go_simp; try with_reducible rfl)
 try simp only [List.getElem_toArray, List.getElem_cons_succ, List.getElem_cons_zero, Act.put, List.setIfInBounds_toArray, List.set_cons_zero, List.set_cons_succ]
 refine wpTill_take (i := 1) (v := ?_) rfl (by kernel_rfl) (by kernel_rfl) (by kernel_rfl) (by kernel_rfl) (fun _ _ _ h => h) (Or.inl ⟨by rfl, ?_⟩) (by assumption) ?_
 rotate_left
 · (intro w0 hSw; (try dsimp only at hSw); go_simp; try with_reducible rfl)
 try simp only [List.getElem_toArray, List.getElem_cons_succ, List.getElem_cons_zero, Act.put, List.setIfInBounds_toArray, List.set_cons_zero, List.set_cons_succ]
 refine wpTill_take (i := 2) (v := ?_) rfl (by kernel_rfl) (by kernel_rfl) (by kernel_rfl) (by kernel_rfl) (fun _ _ _ h => h) (Or.inl ⟨by rfl, ?_⟩) (by assumption) ?_
 rotate_left
 · (intro w0 hSw; (try dsimp only at hSw); go_simp; try with_reducible rfl)
 try simp only [List.getElem_toArray, List.getElem_cons_succ, List.getElem_cons_zero, Act.put, List.setIfInBounds_toArray, List.set_cons_zero, List.set_cons_succ]
 refine wpTill_take (i := 3) (v := ?_) rfl (by kernel_rfl) (by kernel_rfl) (by kernel_rfl) (by kernel_rfl) (fun _ _ _ h => h) (Or.inl ⟨by rfl, ?_⟩) (by assumption) ?_
 rotate_left
 · (intro w0 hSw; (try dsimp only at hSw); go_simp; try with_reducible rfl)
 try simp only [List.getElem_toArray, List.getElem_cons_succ, List.getElem_cons_zero, Act.put, List.setIfInBounds_toArray, List.set_cons_zero, List.set_cons_succ]
 refine wpTill_take (i := 4) (v := ?_) rfl (by kernel_rfl) (by kernel_rfl) (by kernel_rfl) (by kernel_rfl) (fun _ _ _ h => h) (Or.inl ⟨by rfl, ?_⟩) (by assumption) ?_
 rotate_left
 · (intro w0 hSw; (try dsimp only at hSw); go_simp; try with_reducible rfl)
 try simp only [List.getElem_toArray, List.getElem_cons_succ, List.getElem_cons_zero, Act.put, List.setIfInBounds_toArray, List.set_cons_zero, List.set_cons_succ]
 refine wpTill_take (i := 5) (v := ?_) rfl (by kernel_rfl) (by kernel_rfl) (by kernel_rfl) (by kernel_rfl) (fun _ _ _ h => h) (Or.inl ⟨by rfl, ?_⟩) (by assumption) ?_
 rotate_left
 · (intro w0 hSw; (try dsimp only at hSw); go_simp; try with_reducible rfl)
 try simp only [List.getElem_toArray, List.getElem_cons_succ, List.getElem_cons_zero, Act.put, List.setIfInBounds_toArray, List.set_cons_zero, List.set_cons_succ]
 refine wpTill_take (i := 6) (v := ?_) rfl (by kernel_rfl) (by kernel_rfl) (by kernel_rfl) (by kernel_rfl) (fun _ _ _ h => h) (Or.inl ⟨by rfl, ?_⟩) (by assumption) ?_
 rotate_left
 · (intro w0 hSw; (try dsimp only at hSw); go_simp; try with_reducible rfl)
 try simp only [List.getElem_toArray, List.getElem_cons_succ, List.getElem_cons_zero, Act.put, List.setIfInBounds_toArray, List.set_cons_zero, List.set_cons_succ]
 refine wpTill_ready (rs := [7]) (by kernel_rfl) (by simp) ?_
 refine AllTill.cons rfl (fun K hK => ?_) AllTill.nil
 go_simp
 have NB := Lib.hid (show Blk (V7.alloc (.cells #[.int .i64 ((N : Int) + 1)] 3)) V7.heap.size 3 (i64s [(N : Int) + 1]).toArray from Blk.new _ _ _)
 have B8 := Lib.hid (BD.out.alloc BD.out.size (.cells #[.int .i64 ((N : Int) + 1)] 3))
 refine hK.out _ _ (KP.out _ B8.out) (fun hHeld => ?_)
 clear hK K
 generalize V7.heap.size = nb at NB ⊢
 generalize V7.alloc (.cells #[.int .i64 ((N : Int) + 1)] 3) = V8 at NB B8 hHeld ⊢
 have S11 := Lib.hid (S10.out.trans (CoS.below (N := fun _ => False) S10.out.m B8.out))
 have R11 := Lib.hid (show V8.ownsRow 0 3 1 (.slice Al c.lf.length cal) c.lf.length (i64s c.lf) from by rw [← EVL.out]; exact S11.out.m.r.lfr)
 refine wpTill_ready (rs := [8]) (by kernel_rfl) (by simp) ?_
 refine AllTill.cons rfl (fun K hK => ?_) AllTill.nil
 refine step_append_any _ rfl (.tmp 71) (.tmp 74) _ rfl 0 3 j0 _ 1 8 Tryz.underlying59 hj0 hy0 hy1 hy2 rfl (by omega) (.slice Al c.lf.length cal) c.lf.length (i64s c.lf) rfl R11.out _ _ 1 1 (i64s [(N : Int) + 1]) rfl (readsI_blk NB.out) (i64s_one _) (by have := HF.out; simp only [maxLen]; omega) (by have := HF.out; omega) (Nat.zero_le _) ?_
 intro v9 W9 hown hgr h3
 obtain ⟨A9', c9', rfl⟩ := own_len hown
 have T9 := Lib.hid (show Turn (fun k => P.vl.ownBlock = some k) V8 W9 from (Turn.refl _ _).grown hgr (fun k hk _ => by rw [EVL.out]; exact hk))
 have R9 := Lib.hid (show NumR W9 0 (.slice A9' (c.lf.length + 1) c9') (c.lf ++ [(N : Int) + 1]) from by
   unfold NumR
   rw [show (c.lf ++ [(N : Int) + 1]).length = c.lf.length + 1 from by simp, show i64s (c.lf ++ [(N : Int) + 1]) = i64s c.lf ++ i64s [(N : Int) + 1] from by simp [i64s]]
   exact hown)
 have Q9 := Lib.hid (show ∀ k, (Value.slice A9' (c.lf.length + 1) c9').ownBlock = some k → P.vl.ownBlock = some k ∨ V8.heap.size ≤ k from fun k hk => by
   rcases h3 with e | e
   · left; rw [EVL.out, ← e]; exact hk
   · right; rw [e] at hk; cases hk; exact Nat.le_refl _)
 have S9 := Lib.hid (CoS.addL S11.out.m T9.out R9.out Q9.out)
 have X9 := Lib.hid ((X10.out.here B8.out).turn T9.out (fun e => by have h1 := HTL.out _ e; have := GA.out; omega))
 have hgb : ¬ (P.vl.ownBlock = some g) := fun e => by
   obtain ⟨cur, hh, _⟩ := own_heap S11.out.m.r.lfr g e
   exact heap_ne S11.out.m.box hh (by decide) rfl
 have k11 : W9.cell? ⟨g, 11, none⟩ = some (.slice Al c.lf.length cal) := by rw [← EVL.out]; exact (S11.out.m.box.turn T9.out hgb).cell 11
 have f11 := (S11.out.m.box.turn T9.out hgb).frozen 11
 clear hown hgr h3 hgb
 refine hK.out _ _ ⟨k11, X9.out.cell 0⟩ (fun hHeld => ?_)
 clear hK K
 refine wpTill_pure (i := 9) (v := ?_) rfl (by kernel_rfl) (by kernel_rfl) (by kernel_rfl) (by kernel_rfl) (fun _ _ _ h => h) (Or.inl ⟨by rfl, ?_⟩) (by first | (exact fun _ => by assumption) | (exact fun hf => by cases hf)) ?_
 rotate_left
 · (intro w0 hSw; clear hSw; go_simp; try with_reducible rfl)
 try simp only [List.getElem_toArray, List.getElem_cons_succ, List.getElem_cons_zero, Act.put, List.setIfInBounds_toArray, List.set_cons_zero, List.set_cons_succ]
 refine wpTill_take (i := 10) (v := ?_) rfl (by kernel_rfl) (by kernel_rfl) (by kernel_rfl) (by kernel_rfl) (fun _ _ _ h => h) (Or.inl ⟨by rfl, ?_⟩) (by assumption) ?_
 rotate_left
 · (intro w0 hSw; (try dsimp only at hSw); go_simp; try with_reducible rfl)
 try simp only [List.getElem_toArray, List.getElem_cons_succ, List.getElem_cons_zero, Act.put, List.setIfInBounds_toArray, List.set_cons_zero, List.set_cons_succ]
 refine wpTill_ready (rs := [11]) (by kernel_rfl) (by simp) ?_
 refine AllTill.last rfl (of_decide_eq_true (by kernel_rfl)) (fun K hK => ?_)
 go_simp
 refine hK.out _ _ ?_
 clear hK K
 refine wpTill_done (by kernel_rfl) ?_ _
 have S12 := Lib.hid (S11.out.trans S9.out)
 have X12 := Lib.hid (show Blk (W9.setCell ⟨g, 11, none⟩ (.slice A9' (c.lf.length + 1) c9')) bt 62 (trc (newL ((N : Int) + 1)) noSl) from X9.out.far (by have h1 := HTU.out g (.inl rfl); have := GA.out; simp only; omega) _)
 clear k11 f11 hHeld KP BD NB B8 S11 R11 T9 R9 Q9 S9 X9 X10 S10
 generalize W9.setCell ⟨g, 11, none⟩ (.slice A9' (c.lf.length + 1) c9') = V9 at S12 X12 ⊢
 have c0 : V9.cell? ⟨bt, 0, none⟩ = some (.int .i64 ((N : Int) + 1)) := X12.out.cell 0
 have BTNX := Lib.hid (show ¬ (Pt.tur { P with vt := .slice A9 (N + 1) c9, vl := .slice A9' (c.lf.length + 1) c9', L := P.L ++ [(newL ((N : Int) + 1), noSl)] } g bt) from fun e => by
   rcases e with e | e | e | e | e
   · have h1 := HTU.out g (.inl rfl); have := GA.out; omega
   · exact heap_ne X12.out S12.out.m.r.cli.box (by decide) e
   · exact VTN.out e
   · obtain ⟨cur, hh, _⟩ := own_heap S12.out.m.r.lfr _ e
     exact heap_ne X12.out hh (by decide) rfl
   · obtain ⟨cur, hh, _⟩ := own_heap S12.out.m.r.evr _ e
     exact heap_ne X12.out hh (by decide) rfl)
 go_upto_region 16 with (go_at_call 47; refine (note_any 1 id ((N : Int) + 1) 0 0 0 0 _ S12.out.m HE.out _ rfl).mono ?_; rintro e V10 ⟨rfl, ve', hs⟩; have S13 := Lib.hid (S12.out.trans hs); have X13 := Lib.hid (X12.out.turn hs.turn (fun e => BTNX.out e)); have c0 : V10.cell? ⟨bt, 0, none⟩ = some (.int .i64 ((N : Int) + 1)) := X13.out.cell 0; clear hs)
 go_wp2_with fail
 go_ret2
 exact ⟨rfl, _, by rw [HC.out]; exact S13.out.fresh (fun k e => by simp only [or_false] at e)⟩
end
end Go.Proofs.YtadnlannbafjpaaGreat
