/- A coordinator: becomes. -/
import Derived.Test.YtadnlannbafjpaaGreatQCoO
import Derived.Test.YtadnlannbafjpaaGreatQTxQ
namespace Go.Proofs.YtadnlannbafjpaaGreat
open Go.RowKit
set_option linter.unusedVariables false
set_option linter.unusedSimpArgs false
def becL (c : Co) (y : Tr) (i : Nat) : Co × Int :=
 if (c.txs.getD i noTr).st = y.st then ({ c with txs := c.txs.set i y }, 0) else
 if decided y = true then ({ c with txs := c.txs.set i y, ev := c.ev ++ [[y.st + 3, 0, y.tx, 0, 0, 0, y.rs]], cl := (endL c.cl y.tx).1 }, (endL c.cl y.tx).2)
 else ({ c with txs := c.txs.set i y, ev := c.ev ++ [[y.st + 3, 0, y.tx, 0, 0, 0, y.rs]] }, 0)
section
variable {w w' : World} {g n : Nat} {c : Co} {P : Pt}
theorem TxR.blk {b cap : Nat} {L : List (Tr × Sl)} {m : Nat} (h : TxR w (.slice (some ⟨b, 0, none⟩) m cap) L) : Blk w b 62 ((own_heap h b rfl).choose) := (own_heap h b rfl).choose_spec.1
theorem CoS.put (h : CoM w g n c P) {i b cap : Nat} (hi : i < P.L.length) (hv : P.vt = .slice (some ⟨b, 0, none⟩) P.L.length cap) {y : Tr} {s : Sl} (hT : Tm w 0 y s) (hap : ∀ k, P.vl.ownBlock = some k → ¬ SlB s k) :
   CoS w (w.setCells b (i * 13) (trc y s).toList) g n P (SlB s) { c with txs := c.txs.set i y } { P with L := P.L.set i (y, s) } := by
 have hb : P.vt.ownBlock = some b := by rw [hv]; rfl
 have RV : Turn (fun k => k = b) w (w.setCells b (i * 13) (trc y s).toList) := Turn.setCells (S := fun k => k = b) (fun _ => rfl) _ _ _ (Turn.refl _ _)
 have RT : Turn (fun k => P.vt.ownBlock = some k) w (w.setCells b (i * 13) (trc y s).toList) := RV.mono fun k _ e => by rw [e]; exact hb
 obtain ⟨cur, hh, _⟩ := own_heap h.r.txr b hb
 have hx := h.r.txr
 rw [hv] at hx
 have hr : TxR (w.setCells b (i * 13) (trc y s).toList) P.vt (P.L.set i (y, s)) := by
   have := hx.put hi (y, s)
   rw [hv]
   exact this
 have h2 := h.r.chT RT hr (fun q hq => (List.mem_or_eq_of_mem_set hq).imp id (fun e => by subst e; exact ⟨hT, hap⟩))
 have et : (P.L.set i (y, s)).map Prod.fst = c.txs.set i y := by rw [List.map_set, h.r.txs]
 rw [et] at h2
 exact { m := ⟨h.box.turn RV (fun e => heap_ne h.box hh (by decide) e), h2⟩
         turn := RT.mono fun k _ e => .inr (.inr (.inl e))
         tur := fun k hk => .inl hk
         own := fun k hk => by
           rcases hk with hk | ⟨q, hq, hk⟩
           · exact .inl (.inl hk)
           · rcases List.mem_or_eq_of_mem_set hq with hq | rfl
             · exact .inl (.inr ⟨q, hq, hk⟩)
             · exact .inr (.inr hk) }
theorem CoS.cli (h : CoM w g n c P) {cl' : List Cl} {N : Nat → Prop} (ht : Turn (fun k => k = P.p) w w') (hr : Cli w' P.p n cl') : CoS w w' g n P N { c with cl := cl' } P :=
 { m := ⟨h.box.turn ht (fun e => heap_ne h.box h.r.cli.box (by decide) e), h.r.chC ht hr⟩
   turn := ht.mono fun k _ e => .inr (.inl e)
   tur := fun k hk => .inl hk
   own := fun k hk => .inl hk }
end
section
variable {g n : Nat} {c : Co} {P : Pt}
set_option maxRecDepth 100000 in
set_option maxHeartbeats 4000000 in
theorem becomes_err (y : Tr) (s : Sl) (u : Value) (cd : Int) (w : World) (hcd : cd ≠ 0) :
   Calls Tryz.prog 50 #[.pointer (some ⟨g, 0, none⟩), .agg (trc y s), u, errV cd] w fun e w' => e = .returned (.tuple #[.slice none 0 0, errV cd]) ∧ Below w.heap.size w w' := by
 have hnn := fun W => run_neq_held_nil (P := Tryz.prog) W 28 81 (.int .i64 cd) Tryz.underlying28
 have B1 := Lib.hid (Joins.below_alloc1 w (.cells (trc y s) 62))
 rw [errV_pos hcd]
 go_enter Tryz.func50, Tryz.ntmps50
 go_wp2_with fail
 go_ret2
 exact ⟨rfl, B1.out⟩
set_option maxRecDepth 100000 in
set_option maxHeartbeats 16000000 in
theorem becomes_same (y : Tr) (s : Sl) (u : Value) (i : Nat) (w : World) (h : CoM w g n c P) (hT : Tm w 0 y s) (hap : ∀ k, P.vl.ownBlock = some k → ¬ SlB s k) (hi : i < P.L.length) (hn : P.L.length ≤ 100000) (hl : c.ev.length ≤ 100000) (hy : y.tx = (i : Int) + 1) (was : Int) (hw : (P.L[i]).1.st = was) (hst : y.st = was) (c' : Co) (hc' : c' = { c with txs := c.txs.set i y }) (code : Int) (hcode : code = 0) :
   Calls Tryz.prog 50 #[.pointer (some ⟨g, 0, none⟩), .agg (trc y s), u, .nilIface] w fun e w' => e = .returned (.tuple #[u, errV code]) ∧ ∃ P', CoS w w' g n P (SlB s) c' P' := by
 have hen := fun W => run_neq_nil_nil (P := Tryz.prog) W 28 Tryz.underlying28
 have X1 := Lib.hid (show Blk (w.alloc (.cells (trc y s) 62)) w.heap.size 62 (trc y s) from Blk.new w _ _)
 have B1 := Lib.hid (Joins.below_alloc1 w (.cells (trc y s) 62))
 have H1 := Lib.hid (h.step B1.out)
 have T1 := Lib.hid (hT.step B1.out)
 have HAP := Lib.hid hap
 have HY := Lib.hid hy
 have HL := Lib.hid hl
 have HX := Lib.hid (h.lt (k := g) (.inl (.inl rfl)))
 have H0 := Lib.hid h
 have HTU := Lib.hid (fun k (hk : P.tur g k) => h.lt (k := k) (.inl hk))
 have HVT := Lib.hid (fun k (hk : P.vt.ownBlock = some k) => h.lt (k := k) (.inl (.inr (.inr (.inl hk)))))
 have HC := Lib.hid hc'
 have HST := Lib.hid hst
 subst hcode
 clear hc' hst
 clear h hT hap hl
 go_enter Tryz.func50, Tryz.ntmps50
 go_upto_region 1 with fail
 obtain ⟨bt, hbt⟩ : ∃ bt, bt = w.heap.size := ⟨_, rfl⟩
 have HB := Lib.hid hbt
 rw [← hbt] at X1 HX ⊢
 clear hbt
 generalize w.alloc (.cells (trc y s) 62) = V at X1 B1 H1 T1 ⊢
 obtain ⟨b, ca, hv, hc, hf, hbl⟩ := H1.out.r.txr.open hi
 have HV := Lib.hid hv
 have x10 : V.cell? ⟨g, 10, none⟩ = some (.slice (some ⟨b, 0, none⟩) P.L.length ca) := by rw [← hv]; exact H1.out.box.cell 10
 have x0 : V.cell? ⟨bt, 0, none⟩ = some (.int .i64 ((i : Int) + 1)) := by rw [← HY.out]; exact X1.out.cell 0
 have xs : V.cell? ⟨b, i * 13 + 1, none⟩ = some (.int .i64 was) := hc 1 _ (by rw [← hw]; rfl)
 have w1 : IntKind.i64.wrap ((i : Int) + 1 - 1) = (i : Int) := by rw [show (i : Int) + 1 - 1 = (i : Int) by omega]; exact IntWalk.i64_in _ (by omega)
 have w2 : (i : Int) + 1 - 1 = (i : Int) := by omega
 have w0 : IntKind.i64.wrap (i : Int) = (i : Int) := IntWalk.i64_in _ (by omega)
 have d3 : decide ((i : Int) < (P.L.length : Int)) = true := by simp; omega
 have HI := Lib.hid hi
 clear hv hc hf hw hy
 generalize hN : P.L.length = N at x10 d3 hi hn
 have HN := Lib.hid hN
 clear hN
 go_upto_region 3 with fail
 go_quiet (fail)
 go_upto_region 4 with fail
 have BQ := Lib.hid (show Below V.heap.size V (V.drewN nq) from below_drewN (Below.refl _ _) nq)
 have H2 := Lib.hid (H1.out.step BQ.out)
 have X2 := Lib.hid (X1.out.here BQ.out)
 have T2 := Lib.hid (T1.out.step BQ.out)
 have B2 := Lib.hid (stepB B1.out BQ.out)
 clear x10 x0 xs X1 T1 H1 B1
 generalize V.drewN nq = V2 at BQ H2 X2 T2 B2 ⊢
 have KP := Lib.hid (show ∀ Y, Below V2.heap.size V2 Y → (Y.cell? ⟨g, 10, none⟩ = some (.slice (some ⟨b, 0, none⟩) N ca) ∧ Blk Y bt 62 (trc y s) ∧ Y.cell? ⟨bt, 0, none⟩ = some (.int .i64 ((i : Int) + 1))) from fun Y hy =>
   ⟨by rw [← HN.out, ← HV.out]; exact (H2.out.step hy).box.cell 10, X2.out.here hy, by rw [← HY.out]; exact (X2.out.here hy).cell 0⟩)
 refine wp_region_till 9 (fun w' => w'.cell? ⟨g, 10, none⟩ = some (.slice (some ⟨b, 0, none⟩) N ca) ∧ Blk w' bt 62 (trc y s) ∧ w'.cell? ⟨bt, 0, none⟩ = some (.int .i64 ((i : Int) + 1))) (by kernel_rfl) (KP.out _ (Below.refl _ _).drew) (fun hHeld => ?_)
 have BD := Lib.hid (show Below V2.heap.size V2 V2.drew from (Below.refl _ _).drew)
 generalize V2.drew = V3 at BD hHeld ⊢
 have H3 := Lib.hid (H2.out.step BD.out)
 have T3 := Lib.hid (T2.out.step BD.out)
 have B3 := Lib.hid (stepB B2.out BD.out)
 have R3 := Lib.hid (show TxR V3 (.slice (some ⟨b, 0, none⟩) P.L.length ca) P.L from by rw [← HV.out]; exact H3.out.r.txr)
 refine wpTill_take (i := 0) (v := ?_) rfl (by kernel_rfl) (by kernel_rfl) (by kernel_rfl) (by kernel_rfl) (fun _ _ _ h => h) (Or.inl ⟨by rfl, ?_⟩) (by assumption) ?_
 rotate_left
 · (intro w0 hSw; (try dsimp only at hSw); go_simp; try with_reducible rfl)
 try simp only [List.getElem_toArray, List.getElem_cons_succ, List.getElem_cons_zero, Act.put, List.setIfInBounds_toArray, List.set_cons_zero, List.set_cons_succ]
 refine wpTill_take (i := 1) (v := ?_) rfl (by kernel_rfl) (by kernel_rfl) (by kernel_rfl) (by kernel_rfl) (fun _ _ _ h => h) (Or.inl ⟨by rfl, ?_⟩) (by assumption) ?_
 rotate_left
 · (intro w0 hSw; (try dsimp only at hSw); go_simp; try with_reducible rfl)
 try simp only [List.getElem_toArray, List.getElem_cons_succ, List.getElem_cons_zero, Act.put, List.setIfInBounds_toArray, List.set_cons_zero, List.set_cons_succ]
 refine wpTill_take (i := 2) (v := ?_) rfl (by kernel_rfl) (by kernel_rfl) (by kernel_rfl) (by kernel_rfl) (fun _ _ _ h => h) (Or.inl ⟨by rfl, ?_⟩) (by assumption) ?_
 rotate_left
 · (intro w0 hSw; (try dsimp only at hSw); go_simp; try with_reducible rfl)
 try simp only [List.getElem_toArray, List.getElem_cons_succ, List.getElem_cons_zero, Act.put, List.setIfInBounds_toArray, List.set_cons_zero, List.set_cons_succ]
 refine wpTill_take (i := 3) (v := ?_) rfl (by kernel_rfl) (by kernel_rfl) (by kernel_rfl) (by kernel_rfl) (fun _ _ _ h => h) (Or.inl ⟨by rfl, ?_⟩) (by assumption) ?_
 rotate_left
 · (intro w0 hSw; (try dsimp only at hSw); go_simp; try with_reducible rfl)
 try simp only [List.getElem_toArray, List.getElem_cons_succ, List.getElem_cons_zero, Act.put, List.setIfInBounds_toArray, List.set_cons_zero, List.set_cons_succ]
 refine wpTill_take (i := 4) (v := ?_) rfl (by kernel_rfl) (by kernel_rfl) (by kernel_rfl) (by kernel_rfl) (fun _ _ _ h => h) (Or.inl ⟨by rfl, ?_⟩) (by assumption) ?_
 rotate_left
 · (intro w0 hSw; (try dsimp only at hSw); go_simp; try with_reducible rfl)
 try simp only [List.getElem_toArray, List.getElem_cons_succ, List.getElem_cons_zero, Act.put, List.setIfInBounds_toArray, List.set_cons_zero, List.set_cons_succ]
 refine wpTill_take (i := 5) (v := ?_) rfl (by kernel_rfl) (by kernel_rfl) (by kernel_rfl) (by kernel_rfl) (fun _ _ _ h => h) (Or.inl ⟨by rfl, ?_⟩) (by assumption) ?_
 rotate_left
 · (intro w0 hSw; (try dsimp only at hSw); go_simp; try with_reducible rfl)
 try simp only [List.getElem_toArray, List.getElem_cons_succ, List.getElem_cons_zero, Act.put, List.setIfInBounds_toArray, List.set_cons_zero, List.set_cons_succ]
 refine wpTill_take (i := 6) (v := ?_) rfl (by kernel_rfl) (by kernel_rfl) (by kernel_rfl) (by kernel_rfl) (fun _ _ _ h => h) (Or.inl ⟨by rfl, ?_⟩) (by assumption) ?_
 rotate_left
 · (intro w0 hSw; (try dsimp only at hSw); go_simp; try with_reducible rfl)
 try simp only [List.getElem_toArray, List.getElem_cons_succ, List.getElem_cons_zero, Act.put, List.setIfInBounds_toArray, List.set_cons_zero, List.set_cons_succ]
 refine wpTill_take (i := 7) (v := .agg (trc y s)) rfl (by kernel_rfl) (by kernel_rfl) (by kernel_rfl) (by kernel_rfl) (fun _ _ _ h => h) (Or.inl ⟨by rfl, fun w0 hSw => exec_load (x := .tmp 5) rfl rfl (tr_load hSw.2.1)⟩) (by assumption) ?_
 try simp only [List.getElem_toArray, List.getElem_cons_succ, List.getElem_cons_zero, Act.put, List.setIfInBounds_toArray, List.set_cons_zero, List.set_cons_succ]
 refine wpTill_take (i := 8) (v := ?_) rfl (by kernel_rfl) (by kernel_rfl) (by kernel_rfl) (by kernel_rfl) (fun _ _ _ h => h) (Or.inl ⟨by rfl, ?_⟩) (by assumption) ?_
 rotate_left
 · (intro w0 hSw; (try dsimp only at hSw); go_simp; try with_reducible rfl)
 try simp only [List.getElem_toArray, List.getElem_cons_succ, List.getElem_cons_zero, Act.put, List.setIfInBounds_toArray, List.set_cons_zero, List.set_cons_succ]
 refine wpTill_ready (rs := [9]) (by kernel_rfl) (by simp) ?_
 refine AllTill.last rfl (of_decide_eq_true (by kernel_rfl)) (fun K hK => ?_)
 refine step_store_mid (by rfl) 62 (.tmp 33) (.tmp 32) rfl b (i * 13) (trc y s) rfl rfl (R3.out.there HI.out) (tr_info _ _) T3.out.one ?_
 have S4 := Lib.hid ((CoS.below (N := fun _ => False) H0.out B3.out).trans (CoS.put H3.out HI.out HV.out T3.out HAP.out))
 have X4 := Lib.hid (hHeld.2.1.farCells (b := b) (by have := HVT.out b (by rw [HV.out]; rfl); have := HB.out; omega) (trc y s).toList (i * 13))
 have R4 := Lib.hid (show Turn (fun k => k = b) V3 (V3.setCells b (i * 13) (trc y s).toList) from Turn.setCells (S := fun k => k = b) (fun _ => rfl) _ _ _ (Turn.refl _ _))
 have T4 := Lib.hid (T3.out.offB (R3.out.blk) R4.out)
 refine hK.out _ _ ?_
 clear hK K
 refine wpTill_done (by kernel_rfl) ?_ _
 clear KP hHeld BD R3 H3 H2 X2 T2 B2 R4 BQ B3 T3
 generalize V3.setCells b (i * 13) (trc y s).toList = V4 at S4 X4 T4 ⊢
 have c1 : V4.cell? ⟨bt, 1, none⟩ = some (.int .i64 was) := by rw [← HST.out]; exact X4.out.cell 1
 go_wp2_with fail
 go_ret2
 exact ⟨rfl, _, by rw [HC.out]; exact S4.out.fresh (fun k e => e.elim (fun e => e.elim) (fun e => .inr (.inr e)))⟩
set_option maxRecDepth 100000 in
set_option maxHeartbeats 16000000 in
theorem becomes_2 (y : Tr) (s : Sl) (u : Value) (i : Nat) (w : World) (h : CoM w g n c P) (hT : Tm w 0 y s) (hap : ∀ k, P.vl.ownBlock = some k → ¬ SlB s k) (hi : i < P.L.length) (hn : P.L.length ≤ 100000) (hl : c.ev.length ≤ 100000) (hy : y.tx = (i : Int) + 1) (was : Int) (hw : (P.L[i]).1.st = was) (hst : y.st = 2) (hne : was ≠ 2) (hd : decided y = false) (c' : Co) (hc' : c' = { c with txs := c.txs.set i y, ev := c.ev ++ [[5, 0, y.tx, 0, 0, 0, y.rs]] }) (code : Int) (hcode : code = 0) :
   Calls Tryz.prog 50 #[.pointer (some ⟨g, 0, none⟩), .agg (trc y s), u, .nilIface] w fun e w' => e = .returned (.tuple #[u, errV code]) ∧ ∃ P', CoS w w' g n P (SlB s) c' P' := by
 have hen := fun W => run_neq_nil_nil (P := Tryz.prog) W 28 Tryz.underlying28
 have X1 := Lib.hid (show Blk (w.alloc (.cells (trc y s) 62)) w.heap.size 62 (trc y s) from Blk.new w _ _)
 have B1 := Lib.hid (Joins.below_alloc1 w (.cells (trc y s) 62))
 have H1 := Lib.hid (h.step B1.out)
 have T1 := Lib.hid (hT.step B1.out)
 have HAP := Lib.hid hap
 have HY := Lib.hid hy
 have HL := Lib.hid hl
 have HX := Lib.hid (h.lt (k := g) (.inl (.inl rfl)))
 have H0 := Lib.hid h
 have HTU := Lib.hid (fun k (hk : P.tur g k) => h.lt (k := k) (.inl hk))
 have HVT := Lib.hid (fun k (hk : P.vt.ownBlock = some k) => h.lt (k := k) (.inl (.inr (.inr (.inl hk)))))
 have HC := Lib.hid hc'
 have HST := Lib.hid hst
 have e5 : ((2 : Int) == was) = false := by simp; omega
 have HCODE := Lib.hid hcode
 have HD := Lib.hid hd
 clear hc' hst hne hcode hd
 clear h hT hap hl
 go_enter Tryz.func50, Tryz.ntmps50
 go_upto_region 1 with fail
 obtain ⟨bt, hbt⟩ : ∃ bt, bt = w.heap.size := ⟨_, rfl⟩
 have HB := Lib.hid hbt
 rw [← hbt] at X1 HX ⊢
 clear hbt
 generalize w.alloc (.cells (trc y s) 62) = V at X1 B1 H1 T1 ⊢
 obtain ⟨b, ca, hv, hc, hf, hbl⟩ := H1.out.r.txr.open hi
 have HV := Lib.hid hv
 have x10 : V.cell? ⟨g, 10, none⟩ = some (.slice (some ⟨b, 0, none⟩) P.L.length ca) := by rw [← hv]; exact H1.out.box.cell 10
 have x0 : V.cell? ⟨bt, 0, none⟩ = some (.int .i64 ((i : Int) + 1)) := by rw [← HY.out]; exact X1.out.cell 0
 have xs : V.cell? ⟨b, i * 13 + 1, none⟩ = some (.int .i64 was) := hc 1 _ (by rw [← hw]; rfl)
 have w1 : IntKind.i64.wrap ((i : Int) + 1 - 1) = (i : Int) := by rw [show (i : Int) + 1 - 1 = (i : Int) by omega]; exact IntWalk.i64_in _ (by omega)
 have w2 : (i : Int) + 1 - 1 = (i : Int) := by omega
 have w0 : IntKind.i64.wrap (i : Int) = (i : Int) := IntWalk.i64_in _ (by omega)
 have d3 : decide ((i : Int) < (P.L.length : Int)) = true := by simp; omega
 have HI := Lib.hid hi
 clear hv hc hf hw hy
 generalize hN : P.L.length = N at x10 d3 hi hn
 have HN := Lib.hid hN
 clear hN
 go_upto_region 3 with fail
 go_quiet (fail)
 go_upto_region 4 with fail
 have BQ := Lib.hid (show Below V.heap.size V (V.drewN nq) from below_drewN (Below.refl _ _) nq)
 have H2 := Lib.hid (H1.out.step BQ.out)
 have X2 := Lib.hid (X1.out.here BQ.out)
 have T2 := Lib.hid (T1.out.step BQ.out)
 have B2 := Lib.hid (stepB B1.out BQ.out)
 clear x10 x0 xs X1 T1 H1 B1
 generalize V.drewN nq = V2 at BQ H2 X2 T2 B2 ⊢
 have KP := Lib.hid (show ∀ Y, Below V2.heap.size V2 Y → (Y.cell? ⟨g, 10, none⟩ = some (.slice (some ⟨b, 0, none⟩) N ca) ∧ Blk Y bt 62 (trc y s) ∧ Y.cell? ⟨bt, 0, none⟩ = some (.int .i64 ((i : Int) + 1))) from fun Y hy =>
   ⟨by rw [← HN.out, ← HV.out]; exact (H2.out.step hy).box.cell 10, X2.out.here hy, by rw [← HY.out]; exact (X2.out.here hy).cell 0⟩)
 refine wp_region_till 9 (fun w' => w'.cell? ⟨g, 10, none⟩ = some (.slice (some ⟨b, 0, none⟩) N ca) ∧ Blk w' bt 62 (trc y s) ∧ w'.cell? ⟨bt, 0, none⟩ = some (.int .i64 ((i : Int) + 1))) (by kernel_rfl) (KP.out _ (Below.refl _ _).drew) (fun hHeld => ?_)
 have BD := Lib.hid (show Below V2.heap.size V2 V2.drew from (Below.refl _ _).drew)
 generalize V2.drew = V3 at BD hHeld ⊢
 have H3 := Lib.hid (H2.out.step BD.out)
 have T3 := Lib.hid (T2.out.step BD.out)
 have B3 := Lib.hid (stepB B2.out BD.out)
 have R3 := Lib.hid (show TxR V3 (.slice (some ⟨b, 0, none⟩) P.L.length ca) P.L from by rw [← HV.out]; exact H3.out.r.txr)
 refine wpTill_take (i := 0) (v := ?_) rfl (by kernel_rfl) (by kernel_rfl) (by kernel_rfl) (by kernel_rfl) (fun _ _ _ h => h) (Or.inl ⟨by rfl, ?_⟩) (by assumption) ?_
 rotate_left
 · (intro w0 hSw; (try dsimp only at hSw); go_simp; try with_reducible rfl)
 try simp only [List.getElem_toArray, List.getElem_cons_succ, List.getElem_cons_zero, Act.put, List.setIfInBounds_toArray, List.set_cons_zero, List.set_cons_succ]
 refine wpTill_take (i := 1) (v := ?_) rfl (by kernel_rfl) (by kernel_rfl) (by kernel_rfl) (by kernel_rfl) (fun _ _ _ h => h) (Or.inl ⟨by rfl, ?_⟩) (by assumption) ?_
 rotate_left
 · (intro w0 hSw; (try dsimp only at hSw); go_simp; try with_reducible rfl)
 try simp only [List.getElem_toArray, List.getElem_cons_succ, List.getElem_cons_zero, Act.put, List.setIfInBounds_toArray, List.set_cons_zero, List.set_cons_succ]
 refine wpTill_take (i := 2) (v := ?_) rfl (by kernel_rfl) (by kernel_rfl) (by kernel_rfl) (by kernel_rfl) (fun _ _ _ h => h) (Or.inl ⟨by rfl, ?_⟩) (by assumption) ?_
 rotate_left
 · (intro w0 hSw; (try dsimp only at hSw); go_simp; try with_reducible rfl)
 try simp only [List.getElem_toArray, List.getElem_cons_succ, List.getElem_cons_zero, Act.put, List.setIfInBounds_toArray, List.set_cons_zero, List.set_cons_succ]
 refine wpTill_take (i := 3) (v := ?_) rfl (by kernel_rfl) (by kernel_rfl) (by kernel_rfl) (by kernel_rfl) (fun _ _ _ h => h) (Or.inl ⟨by rfl, ?_⟩) (by assumption) ?_
 rotate_left
 · (intro w0 hSw; (try dsimp only at hSw); go_simp; try with_reducible rfl)
 try simp only [List.getElem_toArray, List.getElem_cons_succ, List.getElem_cons_zero, Act.put, List.setIfInBounds_toArray, List.set_cons_zero, List.set_cons_succ]
 refine wpTill_take (i := 4) (v := ?_) rfl (by kernel_rfl) (by kernel_rfl) (by kernel_rfl) (by kernel_rfl) (fun _ _ _ h => h) (Or.inl ⟨by rfl, ?_⟩) (by assumption) ?_
 rotate_left
 · (intro w0 hSw; (try dsimp only at hSw); go_simp; try with_reducible rfl)
 try simp only [List.getElem_toArray, List.getElem_cons_succ, List.getElem_cons_zero, Act.put, List.setIfInBounds_toArray, List.set_cons_zero, List.set_cons_succ]
 refine wpTill_take (i := 5) (v := ?_) rfl (by kernel_rfl) (by kernel_rfl) (by kernel_rfl) (by kernel_rfl) (fun _ _ _ h => h) (Or.inl ⟨by rfl, ?_⟩) (by assumption) ?_
 rotate_left
 · (intro w0 hSw; (try dsimp only at hSw); go_simp; try with_reducible rfl)
 try simp only [List.getElem_toArray, List.getElem_cons_succ, List.getElem_cons_zero, Act.put, List.setIfInBounds_toArray, List.set_cons_zero, List.set_cons_succ]
 refine wpTill_take (i := 6) (v := ?_) rfl (by kernel_rfl) (by kernel_rfl) (by kernel_rfl) (by kernel_rfl) (fun _ _ _ h => h) (Or.inl ⟨by rfl, ?_⟩) (by assumption) ?_
 rotate_left
 · (intro w0 hSw; (try dsimp only at hSw); go_simp; try with_reducible rfl)
 try simp only [List.getElem_toArray, List.getElem_cons_succ, List.getElem_cons_zero, Act.put, List.setIfInBounds_toArray, List.set_cons_zero, List.set_cons_succ]
 refine wpTill_take (i := 7) (v := .agg (trc y s)) rfl (by kernel_rfl) (by kernel_rfl) (by kernel_rfl) (by kernel_rfl) (fun _ _ _ h => h) (Or.inl ⟨by rfl, fun w0 hSw => exec_load (x := .tmp 5) rfl rfl (tr_load hSw.2.1)⟩) (by assumption) ?_
 try simp only [List.getElem_toArray, List.getElem_cons_succ, List.getElem_cons_zero, Act.put, List.setIfInBounds_toArray, List.set_cons_zero, List.set_cons_succ]
 refine wpTill_take (i := 8) (v := ?_) rfl (by kernel_rfl) (by kernel_rfl) (by kernel_rfl) (by kernel_rfl) (fun _ _ _ h => h) (Or.inl ⟨by rfl, ?_⟩) (by assumption) ?_
 rotate_left
 · (intro w0 hSw; (try dsimp only at hSw); go_simp; try with_reducible rfl)
 try simp only [List.getElem_toArray, List.getElem_cons_succ, List.getElem_cons_zero, Act.put, List.setIfInBounds_toArray, List.set_cons_zero, List.set_cons_succ]
 refine wpTill_ready (rs := [9]) (by kernel_rfl) (by simp) ?_
 refine AllTill.last rfl (of_decide_eq_true (by kernel_rfl)) (fun K hK => ?_)
 refine step_store_mid (by rfl) 62 (.tmp 33) (.tmp 32) rfl b (i * 13) (trc y s) rfl rfl (R3.out.there HI.out) (tr_info _ _) T3.out.one ?_
 have S4 := Lib.hid ((CoS.below (N := fun _ => False) H0.out B3.out).trans (CoS.put H3.out HI.out HV.out T3.out HAP.out))
 have X4 := Lib.hid (hHeld.2.1.farCells (b := b) (by have := HVT.out b (by rw [HV.out]; rfl); have := HB.out; omega) (trc y s).toList (i * 13))
 have R4 := Lib.hid (show Turn (fun k => k = b) V3 (V3.setCells b (i * 13) (trc y s).toList) from Turn.setCells (S := fun k => k = b) (fun _ => rfl) _ _ _ (Turn.refl _ _))
 have T4 := Lib.hid (T3.out.offB (R3.out.blk) R4.out)
 refine hK.out _ _ ?_
 clear hK K
 refine wpTill_done (by kernel_rfl) ?_ _
 clear KP hHeld BD R3 H3 H2 X2 T2 B2 R4 BQ B3 T3
 generalize V3.setCells b (i * 13) (trc y s).toList = V4 at S4 X4 T4 ⊢
 have c1 : V4.cell? ⟨bt, 1, none⟩ = some (.int .i64 2) := by rw [← HST.out]; exact X4.out.cell 1
 go_upto_region 8 with fail
 have A8 := Lib.hid (show Blk (V4.alloc (.cells #[.int .i64 0, .int .i64 0, .int .i64 5, .int .i64 6, .int .i64 7] 153)) V4.heap.size 153 #[.int .i64 0, .int .i64 0, .int .i64 5, .int .i64 6, .int .i64 7] from Blk.new _ _ _)
 have B8 := Lib.hid (Joins.below_alloc1 V4 (.cells #[.int .i64 0, .int .i64 0, .int .i64 5, .int .i64 6, .int .i64 7] 153))
 have S5 := Lib.hid (S4.out.trans (CoS.below (N := fun _ => False) S4.out.m B8.out))
 have X5 := Lib.hid (X4.out.here B8.out)
 have HBA := Lib.hid (Nat.le_trans S4.out.turn.size (Nat.le_refl _))
 clear c1 S4 X4 B8 T4
 generalize V4.heap.size = ba at A8 HBA ⊢
 generalize V4.alloc (.cells #[.int .i64 0, .int .i64 0, .int .i64 5, .int .i64 6, .int .i64 7] 153) = V5 at A8 S5 X5 ⊢
 have KP := Lib.hid (show ∀ Y, Below V5.heap.size V5 Y → (Y.cell? ⟨bt, 1, none⟩ = some (.int .i64 2) ∧ Y.cell? ⟨ba, 2, none⟩ = some (.int .i64 5) ∧ Y.cell? ⟨bt, 0, none⟩ = some (.int .i64 y.tx) ∧ Y.cell? ⟨bt, 2, none⟩ = some (.int .i64 y.rs)) from fun Y hy =>
   ⟨by rw [← HST.out]; exact (X5.out.here hy).cell 1, (A8.out.here hy).cell 2, (X5.out.here hy).cell 0, (X5.out.here hy).cell 2⟩)
 refine wp_region_held_drew (S := fun w' => w'.cell? ⟨bt, 1, none⟩ = some (.int .i64 2) ∧ w'.cell? ⟨ba, 2, none⟩ = some (.int .i64 5) ∧ w'.cell? ⟨bt, 0, none⟩ = some (.int .i64 y.tx) ∧ w'.cell? ⟨bt, 2, none⟩ = some (.int .i64 y.rs)) (by kernel_rfl) (KP.out _ (Below.refl _ _).drew) (fun hHeld => ?_)
 have BD := Lib.hid (show Below V5.heap.size V5 V5.drew from (Below.refl _ _).drew)
 generalize V5.drew = V6 at BD hHeld ⊢
 have S6 := Lib.hid (S5.out.trans (CoS.below (N := fun _ => False) S5.out.m BD.out))
 refine wpAnyH_take (i := 0) (v := ?_) rfl (by kernel_rfl) (by kernel_rfl) (by kernel_rfl) (fun _ _ _ h => h) (Or.inl ⟨by rfl, ?_⟩) (by assumption) ?_
 rotate_left
 · (intro w0 hSw; (try dsimp only at hSw); go_simp; try with_reducible rfl)
 try simp only [List.getElem_toArray, List.getElem_cons_succ, List.getElem_cons_zero, Act.put, List.setIfInBounds_toArray, List.set_cons_zero, List.set_cons_succ]
 refine wpAnyH_take (i := 1) (v := ?_) rfl (by kernel_rfl) (by kernel_rfl) (by kernel_rfl) (fun _ _ _ h => h) (Or.inl ⟨by rfl, ?_⟩) (by assumption) ?_
 rotate_left
 · (intro w0 hSw; (try dsimp only at hSw); go_simp; try with_reducible rfl)
 try simp only [List.getElem_toArray, List.getElem_cons_succ, List.getElem_cons_zero, Act.put, List.setIfInBounds_toArray, List.set_cons_zero, List.set_cons_succ]
 refine wpAnyH_take (i := 2) (v := ?_) rfl (by kernel_rfl) (by kernel_rfl) (by kernel_rfl) (fun _ _ _ h => h) (Or.inl ⟨by rfl, ?_⟩) (by assumption) ?_
 rotate_left
 · (intro w0 hSw; (try dsimp only at hSw); go_simp; try with_reducible rfl)
 try simp only [List.getElem_toArray, List.getElem_cons_succ, List.getElem_cons_zero, Act.put, List.setIfInBounds_toArray, List.set_cons_zero, List.set_cons_succ]
 refine wpAnyH_take (i := 3) (v := ?_) rfl (by kernel_rfl) (by kernel_rfl) (by kernel_rfl) (fun _ _ _ h => h) (Or.inl ⟨by rfl, ?_⟩) (by assumption) ?_
 rotate_left
 · (intro w0 hSw; (try dsimp only at hSw); go_simp; try with_reducible rfl)
 try simp only [List.getElem_toArray, List.getElem_cons_succ, List.getElem_cons_zero, Act.put, List.setIfInBounds_toArray, List.set_cons_zero, List.set_cons_succ]
 refine wpAnyH_take (i := 4) (v := ?_) rfl (by kernel_rfl) (by kernel_rfl) (by kernel_rfl) (fun _ _ _ h => h) (Or.inl ⟨by rfl, ?_⟩) (by assumption) ?_
 rotate_left
 · (intro w0 hSw; (try dsimp only at hSw); go_simp; try with_reducible rfl)
 try simp only [List.getElem_toArray, List.getElem_cons_succ, List.getElem_cons_zero, Act.put, List.setIfInBounds_toArray, List.set_cons_zero, List.set_cons_succ]
 refine wpAnyH_take (i := 5) (v := ?_) rfl (by kernel_rfl) (by kernel_rfl) (by kernel_rfl) (fun _ _ _ h => h) (Or.inl ⟨by rfl, ?_⟩) (by assumption) ?_
 rotate_left
 · (intro w0 hSw; (try dsimp only at hSw); go_simp; try with_reducible rfl)
 try simp only [List.getElem_toArray, List.getElem_cons_succ, List.getElem_cons_zero, Act.put, List.setIfInBounds_toArray, List.set_cons_zero, List.set_cons_succ]
 refine wpAnyH_take (i := 6) (v := ?_) rfl (by kernel_rfl) (by kernel_rfl) (by kernel_rfl) (fun _ _ _ h => h) (Or.inl ⟨by rfl, ?_⟩) (by assumption) ?_
 rotate_left
 · (intro w0 hSw; (try dsimp only at hSw); go_simp; try with_reducible rfl)
 try simp only [List.getElem_toArray, List.getElem_cons_succ, List.getElem_cons_zero, Act.put, List.setIfInBounds_toArray, List.set_cons_zero, List.set_cons_succ]
 refine wpAnyH_take (i := 7) (v := ?_) rfl (by kernel_rfl) (by kernel_rfl) (by kernel_rfl) (fun _ _ _ h => h) (Or.inl ⟨by rfl, ?_⟩) (by assumption) ?_
 rotate_left
 · (intro w0 hSw; (try dsimp only at hSw); go_simp; try with_reducible rfl)
 try simp only [List.getElem_toArray, List.getElem_cons_succ, List.getElem_cons_zero, Act.put, List.setIfInBounds_toArray, List.set_cons_zero, List.set_cons_succ]
 refine wpAnyH_take (i := 8) (v := ?_) rfl (by kernel_rfl) (by kernel_rfl) (by kernel_rfl) (fun _ _ _ h => h) (Or.inl ⟨by rfl, ?_⟩) (by assumption) ?_
 rotate_left
 · (intro w0 hSw; (try dsimp only at hSw); go_simp; try with_reducible rfl)
 try simp only [List.getElem_toArray, List.getElem_cons_succ, List.getElem_cons_zero, Act.put, List.setIfInBounds_toArray, List.set_cons_zero, List.set_cons_succ]
 refine wpAnyH_take (i := 9) (v := ?_) rfl (by kernel_rfl) (by kernel_rfl) (by kernel_rfl) (fun _ _ _ h => h) (Or.inl ⟨by rfl, ?_⟩) (by assumption) ?_
 rotate_left
 · (intro w0 hSw; (try dsimp only at hSw); go_simp; try with_reducible rfl)
 try simp only [List.getElem_toArray, List.getElem_cons_succ, List.getElem_cons_zero, Act.put, List.setIfInBounds_toArray, List.set_cons_zero, List.set_cons_succ]
 refine wpAnyH_ready (rs := [10]) (by kernel_rfl) (by simp) ?_
 refine AllReadyH.cons rfl (fun K hK => ?_) AllReadyH.nil
 go_simp
 refine (note_any 5 0 y.tx 0 0 0 y.rs _ S6.out.m HL.out _ rfl).mono ?_
 rintro e V7 ⟨rfl, ve', hs⟩
 try go_simp
 have S7 := Lib.hid (S6.out.trans hs)
 have X7 := Lib.hid ((X5.out.here BD.out).turn hs.turn (fun e => by have h1 := HTU.out _ e; have h2 := HB.out; omega))
 have hX7 : V7.cell? ⟨bt, 1, none⟩ = some (.int .i64 2) ∧ V7.cell? ⟨ba, 2, none⟩ = some (.int .i64 5) ∧ V7.cell? ⟨bt, 0, none⟩ = some (.int .i64 y.tx) ∧ V7.cell? ⟨bt, 2, none⟩ = some (.int .i64 y.rs) :=
   ⟨by rw [← HST.out]; exact X7.out.cell 1, ((A8.out.here BD.out).turn hs.turn (fun e => by have h1 := HTU.out _ e; have h2 := HBA.out; omega)).cell 2, X7.out.cell 0, X7.out.cell 2⟩
 clear hs
 refine hK.out _ _ hX7 (fun hHeld => ?_)
 clear hK K
 refine wpAnyH_done (by kernel_rfl) ?_ _
 clear hHeld hX7 KP BD S6 S5 X5 A8
 go_upto_region 11 with (first
   | (refine wpList_load_row rfl 62 (.tmp 5) rfl bt rfl 62 (trc y s) (0, 0) _ X7.out Tryz.underlying62 rfl (tr_info _ _) ?_)
   | (go_at_call 20; refine (decided_b y s _ false HD.out).mono ?_; rintro e V8 ⟨rfl, hb⟩; have S8 := Lib.hid (S7.out.trans (CoS.below (N := fun _ => False) S7.out.m hb)); have X8 := Lib.hid (X7.out.here hb); clear hb))
 go_wp2_with fail
 go_ret2
 obtain rfl := HCODE.out
 exact ⟨rfl, _, by rw [HC.out]; exact S8.out.fresh (fun k e => .inr (.inr (by simpa only [or_false, false_or] using e)))⟩
set_option maxRecDepth 100000 in
set_option maxHeartbeats 16000000 in
theorem becomes_3 (y : Tr) (s : Sl) (u : Value) (i : Nat) (w : World) (h : CoM w g n c P) (hT : Tm w 0 y s) (hap : ∀ k, P.vl.ownBlock = some k → ¬ SlB s k) (hi : i < P.L.length) (hn : P.L.length ≤ 100000) (hl : c.ev.length ≤ 100000) (hy : y.tx = (i : Int) + 1) (was : Int) (hw : (P.L[i]).1.st = was) (hst : y.st = 3) (hne : was ≠ 3) (hd : decided y = true) (c' : Co) (hc' : c' = { c with txs := c.txs.set i y, ev := c.ev ++ [[6, 0, y.tx, 0, 0, 0, y.rs]], cl := (endL c.cl y.tx).1 }) (code : Int) (hcode : code = (endL c.cl y.tx).2) :
   Calls Tryz.prog 50 #[.pointer (some ⟨g, 0, none⟩), .agg (trc y s), u, .nilIface] w fun e w' => e = .returned (.tuple #[u, errV code]) ∧ ∃ P', CoS w w' g n P (SlB s) c' P' := by
 have hen := fun W => run_neq_nil_nil (P := Tryz.prog) W 28 Tryz.underlying28
 have X1 := Lib.hid (show Blk (w.alloc (.cells (trc y s) 62)) w.heap.size 62 (trc y s) from Blk.new w _ _)
 have B1 := Lib.hid (Joins.below_alloc1 w (.cells (trc y s) 62))
 have H1 := Lib.hid (h.step B1.out)
 have T1 := Lib.hid (hT.step B1.out)
 have HAP := Lib.hid hap
 have HY := Lib.hid hy
 have HL := Lib.hid hl
 have HX := Lib.hid (h.lt (k := g) (.inl (.inl rfl)))
 have H0 := Lib.hid h
 have HTU := Lib.hid (fun k (hk : P.tur g k) => h.lt (k := k) (.inl hk))
 have HVT := Lib.hid (fun k (hk : P.vt.ownBlock = some k) => h.lt (k := k) (.inl (.inr (.inr (.inl hk)))))
 have HC := Lib.hid hc'
 have HST := Lib.hid hst
 have e5 : ((3 : Int) == was) = false := by simp; omega
 have HCODE := Lib.hid hcode
 have HD := Lib.hid hd
 clear hc' hst hne hcode hd
 clear h hT hap hl
 go_enter Tryz.func50, Tryz.ntmps50
 go_upto_region 1 with fail
 obtain ⟨bt, hbt⟩ : ∃ bt, bt = w.heap.size := ⟨_, rfl⟩
 have HB := Lib.hid hbt
 rw [← hbt] at X1 HX ⊢
 clear hbt
 generalize w.alloc (.cells (trc y s) 62) = V at X1 B1 H1 T1 ⊢
 obtain ⟨b, ca, hv, hc, hf, hbl⟩ := H1.out.r.txr.open hi
 have HV := Lib.hid hv
 have x10 : V.cell? ⟨g, 10, none⟩ = some (.slice (some ⟨b, 0, none⟩) P.L.length ca) := by rw [← hv]; exact H1.out.box.cell 10
 have x0 : V.cell? ⟨bt, 0, none⟩ = some (.int .i64 ((i : Int) + 1)) := by rw [← HY.out]; exact X1.out.cell 0
 have xs : V.cell? ⟨b, i * 13 + 1, none⟩ = some (.int .i64 was) := hc 1 _ (by rw [← hw]; rfl)
 have w1 : IntKind.i64.wrap ((i : Int) + 1 - 1) = (i : Int) := by rw [show (i : Int) + 1 - 1 = (i : Int) by omega]; exact IntWalk.i64_in _ (by omega)
 have w2 : (i : Int) + 1 - 1 = (i : Int) := by omega
 have w0 : IntKind.i64.wrap (i : Int) = (i : Int) := IntWalk.i64_in _ (by omega)
 have d3 : decide ((i : Int) < (P.L.length : Int)) = true := by simp; omega
 have HI := Lib.hid hi
 clear hv hc hf hw hy
 generalize hN : P.L.length = N at x10 d3 hi hn
 have HN := Lib.hid hN
 clear hN
 go_upto_region 3 with fail
 go_quiet (fail)
 go_upto_region 4 with fail
 have BQ := Lib.hid (show Below V.heap.size V (V.drewN nq) from below_drewN (Below.refl _ _) nq)
 have H2 := Lib.hid (H1.out.step BQ.out)
 have X2 := Lib.hid (X1.out.here BQ.out)
 have T2 := Lib.hid (T1.out.step BQ.out)
 have B2 := Lib.hid (stepB B1.out BQ.out)
 clear x10 x0 xs X1 T1 H1 B1
 generalize V.drewN nq = V2 at BQ H2 X2 T2 B2 ⊢
 have KP := Lib.hid (show ∀ Y, Below V2.heap.size V2 Y → (Y.cell? ⟨g, 10, none⟩ = some (.slice (some ⟨b, 0, none⟩) N ca) ∧ Blk Y bt 62 (trc y s) ∧ Y.cell? ⟨bt, 0, none⟩ = some (.int .i64 ((i : Int) + 1))) from fun Y hy =>
   ⟨by rw [← HN.out, ← HV.out]; exact (H2.out.step hy).box.cell 10, X2.out.here hy, by rw [← HY.out]; exact (X2.out.here hy).cell 0⟩)
 refine wp_region_till 9 (fun w' => w'.cell? ⟨g, 10, none⟩ = some (.slice (some ⟨b, 0, none⟩) N ca) ∧ Blk w' bt 62 (trc y s) ∧ w'.cell? ⟨bt, 0, none⟩ = some (.int .i64 ((i : Int) + 1))) (by kernel_rfl) (KP.out _ (Below.refl _ _).drew) (fun hHeld => ?_)
 have BD := Lib.hid (show Below V2.heap.size V2 V2.drew from (Below.refl _ _).drew)
 generalize V2.drew = V3 at BD hHeld ⊢
 have H3 := Lib.hid (H2.out.step BD.out)
 have T3 := Lib.hid (T2.out.step BD.out)
 have B3 := Lib.hid (stepB B2.out BD.out)
 have R3 := Lib.hid (show TxR V3 (.slice (some ⟨b, 0, none⟩) P.L.length ca) P.L from by rw [← HV.out]; exact H3.out.r.txr)
 refine wpTill_take (i := 0) (v := ?_) rfl (by kernel_rfl) (by kernel_rfl) (by kernel_rfl) (by kernel_rfl) (fun _ _ _ h => h) (Or.inl ⟨by rfl, ?_⟩) (by assumption) ?_
 rotate_left
 · (intro w0 hSw; (try dsimp only at hSw); go_simp; try with_reducible rfl)
 try simp only [List.getElem_toArray, List.getElem_cons_succ, List.getElem_cons_zero, Act.put, List.setIfInBounds_toArray, List.set_cons_zero, List.set_cons_succ]
 refine wpTill_take (i := 1) (v := ?_) rfl (by kernel_rfl) (by kernel_rfl) (by kernel_rfl) (by kernel_rfl) (fun _ _ _ h => h) (Or.inl ⟨by rfl, ?_⟩) (by assumption) ?_
 rotate_left
 · (intro w0 hSw; (try dsimp only at hSw); go_simp; try with_reducible rfl)
 try simp only [List.getElem_toArray, List.getElem_cons_succ, List.getElem_cons_zero, Act.put, List.setIfInBounds_toArray, List.set_cons_zero, List.set_cons_succ]
 refine wpTill_take (i := 2) (v := ?_) rfl (by kernel_rfl) (by kernel_rfl) (by kernel_rfl) (by kernel_rfl) (fun _ _ _ h => h) (Or.inl ⟨by rfl, ?_⟩) (by assumption) ?_
 rotate_left
 · (intro w0 hSw; (try dsimp only at hSw); go_simp; try with_reducible rfl)
 try simp only [List.getElem_toArray, List.getElem_cons_succ, List.getElem_cons_zero, Act.put, List.setIfInBounds_toArray, List.set_cons_zero, List.set_cons_succ]
 refine wpTill_take (i := 3) (v := ?_) rfl (by kernel_rfl) (by kernel_rfl) (by kernel_rfl) (by kernel_rfl) (fun _ _ _ h => h) (Or.inl ⟨by rfl, ?_⟩) (by assumption) ?_
 rotate_left
 · (intro w0 hSw; (try dsimp only at hSw); go_simp; try with_reducible rfl)
 try simp only [List.getElem_toArray, List.getElem_cons_succ, List.getElem_cons_zero, Act.put, List.setIfInBounds_toArray, List.set_cons_zero, List.set_cons_succ]
 refine wpTill_take (i := 4) (v := ?_) rfl (by kernel_rfl) (by kernel_rfl) (by kernel_rfl) (by kernel_rfl) (fun _ _ _ h => h) (Or.inl ⟨by rfl, ?_⟩) (by assumption) ?_
 rotate_left
 · (intro w0 hSw; (try dsimp only at hSw); go_simp; try with_reducible rfl)
 try simp only [List.getElem_toArray, List.getElem_cons_succ, List.getElem_cons_zero, Act.put, List.setIfInBounds_toArray, List.set_cons_zero, List.set_cons_succ]
 refine wpTill_take (i := 5) (v := ?_) rfl (by kernel_rfl) (by kernel_rfl) (by kernel_rfl) (by kernel_rfl) (fun _ _ _ h => h) (Or.inl ⟨by rfl, ?_⟩) (by assumption) ?_
 rotate_left
 · (intro w0 hSw; (try dsimp only at hSw); go_simp; try with_reducible rfl)
 try simp only [List.getElem_toArray, List.getElem_cons_succ, List.getElem_cons_zero, Act.put, List.setIfInBounds_toArray, List.set_cons_zero, List.set_cons_succ]
 refine wpTill_take (i := 6) (v := ?_) rfl (by kernel_rfl) (by kernel_rfl) (by kernel_rfl) (by kernel_rfl) (fun _ _ _ h => h) (Or.inl ⟨by rfl, ?_⟩) (by assumption) ?_
 rotate_left
 · (intro w0 hSw; (try dsimp only at hSw); go_simp; try with_reducible rfl)
 try simp only [List.getElem_toArray, List.getElem_cons_succ, List.getElem_cons_zero, Act.put, List.setIfInBounds_toArray, List.set_cons_zero, List.set_cons_succ]
 refine wpTill_take (i := 7) (v := .agg (trc y s)) rfl (by kernel_rfl) (by kernel_rfl) (by kernel_rfl) (by kernel_rfl) (fun _ _ _ h => h) (Or.inl ⟨by rfl, fun w0 hSw => exec_load (x := .tmp 5) rfl rfl (tr_load hSw.2.1)⟩) (by assumption) ?_
 try simp only [List.getElem_toArray, List.getElem_cons_succ, List.getElem_cons_zero, Act.put, List.setIfInBounds_toArray, List.set_cons_zero, List.set_cons_succ]
 refine wpTill_take (i := 8) (v := ?_) rfl (by kernel_rfl) (by kernel_rfl) (by kernel_rfl) (by kernel_rfl) (fun _ _ _ h => h) (Or.inl ⟨by rfl, ?_⟩) (by assumption) ?_
 rotate_left
 · (intro w0 hSw; (try dsimp only at hSw); go_simp; try with_reducible rfl)
 try simp only [List.getElem_toArray, List.getElem_cons_succ, List.getElem_cons_zero, Act.put, List.setIfInBounds_toArray, List.set_cons_zero, List.set_cons_succ]
 refine wpTill_ready (rs := [9]) (by kernel_rfl) (by simp) ?_
 refine AllTill.last rfl (of_decide_eq_true (by kernel_rfl)) (fun K hK => ?_)
 refine step_store_mid (by rfl) 62 (.tmp 33) (.tmp 32) rfl b (i * 13) (trc y s) rfl rfl (R3.out.there HI.out) (tr_info _ _) T3.out.one ?_
 have S4 := Lib.hid ((CoS.below (N := fun _ => False) H0.out B3.out).trans (CoS.put H3.out HI.out HV.out T3.out HAP.out))
 have X4 := Lib.hid (hHeld.2.1.farCells (b := b) (by have := HVT.out b (by rw [HV.out]; rfl); have := HB.out; omega) (trc y s).toList (i * 13))
 have R4 := Lib.hid (show Turn (fun k => k = b) V3 (V3.setCells b (i * 13) (trc y s).toList) from Turn.setCells (S := fun k => k = b) (fun _ => rfl) _ _ _ (Turn.refl _ _))
 have T4 := Lib.hid (T3.out.offB (R3.out.blk) R4.out)
 refine hK.out _ _ ?_
 clear hK K
 refine wpTill_done (by kernel_rfl) ?_ _
 clear KP hHeld BD R3 H3 H2 X2 T2 B2 R4 BQ B3 T3
 generalize V3.setCells b (i * 13) (trc y s).toList = V4 at S4 X4 T4 ⊢
 have c1 : V4.cell? ⟨bt, 1, none⟩ = some (.int .i64 3) := by rw [← HST.out]; exact X4.out.cell 1
 go_upto_region 8 with fail
 have A8 := Lib.hid (show Blk (V4.alloc (.cells #[.int .i64 0, .int .i64 0, .int .i64 5, .int .i64 6, .int .i64 7] 153)) V4.heap.size 153 #[.int .i64 0, .int .i64 0, .int .i64 5, .int .i64 6, .int .i64 7] from Blk.new _ _ _)
 have B8 := Lib.hid (Joins.below_alloc1 V4 (.cells #[.int .i64 0, .int .i64 0, .int .i64 5, .int .i64 6, .int .i64 7] 153))
 have S5 := Lib.hid (S4.out.trans (CoS.below (N := fun _ => False) S4.out.m B8.out))
 have X5 := Lib.hid (X4.out.here B8.out)
 have HBA := Lib.hid (Nat.le_trans S4.out.turn.size (Nat.le_refl _))
 clear c1 S4 X4 B8 T4
 generalize V4.heap.size = ba at A8 HBA ⊢
 generalize V4.alloc (.cells #[.int .i64 0, .int .i64 0, .int .i64 5, .int .i64 6, .int .i64 7] 153) = V5 at A8 S5 X5 ⊢
 have KP := Lib.hid (show ∀ Y, Below V5.heap.size V5 Y → (Y.cell? ⟨bt, 1, none⟩ = some (.int .i64 3) ∧ Y.cell? ⟨ba, 3, none⟩ = some (.int .i64 6) ∧ Y.cell? ⟨bt, 0, none⟩ = some (.int .i64 y.tx) ∧ Y.cell? ⟨bt, 2, none⟩ = some (.int .i64 y.rs)) from fun Y hy =>
   ⟨by rw [← HST.out]; exact (X5.out.here hy).cell 1, (A8.out.here hy).cell 3, (X5.out.here hy).cell 0, (X5.out.here hy).cell 2⟩)
 refine wp_region_held_drew (S := fun w' => w'.cell? ⟨bt, 1, none⟩ = some (.int .i64 3) ∧ w'.cell? ⟨ba, 3, none⟩ = some (.int .i64 6) ∧ w'.cell? ⟨bt, 0, none⟩ = some (.int .i64 y.tx) ∧ w'.cell? ⟨bt, 2, none⟩ = some (.int .i64 y.rs)) (by kernel_rfl) (KP.out _ (Below.refl _ _).drew) (fun hHeld => ?_)
 have BD := Lib.hid (show Below V5.heap.size V5 V5.drew from (Below.refl _ _).drew)
 generalize V5.drew = V6 at BD hHeld ⊢
 have S6 := Lib.hid (S5.out.trans (CoS.below (N := fun _ => False) S5.out.m BD.out))
 refine wpAnyH_take (i := 0) (v := ?_) rfl (by kernel_rfl) (by kernel_rfl) (by kernel_rfl) (fun _ _ _ h => h) (Or.inl ⟨by rfl, ?_⟩) (by assumption) ?_
 rotate_left
 · (intro w0 hSw; (try dsimp only at hSw); go_simp; try with_reducible rfl)
 try simp only [List.getElem_toArray, List.getElem_cons_succ, List.getElem_cons_zero, Act.put, List.setIfInBounds_toArray, List.set_cons_zero, List.set_cons_succ]
 refine wpAnyH_take (i := 1) (v := ?_) rfl (by kernel_rfl) (by kernel_rfl) (by kernel_rfl) (fun _ _ _ h => h) (Or.inl ⟨by rfl, ?_⟩) (by assumption) ?_
 rotate_left
 · (intro w0 hSw; (try dsimp only at hSw); go_simp; try with_reducible rfl)
 try simp only [List.getElem_toArray, List.getElem_cons_succ, List.getElem_cons_zero, Act.put, List.setIfInBounds_toArray, List.set_cons_zero, List.set_cons_succ]
 refine wpAnyH_take (i := 2) (v := ?_) rfl (by kernel_rfl) (by kernel_rfl) (by kernel_rfl) (fun _ _ _ h => h) (Or.inl ⟨by rfl, ?_⟩) (by assumption) ?_
 rotate_left
 · (intro w0 hSw; (try dsimp only at hSw); go_simp; try with_reducible rfl)
 try simp only [List.getElem_toArray, List.getElem_cons_succ, List.getElem_cons_zero, Act.put, List.setIfInBounds_toArray, List.set_cons_zero, List.set_cons_succ]
 refine wpAnyH_take (i := 3) (v := ?_) rfl (by kernel_rfl) (by kernel_rfl) (by kernel_rfl) (fun _ _ _ h => h) (Or.inl ⟨by rfl, ?_⟩) (by assumption) ?_
 rotate_left
 · (intro w0 hSw; (try dsimp only at hSw); go_simp; try with_reducible rfl)
 try simp only [List.getElem_toArray, List.getElem_cons_succ, List.getElem_cons_zero, Act.put, List.setIfInBounds_toArray, List.set_cons_zero, List.set_cons_succ]
 refine wpAnyH_take (i := 4) (v := ?_) rfl (by kernel_rfl) (by kernel_rfl) (by kernel_rfl) (fun _ _ _ h => h) (Or.inl ⟨by rfl, ?_⟩) (by assumption) ?_
 rotate_left
 · (intro w0 hSw; (try dsimp only at hSw); go_simp; try with_reducible rfl)
 try simp only [List.getElem_toArray, List.getElem_cons_succ, List.getElem_cons_zero, Act.put, List.setIfInBounds_toArray, List.set_cons_zero, List.set_cons_succ]
 refine wpAnyH_take (i := 5) (v := ?_) rfl (by kernel_rfl) (by kernel_rfl) (by kernel_rfl) (fun _ _ _ h => h) (Or.inl ⟨by rfl, ?_⟩) (by assumption) ?_
 rotate_left
 · (intro w0 hSw; (try dsimp only at hSw); go_simp; try with_reducible rfl)
 try simp only [List.getElem_toArray, List.getElem_cons_succ, List.getElem_cons_zero, Act.put, List.setIfInBounds_toArray, List.set_cons_zero, List.set_cons_succ]
 refine wpAnyH_take (i := 6) (v := ?_) rfl (by kernel_rfl) (by kernel_rfl) (by kernel_rfl) (fun _ _ _ h => h) (Or.inl ⟨by rfl, ?_⟩) (by assumption) ?_
 rotate_left
 · (intro w0 hSw; (try dsimp only at hSw); go_simp; try with_reducible rfl)
 try simp only [List.getElem_toArray, List.getElem_cons_succ, List.getElem_cons_zero, Act.put, List.setIfInBounds_toArray, List.set_cons_zero, List.set_cons_succ]
 refine wpAnyH_take (i := 7) (v := ?_) rfl (by kernel_rfl) (by kernel_rfl) (by kernel_rfl) (fun _ _ _ h => h) (Or.inl ⟨by rfl, ?_⟩) (by assumption) ?_
 rotate_left
 · (intro w0 hSw; (try dsimp only at hSw); go_simp; try with_reducible rfl)
 try simp only [List.getElem_toArray, List.getElem_cons_succ, List.getElem_cons_zero, Act.put, List.setIfInBounds_toArray, List.set_cons_zero, List.set_cons_succ]
 refine wpAnyH_take (i := 8) (v := ?_) rfl (by kernel_rfl) (by kernel_rfl) (by kernel_rfl) (fun _ _ _ h => h) (Or.inl ⟨by rfl, ?_⟩) (by assumption) ?_
 rotate_left
 · (intro w0 hSw; (try dsimp only at hSw); go_simp; try with_reducible rfl)
 try simp only [List.getElem_toArray, List.getElem_cons_succ, List.getElem_cons_zero, Act.put, List.setIfInBounds_toArray, List.set_cons_zero, List.set_cons_succ]
 refine wpAnyH_take (i := 9) (v := ?_) rfl (by kernel_rfl) (by kernel_rfl) (by kernel_rfl) (fun _ _ _ h => h) (Or.inl ⟨by rfl, ?_⟩) (by assumption) ?_
 rotate_left
 · (intro w0 hSw; (try dsimp only at hSw); go_simp; try with_reducible rfl)
 try simp only [List.getElem_toArray, List.getElem_cons_succ, List.getElem_cons_zero, Act.put, List.setIfInBounds_toArray, List.set_cons_zero, List.set_cons_succ]
 refine wpAnyH_ready (rs := [10]) (by kernel_rfl) (by simp) ?_
 refine AllReadyH.cons rfl (fun K hK => ?_) AllReadyH.nil
 go_simp
 refine (note_any 6 0 y.tx 0 0 0 y.rs _ S6.out.m HL.out _ rfl).mono ?_
 rintro e V7 ⟨rfl, ve', hs⟩
 try go_simp
 have S7 := Lib.hid (S6.out.trans hs)
 have X7 := Lib.hid ((X5.out.here BD.out).turn hs.turn (fun e => by have h1 := HTU.out _ e; have h2 := HB.out; omega))
 have hX7 : V7.cell? ⟨bt, 1, none⟩ = some (.int .i64 3) ∧ V7.cell? ⟨ba, 3, none⟩ = some (.int .i64 6) ∧ V7.cell? ⟨bt, 0, none⟩ = some (.int .i64 y.tx) ∧ V7.cell? ⟨bt, 2, none⟩ = some (.int .i64 y.rs) :=
   ⟨by rw [← HST.out]; exact X7.out.cell 1, ((A8.out.here BD.out).turn hs.turn (fun e => by have h1 := HTU.out _ e; have h2 := HBA.out; omega)).cell 3, X7.out.cell 0, X7.out.cell 2⟩
 clear hs
 refine hK.out _ _ hX7 (fun hHeld => ?_)
 clear hK K
 refine wpAnyH_done (by kernel_rfl) ?_ _
 clear hHeld hX7 KP BD S6 S5 X5 A8
 go_upto_region 10 with (first
   | (refine wpList_load_row rfl 62 (.tmp 5) rfl bt rfl 62 (trc y s) (0, 0) _ X7.out Tryz.underlying62 rfl (tr_info _ _) ?_)
   | (go_at_call 20; refine (decided_b y s _ true HD.out).mono ?_; rintro e V8 ⟨rfl, hb⟩; have S8 := Lib.hid (S7.out.trans (CoS.below (N := fun _ => False) S7.out.m hb)); have X8 := Lib.hid (X7.out.here hb); clear hb))
 have KQ := Lib.hid (show ∀ Y, Turn (fun k => k = P.p) V8 Y → (Y.cell? ⟨g, 7, none⟩ = some (.pointer (some ⟨P.p, 0, none⟩)) ∧ Y.cell? ⟨bt, 0, none⟩ = some (.int .i64 y.tx)) from fun Y hy =>
   ⟨(S8.out.m.box.turn hy (fun e => heap_ne S8.out.m.box S8.out.m.r.cli.box (by decide) e)).cell 7, (X8.out.turn hy (fun e => heap_ne X8.out S8.out.m.r.cli.box (by decide) e)).cell 0⟩)
 refine wp_region_held_drew (S := fun w' => w'.cell? ⟨g, 7, none⟩ = some (.pointer (some ⟨P.p, 0, none⟩)) ∧ w'.cell? ⟨bt, 0, none⟩ = some (.int .i64 y.tx)) (by kernel_rfl) (KQ.out _ (Turn.refl _ _).drew) (fun hHeld => ?_)
 have BD := Lib.hid (show Below V8.heap.size V8 V8.drew from (Below.refl _ _).drew)
 have TD := Lib.hid (show Turn (fun k => k = P.p) V8 V8.drew from (Turn.refl _ _).drew)
 generalize V8.drew = V9 at BD TD hHeld ⊢
 have S9 := Lib.hid (S8.out.trans (CoS.below (N := fun _ => False) S8.out.m BD.out))
 refine wpAnyH_take (i := 0) (v := ?_) rfl (by kernel_rfl) (by kernel_rfl) (by kernel_rfl) (fun _ _ _ h => h) (Or.inl ⟨by rfl, ?_⟩) (by assumption) ?_
 rotate_left
 · (intro w0 hSw; (try dsimp only at hSw); go_simp; try with_reducible rfl)
 try simp only [List.getElem_toArray, List.getElem_cons_succ, List.getElem_cons_zero, Act.put, List.setIfInBounds_toArray, List.set_cons_zero, List.set_cons_succ]
 refine wpAnyH_take (i := 1) (v := ?_) rfl (by kernel_rfl) (by kernel_rfl) (by kernel_rfl) (fun _ _ _ h => h) (Or.inl ⟨by rfl, ?_⟩) (by assumption) ?_
 rotate_left
 · (intro w0 hSw; (try dsimp only at hSw); go_simp; try with_reducible rfl)
 try simp only [List.getElem_toArray, List.getElem_cons_succ, List.getElem_cons_zero, Act.put, List.setIfInBounds_toArray, List.set_cons_zero, List.set_cons_succ]
 refine wpAnyH_take (i := 2) (v := ?_) rfl (by kernel_rfl) (by kernel_rfl) (by kernel_rfl) (fun _ _ _ h => h) (Or.inl ⟨by rfl, ?_⟩) (by assumption) ?_
 rotate_left
 · (intro w0 hSw; (try dsimp only at hSw); go_simp; try with_reducible rfl)
 try simp only [List.getElem_toArray, List.getElem_cons_succ, List.getElem_cons_zero, Act.put, List.setIfInBounds_toArray, List.set_cons_zero, List.set_cons_succ]
 refine wpAnyH_take (i := 3) (v := ?_) rfl (by kernel_rfl) (by kernel_rfl) (by kernel_rfl) (fun _ _ _ h => h) (Or.inl ⟨by rfl, ?_⟩) (by assumption) ?_
 rotate_left
 · (intro w0 hSw; (try dsimp only at hSw); go_simp; try with_reducible rfl)
 try simp only [List.getElem_toArray, List.getElem_cons_succ, List.getElem_cons_zero, Act.put, List.setIfInBounds_toArray, List.set_cons_zero, List.set_cons_succ]
 refine wpAnyH_take (i := 4) (v := ?_) rfl (by kernel_rfl) (by kernel_rfl) (by kernel_rfl) (fun _ _ _ h => h) (Or.inl ⟨by rfl, ?_⟩) (by assumption) ?_
 rotate_left
 · (intro w0 hSw; (try dsimp only at hSw); go_simp; try with_reducible rfl)
 try simp only [List.getElem_toArray, List.getElem_cons_succ, List.getElem_cons_zero, Act.put, List.setIfInBounds_toArray, List.set_cons_zero, List.set_cons_succ]
 refine wpAnyH_take (i := 5) (v := ?_) rfl (by kernel_rfl) (by kernel_rfl) (by kernel_rfl) (fun _ _ _ h => h) (Or.inl ⟨by rfl, ?_⟩) (by assumption) ?_
 rotate_left
 · (intro w0 hSw; (try dsimp only at hSw); go_simp; try with_reducible rfl)
 try simp only [List.getElem_toArray, List.getElem_cons_succ, List.getElem_cons_zero, Act.put, List.setIfInBounds_toArray, List.set_cons_zero, List.set_cons_succ]
 refine wpAnyH_take (i := 6) (v := ?_) rfl (by kernel_rfl) (by kernel_rfl) (by kernel_rfl) (fun _ _ _ h => h) (Or.inl ⟨by rfl, ?_⟩) (by assumption) ?_
 rotate_left
 · (intro w0 hSw; (try dsimp only at hSw); go_simp; try with_reducible rfl)
 try simp only [List.getElem_toArray, List.getElem_cons_succ, List.getElem_cons_zero, Act.put, List.setIfInBounds_toArray, List.set_cons_zero, List.set_cons_succ]
 refine wpAnyH_ready (rs := [7]) (by kernel_rfl) (by simp) ?_
 refine AllReadyH.cons rfl (fun K hK => ?_) AllReadyH.nil
 go_simp
 refine (cEnd_any y.tx _ S9.out.m.r.cli).mono ?_
 rintro e V10 ⟨rfl, hc, ht⟩
 try go_simp
 have S10 := Lib.hid (S9.out.trans (CoS.cli (N := fun _ => False) S9.out.m ht hc))
 refine hK.out _ _ (KQ.out _ (TD.out.trans ht (fun _ _ e => e))) (fun hHeld => ?_)
 clear hK K ht hc
 refine wpAnyH_take (i := 8) (v := ?_) rfl (by kernel_rfl) (by kernel_rfl) (by kernel_rfl) (fun _ _ _ h => h) (Or.inl ⟨by rfl, ?_⟩) (by assumption) ?_
 rotate_left
 · (intro w0 hSw; (try dsimp only at hSw); go_simp; try with_reducible rfl)
 try simp only [List.getElem_toArray, List.getElem_cons_succ, List.getElem_cons_zero, Act.put, List.setIfInBounds_toArray, List.set_cons_zero, List.set_cons_succ]
 refine wpAnyH_take (i := 9) (v := ?_) rfl (by kernel_rfl) (by kernel_rfl) (by kernel_rfl) (fun _ _ _ h => h) (Or.inl ⟨by rfl, ?_⟩) (by assumption) ?_
 rotate_left
 · (intro w0 hSw; (try dsimp only at hSw); go_simp; try with_reducible rfl)
 try simp only [List.getElem_toArray, List.getElem_cons_succ, List.getElem_cons_zero, Act.put, List.setIfInBounds_toArray, List.set_cons_zero, List.set_cons_succ]
 refine wpAnyH_done (by kernel_rfl) ?_ _
 clear hHeld
 go_wp2_with fail
 go_ret2
 obtain rfl := HCODE.out
 exact ⟨rfl, _, by rw [HC.out]; exact S10.out.fresh (fun k e => .inr (.inr (by simpa only [or_false, false_or] using e)))⟩
set_option maxRecDepth 100000 in
set_option maxHeartbeats 16000000 in
theorem becomes_4 (y : Tr) (s : Sl) (u : Value) (i : Nat) (w : World) (h : CoM w g n c P) (hT : Tm w 0 y s) (hap : ∀ k, P.vl.ownBlock = some k → ¬ SlB s k) (hi : i < P.L.length) (hn : P.L.length ≤ 100000) (hl : c.ev.length ≤ 100000) (hy : y.tx = (i : Int) + 1) (was : Int) (hw : (P.L[i]).1.st = was) (hst : y.st = 4) (hne : was ≠ 4) (hd : decided y = true) (c' : Co) (hc' : c' = { c with txs := c.txs.set i y, ev := c.ev ++ [[7, 0, y.tx, 0, 0, 0, y.rs]], cl := (endL c.cl y.tx).1 }) (code : Int) (hcode : code = (endL c.cl y.tx).2) :
   Calls Tryz.prog 50 #[.pointer (some ⟨g, 0, none⟩), .agg (trc y s), u, .nilIface] w fun e w' => e = .returned (.tuple #[u, errV code]) ∧ ∃ P', CoS w w' g n P (SlB s) c' P' := by
 have hen := fun W => run_neq_nil_nil (P := Tryz.prog) W 28 Tryz.underlying28
 have X1 := Lib.hid (show Blk (w.alloc (.cells (trc y s) 62)) w.heap.size 62 (trc y s) from Blk.new w _ _)
 have B1 := Lib.hid (Joins.below_alloc1 w (.cells (trc y s) 62))
 have H1 := Lib.hid (h.step B1.out)
 have T1 := Lib.hid (hT.step B1.out)
 have HAP := Lib.hid hap
 have HY := Lib.hid hy
 have HL := Lib.hid hl
 have HX := Lib.hid (h.lt (k := g) (.inl (.inl rfl)))
 have H0 := Lib.hid h
 have HTU := Lib.hid (fun k (hk : P.tur g k) => h.lt (k := k) (.inl hk))
 have HVT := Lib.hid (fun k (hk : P.vt.ownBlock = some k) => h.lt (k := k) (.inl (.inr (.inr (.inl hk)))))
 have HC := Lib.hid hc'
 have HST := Lib.hid hst
 have e5 : ((4 : Int) == was) = false := by simp; omega
 have HCODE := Lib.hid hcode
 have HD := Lib.hid hd
 clear hc' hst hne hcode hd
 clear h hT hap hl
 go_enter Tryz.func50, Tryz.ntmps50
 go_upto_region 1 with fail
 obtain ⟨bt, hbt⟩ : ∃ bt, bt = w.heap.size := ⟨_, rfl⟩
 have HB := Lib.hid hbt
 rw [← hbt] at X1 HX ⊢
 clear hbt
 generalize w.alloc (.cells (trc y s) 62) = V at X1 B1 H1 T1 ⊢
 obtain ⟨b, ca, hv, hc, hf, hbl⟩ := H1.out.r.txr.open hi
 have HV := Lib.hid hv
 have x10 : V.cell? ⟨g, 10, none⟩ = some (.slice (some ⟨b, 0, none⟩) P.L.length ca) := by rw [← hv]; exact H1.out.box.cell 10
 have x0 : V.cell? ⟨bt, 0, none⟩ = some (.int .i64 ((i : Int) + 1)) := by rw [← HY.out]; exact X1.out.cell 0
 have xs : V.cell? ⟨b, i * 13 + 1, none⟩ = some (.int .i64 was) := hc 1 _ (by rw [← hw]; rfl)
 have w1 : IntKind.i64.wrap ((i : Int) + 1 - 1) = (i : Int) := by rw [show (i : Int) + 1 - 1 = (i : Int) by omega]; exact IntWalk.i64_in _ (by omega)
 have w2 : (i : Int) + 1 - 1 = (i : Int) := by omega
 have w0 : IntKind.i64.wrap (i : Int) = (i : Int) := IntWalk.i64_in _ (by omega)
 have d3 : decide ((i : Int) < (P.L.length : Int)) = true := by simp; omega
 have HI := Lib.hid hi
 clear hv hc hf hw hy
 generalize hN : P.L.length = N at x10 d3 hi hn
 have HN := Lib.hid hN
 clear hN
 go_upto_region 3 with fail
 go_quiet (fail)
 go_upto_region 4 with fail
 have BQ := Lib.hid (show Below V.heap.size V (V.drewN nq) from below_drewN (Below.refl _ _) nq)
 have H2 := Lib.hid (H1.out.step BQ.out)
 have X2 := Lib.hid (X1.out.here BQ.out)
 have T2 := Lib.hid (T1.out.step BQ.out)
 have B2 := Lib.hid (stepB B1.out BQ.out)
 clear x10 x0 xs X1 T1 H1 B1
 generalize V.drewN nq = V2 at BQ H2 X2 T2 B2 ⊢
 have KP := Lib.hid (show ∀ Y, Below V2.heap.size V2 Y → (Y.cell? ⟨g, 10, none⟩ = some (.slice (some ⟨b, 0, none⟩) N ca) ∧ Blk Y bt 62 (trc y s) ∧ Y.cell? ⟨bt, 0, none⟩ = some (.int .i64 ((i : Int) + 1))) from fun Y hy =>
   ⟨by rw [← HN.out, ← HV.out]; exact (H2.out.step hy).box.cell 10, X2.out.here hy, by rw [← HY.out]; exact (X2.out.here hy).cell 0⟩)
 refine wp_region_till 9 (fun w' => w'.cell? ⟨g, 10, none⟩ = some (.slice (some ⟨b, 0, none⟩) N ca) ∧ Blk w' bt 62 (trc y s) ∧ w'.cell? ⟨bt, 0, none⟩ = some (.int .i64 ((i : Int) + 1))) (by kernel_rfl) (KP.out _ (Below.refl _ _).drew) (fun hHeld => ?_)
 have BD := Lib.hid (show Below V2.heap.size V2 V2.drew from (Below.refl _ _).drew)
 generalize V2.drew = V3 at BD hHeld ⊢
 have H3 := Lib.hid (H2.out.step BD.out)
 have T3 := Lib.hid (T2.out.step BD.out)
 have B3 := Lib.hid (stepB B2.out BD.out)
 have R3 := Lib.hid (show TxR V3 (.slice (some ⟨b, 0, none⟩) P.L.length ca) P.L from by rw [← HV.out]; exact H3.out.r.txr)
 refine wpTill_take (i := 0) (v := ?_) rfl (by kernel_rfl) (by kernel_rfl) (by kernel_rfl) (by kernel_rfl) (fun _ _ _ h => h) (Or.inl ⟨by rfl, ?_⟩) (by assumption) ?_
 rotate_left
 · (intro w0 hSw; (try dsimp only at hSw); go_simp; try with_reducible rfl)
 try simp only [List.getElem_toArray, List.getElem_cons_succ, List.getElem_cons_zero, Act.put, List.setIfInBounds_toArray, List.set_cons_zero, List.set_cons_succ]
 refine wpTill_take (i := 1) (v := ?_) rfl (by kernel_rfl) (by kernel_rfl) (by kernel_rfl) (by kernel_rfl) (fun _ _ _ h => h) (Or.inl ⟨by rfl, ?_⟩) (by assumption) ?_
 rotate_left
 · (intro w0 hSw; (try dsimp only at hSw); go_simp; try with_reducible rfl)
 try simp only [List.getElem_toArray, List.getElem_cons_succ, List.getElem_cons_zero, Act.put, List.setIfInBounds_toArray, List.set_cons_zero, List.set_cons_succ]
 refine wpTill_take (i := 2) (v := ?_) rfl (by kernel_rfl) (by kernel_rfl) (by kernel_rfl) (by kernel_rfl) (fun _ _ _ h => h) (Or.inl ⟨by rfl, ?_⟩) (by assumption) ?_
 rotate_left
 · (intro w0 hSw; (try dsimp only at hSw); go_simp; try with_reducible rfl)
 try simp only [List.getElem_toArray, List.getElem_cons_succ, List.getElem_cons_zero, Act.put, List.setIfInBounds_toArray, List.set_cons_zero, List.set_cons_succ]
 refine wpTill_take (i := 3) (v := ?_) rfl (by kernel_rfl) (by kernel_rfl) (by kernel_rfl) (by kernel_rfl) (fun _ _ _ h => h) (Or.inl ⟨by rfl, ?_⟩) (by assumption) ?_
 rotate_left
 · (intro w0 hSw; (try dsimp only at hSw); go_simp; try with_reducible rfl)
 try simp only [List.getElem_toArray, List.getElem_cons_succ, List.getElem_cons_zero, Act.put, List.setIfInBounds_toArray, List.set_cons_zero, List.set_cons_succ]
 refine wpTill_take (i := 4) (v := ?_) rfl (by kernel_rfl) (by kernel_rfl) (by kernel_rfl) (by kernel_rfl) (fun _ _ _ h => h) (Or.inl ⟨by rfl, ?_⟩) (by assumption) ?_
 rotate_left
 · (intro w0 hSw; (try dsimp only at hSw); go_simp; try with_reducible rfl)
 try simp only [List.getElem_toArray, List.getElem_cons_succ, List.getElem_cons_zero, Act.put, List.setIfInBounds_toArray, List.set_cons_zero, List.set_cons_succ]
 refine wpTill_take (i := 5) (v := ?_) rfl (by kernel_rfl) (by kernel_rfl) (by kernel_rfl) (by kernel_rfl) (fun _ _ _ h => h) (Or.inl ⟨by rfl, ?_⟩) (by assumption) ?_
 rotate_left
 · (intro w0 hSw; (try dsimp only at hSw); go_simp; try with_reducible rfl)
 try simp only [List.getElem_toArray, List.getElem_cons_succ, List.getElem_cons_zero, Act.put, List.setIfInBounds_toArray, List.set_cons_zero, List.set_cons_succ]
 refine wpTill_take (i := 6) (v := ?_) rfl (by kernel_rfl) (by kernel_rfl) (by kernel_rfl) (by kernel_rfl) (fun _ _ _ h => h) (Or.inl ⟨by rfl, ?_⟩) (by assumption) ?_
 rotate_left
 · (intro w0 hSw; (try dsimp only at hSw); go_simp; try with_reducible rfl)
 try simp only [List.getElem_toArray, List.getElem_cons_succ, List.getElem_cons_zero, Act.put, List.setIfInBounds_toArray, List.set_cons_zero, List.set_cons_succ]
 refine wpTill_take (i := 7) (v := .agg (trc y s)) rfl (by kernel_rfl) (by kernel_rfl) (by kernel_rfl) (by kernel_rfl) (fun _ _ _ h => h) (Or.inl ⟨by rfl, fun w0 hSw => exec_load (x := .tmp 5) rfl rfl (tr_load hSw.2.1)⟩) (by assumption) ?_
 try simp only [List.getElem_toArray, List.getElem_cons_succ, List.getElem_cons_zero, Act.put, List.setIfInBounds_toArray, List.set_cons_zero, List.set_cons_succ]
 refine wpTill_take (i := 8) (v := ?_) rfl (by kernel_rfl) (by kernel_rfl) (by kernel_rfl) (by kernel_rfl) (fun _ _ _ h => h) (Or.inl ⟨by rfl, ?_⟩) (by assumption) ?_
 rotate_left
 · (intro w0 hSw; (try dsimp only at hSw); go_simp; try with_reducible rfl)
 try simp only [List.getElem_toArray, List.getElem_cons_succ, List.getElem_cons_zero, Act.put, List.setIfInBounds_toArray, List.set_cons_zero, List.set_cons_succ]
 refine wpTill_ready (rs := [9]) (by kernel_rfl) (by simp) ?_
 refine AllTill.last rfl (of_decide_eq_true (by kernel_rfl)) (fun K hK => ?_)
 refine step_store_mid (by rfl) 62 (.tmp 33) (.tmp 32) rfl b (i * 13) (trc y s) rfl rfl (R3.out.there HI.out) (tr_info _ _) T3.out.one ?_
 have S4 := Lib.hid ((CoS.below (N := fun _ => False) H0.out B3.out).trans (CoS.put H3.out HI.out HV.out T3.out HAP.out))
 have X4 := Lib.hid (hHeld.2.1.farCells (b := b) (by have := HVT.out b (by rw [HV.out]; rfl); have := HB.out; omega) (trc y s).toList (i * 13))
 have R4 := Lib.hid (show Turn (fun k => k = b) V3 (V3.setCells b (i * 13) (trc y s).toList) from Turn.setCells (S := fun k => k = b) (fun _ => rfl) _ _ _ (Turn.refl _ _))
 have T4 := Lib.hid (T3.out.offB (R3.out.blk) R4.out)
 refine hK.out _ _ ?_
 clear hK K
 refine wpTill_done (by kernel_rfl) ?_ _
 clear KP hHeld BD R3 H3 H2 X2 T2 B2 R4 BQ B3 T3
 generalize V3.setCells b (i * 13) (trc y s).toList = V4 at S4 X4 T4 ⊢
 have c1 : V4.cell? ⟨bt, 1, none⟩ = some (.int .i64 4) := by rw [← HST.out]; exact X4.out.cell 1
 go_upto_region 8 with fail
 have A8 := Lib.hid (show Blk (V4.alloc (.cells #[.int .i64 0, .int .i64 0, .int .i64 5, .int .i64 6, .int .i64 7] 153)) V4.heap.size 153 #[.int .i64 0, .int .i64 0, .int .i64 5, .int .i64 6, .int .i64 7] from Blk.new _ _ _)
 have B8 := Lib.hid (Joins.below_alloc1 V4 (.cells #[.int .i64 0, .int .i64 0, .int .i64 5, .int .i64 6, .int .i64 7] 153))
 have S5 := Lib.hid (S4.out.trans (CoS.below (N := fun _ => False) S4.out.m B8.out))
 have X5 := Lib.hid (X4.out.here B8.out)
 have HBA := Lib.hid (Nat.le_trans S4.out.turn.size (Nat.le_refl _))
 clear c1 S4 X4 B8 T4
 generalize V4.heap.size = ba at A8 HBA ⊢
 generalize V4.alloc (.cells #[.int .i64 0, .int .i64 0, .int .i64 5, .int .i64 6, .int .i64 7] 153) = V5 at A8 S5 X5 ⊢
 have KP := Lib.hid (show ∀ Y, Below V5.heap.size V5 Y → (Y.cell? ⟨bt, 1, none⟩ = some (.int .i64 4) ∧ Y.cell? ⟨ba, 4, none⟩ = some (.int .i64 7) ∧ Y.cell? ⟨bt, 0, none⟩ = some (.int .i64 y.tx) ∧ Y.cell? ⟨bt, 2, none⟩ = some (.int .i64 y.rs)) from fun Y hy =>
   ⟨by rw [← HST.out]; exact (X5.out.here hy).cell 1, (A8.out.here hy).cell 4, (X5.out.here hy).cell 0, (X5.out.here hy).cell 2⟩)
 refine wp_region_held_drew (S := fun w' => w'.cell? ⟨bt, 1, none⟩ = some (.int .i64 4) ∧ w'.cell? ⟨ba, 4, none⟩ = some (.int .i64 7) ∧ w'.cell? ⟨bt, 0, none⟩ = some (.int .i64 y.tx) ∧ w'.cell? ⟨bt, 2, none⟩ = some (.int .i64 y.rs)) (by kernel_rfl) (KP.out _ (Below.refl _ _).drew) (fun hHeld => ?_)
 have BD := Lib.hid (show Below V5.heap.size V5 V5.drew from (Below.refl _ _).drew)
 generalize V5.drew = V6 at BD hHeld ⊢
 have S6 := Lib.hid (S5.out.trans (CoS.below (N := fun _ => False) S5.out.m BD.out))
 refine wpAnyH_take (i := 0) (v := ?_) rfl (by kernel_rfl) (by kernel_rfl) (by kernel_rfl) (fun _ _ _ h => h) (Or.inl ⟨by rfl, ?_⟩) (by assumption) ?_
 rotate_left
 · (intro w0 hSw; (try dsimp only at hSw); go_simp; try with_reducible rfl)
 try simp only [List.getElem_toArray, List.getElem_cons_succ, List.getElem_cons_zero, Act.put, List.setIfInBounds_toArray, List.set_cons_zero, List.set_cons_succ]
 refine wpAnyH_take (i := 1) (v := ?_) rfl (by kernel_rfl) (by kernel_rfl) (by kernel_rfl) (fun _ _ _ h => h) (Or.inl ⟨by rfl, ?_⟩) (by assumption) ?_
 rotate_left
 · (intro w0 hSw; (try dsimp only at hSw); go_simp; try with_reducible rfl)
 try simp only [List.getElem_toArray, List.getElem_cons_succ, List.getElem_cons_zero, Act.put, List.setIfInBounds_toArray, List.set_cons_zero, List.set_cons_succ]
 refine wpAnyH_take (i := 2) (v := ?_) rfl (by kernel_rfl) (by kernel_rfl) (by kernel_rfl) (fun _ _ _ h => h) (Or.inl ⟨by rfl, ?_⟩) (by assumption) ?_
 rotate_left
 · (intro w0 hSw; (try dsimp only at hSw); go_simp; try with_reducible rfl)
 try simp only [List.getElem_toArray, List.getElem_cons_succ, List.getElem_cons_zero, Act.put, List.setIfInBounds_toArray, List.set_cons_zero, List.set_cons_succ]
 refine wpAnyH_take (i := 3) (v := ?_) rfl (by kernel_rfl) (by kernel_rfl) (by kernel_rfl) (fun _ _ _ h => h) (Or.inl ⟨by rfl, ?_⟩) (by assumption) ?_
 rotate_left
 · (intro w0 hSw; (try dsimp only at hSw); go_simp; try with_reducible rfl)
 try simp only [List.getElem_toArray, List.getElem_cons_succ, List.getElem_cons_zero, Act.put, List.setIfInBounds_toArray, List.set_cons_zero, List.set_cons_succ]
 refine wpAnyH_take (i := 4) (v := ?_) rfl (by kernel_rfl) (by kernel_rfl) (by kernel_rfl) (fun _ _ _ h => h) (Or.inl ⟨by rfl, ?_⟩) (by assumption) ?_
 rotate_left
 · (intro w0 hSw; (try dsimp only at hSw); go_simp; try with_reducible rfl)
 try simp only [List.getElem_toArray, List.getElem_cons_succ, List.getElem_cons_zero, Act.put, List.setIfInBounds_toArray, List.set_cons_zero, List.set_cons_succ]
 refine wpAnyH_take (i := 5) (v := ?_) rfl (by kernel_rfl) (by kernel_rfl) (by kernel_rfl) (fun _ _ _ h => h) (Or.inl ⟨by rfl, ?_⟩) (by assumption) ?_
 rotate_left
 · (intro w0 hSw; (try dsimp only at hSw); go_simp; try with_reducible rfl)
 try simp only [List.getElem_toArray, List.getElem_cons_succ, List.getElem_cons_zero, Act.put, List.setIfInBounds_toArray, List.set_cons_zero, List.set_cons_succ]
 refine wpAnyH_take (i := 6) (v := ?_) rfl (by kernel_rfl) (by kernel_rfl) (by kernel_rfl) (fun _ _ _ h => h) (Or.inl ⟨by rfl, ?_⟩) (by assumption) ?_
 rotate_left
 · (intro w0 hSw; (try dsimp only at hSw); go_simp; try with_reducible rfl)
 try simp only [List.getElem_toArray, List.getElem_cons_succ, List.getElem_cons_zero, Act.put, List.setIfInBounds_toArray, List.set_cons_zero, List.set_cons_succ]
 refine wpAnyH_take (i := 7) (v := ?_) rfl (by kernel_rfl) (by kernel_rfl) (by kernel_rfl) (fun _ _ _ h => h) (Or.inl ⟨by rfl, ?_⟩) (by assumption) ?_
 rotate_left
 · (intro w0 hSw; (try dsimp only at hSw); go_simp; try with_reducible rfl)
 try simp only [List.getElem_toArray, List.getElem_cons_succ, List.getElem_cons_zero, Act.put, List.setIfInBounds_toArray, List.set_cons_zero, List.set_cons_succ]
 refine wpAnyH_take (i := 8) (v := ?_) rfl (by kernel_rfl) (by kernel_rfl) (by kernel_rfl) (fun _ _ _ h => h) (Or.inl ⟨by rfl, ?_⟩) (by assumption) ?_
 rotate_left
 · (intro w0 hSw; (try dsimp only at hSw); go_simp; try with_reducible rfl)
 try simp only [List.getElem_toArray, List.getElem_cons_succ, List.getElem_cons_zero, Act.put, List.setIfInBounds_toArray, List.set_cons_zero, List.set_cons_succ]
 refine wpAnyH_take (i := 9) (v := ?_) rfl (by kernel_rfl) (by kernel_rfl) (by kernel_rfl) (fun _ _ _ h => h) (Or.inl ⟨by rfl, ?_⟩) (by assumption) ?_
 rotate_left
 · (intro w0 hSw; (try dsimp only at hSw); go_simp; try with_reducible rfl)
 try simp only [List.getElem_toArray, List.getElem_cons_succ, List.getElem_cons_zero, Act.put, List.setIfInBounds_toArray, List.set_cons_zero, List.set_cons_succ]
 refine wpAnyH_ready (rs := [10]) (by kernel_rfl) (by simp) ?_
 refine AllReadyH.cons rfl (fun K hK => ?_) AllReadyH.nil
 go_simp
 refine (note_any 7 0 y.tx 0 0 0 y.rs _ S6.out.m HL.out _ rfl).mono ?_
 rintro e V7 ⟨rfl, ve', hs⟩
 try go_simp
 have S7 := Lib.hid (S6.out.trans hs)
 have X7 := Lib.hid ((X5.out.here BD.out).turn hs.turn (fun e => by have h1 := HTU.out _ e; have h2 := HB.out; omega))
 have hX7 : V7.cell? ⟨bt, 1, none⟩ = some (.int .i64 4) ∧ V7.cell? ⟨ba, 4, none⟩ = some (.int .i64 7) ∧ V7.cell? ⟨bt, 0, none⟩ = some (.int .i64 y.tx) ∧ V7.cell? ⟨bt, 2, none⟩ = some (.int .i64 y.rs) :=
   ⟨by rw [← HST.out]; exact X7.out.cell 1, ((A8.out.here BD.out).turn hs.turn (fun e => by have h1 := HTU.out _ e; have h2 := HBA.out; omega)).cell 4, X7.out.cell 0, X7.out.cell 2⟩
 clear hs
 refine hK.out _ _ hX7 (fun hHeld => ?_)
 clear hK K
 refine wpAnyH_done (by kernel_rfl) ?_ _
 clear hHeld hX7 KP BD S6 S5 X5 A8
 go_upto_region 10 with (first
   | (refine wpList_load_row rfl 62 (.tmp 5) rfl bt rfl 62 (trc y s) (0, 0) _ X7.out Tryz.underlying62 rfl (tr_info _ _) ?_)
   | (go_at_call 20; refine (decided_b y s _ true HD.out).mono ?_; rintro e V8 ⟨rfl, hb⟩; have S8 := Lib.hid (S7.out.trans (CoS.below (N := fun _ => False) S7.out.m hb)); have X8 := Lib.hid (X7.out.here hb); clear hb))
 have KQ := Lib.hid (show ∀ Y, Turn (fun k => k = P.p) V8 Y → (Y.cell? ⟨g, 7, none⟩ = some (.pointer (some ⟨P.p, 0, none⟩)) ∧ Y.cell? ⟨bt, 0, none⟩ = some (.int .i64 y.tx)) from fun Y hy =>
   ⟨(S8.out.m.box.turn hy (fun e => heap_ne S8.out.m.box S8.out.m.r.cli.box (by decide) e)).cell 7, (X8.out.turn hy (fun e => heap_ne X8.out S8.out.m.r.cli.box (by decide) e)).cell 0⟩)
 refine wp_region_held_drew (S := fun w' => w'.cell? ⟨g, 7, none⟩ = some (.pointer (some ⟨P.p, 0, none⟩)) ∧ w'.cell? ⟨bt, 0, none⟩ = some (.int .i64 y.tx)) (by kernel_rfl) (KQ.out _ (Turn.refl _ _).drew) (fun hHeld => ?_)
 have BD := Lib.hid (show Below V8.heap.size V8 V8.drew from (Below.refl _ _).drew)
 have TD := Lib.hid (show Turn (fun k => k = P.p) V8 V8.drew from (Turn.refl _ _).drew)
 generalize V8.drew = V9 at BD TD hHeld ⊢
 have S9 := Lib.hid (S8.out.trans (CoS.below (N := fun _ => False) S8.out.m BD.out))
 refine wpAnyH_take (i := 0) (v := ?_) rfl (by kernel_rfl) (by kernel_rfl) (by kernel_rfl) (fun _ _ _ h => h) (Or.inl ⟨by rfl, ?_⟩) (by assumption) ?_
 rotate_left
 · (intro w0 hSw; (try dsimp only at hSw); go_simp; try with_reducible rfl)
 try simp only [List.getElem_toArray, List.getElem_cons_succ, List.getElem_cons_zero, Act.put, List.setIfInBounds_toArray, List.set_cons_zero, List.set_cons_succ]
 refine wpAnyH_take (i := 1) (v := ?_) rfl (by kernel_rfl) (by kernel_rfl) (by kernel_rfl) (fun _ _ _ h => h) (Or.inl ⟨by rfl, ?_⟩) (by assumption) ?_
 rotate_left
 · (intro w0 hSw; (try dsimp only at hSw); go_simp; try with_reducible rfl)
 try simp only [List.getElem_toArray, List.getElem_cons_succ, List.getElem_cons_zero, Act.put, List.setIfInBounds_toArray, List.set_cons_zero, List.set_cons_succ]
 refine wpAnyH_take (i := 2) (v := ?_) rfl (by kernel_rfl) (by kernel_rfl) (by kernel_rfl) (fun _ _ _ h => h) (Or.inl ⟨by rfl, ?_⟩) (by assumption) ?_
 rotate_left
 · (intro w0 hSw; (try dsimp only at hSw); go_simp; try with_reducible rfl)
 try simp only [List.getElem_toArray, List.getElem_cons_succ, List.getElem_cons_zero, Act.put, List.setIfInBounds_toArray, List.set_cons_zero, List.set_cons_succ]
 refine wpAnyH_take (i := 3) (v := ?_) rfl (by kernel_rfl) (by kernel_rfl) (by kernel_rfl) (fun _ _ _ h => h) (Or.inl ⟨by rfl, ?_⟩) (by assumption) ?_
 rotate_left
 · (intro w0 hSw; (try dsimp only at hSw); go_simp; try with_reducible rfl)
 try simp only [List.getElem_toArray, List.getElem_cons_succ, List.getElem_cons_zero, Act.put, List.setIfInBounds_toArray, List.set_cons_zero, List.set_cons_succ]
 refine wpAnyH_take (i := 4) (v := ?_) rfl (by kernel_rfl) (by kernel_rfl) (by kernel_rfl) (fun _ _ _ h => h) (Or.inl ⟨by rfl, ?_⟩) (by assumption) ?_
 rotate_left
 · (intro w0 hSw; (try dsimp only at hSw); go_simp; try with_reducible rfl)
 try simp only [List.getElem_toArray, List.getElem_cons_succ, List.getElem_cons_zero, Act.put, List.setIfInBounds_toArray, List.set_cons_zero, List.set_cons_succ]
 refine wpAnyH_take (i := 5) (v := ?_) rfl (by kernel_rfl) (by kernel_rfl) (by kernel_rfl) (fun _ _ _ h => h) (Or.inl ⟨by rfl, ?_⟩) (by assumption) ?_
 rotate_left
 · (intro w0 hSw; (try dsimp only at hSw); go_simp; try with_reducible rfl)
 try simp only [List.getElem_toArray, List.getElem_cons_succ, List.getElem_cons_zero, Act.put, List.setIfInBounds_toArray, List.set_cons_zero, List.set_cons_succ]
 refine wpAnyH_take (i := 6) (v := ?_) rfl (by kernel_rfl) (by kernel_rfl) (by kernel_rfl) (fun _ _ _ h => h) (Or.inl ⟨by rfl, ?_⟩) (by assumption) ?_
 rotate_left
 · (intro w0 hSw; (try dsimp only at hSw); go_simp; try with_reducible rfl)
 try simp only [List.getElem_toArray, List.getElem_cons_succ, List.getElem_cons_zero, Act.put, List.setIfInBounds_toArray, List.set_cons_zero, List.set_cons_succ]
 refine wpAnyH_ready (rs := [7]) (by kernel_rfl) (by simp) ?_
 refine AllReadyH.cons rfl (fun K hK => ?_) AllReadyH.nil
 go_simp
 refine (cEnd_any y.tx _ S9.out.m.r.cli).mono ?_
 rintro e V10 ⟨rfl, hc, ht⟩
 try go_simp
 have S10 := Lib.hid (S9.out.trans (CoS.cli (N := fun _ => False) S9.out.m ht hc))
 refine hK.out _ _ (KQ.out _ (TD.out.trans ht (fun _ _ e => e))) (fun hHeld => ?_)
 clear hK K ht hc
 refine wpAnyH_take (i := 8) (v := ?_) rfl (by kernel_rfl) (by kernel_rfl) (by kernel_rfl) (fun _ _ _ h => h) (Or.inl ⟨by rfl, ?_⟩) (by assumption) ?_
 rotate_left
 · (intro w0 hSw; (try dsimp only at hSw); go_simp; try with_reducible rfl)
 try simp only [List.getElem_toArray, List.getElem_cons_succ, List.getElem_cons_zero, Act.put, List.setIfInBounds_toArray, List.set_cons_zero, List.set_cons_succ]
 refine wpAnyH_take (i := 9) (v := ?_) rfl (by kernel_rfl) (by kernel_rfl) (by kernel_rfl) (fun _ _ _ h => h) (Or.inl ⟨by rfl, ?_⟩) (by assumption) ?_
 rotate_left
 · (intro w0 hSw; (try dsimp only at hSw); go_simp; try with_reducible rfl)
 try simp only [List.getElem_toArray, List.getElem_cons_succ, List.getElem_cons_zero, Act.put, List.setIfInBounds_toArray, List.set_cons_zero, List.set_cons_succ]
 refine wpAnyH_done (by kernel_rfl) ?_ _
 clear hHeld
 go_wp2_with fail
 go_ret2
 obtain rfl := HCODE.out
 exact ⟨rfl, _, by rw [HC.out]; exact S10.out.fresh (fun k e => .inr (.inr (by simpa only [or_false, false_or] using e)))⟩
theorem becomes_any (y : Tr) (s : Sl) (u : Value) (i : Nat) (w : World) (h : CoM w g n c P) (hT : Tm w 0 y s) (hap : ∀ k, P.vl.ownBlock = some k → ¬ SlB s k) (hi : i < P.L.length) (hn : P.L.length ≤ 100000) (hl : c.ev.length ≤ 100000) (hy : y.tx = (i : Int) + 1) (hst : 1 ≤ y.st ∧ y.st ≤ 4) (h1 : y.st = 1 → (P.L[i]).1.st = 1) (c' : Co) (code : Int) (hb : becL c y i = (c', code)) :
   Calls Tryz.prog 50 #[.pointer (some ⟨g, 0, none⟩), .agg (trc y s), u, .nilIface] w fun e w' => e = .returned (.tuple #[u, errV code]) ∧ ∃ P', CoS w w' g n P (SlB s) c' P' := by
 have hw : (c.txs.getD i noTr).st = (P.L[i]).1.st := by
   rw [← h.r.txs, List.getD_eq_getElem?_getD, List.getElem?_map, List.getElem?_eq_getElem hi]; rfl
 unfold becL at hb
 rw [hw] at hb
 by_cases he : (P.L[i]).1.st = y.st
 · rw [if_pos he] at hb
   injection hb with hb1 hb2
   exact becomes_same y s u i w h hT hap hi hn hl hy _ rfl he.symm c' hb1.symm code hb2.symm
 · rw [if_neg he] at hb
   by_cases hd : decided y = true
   · rw [if_pos hd] at hb
     injection hb with hb1 hb2
     by_cases h3 : y.st = 3
     · refine becomes_3 y s u i w h hT hap hi hn hl hy _ rfl h3 (fun e => he (e.trans h3.symm)) hd c' ?_ code hb2.symm
       rw [← hb1, h3]; rfl
     · have h4 : y.st = 4 := by unfold decided at hd; simp at hd; omega
       refine becomes_4 y s u i w h hT hap hi hn hl hy _ rfl h4 (fun e => he (e.trans h4.symm)) hd c' ?_ code hb2.symm
       rw [← hb1, h4]; rfl
   · rw [if_neg hd] at hb
     injection hb with hb1 hb2
     have hd : decided y = false := by simpa using hd
     have h2 : y.st = 2 := by
       have h34 : ¬ (y.st = 3 ∨ y.st = 4) := by unfold decided at hd; simpa using hd
       have : y.st ≠ 1 := fun e => he ((h1 e).trans e.symm)
       omega
     refine becomes_2 y s u i w h hT hap hi hn hl hy _ rfl h2 (fun e => he (e.trans h2.symm)) hd c' ?_ code hb2.symm
     rw [← hb1, h2]; rfl
end
end Go.Proofs.YtadnlannbafjpaaGreat
