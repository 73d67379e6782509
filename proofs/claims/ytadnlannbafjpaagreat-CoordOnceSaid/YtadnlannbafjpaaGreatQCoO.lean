/- A coordinator: may, find, note. -/
import Derived.Test.YtadnlannbafjpaaGreatQCoM
import Derived.Test.YtadnlannbafjpaaGreatQMsgS
import Derived.Test.YtadnlannbafjpaaGreatQHeld
namespace Go.Proofs.YtadnlannbafjpaaGreat
open Go.RowKit
set_option linter.unusedVariables false
set_option linter.unusedSimpArgs false
def mayL (n : Nat) (cl : List Cl) (id : Int) : Int := if id < 1 ∨ (n : Int) < id then 10 else if aliveL n cl id = false then 11 else 0
set_option maxRecDepth 100000 in
set_option maxHeartbeats 1000000 in
theorem may_nil (id : Int) (w : World) : Calls Tryz.prog 43 #[.pointer none, .int .i64 id] w fun e w' => e = .returned (errno 1) ∧ w = w' := by
 go_enter Tryz.func43, Tryz.ntmps43
 go_wp2_with fail
 go_ret
 exact ⟨rfl, rfl⟩
section
variable {g n : Nat} {c : Co} {P : Pt}
set_option maxRecDepth 100000 in
set_option maxHeartbeats 4000000 in
theorem may_any (id : Int) (w : World) (h : CoM w g n c P) (r : Int) (hr : mayL n c.cl id = r) : Calls Tryz.prog 43 #[.pointer (some ⟨g, 0, none⟩), .int .i64 id] w fun e w' => e = .returned (errV r) ∧ w = w' := by
 have k7 : w.cell? ⟨g, 7, none⟩ = some (.pointer (some ⟨P.p, 0, none⟩)) := h.box.cell 7
 have k8 : w.cell? ⟨g, 8, none⟩ = some (.int .i64 (n : Int)) := h.box.cell 8
 have HC := Lib.hid h.r.cli
 unfold mayL at hr
 clear h
 by_cases h1 : id < 1
 · rw [if_pos (.inl h1)] at hr
   subst hr
   have d1 : decide (id < 1) = true := by simpa using h1
   clear h1
   go_enter Tryz.func43, Tryz.ntmps43
   go_wp2_with fail
   go_ret
   exact ⟨rfl, rfl⟩
 have d1 : decide (id < 1) = false := by simpa using h1
 by_cases h2 : (n : Int) < id
 · rw [if_pos (.inr h2)] at hr
   subst hr
   have d2 : decide ((n : Int) < id) = true := by simpa using h2
   clear h1 h2
   go_enter Tryz.func43, Tryz.ntmps43
   go_wp2_with fail
   go_ret
   exact ⟨rfl, rfl⟩
 have d2 : decide ((n : Int) < id) = false := by simpa using h2
 rw [if_neg (by omega)] at hr
 cases ha : aliveL n c.cl id with
 | false =>
   rw [if_pos ha] at hr
   subst hr
   have HA := Lib.hid ha
   clear h1 h2 ha
   go_enter Tryz.func43, Tryz.ntmps43
   go_wp2_with (go_at_call 85; refine (cAlive_any id _ HC.out false HA.out).mono ?_; rintro e w' ⟨rfl, hw⟩; obtain rfl := hw.symm; clear hw)
   go_ret
   exact ⟨rfl, rfl⟩
 | true =>
   rw [if_neg (by rw [ha]; simp)] at hr
   subst hr
   have HA := Lib.hid ha
   clear h1 h2 ha
   go_enter Tryz.func43, Tryz.ntmps43
   go_wp2_with (go_at_call 85; refine (cAlive_any id _ HC.out true HA.out).mono ?_; rintro e w' ⟨rfl, hw⟩; obtain rfl := hw.symm; clear hw)
   go_ret
   exact ⟨rfl, rfl⟩
set_option maxRecDepth 100000 in
set_option maxHeartbeats 4000000 in
theorem find_none (tx : Int) (w : World) (h : CoM w g n c P) (hn : tx < 1 ∨ (P.L.length : Int) < tx) : Calls Tryz.prog 60 #[.pointer (some ⟨g, 0, none⟩), .int .i64 tx] w fun e w' => e = .returned (.tuple #[.agg (trc noTr noSl), .bool false]) ∧ Below w.heap.size w w' := by
 obtain ⟨A, ca, ev⟩ := own_len h.r.txr
 have X1 := Lib.hid (h.box.alloc (.cells zTr 62))
 have Z1 := Lib.hid (show Blk (w.alloc (.cells zTr 62)) w.heap.size 62 (trc noTr noSl) from Blk.new w _ _)
 have B1 := Lib.hid (Joins.below_alloc1 w (.cells zTr 62))
 have k10 : (w.alloc (.cells zTr 62)).cell? ⟨g, 10, none⟩ = some (.slice A P.L.length ca) := by rw [← ev]; exact X1.out.cell 10
 clear h ev
 by_cases h1 : tx < 1
 · have d1 : decide (tx < 1) = true := by simpa using h1
   clear h1 hn
   go_enter Tryz.func60, Tryz.ntmps60
   go_wp2_with (refine wpList_store_mid (by rfl) 62 (.tmp 4) (.tmp 17) (by rfl) w.heap.size 0 (trc noTr noSl) (by rfl) (by rfl) (Z1.out.there (Nat.le_refl 13)) (tr_info _ _) (tr_one _ _ rfl rfl rfl rfl) ?_
                have Z2 := Lib.hid (Z1.out.put (trc noTr noSl) rfl)
                have E2 := Lib.hid (Below.setCells (b := w.heap.size) (Nat.le_refl _) (trc noTr noSl).toList 0 _ B1.out)
                generalize (w.alloc (.cells zTr 62)).setCells w.heap.size 0 (trc noTr noSl).toList = W2 at Z2 E2 ⊢)
   exact bodyPost_ret (v := .tuple #[.agg (trc noTr noSl), .bool false]) (results_cell_and rfl rfl rfl (tr_load Z2.out)) rfl ⟨rfl, E2.out⟩
 · have d1 : decide (tx < 1) = false := by simpa using h1
   have d2 : decide ((P.L.length : Int) < tx) = true := by simp; omega
   clear h1 hn
   go_enter Tryz.func60, Tryz.ntmps60
   go_wp2_with (refine wpList_store_mid (by rfl) 62 (.tmp 4) (.tmp 17) (by rfl) w.heap.size 0 (trc noTr noSl) (by rfl) (by rfl) (Z1.out.there (Nat.le_refl 13)) (tr_info _ _) (tr_one _ _ rfl rfl rfl rfl) ?_
                have Z2 := Lib.hid (Z1.out.put (trc noTr noSl) rfl)
                have E2 := Lib.hid (Below.setCells (b := w.heap.size) (Nat.le_refl _) (trc noTr noSl).toList 0 _ B1.out)
                generalize (w.alloc (.cells zTr 62)).setCells w.heap.size 0 (trc noTr noSl).toList = W2 at Z2 E2 ⊢)
   exact bodyPost_ret (v := .tuple #[.agg (trc noTr noSl), .bool false]) (results_cell_and rfl rfl rfl (tr_load Z2.out)) rfl ⟨rfl, E2.out⟩
theorem trv_info (q : Tr × Sl) : (Tryz.prog.info? 62).map (·.size) = some (trv q).length := info_txn
theorem TxR.row {w : World} {b i : Nat} {q : Tr × Sl} (h : ∀ j u, (trv q)[j]? = some u → w.cell? ⟨b, i * 13 + j, none⟩ = some u) : ∀ j v, (trv q)[j]? = some v → w.cell? ((⟨b, i * 13, none⟩ : Addr).add j) = some v := fun j v hv => by
 rw [show (⟨b, i * 13, none⟩ : Addr).add j = ⟨b, i * 13 + j, none⟩ by unfold Addr.add; split <;> simp_all]
 exact h j v hv
set_option maxRecDepth 100000 in
set_option maxHeartbeats 4000000 in
theorem find_some (i : Nat) (w : World) (h : CoM w g n c P) (hi : i < P.L.length) (hl : P.L.length ≤ 1048576) (q : Tr × Sl) (hq : P.L[i] = q) : Calls Tryz.prog 60 #[.pointer (some ⟨g, 0, none⟩), .int .i64 ((i : Int) + 1)] w fun e w' => e = .returned (.tuple #[.agg (trc q.1 q.2), .bool true]) ∧ Below w.heap.size w w' := by
 have HM := Lib.hid (h.r.sls q (hq ▸ List.getElem_mem hi))
 have h2 := h.r.step (Joins.below_alloc1 w (.cells zTr 62))
 obtain ⟨b, ca, ev, hc, _, _⟩ := h2.txr.open hi
 rw [hq] at hc
 have HC := Lib.hid (TxR.row hc)
 have X1 := Lib.hid (h.box.alloc (.cells zTr 62))
 have Z1 := Lib.hid (show Blk (w.alloc (.cells zTr 62)) w.heap.size 62 (trc noTr noSl) from Blk.new w _ _)
 have B1 := Lib.hid (Joins.below_alloc1 w (.cells zTr 62))
 have k10 : (w.alloc (.cells zTr 62)).cell? ⟨g, 10, none⟩ = some (.slice (some ⟨b, 0, none⟩) P.L.length ca) := by rw [← ev]; exact X1.out.cell 10
 have d1 : decide ((i : Int) + 1 < 1) = false := by simp; omega
 have d2 : decide ((P.L.length : Int) < (i : Int) + 1) = false := by simp; omega
 have w1 : IntKind.i64.wrap ((i : Int) + 1 - 1) = (i : Int) := by rw [show (i : Int) + 1 - 1 = (i : Int) by omega]; exact IntWalk.i64_in _ (by omega)
 have w2 : (i : Int) + 1 - 1 = (i : Int) := by omega
 have d3 : decide ((i : Int) < (P.L.length : Int)) = true := by simp; omega
 clear h h2 hc ev hq
 generalize P.L.length = N at hi hl k10 d2 d3
 go_enter Tryz.func60, Tryz.ntmps60
 go_wp2_with (first
   | (refine wpList_load_cells rfl 62 (.tmp 24) rfl ⟨b, i * 13, none⟩ rfl (trv q) _ HC.out Tryz.underlying62 rfl (trv_info q) ?_)
   | (refine wpList_store_mid (by rfl) 62 (.tmp 4) (.tmp 25) (by rfl) w.heap.size 0 (trc q.1 q.2) (by rfl) (by rfl) (Z1.out.there (Nat.le_refl 13)) (tr_info _ _) HM.out.one ?_
      have Z2 := Lib.hid (Z1.out.put (trc q.1 q.2) rfl)
      have E2 := Lib.hid (Below.setCells (b := w.heap.size) (Nat.le_refl _) (trc q.1 q.2).toList 0 _ B1.out)
      generalize (w.alloc (.cells zTr 62)).setCells w.heap.size 0 (trc q.1 q.2).toList = W2 at Z2 E2 ⊢))
 exact bodyPost_ret (v := .tuple #[.agg (trc q.1 q.2), .bool true]) (results_cell_and rfl rfl rfl (tr_load Z2.out)) rfl ⟨rfl, E2.out⟩
end
theorem info_event : (Tryz.prog.info? 65).map (fun i => (i.zero, i.size, i.bytes)) = some (some (.agg #[.int .i64 0, .int .i64 0, .int .i64 0, .int .i64 0, .int .i64 0, .int .i64 0, .int .i64 0]), 7, 56) := by kernel_rfl
theorem ev_info (a b c d e f g : Int) : (Tryz.prog.info? 65).map (·.size) = some (#[Value.int .i64 a, .int .i64 b, .int .i64 c, .int .i64 d, .int .i64 e, .int .i64 f, .int .i64 g] : Array Value).size := by
 obtain ⟨i0, hi0, _, h1, _⟩ := info_parts info_event
 rw [hi0]; simp [h1]
theorem ev_load {w : World} {k : Nat} {a b c d e f g : Int} (h : Blk w k 65 #[.int .i64 a, .int .i64 b, .int .i64 c, .int .i64 d, .int .i64 e, .int .i64 f, .int .i64 g]) : (loadVar 65 ⟨k, 0, none⟩).run Tryz.prog w = .ok (.agg #[.int .i64 a, .int .i64 b, .int .i64 c, .int .i64 d, .int .i64 e, .int .i64 f, .int .i64 g]) w :=
 run_loadVar_row w k _ 65 _ (0, 0) _ h Tryz.underlying65 rfl (ev_info a b c d e f g)
theorem readsE_blk {w : World} {g size : Nat} {t : TypeId} {l : List Int} (h : Blk w g t (ints l).toArray) (hl : l.length = size) : Reads w w.heap.size size (some ⟨g, 0, none⟩) 1 (ints l) :=
 ⟨by rw [ints_length]; omega, fun _ => ⟨_, rfl, h.lt, fun j u hu => by
   have h1 := h.cell j
   have h2 : (⟨g, 0, none⟩ : Addr).add j = ⟨g, j, none⟩ := by unfold Addr.add; split <;> simp_all
   rw [h2, h1]; simpa using hu⟩⟩
section
variable {g n : Nat} {c : Co} {P : Pt}
set_option maxRecDepth 100000 in
set_option maxHeartbeats 8000000 in
theorem note_any (e0 e1 e2 e3 e4 e5 e6 : Int) (w : World) (h : CoM w g n c P) (hl : c.ev.length ≤ 100000) (c' : Co) (hc' : c' = { c with ev := c.ev ++ [[e0, e1, e2, e3, e4, e5, e6]] }) :
   Calls Tryz.prog 47 #[.pointer (some ⟨g, 0, none⟩), .agg #[.int .i64 e0, .int .i64 e1, .int .i64 e2, .int .i64 e3, .int .i64 e4, .int .i64 e5, .int .i64 e6]] w fun e w' => e = .returned (.tuple #[]) ∧ ∃ ve', CoS w w' g n P (fun _ => False) c' { P with ve := ve' } := by
 obtain ⟨i0, hi0, hz0, hz1, hz2⟩ := info_parts info_event
 have HC' := Lib.hid hc'
 have H1 := Lib.hid (h.step (Joins.below_alloc1 w (.cells #[.int .i64 e0, .int .i64 e1, .int .i64 e2, .int .i64 e3, .int .i64 e4, .int .i64 e5, .int .i64 e6] 65)))
 have X1 := Lib.hid (show Blk (w.alloc (.cells #[.int .i64 e0, .int .i64 e1, .int .i64 e2, .int .i64 e3, .int .i64 e4, .int .i64 e5, .int .i64 e6] 65)) w.heap.size 65 #[.int .i64 e0, .int .i64 e1, .int .i64 e2, .int .i64 e3, .int .i64 e4, .int .i64 e5, .int .i64 e6] from Blk.new w _ _)
 have B1 := Lib.hid (Joins.below_alloc1 w (.cells #[.int .i64 e0, .int .i64 e1, .int .i64 e2, .int .i64 e3, .int .i64 e4, .int .i64 e5, .int .i64 e6] 65))
 obtain ⟨A, ca, ev⟩ := own_len h.r.evr
 have HVE := Lib.hid (fun k (hk : P.ve.ownBlock = some k) => (own_ge h.r.evr hk).2)
 have EV := Lib.hid ev
 have HL := Lib.hid hl
 clear h hc' hl ev
 go_enter Tryz.func47, Tryz.ntmps47
 go_upto_region 1 with fail
 obtain ⟨be, hbe⟩ : ∃ be, be = w.heap.size := ⟨_, rfl⟩
 have HB := Lib.hid hbe
 rw [← hbe] at X1 ⊢
 clear hbe
 generalize w.alloc (.cells #[.int .i64 e0, .int .i64 e1, .int .i64 e2, .int .i64 e3, .int .i64 e4, .int .i64 e5, .int .i64 e6] 65) = V at X1 H1 B1 ⊢
 have hgl := H1.out.box.lt
 have x12 : V.cell? ⟨g, 12, none⟩ = some (.slice A c.ev.length ca) := by rw [← EV.out]; exact H1.out.box.cell 12
 have KP := Lib.hid (show ∀ Y, Below V.heap.size V Y → (Y.cell? ⟨g, 12, none⟩ = some (.slice A c.ev.length ca) ∧ Blk Y be 65 #[.int .i64 e0, .int .i64 e1, .int .i64 e2, .int .i64 e3, .int .i64 e4, .int .i64 e5, .int .i64 e6]) from fun Y hy =>
   ⟨(hy.cell (p := ⟨g, 12, none⟩) hgl).trans x12, X1.out.here hy⟩)
 clear x12
 refine wp_region_till 10 (fun w' => w'.cell? ⟨g, 12, none⟩ = some (.slice A c.ev.length ca) ∧ Blk w' be 65 #[.int .i64 e0, .int .i64 e1, .int .i64 e2, .int .i64 e3, .int .i64 e4, .int .i64 e5, .int .i64 e6]) (by kernel_rfl) (KP.out _ (Below.refl _ _).drew) (fun hHeld => ?_)
 have BD := Lib.hid (show Below V.heap.size V V.drew from (Below.refl _ _).drew)
 generalize V.drew = W1 at BD hHeld ⊢
 refine wpTill_take (i := 0) (v := ?_) rfl (by kernel_rfl) (by kernel_rfl) (by kernel_rfl) (by kernel_rfl) (fun _ _ _ h => h) (Or.inl ⟨by rfl, ?_⟩) (by assumption) ?_
 rotate_left
 · (intro w0 hSw; (try dsimp only at hSw); go_simp; try with_reducible rfl)
 try simp only [List.getElem_toArray, List.getElem_cons_succ, List.getElem_cons_zero, Act.put, List.setIfInBounds_toArray, List.set_cons_zero, List.set_cons_succ]
 refine wpTill_take (i := 1) (v := ?_) rfl (by kernel_rfl) (by kernel_rfl) (by kernel_rfl) (by kernel_rfl) (fun _ _ _ h => h) (Or.inl ⟨by rfl, ?_⟩) (by assumption) ?_
 rotate_left
 · (intro w0 hSw; (try dsimp only at hSw); go_simp; try with_reducible rfl)
 try simp only [List.getElem_toArray, List.getElem_cons_succ, List.getElem_cons_zero, Act.put, List.setIfInBounds_toArray, List.set_cons_zero, List.set_cons_succ]
 refine wpTill_take (i := 2) (v := ?_) rfl (by kernel_rfl) (by kernel_rfl) (by kernel_rfl) (by kernel_rfl) (fun _ _ _ h => h) (Or.inl ⟨by rfl, ?_⟩) (by assumption) ?_
 rotate_left
 · (intro w0 hSw; (try dsimp only at hSw); go_simp; try with_reducible rfl)
 try simp only [List.getElem_toArray, List.getElem_cons_succ, List.getElem_cons_zero, Act.put, List.setIfInBounds_toArray, List.set_cons_zero, List.set_cons_succ]
 refine wpTill_take (i := 3) (v := ?_) rfl (by kernel_rfl) (by kernel_rfl) (by kernel_rfl) (by kernel_rfl) (fun _ _ _ h => h) (Or.inl ⟨by rfl, ?_⟩) (by assumption) ?_
 rotate_left
 · (intro w0 hSw; (try dsimp only at hSw); go_simp; try with_reducible rfl)
 try simp only [List.getElem_toArray, List.getElem_cons_succ, List.getElem_cons_zero, Act.put, List.setIfInBounds_toArray, List.set_cons_zero, List.set_cons_succ]
 refine wpTill_take (i := 4) (v := ?_) rfl (by kernel_rfl) (by kernel_rfl) (by kernel_rfl) (by kernel_rfl) (fun _ _ _ h => h) (Or.inl ⟨by rfl, ?_⟩) (by assumption) ?_
 rotate_left
 · (intro w0 hSw; (try dsimp only at hSw); go_simp; try with_reducible rfl)
 try simp only [List.getElem_toArray, List.getElem_cons_succ, List.getElem_cons_zero, Act.put, List.setIfInBounds_toArray, List.set_cons_zero, List.set_cons_succ]
 refine wpTill_take (i := 5) (v := .agg #[.int .i64 e0, .int .i64 e1, .int .i64 e2, .int .i64 e3, .int .i64 e4, .int .i64 e5, .int .i64 e6]) rfl (by kernel_rfl) (by kernel_rfl) (by kernel_rfl) (by kernel_rfl) (fun _ _ _ h => h) (Or.inl ⟨by rfl, fun w0 hSw => exec_load (x := .tmp 3) rfl rfl (ev_load hSw.2)⟩) (by assumption) ?_
 try simp only [List.getElem_toArray, List.getElem_cons_succ, List.getElem_cons_zero, Act.put, List.setIfInBounds_toArray, List.set_cons_zero, List.set_cons_succ]
 refine wpTill_ready (rs := [6]) (by kernel_rfl) (by simp) ?_
 refine AllTill.cons rfl (fun K hK => ?_) AllTill.nil
 go_simp
 have NB := Lib.hid (show Blk (W1.alloc (.cells #[.int .i64 e0, .int .i64 e1, .int .i64 e2, .int .i64 e3, .int .i64 e4, .int .i64 e5, .int .i64 e6] 65)) W1.heap.size 65 (ints [e0, e1, e2, e3, e4, e5, e6]).toArray from Blk.new _ _ _)
 have B2 := Lib.hid (BD.out.alloc BD.out.size (.cells #[.int .i64 e0, .int .i64 e1, .int .i64 e2, .int .i64 e3, .int .i64 e4, .int .i64 e5, .int .i64 e6] 65))
 refine hK.out _ _ (KP.out _ B2.out) (fun hHeld => ?_)
 clear hK K
 generalize W1.heap.size = nb at NB ⊢
 generalize W1.alloc (.cells #[.int .i64 e0, .int .i64 e1, .int .i64 e2, .int .i64 e3, .int .i64 e4, .int .i64 e5, .int .i64 e6] 65) = W2 at NB B2 hHeld ⊢
 have H2 := Lib.hid (H1.out.step B2.out)
 have RV := Lib.hid (show W2.ownsRow 0 65 7 (.slice A c.ev.length ca) c.ev.length (ints c.ev.flatten) from by rw [← EV.out]; exact H2.out.r.evr)
 refine wpTill_ready (rs := [7]) (by kernel_rfl) (by simp) ?_
 refine AllTill.cons rfl (fun K hK => ?_) AllTill.nil
 refine step_append_any _ rfl (.tmp 8) (.tmp 10) _ rfl 0 65 i0 _ 7 56 Tryz.underlying54 hi0 hz0 hz1 hz2 rfl (by omega) (.slice A c.ev.length ca) c.ev.length (ints c.ev.flatten) rfl RV.out _ _ 1 1 (ints [e0, e1, e2, e3, e4, e5, e6]) rfl (readsE_blk NB.out rfl) (ints_one _) (by have := HL.out; simp only [maxLen]; omega) (by have := HL.out; omega) (Nat.zero_le _) ?_
 intro v9 W9 hown hgr h3
 obtain ⟨A9, c9, rfl⟩ := own_len hown
 have T9 := Lib.hid (show Turn (fun k => P.ve.ownBlock = some k) W2 W9 from (Turn.refl _ _).grown hgr (fun k hk _ => by rw [EV.out]; exact hk))
 have R9 := Lib.hid (show EvR W9 (.slice A9 (c.ev.length + 1) c9) (c.ev ++ [[e0, e1, e2, e3, e4, e5, e6]]) from by
   rw [show ints c.ev.flatten ++ ints [e0, e1, e2, e3, e4, e5, e6] = ints (c.ev ++ [[e0, e1, e2, e3, e4, e5, e6]]).flatten from by simp [ints]] at hown
   unfold EvR
   rw [show (c.ev ++ [[e0, e1, e2, e3, e4, e5, e6]]).length = c.ev.length + 1 from by simp]
   exact hown)
 have Q9 := Lib.hid (show ∀ k, (Value.slice A9 (c.ev.length + 1) c9).ownBlock = some k → P.ve.ownBlock = some k ∨ w.heap.size ≤ k from fun k hk => by
   rcases h3 with e | e
   · left; rw [EV.out, ← e]; exact hk
   · right; rw [e] at hk; cases hk; exact Nat.le_trans B1.out.size (B2.out.size))
 have hgb : ¬ (P.ve.ownBlock = some g) := fun e => by
   obtain ⟨cur, hh, _⟩ := own_heap H2.out.r.evr g e
   exact heap_ne H2.out.box hh (by decide) rfl
 have X9 := Lib.hid (H2.out.box.turn T9.out hgb)
 have C9 := Lib.hid (H2.out.r.chE T9.out R9.out)
 clear hown hgr h3 hgb
 have k12 : W9.cell? ⟨g, 12, none⟩ = some (.slice A c.ev.length ca) := by rw [← EV.out]; exact X9.out.cell 12
 have f12 := X9.out.frozen 12
 have hs9 : W9.cell? ⟨g, 12, none⟩ = some (.slice A c.ev.length ca) ∧ Blk W9 be 65 #[.int .i64 e0, .int .i64 e1, .int .i64 e2, .int .i64 e3, .int .i64 e4, .int .i64 e5, .int .i64 e6] := ⟨k12, hHeld.2.turn T9.out (fun e => by
   have h1 := HVE.out _ e
   have h2 := HB.out
   omega)⟩
 refine hK.out _ _ hs9 (fun hHeld => ?_)
 clear hK K
 refine wpTill_pure (i := 8) (v := ?_) rfl (by kernel_rfl) (by kernel_rfl) (by kernel_rfl) (by kernel_rfl) (fun _ _ _ h => h) (Or.inl ⟨by rfl, ?_⟩) (by first | (exact fun _ => by assumption) | (exact fun hf => by cases hf)) ?_
 rotate_left
 · (intro w0 hSw; clear hSw; go_simp; try with_reducible rfl)
 try simp only [List.getElem_toArray, List.getElem_cons_succ, List.getElem_cons_zero, Act.put, List.setIfInBounds_toArray, List.set_cons_zero, List.set_cons_succ]
 refine wpTill_take (i := 9) (v := ?_) rfl (by kernel_rfl) (by kernel_rfl) (by kernel_rfl) (by kernel_rfl) (fun _ _ _ h => h) (Or.inl ⟨by rfl, ?_⟩) (by assumption) ?_
 rotate_left
 · (intro w0 hSw; (try dsimp only at hSw); go_simp; try with_reducible rfl)
 try simp only [List.getElem_toArray, List.getElem_cons_succ, List.getElem_cons_zero, Act.put, List.setIfInBounds_toArray, List.set_cons_zero, List.set_cons_succ]
 refine wpTill_ready (rs := [10]) (by kernel_rfl) (by simp) ?_
 refine AllTill.last rfl (of_decide_eq_true (by kernel_rfl)) (fun K hK => ?_)
 go_simp
 refine hK.out _ _ ?_
 clear hK K
 refine wpTill_done (by kernel_rfl) ?_ _
 have RV2 := Lib.hid (show Turn (fun k => k = g) W9 (W9.setCell ⟨g, 12, none⟩ (.slice A9 (c.ev.length + 1) c9)) from (Turn.refl (fun k => k = g) W9).setCell (p := ⟨g, 12, none⟩) (fun _ => rfl) _)
 have CF := Lib.hid (show CoS w (W9.setCell ⟨g, 12, none⟩ (.slice A9 (c.ev.length + 1) c9)) g n P (fun _ => False) c' { P with ve := .slice A9 (c.ev.length + 1) c9 } from
   { m := by rw [HC'.out]; exact ⟨X9.out.set_ 12 _, C9.out.turn RV2.out (fun k hk => C9.out.offB (X9.out) (by decide) (by decide) (by decide) (by decide) (by decide) hk)⟩
     turn := ((Turn.of_below (stepB B1.out B2.out)).trans (S := P.tur g) T9.out (fun k _ e => .inr (.inr (.inr (.inr e))))).trans RV2.out (fun k _ e => .inl e)
     tur := fun k hk => by
       rcases hk with hk | hk | hk | hk | hk
       · exact .inl (.inl hk)
       · exact .inl (.inr (.inl hk))
       · exact .inl (.inr (.inr (.inl hk)))
       · exact .inl (.inr (.inr (.inr (.inl hk))))
       · exact (Q9.out k hk).imp (fun e => .inr (.inr (.inr (.inr e)))) id
     own := fun k hk => by
       rcases hk with (hk | hk | hk | hk | hk) | hk
       · exact .inl (.inl (.inl hk))
       · exact .inl (.inl (.inr (.inl hk)))
       · exact .inl (.inl (.inr (.inr (.inl hk))))
       · exact .inl (.inl (.inr (.inr (.inr (.inl hk)))))
       · exact (Q9.out k hk).elim (fun e => .inl (.inl (.inr (.inr (.inr (.inr e)))))) (fun e => .inr (.inl e))
       · exact .inl (.inr hk) })
 clear k12 f12 hHeld hs9
 go_wp2_with fail
 first | go_end0 | refine bodyPost_ret (results_none rfl _ _ _) rfl ?_
 exact ⟨rfl, _, CF.out⟩
end
end Go.Proofs.YtadnlannbafjpaaGreat
