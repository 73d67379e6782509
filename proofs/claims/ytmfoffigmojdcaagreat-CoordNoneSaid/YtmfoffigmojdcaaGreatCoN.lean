/- A coordinator: may, find, note. -/
import Derived.Test.YtmfoffigmojdcaaGreatCoM
namespace Go.Proofs.YtmfoffigmojdcaaGreat
open Go.RowKit
set_option linter.unusedVariables false
set_option linter.unusedSimpArgs false

/-- What keeps a client from doing anything. -/
def mayL (n : Nat) (cl : List Cl) (id : Int) : Int := if id < 1 ∨ (n : Int) < id then 10 else if aliveL n cl id = false then 11 else 0
set_option maxRecDepth 100000 in
set_option maxHeartbeats 1000000 in
theorem may_nil (id : Int) (w : World) : Calls Tryz.prog 42 #[.pointer none, .int .i64 id] w fun e w' => e = .returned (errno 1) ∧ w = w' := by
  go_enter Tryz.func42, Tryz.ntmps42
  go_wp2_with fail
  go_ret
  exact ⟨rfl, rfl⟩
section
variable {g n : Nat} {c : Co} {P : Pt}
set_option maxRecDepth 100000 in
set_option maxHeartbeats 4000000 in
theorem may_any (id : Int) (w : World) (h : CoM w g n c P) (r : Int) (hr : mayL n c.cl id = r) : Calls Tryz.prog 42 #[.pointer (some ⟨g, 0, none⟩), .int .i64 id] w fun e w' => e = .returned (errV r) ∧ w = w' := by
  have k7 : w.cell? ⟨g, 7, none⟩ = some (.pointer (some ⟨P.p, 0, none⟩)) := h.box.cell 7
  have k8 : w.cell? ⟨g, 8, none⟩ = some (.int .i64 (n : Int)) := h.box.cell 8
  have HC := Lib.hid h.r.cli
  unfold mayL at hr
  clear h
  by_cases h1 : id < 1
  · rw [if_pos (.inl h1)] at hr
    subst hr
    have d1 : decide (id < 1) = true := by simpa using h1
    clear h1
    go_enter Tryz.func42, Tryz.ntmps42
    go_wp2_with fail
    go_ret
    exact ⟨rfl, rfl⟩
  have d1 : decide (id < 1) = false := by simpa using h1
  by_cases h2 : (n : Int) < id
  · rw [if_pos (.inr h2)] at hr
    subst hr
    have d2 : decide ((n : Int) < id) = true := by simpa using h2
    clear h1 h2
    go_enter Tryz.func42, Tryz.ntmps42
    go_wp2_with fail
    go_ret
    exact ⟨rfl, rfl⟩
  have d2 : decide ((n : Int) < id) = false := by simpa using h2
  rw [if_neg (by omega)] at hr
  cases ha : aliveL n c.cl id with
  | false =>
    rw [if_pos ha] at hr
    subst hr
    have HA := Lib.hid ha
    clear h1 h2 ha
    go_enter Tryz.func42, Tryz.ntmps42
    go_wp2_with (go_at_call 86; refine (cAlive_any id _ HC.out false HA.out).mono ?_; rintro e w' ⟨rfl, hw⟩; obtain rfl := hw.symm; clear hw)
    go_ret
    exact ⟨rfl, rfl⟩
  | true =>
    rw [if_neg (by rw [ha]; simp)] at hr
    subst hr
    have HA := Lib.hid ha
    clear h1 h2 ha
    go_enter Tryz.func42, Tryz.ntmps42
    go_wp2_with (go_at_call 86; refine (cAlive_any id _ HC.out true HA.out).mono ?_; rintro e w' ⟨rfl, hw⟩; obtain rfl := hw.symm; clear hw)
    go_ret
    exact ⟨rfl, rfl⟩

/-- A transaction that began, with its slices; or none. -/
def txAt (L : List (Tr × Sl)) (tx : Int) : (Tr × Sl) × Bool := if 1 ≤ tx ∧ tx ≤ (L.length : Int) then (L.getD (tx - 1).toNat (noTr, noSl), true) else ((noTr, noSl), false)
set_option maxRecDepth 100000 in
set_option maxHeartbeats 4000000 in
theorem find_none (tx : Int) (w : World) (h : CoM w g n c P) (hn : tx < 1 ∨ (P.L.length : Int) < tx) : Calls Tryz.prog 55 #[.pointer (some ⟨g, 0, none⟩), .int .i64 tx] w fun e w' => e = .returned (.tuple #[.agg (trc noTr noSl), .bool false]) ∧ Below w.heap.size w w' := by
  obtain ⟨A, ca, ev⟩ := own_len h.r.txr
  have X1 := Lib.hid (h.box.alloc (.cells zTr 62))
  have Z1 := Lib.hid (show Blk (w.alloc (.cells zTr 62)) w.heap.size 62 (trc noTr noSl) from Blk.new w _ _)
  have B1 := Lib.hid (Joins.below_alloc1 w (.cells zTr 62))
  have k10 : (w.alloc (.cells zTr 62)).cell? ⟨g, 10, none⟩ = some (.slice A P.L.length ca) := by rw [← ev]; exact X1.out.cell 10
  clear h ev
  by_cases h1 : tx < 1
  · have d1 : decide (tx < 1) = true := by simpa using h1
    clear h1 hn
    go_enter Tryz.func55, Tryz.ntmps55
    go_wp2_with (refine wpList_store_mid (by rfl) 62 (.tmp 4) (.tmp 17) (by rfl) w.heap.size 0 (trc noTr noSl) (by rfl) (by rfl) (Z1.out.there (Nat.le_refl 13)) (tr_info _ _) (tr_one _ _ rfl rfl rfl rfl) ?_
                 have Z2 := Lib.hid (Z1.out.put (trc noTr noSl) rfl)
                 have E2 := Lib.hid (Below.setCells (b := w.heap.size) (Nat.le_refl _) (trc noTr noSl).toList 0 _ B1.out)
                 generalize (w.alloc (.cells zTr 62)).setCells w.heap.size 0 (trc noTr noSl).toList = W2 at Z2 E2 ⊢)
    exact bodyPost_ret (v := .tuple #[.agg (trc noTr noSl), .bool false]) (results_cell_and rfl rfl rfl (tr_load Z2.out)) rfl ⟨rfl, E2.out⟩
  · have d1 : decide (tx < 1) = false := by simpa using h1
    have d2 : decide ((P.L.length : Int) < tx) = true := by simp; omega
    clear h1 hn
    go_enter Tryz.func55, Tryz.ntmps55
    go_wp2_with (refine wpList_store_mid (by rfl) 62 (.tmp 4) (.tmp 17) (by rfl) w.heap.size 0 (trc noTr noSl) (by rfl) (by rfl) (Z1.out.there (Nat.le_refl 13)) (tr_info _ _) (tr_one _ _ rfl rfl rfl rfl) ?_
                 have Z2 := Lib.hid (Z1.out.put (trc noTr noSl) rfl)
                 have E2 := Lib.hid (Below.setCells (b := w.heap.size) (Nat.le_refl _) (trc noTr noSl).toList 0 _ B1.out)
                 generalize (w.alloc (.cells zTr 62)).setCells w.heap.size 0 (trc noTr noSl).toList = W2 at Z2 E2 ⊢)
    exact bodyPost_ret (v := .tuple #[.agg (trc noTr noSl), .bool false]) (results_cell_and rfl rfl rfl (tr_load Z2.out)) rfl ⟨rfl, E2.out⟩
theorem trv_info (q : Tr × Sl) : (Tryz.prog.info? 62).map (·.size) = some (trv q).length := info_txn
/-- The cells of an element of the row, as a whole load wants them. -/
theorem TxR.row {w : World} {b i : Nat} {q : Tr × Sl} (h : ∀ j u, (trv q)[j]? = some u → w.cell? ⟨b, i * 13 + j, none⟩ = some u) : ∀ j v, (trv q)[j]? = some v → w.cell? ((⟨b, i * 13, none⟩ : Addr).add j) = some v := fun j v hv => by
  rw [show (⟨b, i * 13, none⟩ : Addr).add j = ⟨b, i * 13 + j, none⟩ by unfold Addr.add; split <;> simp_all]
  exact h j v hv
set_option maxRecDepth 100000 in
set_option maxHeartbeats 4000000 in
theorem find_some (i : Nat) (w : World) (h : CoM w g n c P) (hi : i < P.L.length) (hl : P.L.length ≤ 1048576) (q : Tr × Sl) (hq : P.L[i] = q) : Calls Tryz.prog 55 #[.pointer (some ⟨g, 0, none⟩), .int .i64 ((i : Int) + 1)] w fun e w' => e = .returned (.tuple #[.agg (trc q.1 q.2), .bool true]) ∧ Below w.heap.size w w' := by
  have HM := Lib.hid (h.r.sls q (hq ▸ List.getElem_mem hi))
  have h2 := h.r.step (Joins.below_alloc1 w (.cells zTr 62))
  obtain ⟨b, ca, ev, hc, _, _⟩ := h2.txr.open hi
  rw [hq] at hc
  have HC := Lib.hid (TxR.row hc)
  have X1 := Lib.hid (h.box.alloc (.cells zTr 62))
  have Z1 := Lib.hid (show Blk (w.alloc (.cells zTr 62)) w.heap.size 62 (trc noTr noSl) from Blk.new w _ _)
  have B1 := Lib.hid (Joins.below_alloc1 w (.cells zTr 62))
  have k10 : (w.alloc (.cells zTr 62)).cell? ⟨g, 10, none⟩ = some (.slice (some ⟨b, 0, none⟩) P.L.length ca) := by rw [← ev]; exact X1.out.cell 10
  have d1 : decide ((i : Int) + 1 < 1) = false := by simp; omega
  have d2 : decide ((P.L.length : Int) < (i : Int) + 1) = false := by simp; omega
  have w1 : IntKind.i64.wrap ((i : Int) + 1 - 1) = (i : Int) := by rw [show (i : Int) + 1 - 1 = (i : Int) by omega]; exact IntWalk.i64_in _ (by omega)
  have w2 : (i : Int) + 1 - 1 = (i : Int) := by omega
  have d3 : decide ((i : Int) < (P.L.length : Int)) = true := by simp; omega
  clear h h2 hc ev hq
  generalize P.L.length = N at hi hl k10 d2 d3
  go_enter Tryz.func55, Tryz.ntmps55
  go_wp2_with (first
    | (refine wpList_load_cells rfl 62 (.tmp 24) rfl ⟨b, i * 13, none⟩ rfl (trv q) _ HC.out Tryz.underlying62 rfl (trv_info q) ?_)
    | (refine wpList_store_mid (by rfl) 62 (.tmp 4) (.tmp 25) (by rfl) w.heap.size 0 (trc q.1 q.2) (by rfl) (by rfl) (Z1.out.there (Nat.le_refl 13)) (tr_info _ _) HM.out.one ?_
       have Z2 := Lib.hid (Z1.out.put (trc q.1 q.2) rfl)
       have E2 := Lib.hid (Below.setCells (b := w.heap.size) (Nat.le_refl _) (trc q.1 q.2).toList 0 _ B1.out)
       generalize (w.alloc (.cells zTr 62)).setCells w.heap.size 0 (trc q.1 q.2).toList = W2 at Z2 E2 ⊢))
  exact bodyPost_ret (v := .tuple #[.agg (trc q.1 q.2), .bool true]) (results_cell_and rfl rfl rfl (tr_load Z2.out)) rfl ⟨rfl, E2.out⟩
end
end Go.Proofs.YtmfoffigmojdcaaGreat
