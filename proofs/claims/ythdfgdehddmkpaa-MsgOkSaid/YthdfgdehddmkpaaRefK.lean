/- The document's Ok: a message that goes no way that its kind goes. -/
import Derived.Test.YthdfgdehddmkpaaRefJ
namespace Go.Proofs.Ythdfgdehddmkpaa
open Go.RowKit
set_option linter.unusedVariables false
set_option linter.unusedSimpArgs false

set_option maxRecDepth 100000 in
set_option maxHeartbeats 2000000 in
theorem refOk_num (m : List Int) (hl : m.length = 28) (ho : goesB m = false) (hn : fld m 0 < 1 ∨ 11 < fld m 0) (w : World) :
    Calls Try.prog 10 #[.agg (mc m)] w fun e w' => e = .returned (.bool (mayB m)) ∧ Below w.heap.size w w' := by
  have c0 := mc_get hl (i := 0) (by omega)
  have HM := Lib.hid (may_no (m := m) fun h => by have := may_goes h; rw [ho] at this; cases this)
  rcases hn with hk | hk
  · have d1 : decide (fld m 0 < 1) = true := by simpa using hk
    generalize fld m 0 = k at c0 d1
    clear hk hl ho
    go_enter Try.func10, Try.ntmps10
    go_wp2_with fail
    go_ret
    exact ⟨ret_bool HM.out.symm, Joins.below_alloc1 _ _⟩
  · have d1 : decide (fld m 0 < 1) = false := by simp; omega
    have d2 : decide (11 < fld m 0) = true := by simpa using hk
    generalize fld m 0 = k at c0 d1 d2
    clear hk hl ho
    go_enter Try.func10, Try.ntmps10
    go_wp2_with fail
    go_ret
    exact ⟨ret_bool HM.out.symm, Joins.below_alloc1 _ _⟩

/-- The ways' letters. -/
def waysB : ByteArray := ⟨#[111, 98, 98, 111, 98, 111, 98, 111, 98, 98, 101]⟩
theorem ways_at : ∀ j : Nat, j < 11 → waysB[j]?.map (fun c => (c.toNat : Int)) = some (wb ((j : Int) + 1)) := by decide +kernel
theorem ways_run {k : Int} (h1 : 1 ≤ k) (h2 : k ≤ 11) (w : World) : (Instr.index 9 (.string ⟨#[111, 98, 98, 111, 98, 111, 98, 111, 98, 98, 101]⟩) (.int .i64 (k - 1))).run Try.prog w = .ok (.int .u8 (wb k)) w := by
  obtain ⟨j, hj⟩ : ∃ j : Nat, k = (j : Int) + 1 := ⟨(k - 1).toNat, by omega⟩
  have hw := ways_at j (by omega)
  subst hj
  rw [show (j : Int) + 1 - 1 = j by omega]
  obtain ⟨c, hc, he⟩ := Option.map_eq_some_iff.1 hw
  have hc' : (⟨#[111, 98, 98, 111, 98, 111, 98, 111, 98, 98, 101]⟩ : ByteArray)[j]? = some c := hc
  unfold Instr.index
  simp only [asIntOf, Sem.run_bind, Sem.run_pure, Result.andThen_ok, run_underlying Try.underlying9]
  rw [if_pos (by omega), Int.toNat_natCast, hc']
  simp only [Sem.run_pure]
  rw [← he]

set_option maxRecDepth 100000 in
set_option maxHeartbeats 2000000 in
theorem stray_f0tlow_111 (m : List Int) (hl : m.length = 28) (hm : mayB m = false) (hk : 1 ≤ fld m 0 ∧ fld m 0 ≤ 11) (h : fld m 1 = 0 ∧ fld m 2 < 0) (hx : wb (fld m 0) = 111) (w : World) :
    Calls Try.prog 10 #[.agg (mc m)] w fun e w' => e = .returned (.bool (mayB m)) ∧ Below w.heap.size w w' := by
  have HM := Lib.hid hm
  have hrun := fun w => ways_run hk.1 hk.2 w
  rw [hx] at hrun
  have d1 : decide (fld m 0 < 1) = false := by simp; omega
  have d2 : decide (11 < fld m 0) = false := by simp; omega
  have hb1 := hk.1
  have hb2 := hk.2
  have c0 := mc_get hl (i := 0) (by omega)
  have c1 := mc_get hl (i := 1) (by omega)
  have c2 := mc_get hl (i := 2) (by omega)
  have f1 : (fld m 1 == 0) = true := by simp [h.1]
  have t1 : decide (1 ≤ fld m 2) = false := by simp; omega
  have t0 : (fld m 2 == 0) = false := by simp; omega
  generalize fld m 0 = k at *
  generalize fld m 1 = f at *
  generalize fld m 2 = t at *
  clear hl hm hk h hx
  go_enter Try.func10, Try.ntmps10
  go_wp2_with fail
  go_ret
  exact ⟨ret_bool HM.out.symm, Joins.below_alloc1 _ _⟩
set_option maxRecDepth 100000 in
set_option maxHeartbeats 2000000 in
theorem stray_f0tlow_98 (m : List Int) (hl : m.length = 28) (hm : mayB m = false) (hk : 1 ≤ fld m 0 ∧ fld m 0 ≤ 11) (h : fld m 1 = 0 ∧ fld m 2 < 0) (hx : wb (fld m 0) = 98) (w : World) :
    Calls Try.prog 10 #[.agg (mc m)] w fun e w' => e = .returned (.bool (mayB m)) ∧ Below w.heap.size w w' := by
  have HM := Lib.hid hm
  have hrun := fun w => ways_run hk.1 hk.2 w
  rw [hx] at hrun
  have d1 : decide (fld m 0 < 1) = false := by simp; omega
  have d2 : decide (11 < fld m 0) = false := by simp; omega
  have hb1 := hk.1
  have hb2 := hk.2
  have c0 := mc_get hl (i := 0) (by omega)
  have c1 := mc_get hl (i := 1) (by omega)
  have c2 := mc_get hl (i := 2) (by omega)
  have f1 : (fld m 1 == 0) = true := by simp [h.1]
  have t1 : decide (1 ≤ fld m 2) = false := by simp; omega
  have t0 : (fld m 2 == 0) = false := by simp; omega
  generalize fld m 0 = k at *
  generalize fld m 1 = f at *
  generalize fld m 2 = t at *
  clear hl hm hk h hx
  go_enter Try.func10, Try.ntmps10
  go_wp2_with fail
  go_ret
  exact ⟨ret_bool HM.out.symm, Joins.below_alloc1 _ _⟩
set_option maxRecDepth 100000 in
set_option maxHeartbeats 2000000 in
theorem stray_f0tlow_101 (m : List Int) (hl : m.length = 28) (hm : mayB m = false) (hk : 1 ≤ fld m 0 ∧ fld m 0 ≤ 11) (h : fld m 1 = 0 ∧ fld m 2 < 0) (hx : wb (fld m 0) = 101) (w : World) :
    Calls Try.prog 10 #[.agg (mc m)] w fun e w' => e = .returned (.bool (mayB m)) ∧ Below w.heap.size w w' := by
  have HM := Lib.hid hm
  have hrun := fun w => ways_run hk.1 hk.2 w
  rw [hx] at hrun
  have d1 : decide (fld m 0 < 1) = false := by simp; omega
  have d2 : decide (11 < fld m 0) = false := by simp; omega
  have hb1 := hk.1
  have hb2 := hk.2
  have c0 := mc_get hl (i := 0) (by omega)
  have c1 := mc_get hl (i := 1) (by omega)
  have c2 := mc_get hl (i := 2) (by omega)
  have f1 : (fld m 1 == 0) = true := by simp [h.1]
  have t1 : decide (1 ≤ fld m 2) = false := by simp; omega
  have t0 : (fld m 2 == 0) = false := by simp; omega
  generalize fld m 0 = k at *
  generalize fld m 1 = f at *
  generalize fld m 2 = t at *
  clear hl hm hk h hx
  go_enter Try.func10, Try.ntmps10
  go_wp2_with fail
  go_ret
  exact ⟨ret_bool HM.out.symm, Joins.below_alloc1 _ _⟩
set_option maxRecDepth 100000 in
set_option maxHeartbeats 2000000 in
theorem stray_f0t0_111 (m : List Int) (hl : m.length = 28) (hm : mayB m = false) (hk : 1 ≤ fld m 0 ∧ fld m 0 ≤ 11) (h : fld m 1 = 0 ∧ fld m 2 = 0) (hx : wb (fld m 0) = 111) (w : World) :
    Calls Try.prog 10 #[.agg (mc m)] w fun e w' => e = .returned (.bool (mayB m)) ∧ Below w.heap.size w w' := by
  have HM := Lib.hid hm
  have hrun := fun w => ways_run hk.1 hk.2 w
  rw [hx] at hrun
  have d1 : decide (fld m 0 < 1) = false := by simp; omega
  have d2 : decide (11 < fld m 0) = false := by simp; omega
  have hb1 := hk.1
  have hb2 := hk.2
  have c0 := mc_get hl (i := 0) (by omega)
  have c1 := mc_get hl (i := 1) (by omega)
  have c2 := mc_get hl (i := 2) (by omega)
  have f1 : (fld m 1 == 0) = true := by simp [h.1]
  have t1 : decide (1 ≤ fld m 2) = false := by simp; omega
  have t0 : (fld m 2 == 0) = true := by simp [h.2]
  have f2 : decide (1 ≤ fld m 1) = false := by simp; omega
  generalize fld m 0 = k at *
  generalize fld m 1 = f at *
  generalize fld m 2 = t at *
  clear hl hm hk h hx
  go_enter Try.func10, Try.ntmps10
  go_wp2_with fail
  go_ret
  exact ⟨ret_bool HM.out.symm, Joins.below_alloc1 _ _⟩
set_option maxRecDepth 100000 in
set_option maxHeartbeats 2000000 in
theorem stray_f0t0_98 (m : List Int) (hl : m.length = 28) (hm : mayB m = false) (hk : 1 ≤ fld m 0 ∧ fld m 0 ≤ 11) (h : fld m 1 = 0 ∧ fld m 2 = 0) (hx : wb (fld m 0) = 98) (w : World) :
    Calls Try.prog 10 #[.agg (mc m)] w fun e w' => e = .returned (.bool (mayB m)) ∧ Below w.heap.size w w' := by
  have HM := Lib.hid hm
  have hrun := fun w => ways_run hk.1 hk.2 w
  rw [hx] at hrun
  have d1 : decide (fld m 0 < 1) = false := by simp; omega
  have d2 : decide (11 < fld m 0) = false := by simp; omega
  have hb1 := hk.1
  have hb2 := hk.2
  have c0 := mc_get hl (i := 0) (by omega)
  have c1 := mc_get hl (i := 1) (by omega)
  have c2 := mc_get hl (i := 2) (by omega)
  have f1 : (fld m 1 == 0) = true := by simp [h.1]
  have t1 : decide (1 ≤ fld m 2) = false := by simp; omega
  have t0 : (fld m 2 == 0) = true := by simp [h.2]
  have f2 : decide (1 ≤ fld m 1) = false := by simp; omega
  generalize fld m 0 = k at *
  generalize fld m 1 = f at *
  generalize fld m 2 = t at *
  clear hl hm hk h hx
  go_enter Try.func10, Try.ntmps10
  go_wp2_with fail
  go_ret
  exact ⟨ret_bool HM.out.symm, Joins.below_alloc1 _ _⟩
set_option maxRecDepth 100000 in
set_option maxHeartbeats 2000000 in
theorem stray_f0t0_101 (m : List Int) (hl : m.length = 28) (hm : mayB m = false) (hk : 1 ≤ fld m 0 ∧ fld m 0 ≤ 11) (h : fld m 1 = 0 ∧ fld m 2 = 0) (hx : wb (fld m 0) = 101) (w : World) :
    Calls Try.prog 10 #[.agg (mc m)] w fun e w' => e = .returned (.bool (mayB m)) ∧ Below w.heap.size w w' := by
  have HM := Lib.hid hm
  have hrun := fun w => ways_run hk.1 hk.2 w
  rw [hx] at hrun
  have d1 : decide (fld m 0 < 1) = false := by simp; omega
  have d2 : decide (11 < fld m 0) = false := by simp; omega
  have hb1 := hk.1
  have hb2 := hk.2
  have c0 := mc_get hl (i := 0) (by omega)
  have c1 := mc_get hl (i := 1) (by omega)
  have c2 := mc_get hl (i := 2) (by omega)
  have f1 : (fld m 1 == 0) = true := by simp [h.1]
  have t1 : decide (1 ≤ fld m 2) = false := by simp; omega
  have t0 : (fld m 2 == 0) = true := by simp [h.2]
  have f2 : decide (1 ≤ fld m 1) = false := by simp; omega
  generalize fld m 0 = k at *
  generalize fld m 1 = f at *
  generalize fld m 2 = t at *
  clear hl hm hk h hx
  go_enter Try.func10, Try.ntmps10
  go_wp2_with fail
  go_ret
  exact ⟨ret_bool HM.out.symm, Joins.below_alloc1 _ _⟩
set_option maxRecDepth 100000 in
set_option maxHeartbeats 2000000 in
theorem stray_f0tin_98 (m : List Int) (hl : m.length = 28) (hm : mayB m = false) (hk : 1 ≤ fld m 0 ∧ fld m 0 ≤ 11) (h : fld m 1 = 0 ∧ 1 ≤ fld m 2 ∧ fld m 2 ≤ 64) (hx : wb (fld m 0) = 98) (w : World) :
    Calls Try.prog 10 #[.agg (mc m)] w fun e w' => e = .returned (.bool (mayB m)) ∧ Below w.heap.size w w' := by
  have HM := Lib.hid hm
  have hrun := fun w => ways_run hk.1 hk.2 w
  rw [hx] at hrun
  have d1 : decide (fld m 0 < 1) = false := by simp; omega
  have d2 : decide (11 < fld m 0) = false := by simp; omega
  have hb1 := hk.1
  have hb2 := hk.2
  have c0 := mc_get hl (i := 0) (by omega)
  have c1 := mc_get hl (i := 1) (by omega)
  have c2 := mc_get hl (i := 2) (by omega)
  have f1 : (fld m 1 == 0) = true := by simp [h.1]
  have t1 : decide (1 ≤ fld m 2) = true := by simp; omega
  have t2 : decide (fld m 2 ≤ 64) = true := by simp; omega
  have t0 : (fld m 2 == 0) = false := by simp; omega
  generalize fld m 0 = k at *
  generalize fld m 1 = f at *
  generalize fld m 2 = t at *
  clear hl hm hk h hx
  go_enter Try.func10, Try.ntmps10
  go_wp2_with fail
  go_ret
  exact ⟨ret_bool HM.out.symm, Joins.below_alloc1 _ _⟩
set_option maxRecDepth 100000 in
set_option maxHeartbeats 2000000 in
theorem stray_f0thigh_111 (m : List Int) (hl : m.length = 28) (hm : mayB m = false) (hk : 1 ≤ fld m 0 ∧ fld m 0 ≤ 11) (h : fld m 1 = 0 ∧ 64 < fld m 2) (hx : wb (fld m 0) = 111) (w : World) :
    Calls Try.prog 10 #[.agg (mc m)] w fun e w' => e = .returned (.bool (mayB m)) ∧ Below w.heap.size w w' := by
  have HM := Lib.hid hm
  have hrun := fun w => ways_run hk.1 hk.2 w
  rw [hx] at hrun
  have d1 : decide (fld m 0 < 1) = false := by simp; omega
  have d2 : decide (11 < fld m 0) = false := by simp; omega
  have hb1 := hk.1
  have hb2 := hk.2
  have c0 := mc_get hl (i := 0) (by omega)
  have c1 := mc_get hl (i := 1) (by omega)
  have c2 := mc_get hl (i := 2) (by omega)
  have f1 : (fld m 1 == 0) = true := by simp [h.1]
  have t1 : decide (1 ≤ fld m 2) = true := by simp; omega
  have t2 : decide (fld m 2 ≤ 64) = false := by simp; omega
  have t0 : (fld m 2 == 0) = false := by simp; omega
  generalize fld m 0 = k at *
  generalize fld m 1 = f at *
  generalize fld m 2 = t at *
  clear hl hm hk h hx
  go_enter Try.func10, Try.ntmps10
  go_wp2_with fail
  go_ret
  exact ⟨ret_bool HM.out.symm, Joins.below_alloc1 _ _⟩
set_option maxRecDepth 100000 in
set_option maxHeartbeats 2000000 in
theorem stray_f0thigh_98 (m : List Int) (hl : m.length = 28) (hm : mayB m = false) (hk : 1 ≤ fld m 0 ∧ fld m 0 ≤ 11) (h : fld m 1 = 0 ∧ 64 < fld m 2) (hx : wb (fld m 0) = 98) (w : World) :
    Calls Try.prog 10 #[.agg (mc m)] w fun e w' => e = .returned (.bool (mayB m)) ∧ Below w.heap.size w w' := by
  have HM := Lib.hid hm
  have hrun := fun w => ways_run hk.1 hk.2 w
  rw [hx] at hrun
  have d1 : decide (fld m 0 < 1) = false := by simp; omega
  have d2 : decide (11 < fld m 0) = false := by simp; omega
  have hb1 := hk.1
  have hb2 := hk.2
  have c0 := mc_get hl (i := 0) (by omega)
  have c1 := mc_get hl (i := 1) (by omega)
  have c2 := mc_get hl (i := 2) (by omega)
  have f1 : (fld m 1 == 0) = true := by simp [h.1]
  have t1 : decide (1 ≤ fld m 2) = true := by simp; omega
  have t2 : decide (fld m 2 ≤ 64) = false := by simp; omega
  have t0 : (fld m 2 == 0) = false := by simp; omega
  generalize fld m 0 = k at *
  generalize fld m 1 = f at *
  generalize fld m 2 = t at *
  clear hl hm hk h hx
  go_enter Try.func10, Try.ntmps10
  go_wp2_with fail
  go_ret
  exact ⟨ret_bool HM.out.symm, Joins.below_alloc1 _ _⟩
set_option maxRecDepth 100000 in
set_option maxHeartbeats 2000000 in
theorem stray_f0thigh_101 (m : List Int) (hl : m.length = 28) (hm : mayB m = false) (hk : 1 ≤ fld m 0 ∧ fld m 0 ≤ 11) (h : fld m 1 = 0 ∧ 64 < fld m 2) (hx : wb (fld m 0) = 101) (w : World) :
    Calls Try.prog 10 #[.agg (mc m)] w fun e w' => e = .returned (.bool (mayB m)) ∧ Below w.heap.size w w' := by
  have HM := Lib.hid hm
  have hrun := fun w => ways_run hk.1 hk.2 w
  rw [hx] at hrun
  have d1 : decide (fld m 0 < 1) = false := by simp; omega
  have d2 : decide (11 < fld m 0) = false := by simp; omega
  have hb1 := hk.1
  have hb2 := hk.2
  have c0 := mc_get hl (i := 0) (by omega)
  have c1 := mc_get hl (i := 1) (by omega)
  have c2 := mc_get hl (i := 2) (by omega)
  have f1 : (fld m 1 == 0) = true := by simp [h.1]
  have t1 : decide (1 ≤ fld m 2) = true := by simp; omega
  have t2 : decide (fld m 2 ≤ 64) = false := by simp; omega
  have t0 : (fld m 2 == 0) = false := by simp; omega
  generalize fld m 0 = k at *
  generalize fld m 1 = f at *
  generalize fld m 2 = t at *
  clear hl hm hk h hx
  go_enter Try.func10, Try.ntmps10
  go_wp2_with fail
  go_ret
  exact ⟨ret_bool HM.out.symm, Joins.below_alloc1 _ _⟩
set_option maxRecDepth 100000 in
set_option maxHeartbeats 2000000 in
theorem stray_t0flow_111 (m : List Int) (hl : m.length = 28) (hm : mayB m = false) (hk : 1 ≤ fld m 0 ∧ fld m 0 ≤ 11) (h : fld m 2 = 0 ∧ fld m 1 < 0) (hx : wb (fld m 0) = 111) (w : World) :
    Calls Try.prog 10 #[.agg (mc m)] w fun e w' => e = .returned (.bool (mayB m)) ∧ Below w.heap.size w w' := by
  have HM := Lib.hid hm
  have hrun := fun w => ways_run hk.1 hk.2 w
  rw [hx] at hrun
  have d1 : decide (fld m 0 < 1) = false := by simp; omega
  have d2 : decide (11 < fld m 0) = false := by simp; omega
  have hb1 := hk.1
  have hb2 := hk.2
  have c0 := mc_get hl (i := 0) (by omega)
  have c1 := mc_get hl (i := 1) (by omega)
  have c2 := mc_get hl (i := 2) (by omega)
  have f1 : (fld m 1 == 0) = false := by simp; omega
  have t0 : (fld m 2 == 0) = true := by simp [h.1]
  have f2 : decide (1 ≤ fld m 1) = false := by simp; omega
  generalize fld m 0 = k at *
  generalize fld m 1 = f at *
  generalize fld m 2 = t at *
  clear hl hm hk h hx
  go_enter Try.func10, Try.ntmps10
  go_wp2_with fail
  go_ret
  exact ⟨ret_bool HM.out.symm, Joins.below_alloc1 _ _⟩
set_option maxRecDepth 100000 in
set_option maxHeartbeats 2000000 in
theorem stray_t0flow_98 (m : List Int) (hl : m.length = 28) (hm : mayB m = false) (hk : 1 ≤ fld m 0 ∧ fld m 0 ≤ 11) (h : fld m 2 = 0 ∧ fld m 1 < 0) (hx : wb (fld m 0) = 98) (w : World) :
    Calls Try.prog 10 #[.agg (mc m)] w fun e w' => e = .returned (.bool (mayB m)) ∧ Below w.heap.size w w' := by
  have HM := Lib.hid hm
  have hrun := fun w => ways_run hk.1 hk.2 w
  rw [hx] at hrun
  have d1 : decide (fld m 0 < 1) = false := by simp; omega
  have d2 : decide (11 < fld m 0) = false := by simp; omega
  have hb1 := hk.1
  have hb2 := hk.2
  have c0 := mc_get hl (i := 0) (by omega)
  have c1 := mc_get hl (i := 1) (by omega)
  have c2 := mc_get hl (i := 2) (by omega)
  have f1 : (fld m 1 == 0) = false := by simp; omega
  have t0 : (fld m 2 == 0) = true := by simp [h.1]
  have f2 : decide (1 ≤ fld m 1) = false := by simp; omega
  generalize fld m 0 = k at *
  generalize fld m 1 = f at *
  generalize fld m 2 = t at *
  clear hl hm hk h hx
  go_enter Try.func10, Try.ntmps10
  go_wp2_with fail
  go_ret
  exact ⟨ret_bool HM.out.symm, Joins.below_alloc1 _ _⟩
set_option maxRecDepth 100000 in
set_option maxHeartbeats 2000000 in
theorem stray_t0flow_101 (m : List Int) (hl : m.length = 28) (hm : mayB m = false) (hk : 1 ≤ fld m 0 ∧ fld m 0 ≤ 11) (h : fld m 2 = 0 ∧ fld m 1 < 0) (hx : wb (fld m 0) = 101) (w : World) :
    Calls Try.prog 10 #[.agg (mc m)] w fun e w' => e = .returned (.bool (mayB m)) ∧ Below w.heap.size w w' := by
  have HM := Lib.hid hm
  have hrun := fun w => ways_run hk.1 hk.2 w
  rw [hx] at hrun
  have d1 : decide (fld m 0 < 1) = false := by simp; omega
  have d2 : decide (11 < fld m 0) = false := by simp; omega
  have hb1 := hk.1
  have hb2 := hk.2
  have c0 := mc_get hl (i := 0) (by omega)
  have c1 := mc_get hl (i := 1) (by omega)
  have c2 := mc_get hl (i := 2) (by omega)
  have f1 : (fld m 1 == 0) = false := by simp; omega
  have t0 : (fld m 2 == 0) = true := by simp [h.1]
  have f2 : decide (1 ≤ fld m 1) = false := by simp; omega
  generalize fld m 0 = k at *
  generalize fld m 1 = f at *
  generalize fld m 2 = t at *
  clear hl hm hk h hx
  go_enter Try.func10, Try.ntmps10
  go_wp2_with fail
  go_ret
  exact ⟨ret_bool HM.out.symm, Joins.below_alloc1 _ _⟩
set_option maxRecDepth 100000 in
set_option maxHeartbeats 2000000 in
theorem stray_t0fin_111 (m : List Int) (hl : m.length = 28) (hm : mayB m = false) (hk : 1 ≤ fld m 0 ∧ fld m 0 ≤ 11) (h : fld m 2 = 0 ∧ 1 ≤ fld m 1 ∧ fld m 1 ≤ 64) (hx : wb (fld m 0) = 111) (w : World) :
    Calls Try.prog 10 #[.agg (mc m)] w fun e w' => e = .returned (.bool (mayB m)) ∧ Below w.heap.size w w' := by
  have HM := Lib.hid hm
  have hrun := fun w => ways_run hk.1 hk.2 w
  rw [hx] at hrun
  have d1 : decide (fld m 0 < 1) = false := by simp; omega
  have d2 : decide (11 < fld m 0) = false := by simp; omega
  have hb1 := hk.1
  have hb2 := hk.2
  have c0 := mc_get hl (i := 0) (by omega)
  have c1 := mc_get hl (i := 1) (by omega)
  have c2 := mc_get hl (i := 2) (by omega)
  have f1 : (fld m 1 == 0) = false := by simp; omega
  have t0 : (fld m 2 == 0) = true := by simp [h.1]
  have f2 : decide (1 ≤ fld m 1) = true := by simp; omega
  have f3 : decide (fld m 1 ≤ 64) = true := by simp; omega
  generalize fld m 0 = k at *
  generalize fld m 1 = f at *
  generalize fld m 2 = t at *
  clear hl hm hk h hx
  go_enter Try.func10, Try.ntmps10
  go_wp2_with fail
  go_ret
  exact ⟨ret_bool HM.out.symm, Joins.below_alloc1 _ _⟩
set_option maxRecDepth 100000 in
set_option maxHeartbeats 2000000 in
theorem stray_t0fhigh_111 (m : List Int) (hl : m.length = 28) (hm : mayB m = false) (hk : 1 ≤ fld m 0 ∧ fld m 0 ≤ 11) (h : fld m 2 = 0 ∧ 64 < fld m 1) (hx : wb (fld m 0) = 111) (w : World) :
    Calls Try.prog 10 #[.agg (mc m)] w fun e w' => e = .returned (.bool (mayB m)) ∧ Below w.heap.size w w' := by
  have HM := Lib.hid hm
  have hrun := fun w => ways_run hk.1 hk.2 w
  rw [hx] at hrun
  have d1 : decide (fld m 0 < 1) = false := by simp; omega
  have d2 : decide (11 < fld m 0) = false := by simp; omega
  have hb1 := hk.1
  have hb2 := hk.2
  have c0 := mc_get hl (i := 0) (by omega)
  have c1 := mc_get hl (i := 1) (by omega)
  have c2 := mc_get hl (i := 2) (by omega)
  have f1 : (fld m 1 == 0) = false := by simp; omega
  have t0 : (fld m 2 == 0) = true := by simp [h.1]
  have f2 : decide (1 ≤ fld m 1) = true := by simp; omega
  have f3 : decide (fld m 1 ≤ 64) = false := by simp; omega
  generalize fld m 0 = k at *
  generalize fld m 1 = f at *
  generalize fld m 2 = t at *
  clear hl hm hk h hx
  go_enter Try.func10, Try.ntmps10
  go_wp2_with fail
  go_ret
  exact ⟨ret_bool HM.out.symm, Joins.below_alloc1 _ _⟩
set_option maxRecDepth 100000 in
set_option maxHeartbeats 2000000 in
theorem stray_t0fhigh_98 (m : List Int) (hl : m.length = 28) (hm : mayB m = false) (hk : 1 ≤ fld m 0 ∧ fld m 0 ≤ 11) (h : fld m 2 = 0 ∧ 64 < fld m 1) (hx : wb (fld m 0) = 98) (w : World) :
    Calls Try.prog 10 #[.agg (mc m)] w fun e w' => e = .returned (.bool (mayB m)) ∧ Below w.heap.size w w' := by
  have HM := Lib.hid hm
  have hrun := fun w => ways_run hk.1 hk.2 w
  rw [hx] at hrun
  have d1 : decide (fld m 0 < 1) = false := by simp; omega
  have d2 : decide (11 < fld m 0) = false := by simp; omega
  have hb1 := hk.1
  have hb2 := hk.2
  have c0 := mc_get hl (i := 0) (by omega)
  have c1 := mc_get hl (i := 1) (by omega)
  have c2 := mc_get hl (i := 2) (by omega)
  have f1 : (fld m 1 == 0) = false := by simp; omega
  have t0 : (fld m 2 == 0) = true := by simp [h.1]
  have f2 : decide (1 ≤ fld m 1) = true := by simp; omega
  have f3 : decide (fld m 1 ≤ 64) = false := by simp; omega
  generalize fld m 0 = k at *
  generalize fld m 1 = f at *
  generalize fld m 2 = t at *
  clear hl hm hk h hx
  go_enter Try.func10, Try.ntmps10
  go_wp2_with fail
  go_ret
  exact ⟨ret_bool HM.out.symm, Joins.below_alloc1 _ _⟩
set_option maxRecDepth 100000 in
set_option maxHeartbeats 2000000 in
theorem stray_t0fhigh_101 (m : List Int) (hl : m.length = 28) (hm : mayB m = false) (hk : 1 ≤ fld m 0 ∧ fld m 0 ≤ 11) (h : fld m 2 = 0 ∧ 64 < fld m 1) (hx : wb (fld m 0) = 101) (w : World) :
    Calls Try.prog 10 #[.agg (mc m)] w fun e w' => e = .returned (.bool (mayB m)) ∧ Below w.heap.size w w' := by
  have HM := Lib.hid hm
  have hrun := fun w => ways_run hk.1 hk.2 w
  rw [hx] at hrun
  have d1 : decide (fld m 0 < 1) = false := by simp; omega
  have d2 : decide (11 < fld m 0) = false := by simp; omega
  have hb1 := hk.1
  have hb2 := hk.2
  have c0 := mc_get hl (i := 0) (by omega)
  have c1 := mc_get hl (i := 1) (by omega)
  have c2 := mc_get hl (i := 2) (by omega)
  have f1 : (fld m 1 == 0) = false := by simp; omega
  have t0 : (fld m 2 == 0) = true := by simp [h.1]
  have f2 : decide (1 ≤ fld m 1) = true := by simp; omega
  have f3 : decide (fld m 1 ≤ 64) = false := by simp; omega
  generalize fld m 0 = k at *
  generalize fld m 1 = f at *
  generalize fld m 2 = t at *
  clear hl hm hk h hx
  go_enter Try.func10, Try.ntmps10
  go_wp2_with fail
  go_ret
  exact ⟨ret_bool HM.out.symm, Joins.below_alloc1 _ _⟩
set_option maxRecDepth 100000 in
set_option maxHeartbeats 2000000 in
theorem stray_both_111 (m : List Int) (hl : m.length = 28) (hm : mayB m = false) (hk : 1 ≤ fld m 0 ∧ fld m 0 ≤ 11) (h : fld m 1 ≠ 0 ∧ fld m 2 ≠ 0) (hx : wb (fld m 0) = 111) (w : World) :
    Calls Try.prog 10 #[.agg (mc m)] w fun e w' => e = .returned (.bool (mayB m)) ∧ Below w.heap.size w w' := by
  have HM := Lib.hid hm
  have hrun := fun w => ways_run hk.1 hk.2 w
  rw [hx] at hrun
  have d1 : decide (fld m 0 < 1) = false := by simp; omega
  have d2 : decide (11 < fld m 0) = false := by simp; omega
  have hb1 := hk.1
  have hb2 := hk.2
  have c0 := mc_get hl (i := 0) (by omega)
  have c1 := mc_get hl (i := 1) (by omega)
  have c2 := mc_get hl (i := 2) (by omega)
  have f1 : (fld m 1 == 0) = false := by simp [h.1]
  have t0 : (fld m 2 == 0) = false := by simp [h.2]
  generalize fld m 0 = k at *
  generalize fld m 1 = f at *
  generalize fld m 2 = t at *
  clear hl hm hk h hx
  go_enter Try.func10, Try.ntmps10
  go_wp2_with fail
  go_ret
  exact ⟨ret_bool HM.out.symm, Joins.below_alloc1 _ _⟩
set_option maxRecDepth 100000 in
set_option maxHeartbeats 2000000 in
theorem stray_both_98 (m : List Int) (hl : m.length = 28) (hm : mayB m = false) (hk : 1 ≤ fld m 0 ∧ fld m 0 ≤ 11) (h : fld m 1 ≠ 0 ∧ fld m 2 ≠ 0) (hx : wb (fld m 0) = 98) (w : World) :
    Calls Try.prog 10 #[.agg (mc m)] w fun e w' => e = .returned (.bool (mayB m)) ∧ Below w.heap.size w w' := by
  have HM := Lib.hid hm
  have hrun := fun w => ways_run hk.1 hk.2 w
  rw [hx] at hrun
  have d1 : decide (fld m 0 < 1) = false := by simp; omega
  have d2 : decide (11 < fld m 0) = false := by simp; omega
  have hb1 := hk.1
  have hb2 := hk.2
  have c0 := mc_get hl (i := 0) (by omega)
  have c1 := mc_get hl (i := 1) (by omega)
  have c2 := mc_get hl (i := 2) (by omega)
  have f1 : (fld m 1 == 0) = false := by simp [h.1]
  have t0 : (fld m 2 == 0) = false := by simp [h.2]
  generalize fld m 0 = k at *
  generalize fld m 1 = f at *
  generalize fld m 2 = t at *
  clear hl hm hk h hx
  go_enter Try.func10, Try.ntmps10
  go_wp2_with fail
  go_ret
  exact ⟨ret_bool HM.out.symm, Joins.below_alloc1 _ _⟩
set_option maxRecDepth 100000 in
set_option maxHeartbeats 2000000 in
theorem stray_both_101 (m : List Int) (hl : m.length = 28) (hm : mayB m = false) (hk : 1 ≤ fld m 0 ∧ fld m 0 ≤ 11) (h : fld m 1 ≠ 0 ∧ fld m 2 ≠ 0) (hx : wb (fld m 0) = 101) (w : World) :
    Calls Try.prog 10 #[.agg (mc m)] w fun e w' => e = .returned (.bool (mayB m)) ∧ Below w.heap.size w w' := by
  have HM := Lib.hid hm
  have hrun := fun w => ways_run hk.1 hk.2 w
  rw [hx] at hrun
  have d1 : decide (fld m 0 < 1) = false := by simp; omega
  have d2 : decide (11 < fld m 0) = false := by simp; omega
  have hb1 := hk.1
  have hb2 := hk.2
  have c0 := mc_get hl (i := 0) (by omega)
  have c1 := mc_get hl (i := 1) (by omega)
  have c2 := mc_get hl (i := 2) (by omega)
  have f1 : (fld m 1 == 0) = false := by simp [h.1]
  have t0 : (fld m 2 == 0) = false := by simp [h.2]
  generalize fld m 0 = k at *
  generalize fld m 1 = f at *
  generalize fld m 2 = t at *
  clear hl hm hk h hx
  go_enter Try.func10, Try.ntmps10
  go_wp2_with fail
  go_ret
  exact ⟨ret_bool HM.out.symm, Joins.below_alloc1 _ _⟩
/-- Which letters there are where no way fits. -/
theorem stray_letters {m : List Int} (ho : goesB m = false) (hk : 1 ≤ fld m 0 ∧ fld m 0 ≤ 11) : (wb (fld m 0) = 111 ∧ downB m = false) ∨ (wb (fld m 0) = 98 ∧ upB m = false) ∨ (wb (fld m 0) = 101 ∧ downB m = false ∧ upB m = false) := by
  have ho : wayB (fld m 0) (downB m) (upB m) = false := ho
  unfold wb
  unfold wayB at ho
  by_cases h1 : fld m 0 = 1 ∨ fld m 0 = 4 ∨ fld m 0 = 6 ∨ fld m 0 = 8
  · rw [if_pos h1] at ho ⊢; exact .inl ⟨rfl, ho⟩
  · rw [if_neg h1] at ho ⊢
    by_cases h2 : fld m 0 = 11
    · rw [if_pos h2]
      rw [if_neg (by omega), if_pos h2, Bool.or_eq_false_iff] at ho
      exact .inr (.inr ⟨rfl, ho⟩)
    · rw [if_neg h2]
      rw [if_pos (by omega)] at ho
      exact .inr (.inl ⟨rfl, ho⟩)
theorem refOk_stray (m : List Int) (hl : m.length = 28) (ho : goesB m = false) (hk : 1 ≤ fld m 0 ∧ fld m 0 ≤ 11) (w : World) :
    Calls Try.prog 10 #[.agg (mc m)] w fun e w' => e = .returned (.bool (mayB m)) ∧ Below w.heap.size w w' := by
  have hm : mayB m = false := may_no fun h => by have := may_goes h; rw [ho] at this; cases this
  have hL := stray_letters ho hk
  rcases (show (fld m 1 = 0 ∧ fld m 2 < 0) ∨ (fld m 1 = 0 ∧ fld m 2 = 0) ∨ (fld m 1 = 0 ∧ 1 ≤ fld m 2 ∧ fld m 2 ≤ 64) ∨ (fld m 1 = 0 ∧ 64 < fld m 2) ∨ (fld m 2 = 0 ∧ fld m 1 < 0) ∨ (fld m 2 = 0 ∧ 1 ≤ fld m 1 ∧ fld m 1 ≤ 64) ∨ (fld m 2 = 0 ∧ 64 < fld m 1) ∨ (fld m 1 ≠ 0 ∧ fld m 2 ≠ 0) by omega) with h | h | h | h | h | h | h | h
  · rcases hL with ⟨hx, _⟩ | ⟨hx, _⟩ | ⟨hx, _⟩
    · exact stray_f0tlow_111 m hl hm hk h hx w
    · exact stray_f0tlow_98 m hl hm hk h hx w
    · exact stray_f0tlow_101 m hl hm hk h hx w
  · rcases hL with ⟨hx, _⟩ | ⟨hx, _⟩ | ⟨hx, _⟩
    · exact stray_f0t0_111 m hl hm hk h hx w
    · exact stray_f0t0_98 m hl hm hk h hx w
    · exact stray_f0t0_101 m hl hm hk h hx w
  · have hd : downB m = true := by unfold downB; rw [Bool.and_eq_true, inS_iff]; simp; omega
    rcases hL with ⟨_, h2⟩ | ⟨hx, _⟩ | ⟨_, h2, _⟩
    · rw [hd] at h2; cases h2
    · exact stray_f0tin_98 m hl hm hk h hx w
    · rw [hd] at h2; cases h2
  · rcases hL with ⟨hx, _⟩ | ⟨hx, _⟩ | ⟨hx, _⟩
    · exact stray_f0thigh_111 m hl hm hk h hx w
    · exact stray_f0thigh_98 m hl hm hk h hx w
    · exact stray_f0thigh_101 m hl hm hk h hx w
  · rcases hL with ⟨hx, _⟩ | ⟨hx, _⟩ | ⟨hx, _⟩
    · exact stray_t0flow_111 m hl hm hk h hx w
    · exact stray_t0flow_98 m hl hm hk h hx w
    · exact stray_t0flow_101 m hl hm hk h hx w
  · have hu : upB m = true := by unfold upB; rw [Bool.and_eq_true, inS_iff]; simp; omega
    rcases hL with ⟨hx, _⟩ | ⟨_, h2⟩ | ⟨_, _, h2⟩
    · exact stray_t0fin_111 m hl hm hk h hx w
    · rw [hu] at h2; cases h2
    · rw [hu] at h2; cases h2
  · rcases hL with ⟨hx, _⟩ | ⟨hx, _⟩ | ⟨hx, _⟩
    · exact stray_t0fhigh_111 m hl hm hk h hx w
    · exact stray_t0fhigh_98 m hl hm hk h hx w
    · exact stray_t0fhigh_101 m hl hm hk h hx w
  · rcases hL with ⟨hx, _⟩ | ⟨hx, _⟩ | ⟨hx, _⟩
    · exact stray_both_111 m hl hm hk h hx w
    · exact stray_both_98 m hl hm hk h hx w
    · exact stray_both_101 m hl hm hk h hx w
end Go.Proofs.Ythdfgdehddmkpaa
