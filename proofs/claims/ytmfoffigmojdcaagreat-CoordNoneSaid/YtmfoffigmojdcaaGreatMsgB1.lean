/- What a kind asks, kind by kind. -/
import Derived.Test.YtmfoffigmojdcaaGreatMsgA
namespace Go.Proofs.YtmfoffigmojdcaaGreat
open Go.RowKit
set_option linter.unusedVariables false
set_option linter.unusedSimpArgs false
set_option maxRecDepth 100000 in
set_option maxHeartbeats 4000000 in
theorem asked_1 (m : List Int) (hl : m.length = 28) (hk : fld m 0 = 1) (w : World) :
    Calls Tryz.prog 133 #[.agg (mc m)] w fun e w' => e = .returned (askV (fld m 0) (fld m 3)) ∧ Below w.heap.size w w' := by
  have c0 := mc_get hl (i := 0) (by omega)
  have c3 := mc_get hl (i := 3) (by omega)
  rw [hk] at c0 ⊢
  clear hk
  generalize fld m 3 = tx at c3 ⊢
  go_enter Tryz.func133, Tryz.ntmps133
  go_wp2_with (first | (go_at_call 153; refine (anyTx_any _).mono ?_; rintro e w' ⟨rfl, rfl⟩) | (go_at_call 152; refine (anySeq_any _).mono ?_; rintro e w' ⟨rfl, rfl⟩))
  refine bodyPost_ret (v := askV 1 tx) (by simp [results, Tryz.results133, go_sem, askV, sAt, sTx, sSeq, sMode, sCode, sNext, sNseq, sN]) rfl ⟨rfl, ?_⟩
  repeat (first | exact Below.refl _ _ | refine Below.setCell ?_ (by simp) _ | refine Below.alloc ?_ (by simp <;> omega) _)
set_option maxRecDepth 100000 in
set_option maxHeartbeats 4000000 in
theorem asked_2 (m : List Int) (hl : m.length = 28) (hk : fld m 0 = 2) (w : World) :
    Calls Tryz.prog 133 #[.agg (mc m)] w fun e w' => e = .returned (askV (fld m 0) (fld m 3)) ∧ Below w.heap.size w w' := by
  have c0 := mc_get hl (i := 0) (by omega)
  have c3 := mc_get hl (i := 3) (by omega)
  rw [hk] at c0 ⊢
  clear hk
  generalize fld m 3 = tx at c3 ⊢
  go_enter Tryz.func133, Tryz.ntmps133
  go_wp2_with (first | (go_at_call 153; refine (anyTx_any _).mono ?_; rintro e w' ⟨rfl, rfl⟩) | (go_at_call 152; refine (anySeq_any _).mono ?_; rintro e w' ⟨rfl, rfl⟩))
  refine bodyPost_ret (v := askV 2 tx) (by simp [results, Tryz.results133, go_sem, askV, sAt, sTx, sSeq, sMode, sCode, sNext, sNseq, sN]) rfl ⟨rfl, ?_⟩
  repeat (first | exact Below.refl _ _ | refine Below.setCell ?_ (by simp) _ | refine Below.alloc ?_ (by simp <;> omega) _)
set_option maxRecDepth 100000 in
set_option maxHeartbeats 4000000 in
theorem asked_3 (m : List Int) (hl : m.length = 28) (hk : fld m 0 = 3) (w : World) :
    Calls Tryz.prog 133 #[.agg (mc m)] w fun e w' => e = .returned (askV (fld m 0) (fld m 3)) ∧ Below w.heap.size w w' := by
  have c0 := mc_get hl (i := 0) (by omega)
  have c3 := mc_get hl (i := 3) (by omega)
  rw [hk] at c0 ⊢
  clear hk
  generalize fld m 3 = tx at c3 ⊢
  go_enter Tryz.func133, Tryz.ntmps133
  go_wp2_with (first | (go_at_call 153; refine (anyTx_any _).mono ?_; rintro e w' ⟨rfl, rfl⟩) | (go_at_call 152; refine (anySeq_any _).mono ?_; rintro e w' ⟨rfl, rfl⟩))
  refine bodyPost_ret (v := askV 3 tx) (by simp [results, Tryz.results133, go_sem, askV, sAt, sTx, sSeq, sMode, sCode, sNext, sNseq, sN]) rfl ⟨rfl, ?_⟩
  repeat (first | exact Below.refl _ _ | refine Below.setCell ?_ (by simp) _ | refine Below.alloc ?_ (by simp <;> omega) _)
end Go.Proofs.YtmfoffigmojdcaaGreat
