/- The contracts of the document's own answers to layer 1. -/
import Derived.Test.YtoiiikoimdifnaaModeC
namespace Go.Proofs.Ytoiiikoimdifnaa
open Go.RowKit

theorem togM_no1 (a b : Int) (h : okM a = false) : togM a b = false := by
  unfold okM at h; simp at h
  have : besideM a = 0 := by unfold besideM; (repeat rw [if_neg (by omega)])
  unfold togM hasM; rw [this]; simp
theorem covM_no1 (a b : Int) (h : okM a = false) : covM a b = false := by
  unfold okM at h; simp at h
  have : belowM a = 0 := by unfold belowM; (repeat rw [if_neg (by omega)])
  unfold covM hasM; rw [this]; simp
theorem togM_no2 (a b : Int) (h : okM b = false) : togM a b = false := by unfold togM hasM; rw [h]; rfl
theorem covM_no2 (a b : Int) (h : okM b = false) : covM a b = false := by unfold covM hasM; rw [h]; rfl
theorem okM_yes (m : Int) (h : okM m = true) : m = 0 ∨ m = 1 ∨ m = 2 ∨ m = 3 ∨ m = 4 := by unfold okM at h; simp at h; omega

set_option maxHeartbeats 400000 in
theorem okR_any (m : Int) (w : World) :
    Calls Try.prog 10 #[.int .i64 m] w fun e w' => e = .returned (.bool (okM m)) ∧ w = w' := by
  by_cases h0 : 0 ≤ m
  · by_cases h4 : m ≤ 4
    · have e : okM m = true := by unfold okM; simp; omega
      rw [e]; clear e
      go_enter Try.func10, Try.ntmps10
      go_wp2
      go_ret
      exact ⟨rfl, rfl⟩
    · have e : okM m = false := by unfold okM; simp; omega
      rw [e]; clear e
      go_enter Try.func10, Try.ntmps10
      go_wp2
      go_ret
      exact ⟨rfl, rfl⟩
  · have e : okM m = false := by unfold okM; simp; omega
    rw [e]; clear e
    go_enter Try.func10, Try.ntmps10
    go_wp2
    go_ret
    exact ⟨rfl, rfl⟩

set_option maxHeartbeats 4000000 in
theorem togR_any (a b : Int) (w : World) :
    Calls Try.prog 12 #[.int .i64 a, .int .i64 b] w fun e w' => e = .returned (.bool (togM a b)) ∧ w = w' := by
  cases ha : okM a
  · rw [togM_no1 a b ha]
    go_enter Try.func12, Try.ntmps12
    go_wp2_with (go_at_call 10; refine (okR_any _ _).mono ?_; rintro e w' ⟨rfl, rfl⟩)
    go_ret
    exact ⟨rfl, rfl⟩
  · cases hb : okM b
    · rw [togM_no2 a b hb]
      go_enter Try.func12, Try.ntmps12
      go_wp2_with (go_at_call 10; refine (okR_any _ _).mono ?_; rintro e w' ⟨rfl, rfl⟩)
      go_ret
      exact ⟨rfl, rfl⟩
    · rcases okM_yes a ha with rfl | rfl | rfl | rfl | rfl <;> rcases okM_yes b hb with rfl | rfl | rfl | rfl | rfl
      all_goals
        clear ha hb
        go_enter Try.func12, Try.ntmps12
        go_wp2_with (go_at_call 10; refine (okR_any _ _).mono ?_; rintro e w' ⟨rfl, rfl⟩)
        go_ret
        exact ⟨rfl, rfl⟩

set_option maxHeartbeats 4000000 in
theorem covR_any (a b : Int) (w : World) :
    Calls Try.prog 14 #[.int .i64 a, .int .i64 b] w fun e w' => e = .returned (.bool (covM a b)) ∧ w = w' := by
  cases ha : okM a
  · rw [covM_no1 a b ha]
    go_enter Try.func14, Try.ntmps14
    go_wp2_with (go_at_call 10; refine (okR_any _ _).mono ?_; rintro e w' ⟨rfl, rfl⟩)
    go_ret
    exact ⟨rfl, rfl⟩
  · cases hb : okM b
    · rw [covM_no2 a b hb]
      go_enter Try.func14, Try.ntmps14
      go_wp2_with (go_at_call 10; refine (okR_any _ _).mono ?_; rintro e w' ⟨rfl, rfl⟩)
      go_ret
      exact ⟨rfl, rfl⟩
    · rcases okM_yes a ha with rfl | rfl | rfl | rfl | rfl <;> rcases okM_yes b hb with rfl | rfl | rfl | rfl | rfl
      all_goals
        clear ha hb
        go_enter Try.func14, Try.ntmps14
        go_wp2_with (go_at_call 10; refine (okR_any _ _).mono ?_; rintro e w' ⟨rfl, rfl⟩)
        go_ret
        exact ⟨rfl, rfl⟩

set_option maxHeartbeats 1000000 in
theorem needR_any (m : Int) (w : World) :
    Calls Try.prog 17 #[.int .i64 m] w fun e w' => e = .returned (.tuple #[.int .i64 (needM m), .int .i64 (needE m)]) ∧ w = w' := by
  rcases m_cases m with rfl | rfl | rfl | rfl | rfl | h
  case' inr.inr.inr.inr.inr =>
    have hb : needM m = 0 := by unfold needM; (repeat rw [if_neg (by omega)])
    have hv : needE m = 1 := by unfold needE; rw [okM_no m h]; rfl
    have hk := okM_no m h
    rw [hb, hv]; clear hb hv h
  all_goals
    go_enter Try.func17, Try.ntmps17
    go_wp2_with (go_at_call 10; refine (okR_any _ _).mono ?_; rintro e w' ⟨rfl, rfl⟩)
    go_ret2
    exact ⟨rfl, rfl⟩
end Go.Proofs.Ytoiiikoimdifnaa
