/- The contracts of package mode, and of the document's own answers to it. -/
import Derived.Test.YtoiiikoimdifnaaModeB
namespace Go.Proofs.Ytoiiikoimdifnaa
open Go.RowKit

theorem ret_bool {a b : Bool} (h : a = b) : Ending.returned (.bool a) = .returned (.bool b) := by rw [h]
theorem ret_i64 {a b : Int} (h : a = b) : Ending.returned (.int .i64 a) = .returned (.int .i64 b) := by rw [h]

/-- Do two modes go together? -/
def togM (a b : Int) : Bool := hasM (besideM a) b
/-- Does one cover the other? -/
def covM (a b : Int) : Bool := hasM (belowM a) b

theorem belowM_in (m : Int) : belowM m = 0 ∨ belowM m = 1 ∨ belowM m = 3 ∨ belowM m = 7 ∨ belowM m = 11 ∨ belowM m = 15 ∨ belowM m = 31 := by
  unfold belowM; (repeat' split) <;> simp
theorem besideM_in (m : Int) : besideM m = 0 ∨ besideM m = 1 ∨ besideM m = 3 ∨ besideM m = 7 ∨ besideM m = 11 ∨ besideM m = 15 ∨ besideM m = 31 := by
  unfold besideM; (repeat' split) <;> simp

set_option maxHeartbeats 400000 in
theorem together_any (a b : Int) (w : World) :
    Calls Try.prog 11 #[.int .i64 a, .int .i64 b] w fun e w' => e = .returned (.bool (togM a b)) ∧ w = w' := by
  have hin := besideM_in a
  have HI := Lib.hid hin; clear hin
  unfold togM
  go_enter Try.func11, Try.ntmps11
  go_wp2_with (first | (go_at_call 21; refine (beside_any _ _).mono ?_; rintro e w' ⟨rfl, rfl⟩) | (go_at_call 22; refine (has_any _ _ HI.out _).mono ?_; rintro e w' ⟨rfl, rfl⟩))
  go_ret
  exact ⟨rfl, rfl⟩

set_option maxHeartbeats 400000 in
theorem covers_any (a b : Int) (w : World) :
    Calls Try.prog 13 #[.int .i64 a, .int .i64 b] w fun e w' => e = .returned (.bool (covM a b)) ∧ w = w' := by
  have hin := belowM_in a
  have HI := Lib.hid hin; clear hin
  unfold covM
  go_enter Try.func13, Try.ntmps13
  go_wp2_with (first | (go_at_call 20; refine (below_any _ _).mono ?_; rintro e w' ⟨rfl, rfl⟩) | (go_at_call 22; refine (has_any _ _ HI.out _).mono ?_; rintro e w' ⟨rfl, rfl⟩))
  go_ret
  exact ⟨rfl, rfl⟩

/-- The least above two modes (of numbers that are none: 0). -/
def leastM (a b : Int) : Int := if okM a && okM b then (if covM a b then a else if covM b a then b else 4) else 0
def arg1 : Value := .iface 40 (.int .i64 1)
def mode12 : Value := .iface 40 (.int .i64 12)
def leastE (a b : Int) : Value := if okM a && okM b then .nilIface else .iface 40 (.int .i64 1)

set_option maxHeartbeats 1000000 in
theorem least_any (a b : Int) (w : World) :
    Calls Try.prog 15 #[.int .i64 a, .int .i64 b] w fun e w' => e = .returned (.tuple #[.int .i64 (leastM a b), leastE a b]) ∧ w = w' := by
  unfold leastM leastE
  cases ha : okM a <;> cases hb : okM b <;> cases hc : covM a b <;> cases hd : covM b a
  all_goals
    go_enter Try.func15, Try.ntmps15
    go_wp2_with (first | (go_at_call 9; refine (ok_any _ _).mono ?_; rintro e w' ⟨rfl, rfl⟩) | (go_at_call 13; refine (covers_any _ _ _).mono ?_; rintro e w' ⟨rfl, rfl⟩))
    go_ret2
    exact ⟨rfl, rfl⟩

/-- What a row's mode needs; its error's number. -/
def needM (m : Int) : Int := if m = 3 then 1 else if m = 4 then 2 else 0
def needE (m : Int) : Int := if okM m then (if m = 1 ∨ m = 2 then 12 else 0) else 1
def errV (n : Int) : Value := if n = 0 then .nilIface else .iface 40 (.int .i64 n)

set_option maxHeartbeats 1000000 in
theorem need_any (m : Int) (w : World) :
    Calls Try.prog 16 #[.int .i64 m] w fun e w' => e = .returned (.tuple #[.int .i64 (needM m), errV (needE m)]) ∧ w = w' := by
  rcases m_cases m with rfl | rfl | rfl | rfl | rfl | h
  case' inr.inr.inr.inr.inr =>
    have hb : needM m = 0 := by unfold needM; (repeat rw [if_neg (by omega)])
    have hv : errV (needE m) = .iface 40 (.int .i64 1) := by unfold needE; rw [okM_no m h]; rfl
    have h0 : (m == 0) = false := by simp; omega
    have h1 : (m == 1) = false := by simp; omega
    have h2 : (m == 2) = false := by simp; omega
    have h3 : (m == 3) = false := by simp; omega
    have h4 : (m == 4) = false := by simp; omega
    rw [hb, hv]; clear hb hv h
  all_goals
    go_enter Try.func16, Try.ntmps16
    go_wp2
    go_ret2
    exact ⟨rfl, rfl⟩
end Go.Proofs.Ytoiiikoimdifnaa
