/- The contracts of package mode. -/
import Derived.Test.YtoiiikoimdifnaaErr
import Derived.Deep.QuietTactic
import Derived.BigQuiet
import Derived.Deep.RegionWith
import Derived.WalkSpells
namespace Go.Proofs.Ytoiiikoimdifnaa
open Go.RowKit

/-- Is a number a mode? -/
def okM (m : Int) : Bool := decide (0 ≤ m ∧ m ≤ 4)
/-- The modes below one, as bits. -/
def belowM (m : Int) : Int := if m = 0 then 1 else if m = 1 then 3 else if m = 2 then 7 else if m = 3 then 11 else if m = 4 then 31 else 0
/-- The modes beside one, as bits. -/
def besideM (m : Int) : Int := if m = 0 then 31 else if m = 1 then 15 else if m = 2 then 7 else if m = 3 then 11 else if m = 4 then 1 else 0

theorem m_cases (m : Int) : m = 0 ∨ m = 1 ∨ m = 2 ∨ m = 3 ∨ m = 4 ∨ (m < 0 ∨ 4 < m) := by omega

set_option maxHeartbeats 1000000 in
theorem below_any (m : Int) (w : World) :
    Calls Try.prog 20 #[.int .i64 m] w fun e w' => e = .returned (.int .u8 (belowM m)) ∧ w = w' := by
  rcases m_cases m with rfl | rfl | rfl | rfl | rfl | h
  case' inr.inr.inr.inr.inr =>
    have hb : belowM m = 0 := by unfold belowM; (repeat rw [if_neg (by omega)])
    have h0 : (m == 0) = false := by simp; omega
    have h1 : (m == 1) = false := by simp; omega
    have h2 : (m == 2) = false := by simp; omega
    have h3 : (m == 3) = false := by simp; omega
    have h4 : (m == 4) = false := by simp; omega
    rw [hb]; clear hb h
  all_goals
    go_enter Try.func20, Try.ntmps20
    go_wp2
    go_ret
    exact ⟨rfl, rfl⟩

set_option maxHeartbeats 1000000 in
theorem beside_any (m : Int) (w : World) :
    Calls Try.prog 21 #[.int .i64 m] w fun e w' => e = .returned (.int .u8 (besideM m)) ∧ w = w' := by
  rcases m_cases m with rfl | rfl | rfl | rfl | rfl | h
  case' inr.inr.inr.inr.inr =>
    have hb : besideM m = 0 := by unfold besideM; (repeat rw [if_neg (by omega)])
    have h0 : (m == 0) = false := by simp; omega
    have h1 : (m == 1) = false := by simp; omega
    have h2 : (m == 2) = false := by simp; omega
    have h3 : (m == 3) = false := by simp; omega
    have h4 : (m == 4) = false := by simp; omega
    rw [hb]; clear hb h
  all_goals
    go_enter Try.func21, Try.ntmps21
    go_wp2
    go_ret
    exact ⟨rfl, rfl⟩
end Go.Proofs.Ytoiiikoimdifnaa
