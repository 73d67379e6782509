/- The contracts of package mode: what its calls answer. -/
import Derived.Test.YtoiiikoimdifnaaMode
import Derived.Lib.Hide
namespace Go.Proofs.Ytoiiikoimdifnaa
open Go.RowKit

theorem okM_no (m : Int) (h : m < 0 ∨ 4 < m) : okM m = false := by unfold okM; simp; omega

set_option maxHeartbeats 1000000 in
theorem ok_any (m : Int) (w : World) :
    Calls Try.prog 9 #[.int .i64 m] w fun e w' => e = .returned (.bool (okM m)) ∧ w = w' := by
  have hb : (belowM m != 0) = okM m := by
    rcases m_cases m with rfl | rfl | rfl | rfl | rfl | h
    case' inr.inr.inr.inr.inr => rw [okM_no m h]; unfold belowM; (repeat rw [if_neg (by omega)]); rfl
    all_goals rfl
  generalize okM m = r at *
  generalize hq : belowM m = q at *
  have H := Lib.hid hq; clear hq
  have hc := fun w => below_any m w
  rw [H.out] at hc
  have HC := Lib.hid hc; clear hc
  go_enter Try.func9, Try.ntmps9
  go_wp2_with (go_at_call 20; refine (HC.out _).mono ?_; rintro e w' ⟨rfl, rfl⟩)
  go_ret
  exact ⟨rfl, rfl⟩

/-- Is a mode in a set? -/
def hasM (s b : Int) : Bool := okM b && decide (s / 2 ^ b.toNat % 2 = 1)

set_option maxHeartbeats 4000000 in
theorem has_any (s b : Int) (hs : s = 0 ∨ s = 1 ∨ s = 3 ∨ s = 7 ∨ s = 11 ∨ s = 15 ∨ s = 31) (w : World) :
    Calls Try.prog 22 #[.int .u8 s, .int .i64 b] w fun e w' => e = .returned (.bool (hasM s b)) ∧ w = w' := by
  rcases m_cases b with rfl | rfl | rfl | rfl | rfl | h
  case' inr.inr.inr.inr.inr =>
    have hb : hasM s b = false := by unfold hasM; rw [okM_no b h]; rfl
    have hk := fun w => ok_any b w
    rw [okM_no b h] at hk
    rw [hb]; clear hb h hs
    have HK := Lib.hid hk; clear hk
    go_enter Try.func22, Try.ntmps22
    go_wp2_with (go_at_call 9; refine (HK.out _).mono ?_; rintro e w' ⟨rfl, rfl⟩)
    go_ret
    exact ⟨rfl, rfl⟩
  all_goals
    rcases hs with rfl | rfl | rfl | rfl | rfl | rfl | rfl
    all_goals
      go_enter Try.func22, Try.ntmps22
      go_wp2_with (go_at_call 9; refine (ok_any _ _).mono ?_; rintro e w' ⟨rfl, rfl⟩)
      go_ret
      exact ⟨rfl, rfl⟩
end Go.Proofs.Ytoiiikoimdifnaa
