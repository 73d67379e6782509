/- The walks of layer 1's statements. -/
import Derived.Test.YtoiiikoimdifnaaModeL
import Derived.RowKit3
namespace Go.Proofs.Ytoiiikoimdifnaa
open Go.RowKit

theorem tog23 (w : World) : Calls Try.prog 11 #[.int .i64 2, .int .i64 3] w fun e w' => e = .returned (.bool false) ∧ w = w' :=
  (together_any 2 3 w).mono fun _ _ ⟨h, hw⟩ => ⟨by rw [h]; exact ret_bool (by decide), hw⟩
theorem tog13 (w : World) : Calls Try.prog 11 #[.int .i64 1, .int .i64 3] w fun e w' => e = .returned (.bool true) ∧ w = w' :=
  (together_any 1 3 w).mono fun _ _ ⟨h, hw⟩ => ⟨by rw [h]; exact ret_bool (by decide), hw⟩
theorem least23 (w : World) : Calls Try.prog 15 #[.int .i64 2, .int .i64 3] w fun e w' => e = .returned (.tuple #[.int .i64 4, .nilIface]) ∧ w = w' :=
  (least_any 2 3 w).mono fun _ _ ⟨h, hw⟩ => ⟨by rw [h, show leastM 2 3 = 4 by decide]; rfl, hw⟩

theorem need4 (w : World) : Calls Try.prog 16 #[.int .i64 4] w fun e w' => e = .returned (.tuple #[.int .i64 2, .nilIface]) ∧ w = w' :=
  (need_any 4 w).mono fun _ _ ⟨h, hw⟩ => ⟨by rw [h]; rfl, hw⟩
theorem need1 (w : World) : Calls Try.prog 16 #[.int .i64 1] w fun e w' => e = .returned (.tuple #[.int .i64 0, .iface 40 (.int .i64 12)]) ∧ w = w' :=
  (need_any 1 w).mono fun _ _ ⟨h, hw⟩ => ⟨by rw [h]; rfl, hw⟩

set_option maxHeartbeats 1000000 in
theorem alive_any (w : World) :
    Calls Try.prog 8 #[] w fun e w' => e = .returned (.bool true) ∧ w = w' := by
  have hn := run_eql_nil_nil (P := Try.prog) w 29 Try.underlying29
  go_enter Try.func8, Try.ntmps8
  go_wp2_with fail
  refine (least23 _).mono ?_; rintro e w' ⟨rfl, rfl⟩
  go_wp2_with fail
  refine (need4 _).mono ?_; rintro e w' ⟨rfl, rfl⟩
  go_wp2_with fail
  refine (need1 _).mono ?_; rintro e w' ⟨rfl, rfl⟩
  go_wp2_with fail
  refine (tog23 _).mono ?_; rintro e w' ⟨rfl, rfl⟩
  go_wp2_with fail
  refine (tog13 _).mono ?_; rintro e w' ⟨rfl, rfl⟩
  go_wp2_with fail
  refine (code_errno 12 (by decide) _).mono ?_; rintro e w' ⟨rfl, rfl⟩
  go_wp2_with fail
  go_ret
  exact ⟨rfl, rfl⟩
end Go.Proofs.Ytoiiikoimdifnaa
