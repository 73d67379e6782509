/- The walks of layer 1's statements. -/
import Derived.Test.YtoiiikoimdifnaaLaw1
namespace Go.Proofs.Ytoiiikoimdifnaa
open Go.RowKit

set_option maxHeartbeats 1000000 in
theorem modeTable_walk (a b : Int) (w : World) :
    Calls Try.prog 3 #[.int .i64 a, .int .i64 b] w fun e w' => e = .returned (.bool true) ∧ w = w' := by
  go_enter Try.func3, Try.ntmps3
  go_wp2_with (first | (go_at_call 8; refine (alive_any _).mono ?_; rintro e w' ⟨rfl, rfl⟩) | (go_at_call 9; refine (ok_any _ _).mono ?_; rintro e w' ⟨rfl, rfl⟩) | (go_at_call 10; refine (okR_any _ _).mono ?_; rintro e w' ⟨rfl, rfl⟩) | (go_at_call 11; refine (together_any _ _ _).mono ?_; rintro e w' ⟨rfl, rfl⟩) | (go_at_call 12; refine (togR_any _ _ _).mono ?_; rintro e w' ⟨rfl, rfl⟩) | (go_at_call 13; refine (covers_any _ _ _).mono ?_; rintro e w' ⟨rfl, rfl⟩) | (go_at_call 14; refine (covR_any _ _ _).mono ?_; rintro e w' ⟨rfl, rfl⟩))
  go_ret
  exact ⟨rfl, rfl⟩

theorem mode_refl : ∀ x : Int, okM x = true → covM x x = true := by
  intro x h; rcases okM_yes x h with rfl | rfl | rfl | rfl | rfl <;> rfl
theorem mode_anti (x y : Int) (hx : okM x = true) (hy : okM y = true) (h1 : covM x y = true) (h2 : covM y x = true) : x = y := by
  rcases okM_yes x hx with rfl | rfl | rfl | rfl | rfl <;> rcases okM_yes y hy with rfl | rfl | rfl | rfl | rfl <;> first | rfl | (exact absurd h1 (by decide)) | (exact absurd h2 (by decide))
theorem mode_trans (x y z : Int) (hx : okM x = true) (hy : okM y = true) (hz : okM z = true) (h1 : covM x y = true) (h2 : covM y z = true) : covM x z = true := by
  rcases okM_yes x hx with rfl | rfl | rfl | rfl | rfl <;> rcases okM_yes y hy with rfl | rfl | rfl | rfl | rfl <;> rcases okM_yes z hz with rfl | rfl | rfl | rfl | rfl <;> first | rfl | (exact absurd h1 (by decide)) | (exact absurd h2 (by decide))
theorem okM_five (a : Int) : okM (a % 5) = true := by unfold okM; simp; omega
theorem tog_sym (x y : Int) (hx : okM x = true) (hy : okM y = true) : togM x y = togM y x := by
  rcases okM_yes x hx with rfl | rfl | rfl | rfl | rfl <;> rcases okM_yes y hy with rfl | rfl | rfl | rfl | rfl <;> rfl
theorem tog_none (x : Int) (hx : okM x = true) : togM x 0 = true := by
  rcases okM_yes x hx with rfl | rfl | rfl | rfl | rfl <;> rfl
theorem tog_cov (x y z : Int) (hx : okM x = true) (hy : okM y = true) (hz : okM z = true) (h1 : togM x y = true) (h2 : covM y z = true) : togM x z = true := by
  rcases okM_yes x hx with rfl | rfl | rfl | rfl | rfl <;> rcases okM_yes y hy with rfl | rfl | rfl | rfl | rfl <;> rcases okM_yes z hz with rfl | rfl | rfl | rfl | rfl <;> first | rfl | (exact absurd h1 (by decide)) | (exact absurd h2 (by decide))

set_option maxHeartbeats 1000000 in
theorem modeOrder_walk (a b c : Int) (ha : 0 ≤ a ∧ a ≤ 255) (hb : 0 ≤ b ∧ b ≤ 255) (hc : 0 ≤ c ∧ c ≤ 255) (w : World) :
    Calls Try.prog 5 #[.int .u8 a, .int .u8 b, .int .u8 c] w fun e w' => e = .returned (.bool true) ∧ w = w' := by
  obtain ⟨a1, a2⟩ := ha
  obtain ⟨b1, b2⟩ := hb
  obtain ⟨c1, c2⟩ := hc
  have hxx := mode_refl _ (okM_five a)
  cases hxy : covM (a % 5) (b % 5)
  · go_enter Try.func5, Try.ntmps5
    go_wp2_with (first | (go_at_call 8; refine (alive_any _).mono ?_; rintro e w' ⟨rfl, rfl⟩) | (go_at_call 13; refine (covers_any _ _ _).mono ?_; rintro e w' ⟨rfl, rfl⟩))
    all_goals
      go_ret
      exact ⟨rfl, rfl⟩
  · cases hyx : covM (b % 5) (a % 5)
    all_goals cases hyz : covM (b % 5) (c % 5)
    all_goals
      have hne : covM (b % 5) (a % 5) = true → (a % 5 != b % 5) = false := by
        intro h; have := mode_anti _ _ (okM_five a) (okM_five b) hxy h; rw [this]; simp
      have htr : covM (b % 5) (c % 5) = true → covM (a % 5) (c % 5) = true := fun h => mode_trans _ _ _ (okM_five a) (okM_five b) (okM_five c) hxy h
      simp only [hyx, hyz, forall_const, reduceCtorEq, false_implies] at hne htr
      go_enter Try.func5, Try.ntmps5
      go_wp2_with (first | (go_at_call 8; refine (alive_any _).mono ?_; rintro e w' ⟨rfl, rfl⟩) | (go_at_call 13; refine (covers_any _ _ _).mono ?_; rintro e w' ⟨rfl, rfl⟩))
      all_goals
        go_ret
        exact ⟨rfl, rfl⟩

set_option maxHeartbeats 2000000 in
theorem modeBeside_walk (a b c : Int) (ha : 0 ≤ a ∧ a ≤ 255) (hb : 0 ≤ b ∧ b ≤ 255) (hc : 0 ≤ c ∧ c ≤ 255) (w : World) :
    Calls Try.prog 7 #[.int .u8 a, .int .u8 b, .int .u8 c] w fun e w' => e = .returned (.bool true) ∧ w = w' := by
  obtain ⟨a1, a2⟩ := ha
  obtain ⟨b1, b2⟩ := hb
  obtain ⟨c1, c2⟩ := hc
  have hx0 := tog_none _ (okM_five a)
  have hyx := tog_sym _ _ (okM_five b) (okM_five a)
  cases hxy : togM (a % 5) (b % 5) <;> cases hyz : covM (b % 5) (c % 5)
  all_goals
    have htr : togM (a % 5) (b % 5) = true → covM (b % 5) (c % 5) = true → togM (a % 5) (c % 5) = true := fun h g => tog_cov _ _ _ (okM_five a) (okM_five b) (okM_five c) h g
    simp only [hxy, hyz, forall_const, reduceCtorEq, false_implies] at htr hyx
    go_enter Try.func7, Try.ntmps7
    go_wp2_with (first | (go_at_call 8; refine (alive_any _).mono ?_; rintro e w' ⟨rfl, rfl⟩) | (go_at_call 13; refine (covers_any _ _ _).mono ?_; rintro e w' ⟨rfl, rfl⟩) | (go_at_call 11; refine (together_any _ _ _).mono ?_; rintro e w' ⟨rfl, rfl⟩))
    all_goals
      go_ret
      exact ⟨rfl, rfl⟩

theorem least_yes (a b : Int) (ha : okM a = true) (hb : okM b = true) (w : World) :
    Calls Try.prog 15 #[.int .i64 a, .int .i64 b] w fun e w' => e = .returned (.tuple #[.int .i64 (leastM a b), .nilIface]) ∧ w = w' :=
  (least_any a b w).mono fun _ _ ⟨h, hw⟩ => ⟨by rw [h]; unfold leastE; rw [ha, hb]; rfl, hw⟩
theorem least_no (a b : Int) (hab : (okM a && okM b) = false) (w : World) :
    Calls Try.prog 15 #[.int .i64 a, .int .i64 b] w fun e w' => e = .returned (.tuple #[.int .i64 0, .iface 40 (.int .i64 1)]) ∧ w = w' :=
  (least_any a b w).mono fun _ _ ⟨h, hw⟩ => ⟨by rw [h]; unfold leastE leastM; rw [hab]; rfl, hw⟩

theorem leastM_ok (x y : Int) (hx : okM x = true) (hy : okM y = true) : okM (leastM x y) = true := by
  rcases okM_yes x hx with rfl | rfl | rfl | rfl | rfl <;> rcases okM_yes y hy with rfl | rfl | rfl | rfl | rfl <;> rfl
theorem leastM_sym (x y : Int) (hx : okM x = true) (hy : okM y = true) : leastM y x = leastM x y := by
  rcases okM_yes x hx with rfl | rfl | rfl | rfl | rfl <;> rcases okM_yes y hy with rfl | rfl | rfl | rfl | rfl <;> rfl
theorem leastM_left (x y : Int) (hx : okM x = true) (hy : okM y = true) : covM (leastM x y) x = true := by
  rcases okM_yes x hx with rfl | rfl | rfl | rfl | rfl <;> rcases okM_yes y hy with rfl | rfl | rfl | rfl | rfl <;> rfl
theorem leastM_right (x y : Int) (hx : okM x = true) (hy : okM y = true) : covM (leastM x y) y = true := by
  rcases okM_yes x hx with rfl | rfl | rfl | rfl | rfl <;> rcases okM_yes y hy with rfl | rfl | rfl | rfl | rfl <;> rfl
theorem leastM_assoc (x y z : Int) (hx : okM x = true) (hy : okM y = true) (hz : okM z = true) : leastM x (leastM y z) = leastM (leastM x y) z := by
  rcases okM_yes x hx with rfl | rfl | rfl | rfl | rfl <;> rcases okM_yes y hy with rfl | rfl | rfl | rfl | rfl <;> rcases okM_yes z hz with rfl | rfl | rfl | rfl | rfl <;> rfl
theorem leastM_least (x y z : Int) (hx : okM x = true) (hy : okM y = true) (hz : okM z = true) (h1 : covM z x = true) (h2 : covM z y = true) : covM z (leastM x y) = true := by
  rcases okM_yes x hx with rfl | rfl | rfl | rfl | rfl <;> rcases okM_yes y hy with rfl | rfl | rfl | rfl | rfl <;> rcases okM_yes z hz with rfl | rfl | rfl | rfl | rfl <;> first | rfl | (exact absurd h1 (by decide)) | (exact absurd h2 (by decide))

set_option maxHeartbeats 4000000 in
theorem modeAbove_walk (a b c : Int) (ha : 0 ≤ a ∧ a ≤ 255) (hb : 0 ≤ b ∧ b ≤ 255) (hc : 0 ≤ c ∧ c ≤ 255) (w : World) :
    Calls Try.prog 6 #[.int .u8 a, .int .u8 b, .int .u8 c] w fun e w' => e = .returned (.bool true) ∧ w = w' := by
  obtain ⟨a1, a2⟩ := ha
  obtain ⟨b1, b2⟩ := hb
  obtain ⟨c1, c2⟩ := hc
  have hn := run_neq_nil_nil (P := Try.prog) w 29 Try.underlying29
  have hx := okM_five a
  have hy := okM_five b
  have hz := okM_five c
  have hm := leastM_ok _ _ hx hy
  have hq := leastM_ok _ _ hy hz
  have e1 := least_yes _ _ hx hy
  have e2 := least_yes _ _ hy hx
  have e3 := least_yes _ _ hm hz
  have e4 := least_yes _ _ hy hz
  have e5 := least_yes _ _ hx hq
  rw [leastM_sym _ _ hx hy] at e2
  rw [leastM_assoc _ _ _ hx hy hz] at e5
  have hl := leastM_left _ _ hx hy
  have hr := leastM_right _ _ hx hy
  have hle := leastM_least _ _ _ hx hy hz
  have E1 := Lib.hid e1
  have E2 := Lib.hid e2
  have E3 := Lib.hid e3
  have E4 := Lib.hid e4
  have E5 := Lib.hid e5
  clear e1 e2 e3 e4 e5 hx hy hz hm hq
  cases hzx : covM (c % 5) (a % 5) <;> cases hzy : covM (c % 5) (b % 5)
  all_goals
    simp only [hzx, hzy, forall_const, reduceCtorEq, false_implies] at hle
    go_enter Try.func6, Try.ntmps6
    go_wp2_with fail
    refine (alive_any _).mono ?_; rintro e w' ⟨rfl, rfl⟩
    go_wp2_with fail
    refine (E1.out _).mono ?_; rintro e w' ⟨rfl, rfl⟩
    go_wp2_with fail
    refine (E2.out _).mono ?_; rintro e w' ⟨rfl, rfl⟩
    go_wp2_with fail
    refine (E3.out _).mono ?_; rintro e w' ⟨rfl, rfl⟩
    go_wp2_with fail
    refine (E4.out _).mono ?_; rintro e w' ⟨rfl, rfl⟩
    go_wp2_with fail
    refine (E5.out _).mono ?_; rintro e w' ⟨rfl, rfl⟩
    go_wp2_with (go_at_call 13; refine (covers_any _ _ _).mono ?_; rintro e w' ⟨rfl, rfl⟩)
    go_ret
    exact ⟨rfl, rfl⟩

theorem code_errV (n : Int) (h : n = 0 ∨ codeB n = true) (w : World) :
    Calls Try.prog 18 #[errV n] w fun e w' => e = .returned (.int .i64 n) ∧ w = w' := by
  rcases h with rfl | h
  · exact code_nil w
  · have : errV n = .iface 40 (.int .i64 n) := by unfold errV; rw [if_neg]; unfold codeB at h; simp at h; omega
    rw [this]; exact code_errno n h w
theorem needE_in (m : Int) : needE m = 0 ∨ codeB (needE m) = true := by
  unfold needE; (repeat' split) <;> first | (left; rfl) | (right; rfl)

set_option maxHeartbeats 4000000 in
theorem modeLeast_walk (a b : Int) (w : World) :
    Calls Try.prog 4 #[.int .i64 a, .int .i64 b] w fun e w' => e = .returned (.bool true) ∧ w = w' := by
  have hne := needE_in a
  have HE := Lib.hid hne; clear hne
  have hn := run_eql_nil_nil (P := Try.prog) w 29 Try.underlying29
  cases hab : (okM a && okM b)
  · have HAB := Lib.hid hab
    cases ha : okM a
    · clear hab
      go_enter Try.func4, Try.ntmps4
      go_wp2_with (first | (go_at_call 8; refine (alive_any _).mono ?_; rintro e w' ⟨rfl, rfl⟩) | (go_at_call 15; refine (least_no _ _ HAB.out _).mono ?_; rintro e w' ⟨rfl, rfl⟩) | (go_at_call 16; refine (need_any _ _).mono ?_; rintro e w' ⟨rfl, rfl⟩) | (go_at_call 17; refine (needR_any _ _).mono ?_; rintro e w' ⟨rfl, rfl⟩) | (go_at_call 10; refine (okR_any _ _).mono ?_; rintro e w' ⟨rfl, rfl⟩) | (go_at_call 18; with_reducible refine (code_errV _ HE.out _).mono ?_; rintro e w' ⟨rfl, rfl⟩) | (go_at_call 18; with_reducible refine (code_errno _ (by decide) _).mono ?_; rintro e w' ⟨rfl, rfl⟩))
      go_ret
      exact ⟨rfl, rfl⟩
    · cases hb : okM b
      · clear hab
        go_enter Try.func4, Try.ntmps4
        go_wp2_with (first | (go_at_call 8; refine (alive_any _).mono ?_; rintro e w' ⟨rfl, rfl⟩) | (go_at_call 15; refine (least_no _ _ HAB.out _).mono ?_; rintro e w' ⟨rfl, rfl⟩) | (go_at_call 16; refine (need_any _ _).mono ?_; rintro e w' ⟨rfl, rfl⟩) | (go_at_call 17; refine (needR_any _ _).mono ?_; rintro e w' ⟨rfl, rfl⟩) | (go_at_call 10; refine (okR_any _ _).mono ?_; rintro e w' ⟨rfl, rfl⟩) | (go_at_call 18; with_reducible refine (code_errV _ HE.out _).mono ?_; rintro e w' ⟨rfl, rfl⟩) | (go_at_call 18; with_reducible refine (code_errno _ (by decide) _).mono ?_; rintro e w' ⟨rfl, rfl⟩))
        go_ret
        exact ⟨rfl, rfl⟩
      · rw [ha, hb] at hab; exact absurd hab (by decide)
  · have ha : okM a = true := by simp at hab; exact hab.1
    have hb : okM b = true := by simp at hab; exact hab.2
    clear hab
    have hr := resR_eq a b ha hb
    have e1 := least_yes _ _ ha hb
    have E1 := Lib.hid e1; clear e1
    go_enter Try.func4, Try.ntmps4
    go_wp2_with (first | (go_at_call 8; refine (alive_any _).mono ?_; rintro e w' ⟨rfl, rfl⟩) | (go_at_call 15; refine (E1.out _).mono ?_; rintro e w' ⟨rfl, rfl⟩) | (go_at_call 16; refine (need_any _ _).mono ?_; rintro e w' ⟨rfl, rfl⟩) | (go_at_call 17; refine (needR_any _ _).mono ?_; rintro e w' ⟨rfl, rfl⟩) | (go_at_call 10; refine (okR_any _ _).mono ?_; rintro e w' ⟨rfl, rfl⟩) | (go_at_call 18; with_reducible refine (code_errV _ HE.out _).mono ?_; rintro e w' ⟨rfl, rfl⟩) | (go_at_call 19; refine (leastR_any _ _ _).mono ?_; rintro e w' ⟨rfl, rfl⟩))
    go_ret
    exact ⟨rfl, rfl⟩
end Go.Proofs.Ytoiiikoimdifnaa
