/- The contracts of package res's number and Parse. -/
import Derived.Test.YtjfadhdnaloleaaDoorRes
import Derived.Test.YtjfadhdnaloleaaDoorErrA
import Derived.Test.YtjfadhdnaloleaaDoorResM
namespace Go.Proofs.YtjfadhdnaloleaaDoor
open Go.RowKit
set_option linter.unusedSimpArgs false

/-- What number answers, as values. -/
def numPost (a : Nat × Nat × Option Nat) (w : World) (e : Ending) (w' : World) : Prop :=
  match a with
  | (n, z, none) => e = .returned (.tuple #[.int .i64 n, .int .i64 z, .nilIface]) ∧ w' = w
  | (_, _, some p) => e = .returned (.tuple #[.int .i64 0, .int .i64 0, faultV w.heap.size]) ∧ w' = w.alloc (.cells #[.int .i64 p, errno 5] 60)

theorem numGo_nil (m n k : Nat) : numGo m [] n k = if k = 0 then (0, 0, some 0) else (n, k, none) := by rw [numGo]
theorem numGo_no (m : Nat) (c : UInt8) (l : List UInt8) (n k : Nat) (h : isDig c = false) : numGo m (c :: l) n k = if k = 0 then (0, 0, some 0) else (n, k, none) := by rw [numGo, h]; rfl
theorem numGo_over (m : Nat) (c : UInt8) (l : List UInt8) (n k : Nat) (h : isDig c = true) (hb : 10 * n + (c.toNat - 48) = 0 ∨ m < 10 * n + (c.toNat - 48)) : numGo m (c :: l) n k = (0, 0, some k) := by rw [numGo, if_pos h, if_pos hb]
theorem numGo_on (m : Nat) (c : UInt8) (l : List UInt8) (n k : Nat) (h : isDig c = true) (hb : ¬ (10 * n + (c.toNat - 48) = 0 ∨ m < 10 * n + (c.toNat - 48))) : numGo m (c :: l) n k = numGo m l (10 * n + (c.toNat - 48)) (k + 1) := by rw [numGo, if_pos h, if_neg hb]
theorem drop_at (s : ByteArray) (k : Nat) (h : k < s.size) : s.data.toList.drop k = s[k] :: s.data.toList.drop (k + 1) := by
  rw [List.drop_eq_getElem_cons (by simpa using h)]; rfl
theorem drop_end (s : ByteArray) (k : Nat) (h : ¬ k < s.size) : s.data.toList.drop k = [] := by
  apply List.drop_of_length_le; simp; omega
/-- The place at which number stops, when it stops within the text or at its end. -/
theorem num_stop {m : Nat} {l : List UInt8} {k n : Nat} {A : Nat × Nat × Option Nat} (h : numGo m l n k = A) (hs : numGo m l n k = if k = 0 then (0, 0, some 0) else (n, k, none)) : (k = 0 → A = (0, 0, some 0)) ∧ (k ≠ 0 → A = (n, k, none)) := by
  rw [hs] at h
  exact ⟨fun e => by rw [← h, if_pos e], fun e => by rw [← h, if_neg e]⟩

set_option maxRecDepth 100000 in
set_option maxHeartbeats 4000000 in
theorem number_any (s : ByteArray) (m : Nat) (w : World) (hs : s.size ≤ maxLen) (hm : m ≤ 250) :
    Calls Tryd.prog 26 #[.string s, .int .i64 m] w (numPost (numGo m s.data.toList 0 0) w) := by
  unfold maxLen at hs
  obtain ⟨A, hA⟩ : ∃ A, numGo m s.data.toList 0 0 = A := ⟨_, rfl⟩
  have HA := Lib.hid hA
  rw [hA]; clear hA
  go_enter Tryd.func26, Tryd.ntmps26
  go_wp2_with fail
  go_loop [7, 8] (fun x i => ∃ k n : Nat, k ≤ s.size ∧ n ≤ m ∧ x = .int .i64 n ∧ i = .int .i64 k ∧ numGo m (s.data.toList.drop k) n k = A) (fun _ i => s.size - (intOf i).toNat)
  case atStart => exact ⟨0, 0, Nat.zero_le _, Nat.zero_le _, rfl, rfl, HA.out⟩
  case round =>
    obtain ⟨k, n, hk, hn, rfl, rfl, hr⟩ := hrel
    clear HA
    by_cases hlt : k < s.size
    · rw [drop_at s k hlt] at hr
      by_cases hc : isDig s[k] = true
      · by_cases hb : 10 * n + (s[k].toNat - 48) = 0 ∨ m < 10 * n + (s[k].toNat - 48)
        · have hx := (numGo_over m _ _ n k hc hb).symm.trans hr
          have HX := Lib.hid hx
          clear hx hr
          unfold isDig at hc; simp only [decide_eq_true_eq] at hc
          have c1 : decide (48 ≤ (s[k].toNat : Int)) = true := by simp; omega
          have c2 : decide ((s[k].toNat : Int) ≤ 57) = true := by simp; omega
          have c3 : (48 : Int) ≤ s[k].toNat := by omega
          have c4 : (s[k].toNat : Int) ≤ 57 := by omega
          cases c5 : (10 * (n : Int) + ((s[k].toNat : Int) - 48) == 0) <;> cases c6 : decide ((m : Int) < 10 * (n : Int) + ((s[k].toNat : Int) - 48))
          case false.false => exfalso; simp at c5 c6; omega
          all_goals
            clear hc hb
            go_wp2_with (go_at_call 27; refine (fault_any _ _).mono ?_; rintro e w' ⟨rfl, rfl⟩)
            go_ret3
            rw [← HX.out]
            exact ⟨rfl, rfl⟩
        · have hx := (numGo_on m _ _ n k hc hb).symm.trans hr
          have HX := Lib.hid hx
          clear hx hr
          unfold isDig at hc; simp only [decide_eq_true_eq] at hc
          have c1 : decide (48 ≤ (s[k].toNat : Int)) = true := by simp; omega
          have c2 : decide ((s[k].toNat : Int) ≤ 57) = true := by simp; omega
          have c3 : (48 : Int) ≤ s[k].toNat := by omega
          have c4 : (s[k].toNat : Int) ≤ 57 := by omega
          have c5 : (10 * (n : Int) + ((s[k].toNat : Int) - 48) == 0) = false := by simp; omega
          have c6 : decide ((m : Int) < 10 * (n : Int) + ((s[k].toNat : Int) - 48)) = false := by simp; omega
          have HC := Lib.hid hc
          have HB := Lib.hid hb
          clear hc hb
          go_wp2_with fail
          go_round
          case rel => exact ⟨k + 1, 10 * n + (s[k].toNat - 48), by omega, by have := HB.out; omega, by congr 1; omega, by go_num, HX.out⟩
          case measure => simp [intOf]; omega
      · have hc : isDig s[k] = false := by simpa using hc
        have hx := num_stop hr (numGo_no m _ _ n k hc)
        have HX := Lib.hid hx
        clear hx hr
        unfold isDig at hc; simp only [decide_eq_false_iff_not] at hc
        cases c1 : decide (48 ≤ (s[k].toNat : Int)) <;> cases c2 : decide ((s[k].toNat : Int) ≤ 57)
        case true.true => exfalso; simp at c1 c2; omega
        all_goals
          clear hc
          by_cases h0 : k = 0
          · subst h0
            go_wp2_with (go_at_call 27; refine (fault_any _ _).mono ?_; rintro e w' ⟨rfl, rfl⟩)
            go_ret3
            rw [HX.out.1 (by simp)]
            exact ⟨rfl, rfl⟩
          · have d0 : ((k : Int) == 0) = false := by simp; omega
            have H0 := Lib.hid h0; clear h0
            go_wp2_with fail
            go_ret3
            rw [HX.out.2 H0.out]
            exact ⟨rfl, rfl⟩
    · rw [drop_end s k hlt] at hr
      have hx := num_stop hr (numGo_nil m n k)
      have HX := Lib.hid hx
      clear hx hr
      by_cases h0 : k = 0
      · subst h0
        go_wp2_with (go_at_call 27; refine (fault_any _ _).mono ?_; rintro e w' ⟨rfl, rfl⟩)
        go_ret3
        rw [HX.out.1 (by simp)]
        exact ⟨rfl, rfl⟩
      · have d0 : ((k : Int) == 0) = false := by simp; omega
        have H0 := Lib.hid h0; clear h0
        go_wp2_with fail
        go_ret3
        rw [HX.out.2 H0.out]
        exact ⟨rfl, rfl⟩
end Go.Proofs.YtjfadhdnaloleaaDoor
