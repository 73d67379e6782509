/- errors.Is, errors.As and a law's Code at a fault (a pointer to an api.Fault behind which a number of an error lies). -/
import Derived.Test.YthdfgdehddmkpaaErr
namespace Go.Proofs.Ythdfgdehddmkpaa
open Go.RowKit Go.Extern.Stop Go.Stop Go.Extern

/-- Block b is a fault's: its place, and the error behind it. -/
abbrev FaultAt (w : World) (b : Nat) (at_ n : Int) : Prop := Blk w b 84 #[.int .i64 at_, .iface 55 (.int .i64 n)]
abbrev faultV (b : Nat) : Value := .iface 82 (.pointer (some ⟨b, 0, none⟩))

theorem ptrf_typeOf (v : Value) (w : World) : (Extern.ReflectliteType.typeOf #[.iface 82 v]).run Try.prog w = .ok (.iface 87 (.agg #[.pointer (some ⟨0, 82, none⟩)])) w := by kernel_rfl
theorem fault_noIs (v : Value) (xT : TypeId) (w : World) : (Instr.typeAssert (.iface 82 v) xT 89 true).run Try.prog w = .ok (.tuple #[.nilIface, .bool false]) w := run_typeAssert_lacksB Try.underlying89 (by kernel_rfl) (by kernel_rfl) v xT w
theorem fault_unwrap (v : Value) (xT : TypeId) (w : World) : (Instr.typeAssert (.iface 82 v) xT 92 true).run Try.prog w = .ok (.tuple #[.iface 82 v, .bool true]) w := run_typeAssert_hasB Try.underlying92 (by kernel_rfl) v xT w
theorem fault_method (v : Value) (w : World) : (Go.method 232 82 v "Unwrap").run Try.prog w = .ok (65, v) w := by kernel_rfl

set_option maxRecDepth 100000 in
set_option maxHeartbeats 1000000 in
theorem is_fault (b : Nat) (a n k : Int) (w : World) (hb : FaultAt w b a n) :
    Calls Try.prog 21 #[faultV b, .iface 55 (.int .i64 k)] w fun e w' => e = .returned (.bool (n == k)) ∧ w = w' := by
  obtain ⟨i, hi, hcmp⟩ := Option.map_eq_some_iff.1 errno_comp
  have hT := @run_callFunc_extern Try.prog 30 _ Extern.ReflectliteType.typeOf Try.func30 (by kernel_rfl) (by kernel_rfl) (by kernel_rfl) (by kernel_rfl)
  have hC := @run_callFunc_extern Try.prog 69 _ (Extern.ReflectliteType.method fun t => do Extern.Rtype.noPackHeld "Comparable" t; pure (.bool (← typeInfo t).comparable)) Try.func69 (by kernel_rfl) (by kernel_rfl) (by kernel_rfl) (by kernel_rfl)
  have tT := is_typeOf
  have cT := is_comparable
  have mR := is_method
  have nE := errno_noIs
  have uE := errno_noUnwrap
  have vE := errno_noUnwraps
  have nF := fault_noIs
  have uF := fault_unwrap
  have mF := fault_method
  have hne := run_eql_iface_types (P := Try.prog) 82 55 (.pointer (some ⟨b, 0, none⟩)) (.int .i64 k) Try.underlying33 (by decide) w
  have h0 := run_eql_held_nil (P := Try.prog) w 33 55 (.int .i64 n) Try.underlying33
  have heq := eql_errno (P := Try.prog) w n k Try.underlying33 Try.underlying55 hi hcmp
  have hc0 : w.cell? ⟨b, 0, none⟩ = some (.int .i64 a) := hb.cell 0
  have hc1 : w.cell? ⟨b, 1, none⟩ = some (.iface 55 (.int .i64 n)) := hb.cell 1
  clear hb
  cases hab : (n == k)
  all_goals
    rw [hab] at heq
    clear hab
    go_enter Try.func21, Try.ntmps21
    go_wp2
    refine wp_loop_rounds 2 ?_
    rw [rounds_succ]
    go_wp2
    rw [rounds_succ]
    go_wp2
    go_ret
    exact ⟨rfl, rfl⟩

set_option maxRecDepth 100000 in
set_option maxHeartbeats 1000000 in
theorem code_fault (b : Nat) (a n : Int) (h : codeB n = true) (w : World) (hb : FaultAt w b a n) :
    Calls Try.prog 11 #[faultV b] w fun e w' => e = .returned (.int .i64 n) ∧ w = w' := by
  have hn := run_eql_held_nil (P := Try.prog) w 33 82 (.pointer (some ⟨b, 0, none⟩)) Try.underlying33
  unfold codeB at h
  simp only [decide_eq_true_eq] at h
  obtain ⟨h1, h2⟩ := h
  have HB := Lib.hid hb; clear hb
  go_enter Try.func11, Try.ntmps11
  go_wp2_with fail
  go_loop [3] (fun i => ∃ k : Nat, 1 ≤ k ∧ (k : Int) ≤ n ∧ i = .int .i64 k) (fun i => (16 - intOf i).toNat)
  case atStart => exact ⟨1, by omega, by omega, rfl⟩
  case round =>
    obtain ⟨k, hk1, hk2, rfl⟩ := hrel
    by_cases hlt : (k : Int) = n
    · have hb : ((n : Int) == (k : Int)) = true := by simp; omega
      go_wp2_with (go_at_call 21; refine (is_fault _ _ _ _ _ HB.out).mono ?_; rintro e w' ⟨rfl, rfl⟩)
      go_ret
      exact ⟨rfl, rfl⟩
    · have hb : ((n : Int) == (k : Int)) = false := by simp; omega
      go_wp2_with (go_at_call 21; refine (is_fault _ _ _ _ _ HB.out).mono ?_; rintro e w' ⟨rfl, rfl⟩)
      go_round
      case rel => exact ⟨k + 1, by omega, by omega, by go_num⟩
      case measure => simp [intOf]; omega
end Go.Proofs.Ythdfgdehddmkpaa
