/- errors.Is, errors.As and a law's Code at a fault (a pointer to an api.Fault behind which a number of an error lies). -/
import Derived.Test.YthgckcbfchigfaaDoorErr
namespace Go.Proofs.YthgckcbfchigfaaDoor
open Go.RowKit Go.Extern.Stop Go.Stop Go.Extern

/-- Block b is a fault's: its place, and the error behind it. -/
abbrev FaultAt (w : World) (b : Nat) (at_ n : Int) : Prop := Blk w b 51 #[.int .i64 at_, .iface 47 (.int .i64 n)]
abbrev faultV (b : Nat) : Value := .iface 49 (.pointer (some ⟨b, 0, none⟩))

theorem ptrf_typeOf (v : Value) (w : World) : (Extern.ReflectliteType.typeOf #[.iface 49 v]).run Tryd.prog w = .ok (.iface 75 (.agg #[.pointer (some ⟨1, 49, none⟩)])) w := by kernel_rfl
theorem fault_noIs (v : Value) (xT : TypeId) (w : World) : (Instr.typeAssert (.iface 49 v) xT 77 true).run Tryd.prog w = .ok (.tuple #[.nilIface, .bool false]) w := run_typeAssert_lacksB Tryd.underlying77 (by kernel_rfl) (by kernel_rfl) v xT w
theorem fault_unwrap (v : Value) (xT : TypeId) (w : World) : (Instr.typeAssert (.iface 49 v) xT 80 true).run Tryd.prog w = .ok (.tuple #[.iface 49 v, .bool true]) w := run_typeAssert_hasB Tryd.underlying80 (by kernel_rfl) v xT w
theorem fault_method (v : Value) (w : World) : (Go.method 219 49 v "Unwrap").run Tryd.prog w = .ok (53, v) w := by kernel_rfl

set_option maxRecDepth 100000 in
set_option maxHeartbeats 1000000 in
theorem is_fault (b : Nat) (a n k : Int) (w : World) (hb : FaultAt w b a n) :
    Calls Tryd.prog 22 #[faultV b, .iface 47 (.int .i64 k)] w fun e w' => e = .returned (.bool (n == k)) ∧ w = w' := by
  obtain ⟨i, hi, hcmp⟩ := Option.map_eq_some_iff.1 errno_comp
  have hT := @run_callFunc_extern Tryd.prog 26 _ Extern.ReflectliteType.typeOf Tryd.func26 (by kernel_rfl) (by kernel_rfl) (by kernel_rfl) (by kernel_rfl)
  have hC := @run_callFunc_extern Tryd.prog 59 _ (Extern.ReflectliteType.method fun t => do Extern.Rtype.noPackHeld "Comparable" t; pure (.bool (← typeInfo t).comparable)) Tryd.func59 (by kernel_rfl) (by kernel_rfl) (by kernel_rfl) (by kernel_rfl)
  have tT := is_typeOf
  have cT := is_comparable
  have mR := is_method
  have nE := errno_noIs
  have uE := errno_noUnwrap
  have vE := errno_noUnwraps
  have nF := fault_noIs
  have uF := fault_unwrap
  have mF := fault_method
  have hne := run_eql_iface_types (P := Tryd.prog) 49 47 (.pointer (some ⟨b, 0, none⟩)) (.int .i64 k) Tryd.underlying26 (by decide) w
  have h0 := run_eql_held_nil (P := Tryd.prog) w 26 47 (.int .i64 n) Tryd.underlying26
  have heq := eql_errno (P := Tryd.prog) w n k Tryd.underlying26 Tryd.underlying47 hi hcmp
  have hc0 : w.cell? ⟨b, 0, none⟩ = some (.int .i64 a) := hb.cell 0
  have hc1 : w.cell? ⟨b, 1, none⟩ = some (.iface 47 (.int .i64 n)) := hb.cell 1
  clear hb
  cases hab : (n == k)
  all_goals
    rw [hab] at heq
    clear hab
    go_enter Tryd.func22, Tryd.ntmps22
    go_wp2
    refine wp_loop_rounds 2 ?_
    rw [rounds_succ]
    go_wp2
    rw [rounds_succ]
    go_wp2
    go_ret
    exact ⟨rfl, rfl⟩

set_option maxRecDepth 100000 in
set_option maxHeartbeats 1000000 in
theorem code_fault (b : Nat) (a n : Int) (h : codeB n = true) (w : World) (hb : FaultAt w b a n) :
    Calls Tryd.prog 11 #[faultV b] w fun e w' => e = .returned (.int .i64 n) ∧ w = w' := by
  have hn := run_eql_held_nil (P := Tryd.prog) w 26 49 (.pointer (some ⟨b, 0, none⟩)) Tryd.underlying26
  unfold codeB at h
  simp only [decide_eq_true_eq] at h
  obtain ⟨h1, h2⟩ := h
  have HB := Lib.hid hb; clear hb
  go_enter Tryd.func11, Tryd.ntmps11
  go_wp2_with fail
  go_loop [3] (fun i => ∃ k : Nat, 1 ≤ k ∧ (k : Int) ≤ n ∧ i = .int .i64 k) (fun i => (16 - intOf i).toNat)
  case atStart => exact ⟨1, by omega, by omega, rfl⟩
  case round =>
    obtain ⟨k, hk1, hk2, rfl⟩ := hrel
    by_cases hlt : (k : Int) = n
    · have hb : ((n : Int) == (k : Int)) = true := by simp; omega
      go_wp2_with (go_at_call 22; refine (is_fault _ _ _ _ _ HB.out).mono ?_; rintro e w' ⟨rfl, rfl⟩)
      go_ret
      exact ⟨rfl, rfl⟩
    · have hb : ((n : Int) == (k : Int)) = false := by simp; omega
      go_wp2_with (go_at_call 22; refine (is_fault _ _ _ _ _ HB.out).mono ?_; rintro e w' ⟨rfl, rfl⟩)
      go_round
      case rel => exact ⟨k + 1, by omega, by omega, by go_num⟩
      case measure => simp [intOf]; omega
end Go.Proofs.YthgckcbfchigfaaDoor
