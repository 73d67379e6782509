/- The contracts of errors.Is over numbers of errors, and of a law's Code. -/
import Derived.Test.YtmfoffigmojdcaaGreatBase
import Derived.WalkKit
import Derived.LaidEql
import Derived.Stop.Asserts
import Derived.RowKitTokens
import Derived.WalkLawsBesides
namespace Go.Proofs.YtmfoffigmojdcaaGreat
open Go.RowKit Go.Extern.Stop Go.Stop Go.Extern

section
variable {P : Program} (w : World)
theorem eqlIn_errno (d : Nat) {ti tn : TypeId} {ms : Array (String × TypeId)} {i : TypeInfo} {k : IntKind} (a b : Int)
    (hi : P.underlying ti = some (.interface ms)) (hn : P.underlying tn = some (.int k)) (hinfo : P.info? tn = some i) (hcomp : i.comparable = true) :
    (Op.equalIn (d + 2) ti (.iface tn (.int k a)) (.iface tn (.int k b))).run P w = .ok (a == b) w := by
  simp [Op.equalIn, run_underlying hi, run_underlying hn, typeInfo, hinfo, hcomp]
theorem eql_errno {ti tn : TypeId} {ms : Array (String × TypeId)} {i : TypeInfo} {k : IntKind} (a b : Int)
    (hi : P.underlying ti = some (.interface ms)) (hn : P.underlying tn = some (.int k)) (hinfo : P.info? tn = some i) (hcomp : i.comparable = true) :
    (binOp .eql ti (.iface tn (.int k a)) (.iface tn (.int k b))).run P w = .ok (.bool (a == b)) w := by
  simp only [binOp]
  simp [Op.equal, Op.maxDepth, eqlIn_errno w 9998 a b hi hn hinfo hcomp]
end

abbrev errno (n : Int) : Value := .iface 85 (.int .i64 n)
theorem errno_comp : (Tryz.prog.info? 85).map (·.comparable) = some true := by kernel_rfl
theorem is_typeOf (v : Value) (w : World) : (Extern.ReflectliteType.typeOf #[.iface 85 v]).run Tryz.prog w = .ok (.iface 174 (.agg #[.pointer (some ⟨0, 85, none⟩)])) w := by kernel_rfl
theorem is_comparable (w : World) : ((Extern.ReflectliteType.method fun t => do Extern.Rtype.noPackHeld "Comparable" t; (fun a => Value.bool a.comparable) <$> typeInfo t) #[.agg #[.pointer (some ⟨0, 85, none⟩)]]).run Tryz.prog w = .ok (.bool true) w := by kernel_rfl
theorem is_method (v : Value) (w : World) : (Go.method 369 174 v "Comparable").run Tryz.prog w = .ok (195, v) w := by kernel_rfl
theorem errno_noIs (v : Value) (xT : TypeId) (w : World) : (Instr.typeAssert (.iface 85 v) xT 176 true).run Tryz.prog w = .ok (.tuple #[.nilIface, .bool false]) w := run_typeAssert_lacksB Tryz.underlying176 (by kernel_rfl) (by kernel_rfl) v xT w
theorem errno_noUnwrap (v : Value) (xT : TypeId) (w : World) : (Instr.typeAssert (.iface 85 v) xT 179 true).run Tryz.prog w = .ok (.tuple #[.nilIface, .bool false]) w := run_typeAssert_lacksB Tryz.underlying179 (by kernel_rfl) (by kernel_rfl) v xT w
theorem errno_noUnwraps (v : Value) (xT : TypeId) (w : World) : (Instr.typeAssert (.iface 85 v) xT 181 true).run Tryz.prog w = .ok (.tuple #[.nilIface, .bool false]) w := run_typeAssert_lacksB Tryz.underlying181 (by kernel_rfl) (by kernel_rfl) v xT w

set_option maxHeartbeats 400000 in
theorem is_errno (a b : Int) (w : World) :
    Calls Tryz.prog 33 #[.iface 85 (.int .i64 a), .iface 85 (.int .i64 b)] w fun e w' => e = .returned (.bool (a == b)) ∧ w = w' := by
  obtain ⟨i, hi, hcmp⟩ := Option.map_eq_some_iff.1 errno_comp
  have hT := @run_callFunc_extern Tryz.prog 64 _ Extern.ReflectliteType.typeOf Tryz.func64 (by kernel_rfl) (by kernel_rfl) (by kernel_rfl) (by kernel_rfl)
  have hC := @run_callFunc_extern Tryz.prog 195 _ (Extern.ReflectliteType.method fun t => do Extern.Rtype.noPackHeld "Comparable" t; pure (.bool (← typeInfo t).comparable)) Tryz.func195 (by kernel_rfl) (by kernel_rfl) (by kernel_rfl) (by kernel_rfl)
  have tT := is_typeOf
  have cT := is_comparable
  have mR := is_method
  have nE := errno_noIs
  have uE := errno_noUnwrap
  have vE := errno_noUnwraps
  have heq := eql_errno (P := Tryz.prog) w a b Tryz.underlying28 Tryz.underlying85 hi hcmp
  cases hab : (a == b)
  all_goals
    rw [hab] at heq
    clear hab
    go_enter Tryz.func33, Tryz.ntmps33
    go_wp2
    refine wp_loop_rounds 1 ?_
    rw [rounds_succ]
    go_wp2
    go_ret
    exact ⟨rfl, rfl⟩

/-- What a law's Code answers of a number of an error. -/
def codeB (n : Int) : Bool := decide (1 ≤ n ∧ n ≤ 15)
def codeF (n : Int) : Int := if codeB n then n else -1

set_option maxRecDepth 100000 in
set_option maxHeartbeats 400000 in
theorem code_nil (w : World) :
    Calls Tryz.prog 13 #[.nilIface] w fun e w' => e = .returned (.int .i64 0) ∧ w = w' := by
  have hn := run_eql_nil_nil (P := Tryz.prog) w 28 Tryz.underlying28
  go_enter Tryz.func13, Tryz.ntmps13
  go_wp2
  go_ret
  exact ⟨rfl, rfl⟩

set_option maxRecDepth 100000 in
set_option maxHeartbeats 1000000 in
theorem code_errno (n : Int) (h : codeB n = true) (w : World) :
    Calls Tryz.prog 13 #[.iface 85 (.int .i64 n)] w fun e w' => e = .returned (.int .i64 n) ∧ w = w' := by
  have hn := run_eql_held_nil (P := Tryz.prog) w 28 85 (.int .i64 n) Tryz.underlying28
  unfold codeB at h
  simp only [decide_eq_true_eq] at h
  obtain ⟨h1, h2⟩ := h
  go_enter Tryz.func13, Tryz.ntmps13
  go_wp2_with fail
  go_loop [3] (fun i => ∃ k : Nat, 1 ≤ k ∧ (k : Int) ≤ n ∧ i = .int .i64 k) (fun i => (16 - intOf i).toNat)
  case atStart => exact ⟨1, by omega, by omega, rfl⟩
  case round =>
    obtain ⟨k, hk1, hk2, rfl⟩ := hrel
    by_cases hlt : (k : Int) = n
    · have hb : ((n : Int) == (k : Int)) = true := by simp; omega
      go_wp2_with (go_at_call 33; refine (is_errno _ _ _).mono ?_; rintro e w' ⟨rfl, rfl⟩)
      go_ret
      exact ⟨rfl, rfl⟩
    · have hb : ((n : Int) == (k : Int)) = false := by simp; omega
      go_wp2_with (go_at_call 33; refine (is_errno _ _ _).mono ?_; rintro e w' ⟨rfl, rfl⟩)
      go_round
      case rel => exact ⟨k + 1, by omega, by omega, by go_num⟩
      case measure => simp [intOf]; omega
end Go.Proofs.YtmfoffigmojdcaaGreat
/- errors.Is, errors.As and a law's Code at a fault (a pointer to an api.Fault behind which a number of an error lies). -/
namespace Go.Proofs.YtmfoffigmojdcaaGreat
open Go.RowKit Go.Extern.Stop Go.Stop Go.Extern




end Go.Proofs.YtmfoffigmojdcaaGreat
/- errors.As at a target of type **api.Fault, the error a number of an error, or nil; a law's At of these. -/
namespace Go.Proofs.YtmfoffigmojdcaaGreat
open Go.RowKit Go.Extern.Stop Go.Stop Go.Extern
set_option linter.unusedVariables false






end Go.Proofs.YtmfoffigmojdcaaGreat
