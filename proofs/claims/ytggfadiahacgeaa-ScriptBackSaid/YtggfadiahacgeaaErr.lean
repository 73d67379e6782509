/- The contracts of errors.Is over numbers of errors, and of a law's Code. -/
import Derived.Test.YtggfadiahacgeaaBase
import Derived.WalkKit
import Derived.LaidEql
import Derived.Stop.Asserts
import Derived.RowKitTokens
import Derived.WalkLawsBesides
namespace Go.Proofs.Ytggfadiahacgeaa
open Go.RowKit Go.Extern.Stop Go.Stop Go.Extern

section
variable {P : Program} (w : World)
theorem eqlIn_errno (d : Nat) {ti tn : TypeId} {ms : Array (String × TypeId)} {i : TypeInfo} {k : IntKind} (a b : Int)
    (hi : P.underlying ti = some (.interface ms)) (hn : P.underlying tn = some (.int k)) (hinfo : P.info? tn = some i) (hcomp : i.comparable = true) :
    (Op.equalIn (d + 2) ti (.iface tn (.int k a)) (.iface tn (.int k b))).run P w = .ok (a == b) w := by
  simp [Op.equalIn, run_underlying hi, run_underlying hn, typeInfo, hinfo, hcomp]
theorem eql_errno {ti tn : TypeId} {ms : Array (String × TypeId)} {i : TypeInfo} {k : IntKind} (a b : Int)
    (hi : P.underlying ti = some (.interface ms)) (hn : P.underlying tn = some (.int k)) (hinfo : P.info? tn = some i) (hcomp : i.comparable = true) :
    (binOp .eql ti (.iface tn (.int k a)) (.iface tn (.int k b))).run P w = .ok (.bool (a == b)) w := by
  simp only [binOp]
  simp [Op.equal, Op.maxDepth, eqlIn_errno w 9998 a b hi hn hinfo hcomp]
end

abbrev errno (n : Int) : Value := .iface 51 (.int .i64 n)
theorem errno_comp : (Try.prog.info? 51).map (·.comparable) = some true := by kernel_rfl
theorem is_comparable (w : World) : ((Extern.ReflectliteType.method fun t => do Extern.Rtype.noPackHeld "Comparable" t; (fun a => Value.bool a.comparable) <$> typeInfo t) #[.agg #[.pointer (some ⟨0, 51, none⟩)]]).run Try.prog w = .ok (.bool true) w := by kernel_rfl


/-- What a law's Code answers of a number of an error. -/
def codeB (n : Int) : Bool := decide (1 ≤ n ∧ n ≤ 15)
def codeF (n : Int) : Int := if codeB n then n else -1


end Go.Proofs.Ytggfadiahacgeaa
/- errors.Is, errors.As and a law's Code at a fault (a pointer to an api.Fault behind which a number of an error lies). -/
namespace Go.Proofs.Ytggfadiahacgeaa
open Go.RowKit Go.Extern.Stop Go.Stop Go.Extern

/-- Block b is a fault's: its place, and the error behind it. -/
abbrev FaultAt (w : World) (b : Nat) (at_ n : Int) : Prop := Blk w b 53 #[.int .i64 at_, .iface 51 (.int .i64 n)]
abbrev faultV (b : Nat) : Value := .iface 50 (.pointer (some ⟨b, 0, none⟩))



end Go.Proofs.Ytggfadiahacgeaa
/- errors.As at a target of type **api.Fault, the error a number of an error, or nil; a law's At of these. -/
namespace Go.Proofs.Ytggfadiahacgeaa
open Go.RowKit Go.Extern.Stop Go.Stop Go.Extern
set_option linter.unusedVariables false






end Go.Proofs.Ytggfadiahacgeaa
