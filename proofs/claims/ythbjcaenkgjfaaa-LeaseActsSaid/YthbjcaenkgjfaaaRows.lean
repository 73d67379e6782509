/-
  No cell of these rows narrows 'for every input' (looked for: loops, veiled, ifaces, maps, wideKeys, modest, calm, conditions, laid).
  DERIVED. THE GIVEN ROWS OF THIS SEAT. 4 by the template 'for every input the law returns true; each argument reads behind the call as it read before'; 0 by the template 'total and deterministic' (their statements: YthbjcaenkgjfaaaTotals.lean).
  GIVEN WITH THE SEED: the statements are not yours to turn. If you find one false, say at which input.
  Laid BY PROGRAM, IN A SANDBOX (cutbox-rows.mjs): the forced cells as the released guide's own fill.sh prints them over the translation 1770081a4783023a… (all of the seat's roots in one cut). By AI agents, Wed Nov 11 2026. No macro, syntax, notation, axiom, sorry.
-/
import Derived.Test.YthbjcaenkgjfaaaChecked
import GoSem.Claim
import GoSem.ClaimJoined
import GoSem.ClaimMapViews
import Derived.JoinedTies
import Derived.KernelRfl
namespace Go.Proofs.Ythbjcaenkgjfaaa
/- THE CELL 'sum', in the pinned program and in every row, IS THE sha256 OF THE DUMP (.gsa) THAT YthbjcaenkgjfaaaProg.lean LOADS. Nothing in Lean hashes anything: it is a label: what it is worth is what the hold of that sum in a sandbox is worth. -/
noncomputable def Try.pinned : Pinned := { name := "ythbjcaenkgjfaaa", sum := "1770081a4783023ab99d863b33420e320bd0ccfee715a8ed865b37934cb99eae", checked := Try.checked }
namespace Rows
def none {H : Type} : Left H := { results := [], args := [] }

/-- 'catchboltlaw06.LeaseActs': WHATEVER THE INPUT: true; the input reads as it did. -/
def leaseActsSpec : ChangeSpec := { name := "leaseActs", fn := fun _ => fun
  | [d1, d2, d3, d4] => { results := [.lit (.bool true)], args := [d1, d2, d3, d4] }
  | _ => none }
def leaseActsRow : OpenClaim := { program := "ythbjcaenkgjfaaa", sum := "1770081a4783023ab99d863b33420e320bd0ccfee715a8ed865b37934cb99eae", func := "catchbolt/catchboltlaw06.LeaseActs", spec := "leaseActs", inPlace := ["internal/reflectlite.TypeOf"], unfollowed := true, recurses := true, apart := false }
def LeaseActsSaid : Prop := leaseActsRow.holds Try.pinned (OpenSpec.ofChange leaseActsSpec)

/-- ITS FALSE NEIGHBOUR: 'it returns false'. Refute it at one input. -/
def leaseActsWrong : ChangeSpec := { name := "leaseActs", fn := fun _ => fun
  | [d1, d2, d3, d4] => { results := [.lit (.bool false)], args := [d1, d2, d3, d4] }
  | _ => none }
def LeaseActsWrongFalsely : Prop := leaseActsRow.holds Try.pinned (OpenSpec.ofChange leaseActsWrong)

/-- 'catchboltlaw06.LeaseSpan': WHATEVER THE INPUT: true; the input reads as it did. -/
def leaseSpanSpec : ChangeSpec := { name := "leaseSpan", fn := fun _ => fun
  | [d1, d2, d3, d4] => { results := [.lit (.bool true)], args := [d1, d2, d3, d4] }
  | _ => none }
def leaseSpanRow : OpenClaim := { program := "ythbjcaenkgjfaaa", sum := "1770081a4783023ab99d863b33420e320bd0ccfee715a8ed865b37934cb99eae", func := "catchbolt/catchboltlaw06.LeaseSpan", spec := "leaseSpan", unfollowed := true, recurses := true, apart := false }
def LeaseSpanSaid : Prop := leaseSpanRow.holds Try.pinned (OpenSpec.ofChange leaseSpanSpec)

/-- ITS FALSE NEIGHBOUR: 'it returns false'. Refute it at one input. -/
def leaseSpanWrong : ChangeSpec := { name := "leaseSpan", fn := fun _ => fun
  | [d1, d2, d3, d4] => { results := [.lit (.bool false)], args := [d1, d2, d3, d4] }
  | _ => none }
def LeaseSpanWrongFalsely : Prop := leaseSpanRow.holds Try.pinned (OpenSpec.ofChange leaseSpanWrong)

/-- 'catchboltlaw06.LeaseNone': WHATEVER THE INPUT: true; the input reads as it did. -/
def leaseNoneSpec : ChangeSpec := { name := "leaseNone", fn := fun _ => fun
  | [d1, d2] => { results := [.lit (.bool true)], args := [d1, d2] }
  | _ => none }
def leaseNoneRow : OpenClaim := { program := "ythbjcaenkgjfaaa", sum := "1770081a4783023ab99d863b33420e320bd0ccfee715a8ed865b37934cb99eae", func := "catchbolt/catchboltlaw06.LeaseNone", spec := "leaseNone", inPlace := ["internal/reflectlite.TypeOf"], unfollowed := true, recurses := true, apart := false }
def LeaseNoneSaid : Prop := leaseNoneRow.holds Try.pinned (OpenSpec.ofChange leaseNoneSpec)

/-- ITS FALSE NEIGHBOUR: 'it returns false'. Refute it at one input. -/
def leaseNoneWrong : ChangeSpec := { name := "leaseNone", fn := fun _ => fun
  | [d1, d2] => { results := [.lit (.bool false)], args := [d1, d2] }
  | _ => none }
def LeaseNoneWrongFalsely : Prop := leaseNoneRow.holds Try.pinned (OpenSpec.ofChange leaseNoneWrong)

/-- 'catchboltlaw06.LeaseMax': WHATEVER THE INPUT: true; the input reads as it did. -/
def leaseMaxSpec : ChangeSpec := { name := "leaseMax", fn := fun _ => fun
  | [d1, d2, d3, d4] => { results := [.lit (.bool true)], args := [d1, d2, d3, d4] }
  | _ => none }
def leaseMaxRow : OpenClaim := { program := "ythbjcaenkgjfaaa", sum := "1770081a4783023ab99d863b33420e320bd0ccfee715a8ed865b37934cb99eae", func := "catchbolt/catchboltlaw06.LeaseMax", spec := "leaseMax", inPlace := ["internal/reflectlite.TypeOf"], unfollowed := true, recurses := true, apart := false }
def LeaseMaxSaid : Prop := leaseMaxRow.holds Try.pinned (OpenSpec.ofChange leaseMaxSpec)

/-- ITS FALSE NEIGHBOUR: 'it returns false'. Refute it at one input. -/
def leaseMaxWrong : ChangeSpec := { name := "leaseMax", fn := fun _ => fun
  | [d1, d2, d3, d4] => { results := [.lit (.bool false)], args := [d1, d2, d3, d4] }
  | _ => none }
def LeaseMaxWrongFalsely : Prop := leaseMaxRow.holds Try.pinned (OpenSpec.ofChange leaseMaxWrong)

/- THE SECOND FORM. 'bulk': how many values and letters a reading holds, each counted each time it is reached (what is shared counts as often as it is met; a slice's spare places count too). A statement '..UptoSaid' is the law's where the arguments, and the package variables that the reading takes, are together of bulk at most 1048576: NARROWER than '..Said'. Prove '..Said' where nothing that the law and all that it calls make is longer than what came in: it says more and counts as full. Else prove '..UptoSaid'. A law counts once. -/
mutual
def uptoBulk {H : Type} : DataW H → Nat
  | .lit (.string bytes) => bytes.length + 1
  | .lit _ => 1
  | .nil => 1
  | .ptr d => uptoBulk d + 1
  | .slice elems spare => uptoBulkAll elems + uptoBulkAll spare + 1
  | .agg parts => uptoBulkAll parts + 1
  | .iface _ d => uptoBulk d + 1
  | .map entries => uptoBulkEntries entries + 1
  | .held _ => 1
def uptoBulkAll {H : Type} : List (DataW H) → Nat
  | [] => 0
  | d :: r => uptoBulk d + uptoBulkAll r
def uptoBulkEntries {H : Type} : List (Lit × DataW H) → Nat
  | [] => 0
  | x :: r => uptoBulkEntry x + uptoBulkEntries r
def uptoBulkEntry {H : Type} : Lit × DataW H → Nat
  | (.string bytes, d) => bytes.length + uptoBulk d + 1
  | (_, d) => uptoBulk d + 1
 end
def uptoSmall : (H : Type) → List (DataW H) → Bool := fun _ ds => decide (uptoBulkAll ds ≤ 1048576)
def OpenSpec.upto (s : _root_.Go.ChangeSpec) : _root_.Go.OpenSpec := { _root_.Go.OpenSpec.ofChange s with cond := some uptoSmall }

/-- 'catchboltlaw06.LeaseActs', WHERE WHAT IT READS IS OF BULK AT MOST 1048576: true; the input reads as it did. -/
def leaseActsUptoRow : OpenClaim := { program := "ythbjcaenkgjfaaa", sum := "1770081a4783023ab99d863b33420e320bd0ccfee715a8ed865b37934cb99eae", func := "catchbolt/catchboltlaw06.LeaseActs", spec := "leaseActs", inPlace := ["internal/reflectlite.TypeOf"], unfollowed := true, recurses := true, apart := false, narrowed := true }
def LeaseActsUptoSaid : Prop := leaseActsUptoRow.holds Try.pinned (OpenSpec.upto leaseActsSpec)

/-- 'catchboltlaw06.LeaseSpan', WHERE WHAT IT READS IS OF BULK AT MOST 1048576: true; the input reads as it did. -/
def leaseSpanUptoRow : OpenClaim := { program := "ythbjcaenkgjfaaa", sum := "1770081a4783023ab99d863b33420e320bd0ccfee715a8ed865b37934cb99eae", func := "catchbolt/catchboltlaw06.LeaseSpan", spec := "leaseSpan", unfollowed := true, recurses := true, apart := false, narrowed := true }
def LeaseSpanUptoSaid : Prop := leaseSpanUptoRow.holds Try.pinned (OpenSpec.upto leaseSpanSpec)

/-- 'catchboltlaw06.LeaseNone', WHERE WHAT IT READS IS OF BULK AT MOST 1048576: true; the input reads as it did. -/
def leaseNoneUptoRow : OpenClaim := { program := "ythbjcaenkgjfaaa", sum := "1770081a4783023ab99d863b33420e320bd0ccfee715a8ed865b37934cb99eae", func := "catchbolt/catchboltlaw06.LeaseNone", spec := "leaseNone", inPlace := ["internal/reflectlite.TypeOf"], unfollowed := true, recurses := true, apart := false, narrowed := true }
def LeaseNoneUptoSaid : Prop := leaseNoneUptoRow.holds Try.pinned (OpenSpec.upto leaseNoneSpec)

/-- 'catchboltlaw06.LeaseMax', WHERE WHAT IT READS IS OF BULK AT MOST 1048576: true; the input reads as it did. -/
def leaseMaxUptoRow : OpenClaim := { program := "ythbjcaenkgjfaaa", sum := "1770081a4783023ab99d863b33420e320bd0ccfee715a8ed865b37934cb99eae", func := "catchbolt/catchboltlaw06.LeaseMax", spec := "leaseMax", inPlace := ["internal/reflectlite.TypeOf"], unfollowed := true, recurses := true, apart := false, narrowed := true }
def LeaseMaxUptoSaid : Prop := leaseMaxUptoRow.holds Try.pinned (OpenSpec.upto leaseMaxSpec)

end Rows
end Go.Proofs.Ythbjcaenkgjfaaa
