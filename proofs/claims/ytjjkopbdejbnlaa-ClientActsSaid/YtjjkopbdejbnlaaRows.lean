/-
  No cell of these rows narrows 'for every input' (looked for: loops, veiled, ifaces, maps, wideKeys, modest, calm, conditions, laid).
  DERIVED. THE GIVEN ROWS OF THIS SEAT. 3 by the template 'for every input the law returns true; each argument reads behind the call as it read before'; 0 by the template 'total and deterministic' (their statements: YtjjkopbdejbnlaaTotals.lean).
  GIVEN WITH THE SEED: the statements are not yours to turn. If you find one false, say at which input.
  Laid BY PROGRAM, IN A SANDBOX (cutbox-rows.mjs): the forced cells as the released guide's own fill.sh prints them over the translation c3700de92f5f7bec… (all of the seat's roots in one cut). By AI agents, Wed Nov 11 2026. No macro, syntax, notation, axiom, sorry.
-/
import Derived.Test.YtjjkopbdejbnlaaChecked
import GoSem.Claim
import GoSem.ClaimJoined
import GoSem.ClaimMapViews
import Derived.JoinedTies
import Derived.KernelRfl
namespace Go.Proofs.Ytjjkopbdejbnlaa
/- THE CELL 'sum', in the pinned program and in every row, IS THE sha256 OF THE DUMP (.gsa) THAT YtjjkopbdejbnlaaProg.lean LOADS. Nothing in Lean hashes anything: it is a label: what it is worth is what the hold of that sum in a sandbox is worth. -/
noncomputable def Try.pinned : Pinned := { name := "ytjjkopbdejbnlaa", sum := "c3700de92f5f7bec969637498e28f69f33763160458dc695128e3d4edcec9c59", checked := Try.checked }
namespace Rows
def none {H : Type} : Left H := { results := [], args := [] }

/-- 'catchboltlaw16.ClientActs': WHATEVER THE INPUT: true; the input reads as it did. -/
def clientActsSpec : ChangeSpec := { name := "clientActs", fn := fun _ => fun
  | [d1, d2, d3, d4, d5] => { results := [.lit (.bool true)], args := [d1, d2, d3, d4, d5] }
  | _ => none }
def clientActsRow : OpenClaim := { program := "ytjjkopbdejbnlaa", sum := "c3700de92f5f7bec969637498e28f69f33763160458dc695128e3d4edcec9c59", func := "catchbolt/catchboltlaw16.ClientActs", spec := "clientActs", inPlace := ["internal/reflectlite.TypeOf"], unfollowed := true, recurses := true, apart := false }
def ClientActsSaid : Prop := clientActsRow.holds Try.pinned (OpenSpec.ofChange clientActsSpec)

/-- ITS FALSE NEIGHBOUR: 'it returns false'. Refute it at one input. -/
def clientActsWrong : ChangeSpec := { name := "clientActs", fn := fun _ => fun
  | [d1, d2, d3, d4, d5] => { results := [.lit (.bool false)], args := [d1, d2, d3, d4, d5] }
  | _ => none }
def ClientActsWrongFalsely : Prop := clientActsRow.holds Try.pinned (OpenSpec.ofChange clientActsWrong)

/-- 'catchboltlaw16.ClientOne': WHATEVER THE INPUT: true; the input reads as it did. -/
def clientOneSpec : ChangeSpec := { name := "clientOne", fn := fun _ => fun
  | [d] => { results := [.lit (.bool true)], args := [d] }
  | _ => none }
def clientOneRow : OpenClaim := { program := "ytjjkopbdejbnlaa", sum := "c3700de92f5f7bec969637498e28f69f33763160458dc695128e3d4edcec9c59", func := "catchbolt/catchboltlaw16.ClientOne", spec := "clientOne", inPlace := ["internal/reflectlite.TypeOf"], unfollowed := true, recurses := true, apart := false }
def ClientOneSaid : Prop := clientOneRow.holds Try.pinned (OpenSpec.ofChange clientOneSpec)

/-- ITS FALSE NEIGHBOUR: 'it returns false'. Refute it at one input. -/
def clientOneWrong : ChangeSpec := { name := "clientOne", fn := fun _ => fun
  | [d] => { results := [.lit (.bool false)], args := [d] }
  | _ => none }
def ClientOneWrongFalsely : Prop := clientOneRow.holds Try.pinned (OpenSpec.ofChange clientOneWrong)

/-- 'catchboltlaw16.ClientLater': WHATEVER THE INPUT: true; the input reads as it did. -/
def clientLaterSpec : ChangeSpec := { name := "clientLater", fn := fun _ => fun
  | [d1, d2, d3, d4, d5] => { results := [.lit (.bool true)], args := [d1, d2, d3, d4, d5] }
  | _ => none }
def clientLaterRow : OpenClaim := { program := "ytjjkopbdejbnlaa", sum := "c3700de92f5f7bec969637498e28f69f33763160458dc695128e3d4edcec9c59", func := "catchbolt/catchboltlaw16.ClientLater", spec := "clientLater", inPlace := ["internal/reflectlite.TypeOf"], unfollowed := true, recurses := true, apart := false }
def ClientLaterSaid : Prop := clientLaterRow.holds Try.pinned (OpenSpec.ofChange clientLaterSpec)

/-- ITS FALSE NEIGHBOUR: 'it returns false'. Refute it at one input. -/
def clientLaterWrong : ChangeSpec := { name := "clientLater", fn := fun _ => fun
  | [d1, d2, d3, d4, d5] => { results := [.lit (.bool false)], args := [d1, d2, d3, d4, d5] }
  | _ => none }
def ClientLaterWrongFalsely : Prop := clientLaterRow.holds Try.pinned (OpenSpec.ofChange clientLaterWrong)

/- THE SECOND FORM. 'bulk': how many values and letters a reading holds, each counted each time it is reached (what is shared counts as often as it is met; a slice's spare places count too). A statement '..UptoSaid' is the law's where the arguments, and the package variables that the reading takes, are together of bulk at most 1048576: NARROWER than '..Said'. Prove '..Said' where nothing that the law and all that it calls make is longer than what came in: it says more and counts as full. Else prove '..UptoSaid'. A law counts once. -/
mutual
def uptoBulk {H : Type} : DataW H → Nat
  | .lit (.string bytes) => bytes.length + 1
  | .lit _ => 1
  | .nil => 1
  | .ptr d => uptoBulk d + 1
  | .slice elems spare => uptoBulkAll elems + uptoBulkAll spare + 1
  | .agg parts => uptoBulkAll parts + 1
  | .iface _ d => uptoBulk d + 1
  | .map entries => uptoBulkEntries entries + 1
  | .held _ => 1
def uptoBulkAll {H : Type} : List (DataW H) → Nat
  | [] => 0
  | d :: r => uptoBulk d + uptoBulkAll r
def uptoBulkEntries {H : Type} : List (Lit × DataW H) → Nat
  | [] => 0
  | x :: r => uptoBulkEntry x + uptoBulkEntries r
def uptoBulkEntry {H : Type} : Lit × DataW H → Nat
  | (.string bytes, d) => bytes.length + uptoBulk d + 1
  | (_, d) => uptoBulk d + 1
 end
def uptoSmall : (H : Type) → List (DataW H) → Bool := fun _ ds => decide (uptoBulkAll ds ≤ 1048576)
def OpenSpec.upto (s : _root_.Go.ChangeSpec) : _root_.Go.OpenSpec := { _root_.Go.OpenSpec.ofChange s with cond := some uptoSmall }

/-- 'catchboltlaw16.ClientActs', WHERE WHAT IT READS IS OF BULK AT MOST 1048576: true; the input reads as it did. -/
def clientActsUptoRow : OpenClaim := { program := "ytjjkopbdejbnlaa", sum := "c3700de92f5f7bec969637498e28f69f33763160458dc695128e3d4edcec9c59", func := "catchbolt/catchboltlaw16.ClientActs", spec := "clientActs", inPlace := ["internal/reflectlite.TypeOf"], unfollowed := true, recurses := true, apart := false, narrowed := true }
def ClientActsUptoSaid : Prop := clientActsUptoRow.holds Try.pinned (OpenSpec.upto clientActsSpec)

/-- 'catchboltlaw16.ClientOne', WHERE WHAT IT READS IS OF BULK AT MOST 1048576: true; the input reads as it did. -/
def clientOneUptoRow : OpenClaim := { program := "ytjjkopbdejbnlaa", sum := "c3700de92f5f7bec969637498e28f69f33763160458dc695128e3d4edcec9c59", func := "catchbolt/catchboltlaw16.ClientOne", spec := "clientOne", inPlace := ["internal/reflectlite.TypeOf"], unfollowed := true, recurses := true, apart := false, narrowed := true }
def ClientOneUptoSaid : Prop := clientOneUptoRow.holds Try.pinned (OpenSpec.upto clientOneSpec)

/-- 'catchboltlaw16.ClientLater', WHERE WHAT IT READS IS OF BULK AT MOST 1048576: true; the input reads as it did. -/
def clientLaterUptoRow : OpenClaim := { program := "ytjjkopbdejbnlaa", sum := "c3700de92f5f7bec969637498e28f69f33763160458dc695128e3d4edcec9c59", func := "catchbolt/catchboltlaw16.ClientLater", spec := "clientLater", inPlace := ["internal/reflectlite.TypeOf"], unfollowed := true, recurses := true, apart := false, narrowed := true }
def ClientLaterUptoSaid : Prop := clientLaterUptoRow.holds Try.pinned (OpenSpec.upto clientLaterSpec)

end Rows
end Go.Proofs.Ytjjkopbdejbnlaa
