/-
  No cell of these rows narrows 'for every input' (looked for: loops, veiled, ifaces, maps, wideKeys, modest, calm, conditions, laid).
  DERIVED. THE GIVEN ROWS OF THIS SEAT. 6 by the template 'for every input the law returns true; each argument reads behind the call as it read before'; 0 by the template 'total and deterministic' (their statements: YtadnlannbafjpaaGreatTotals.lean).
  GIVEN WITH THE SEED: the statements are not yours to turn. If you find one false, say at which input.
  Laid BY PROGRAM, IN A SANDBOX (cutbox-rows.mjs): the forced cells as the released guide's own fill.sh prints them over the translation 9327cf0cb3c2fd03… (all of the seat's roots in one cut). By AI agents, Wed Nov 11 2026. No macro, syntax, notation, axiom, sorry.
-/
import Derived.Test.YtadnlannbafjpaaGreatChecked
import GoSem.Claim
import GoSem.ClaimJoined
import GoSem.ClaimMapViews
import Derived.JoinedTies
import Derived.KernelRfl
namespace Go.Proofs.YtadnlannbafjpaaGreat
/- THE CELL 'sum', in the pinned program and in every row, IS THE sha256 OF THE DUMP (.gsa) THAT YtadnlannbafjpaaGreatProg.lean LOADS. Nothing in Lean hashes anything: it is a label: what it is worth is what the hold of that sum in a sandbox is worth. -/
noncomputable def Tryz.pinned : Pinned := { name := "ytadnlannbafjpaagreat", sum := "9327cf0cb3c2fd031bf72cc19741984a5cf6d6a0c10e4946f96f7ed02d744c06", checked := Tryz.checked }
namespace Rows
def none {H : Type} : Left H := { results := [], args := [] }

/-- 'catchboltlaw18.CoordPlays': WHATEVER THE INPUT: true; the input reads as it did. -/
def coordPlaysSpec : ChangeSpec := { name := "coordPlays", fn := fun _ => fun
  | [d1, d2, d3] => { results := [.lit (.bool true)], args := [d1, d2, d3] }
  | _ => none }
def coordPlaysRow : OpenClaim := { program := "ytadnlannbafjpaagreat", sum := "9327cf0cb3c2fd031bf72cc19741984a5cf6d6a0c10e4946f96f7ed02d744c06", func := "catchbolt/catchboltlaw18.CoordPlays", spec := "coordPlays", inPlace := ["internal/reflectlite.TypeOf"], unfollowed := true, recurses := true, apart := false }
def CoordPlaysSaid : Prop := coordPlaysRow.holds Tryz.pinned (OpenSpec.ofChange coordPlaysSpec)

/-- ITS FALSE NEIGHBOUR: 'it returns false'. Refute it at one input. -/
def coordPlaysWrong : ChangeSpec := { name := "coordPlays", fn := fun _ => fun
  | [d1, d2, d3] => { results := [.lit (.bool false)], args := [d1, d2, d3] }
  | _ => none }
def CoordPlaysWrongFalsely : Prop := coordPlaysRow.holds Tryz.pinned (OpenSpec.ofChange coordPlaysWrong)

/-- 'catchboltlaw18.CoordOnce': WHATEVER THE INPUT: true; the input reads as it did. -/
def coordOnceSpec : ChangeSpec := { name := "coordOnce", fn := fun _ => fun
  | [d1, d2] => { results := [.lit (.bool true)], args := [d1, d2] }
  | _ => none }
def coordOnceRow : OpenClaim := { program := "ytadnlannbafjpaagreat", sum := "9327cf0cb3c2fd031bf72cc19741984a5cf6d6a0c10e4946f96f7ed02d744c06", func := "catchbolt/catchboltlaw18.CoordOnce", spec := "coordOnce", inPlace := ["internal/reflectlite.TypeOf"], unfollowed := true, recurses := true, apart := false }
def CoordOnceSaid : Prop := coordOnceRow.holds Tryz.pinned (OpenSpec.ofChange coordOnceSpec)

/-- ITS FALSE NEIGHBOUR: 'it returns false'. Refute it at one input. -/
def coordOnceWrong : ChangeSpec := { name := "coordOnce", fn := fun _ => fun
  | [d1, d2] => { results := [.lit (.bool false)], args := [d1, d2] }
  | _ => none }
def CoordOnceWrongFalsely : Prop := coordOnceRow.holds Tryz.pinned (OpenSpec.ofChange coordOnceWrong)

/-- 'catchboltlaw18.CoordWounds': WHATEVER THE INPUT: true; the input reads as it did. -/
def coordWoundsSpec : ChangeSpec := { name := "coordWounds", fn := fun _ => fun
  | [d1, d2] => { results := [.lit (.bool true)], args := [d1, d2] }
  | _ => none }
def coordWoundsRow : OpenClaim := { program := "ytadnlannbafjpaagreat", sum := "9327cf0cb3c2fd031bf72cc19741984a5cf6d6a0c10e4946f96f7ed02d744c06", func := "catchbolt/catchboltlaw18.CoordWounds", spec := "coordWounds", inPlace := ["internal/reflectlite.TypeOf"], unfollowed := true, recurses := true, apart := false }
def CoordWoundsSaid : Prop := coordWoundsRow.holds Tryz.pinned (OpenSpec.ofChange coordWoundsSpec)

/-- ITS FALSE NEIGHBOUR: 'it returns false'. Refute it at one input. -/
def coordWoundsWrong : ChangeSpec := { name := "coordWounds", fn := fun _ => fun
  | [d1, d2] => { results := [.lit (.bool false)], args := [d1, d2] }
  | _ => none }
def CoordWoundsWrongFalsely : Prop := coordWoundsRow.holds Tryz.pinned (OpenSpec.ofChange coordWoundsWrong)

/-- 'catchboltlaw18.CoordCircles': WHATEVER THE INPUT: true; the input reads as it did. -/
def coordCirclesSpec : ChangeSpec := { name := "coordCircles", fn := fun _ => fun
  | [d1, d2] => { results := [.lit (.bool true)], args := [d1, d2] }
  | _ => none }
def coordCirclesRow : OpenClaim := { program := "ytadnlannbafjpaagreat", sum := "9327cf0cb3c2fd031bf72cc19741984a5cf6d6a0c10e4946f96f7ed02d744c06", func := "catchbolt/catchboltlaw18.CoordCircles", spec := "coordCircles", inPlace := ["internal/reflectlite.TypeOf"], unfollowed := true, recurses := true, apart := false }
def CoordCirclesSaid : Prop := coordCirclesRow.holds Tryz.pinned (OpenSpec.ofChange coordCirclesSpec)

/-- ITS FALSE NEIGHBOUR: 'it returns false'. Refute it at one input. -/
def coordCirclesWrong : ChangeSpec := { name := "coordCircles", fn := fun _ => fun
  | [d1, d2] => { results := [.lit (.bool false)], args := [d1, d2] }
  | _ => none }
def CoordCirclesWrongFalsely : Prop := coordCirclesRow.holds Tryz.pinned (OpenSpec.ofChange coordCirclesWrong)

/-- 'catchboltlaw18.CoordSends': WHATEVER THE INPUT: true; the input reads as it did. -/
def coordSendsSpec : ChangeSpec := { name := "coordSends", fn := fun _ => fun
  | [d1, d2] => { results := [.lit (.bool true)], args := [d1, d2] }
  | _ => none }
def coordSendsRow : OpenClaim := { program := "ytadnlannbafjpaagreat", sum := "9327cf0cb3c2fd031bf72cc19741984a5cf6d6a0c10e4946f96f7ed02d744c06", func := "catchbolt/catchboltlaw18.CoordSends", spec := "coordSends", inPlace := ["internal/reflectlite.TypeOf"], unfollowed := true, recurses := true, apart := false }
def CoordSendsSaid : Prop := coordSendsRow.holds Tryz.pinned (OpenSpec.ofChange coordSendsSpec)

/-- ITS FALSE NEIGHBOUR: 'it returns false'. Refute it at one input. -/
def coordSendsWrong : ChangeSpec := { name := "coordSends", fn := fun _ => fun
  | [d1, d2] => { results := [.lit (.bool false)], args := [d1, d2] }
  | _ => none }
def CoordSendsWrongFalsely : Prop := coordSendsRow.holds Tryz.pinned (OpenSpec.ofChange coordSendsWrong)

/-- 'catchboltlaw18.CoordTwice': WHATEVER THE INPUT: true; the input reads as it did. -/
def coordTwiceSpec : ChangeSpec := { name := "coordTwice", fn := fun _ => fun
  | [d1, d2] => { results := [.lit (.bool true)], args := [d1, d2] }
  | _ => none }
def coordTwiceRow : OpenClaim := { program := "ytadnlannbafjpaagreat", sum := "9327cf0cb3c2fd031bf72cc19741984a5cf6d6a0c10e4946f96f7ed02d744c06", func := "catchbolt/catchboltlaw18.CoordTwice", spec := "coordTwice", inPlace := ["internal/reflectlite.TypeOf"], unfollowed := true, recurses := true, apart := false }
def CoordTwiceSaid : Prop := coordTwiceRow.holds Tryz.pinned (OpenSpec.ofChange coordTwiceSpec)

/-- ITS FALSE NEIGHBOUR: 'it returns false'. Refute it at one input. -/
def coordTwiceWrong : ChangeSpec := { name := "coordTwice", fn := fun _ => fun
  | [d1, d2] => { results := [.lit (.bool false)], args := [d1, d2] }
  | _ => none }
def CoordTwiceWrongFalsely : Prop := coordTwiceRow.holds Tryz.pinned (OpenSpec.ofChange coordTwiceWrong)

/- THE SECOND FORM. 'bulk': how many values and letters a reading holds, each counted each time it is reached (what is shared counts as often as it is met; a slice's spare places count too). A statement '..UptoSaid' is the law's where the arguments, and the package variables that the reading takes, are together of bulk at most 1048576: NARROWER than '..Said'. Prove '..Said' where nothing that the law and all that it calls make is longer than what came in: it says more and counts as full. Else prove '..UptoSaid'. A law counts once. -/
mutual
def uptoBulk {H : Type} : DataW H → Nat
  | .lit (.string bytes) => bytes.length + 1
  | .lit _ => 1
  | .nil => 1
  | .ptr d => uptoBulk d + 1
  | .slice elems spare => uptoBulkAll elems + uptoBulkAll spare + 1
  | .agg parts => uptoBulkAll parts + 1
  | .iface _ d => uptoBulk d + 1
  | .map entries => uptoBulkEntries entries + 1
  | .held _ => 1
def uptoBulkAll {H : Type} : List (DataW H) → Nat
  | [] => 0
  | d :: r => uptoBulk d + uptoBulkAll r
def uptoBulkEntries {H : Type} : List (Lit × DataW H) → Nat
  | [] => 0
  | x :: r => uptoBulkEntry x + uptoBulkEntries r
def uptoBulkEntry {H : Type} : Lit × DataW H → Nat
  | (.string bytes, d) => bytes.length + uptoBulk d + 1
  | (_, d) => uptoBulk d + 1
 end
def uptoSmall : (H : Type) → List (DataW H) → Bool := fun _ ds => decide (uptoBulkAll ds ≤ 1048576)
def OpenSpec.upto (s : _root_.Go.ChangeSpec) : _root_.Go.OpenSpec := { _root_.Go.OpenSpec.ofChange s with cond := some uptoSmall }

/-- 'catchboltlaw18.CoordPlays', WHERE WHAT IT READS IS OF BULK AT MOST 1048576: true; the input reads as it did. -/
def coordPlaysUptoRow : OpenClaim := { program := "ytadnlannbafjpaagreat", sum := "9327cf0cb3c2fd031bf72cc19741984a5cf6d6a0c10e4946f96f7ed02d744c06", func := "catchbolt/catchboltlaw18.CoordPlays", spec := "coordPlays", inPlace := ["internal/reflectlite.TypeOf"], unfollowed := true, recurses := true, apart := false, narrowed := true }
def CoordPlaysUptoSaid : Prop := coordPlaysUptoRow.holds Tryz.pinned (OpenSpec.upto coordPlaysSpec)

/-- 'catchboltlaw18.CoordOnce', WHERE WHAT IT READS IS OF BULK AT MOST 1048576: true; the input reads as it did. -/
def coordOnceUptoRow : OpenClaim := { program := "ytadnlannbafjpaagreat", sum := "9327cf0cb3c2fd031bf72cc19741984a5cf6d6a0c10e4946f96f7ed02d744c06", func := "catchbolt/catchboltlaw18.CoordOnce", spec := "coordOnce", inPlace := ["internal/reflectlite.TypeOf"], unfollowed := true, recurses := true, apart := false, narrowed := true }
def CoordOnceUptoSaid : Prop := coordOnceUptoRow.holds Tryz.pinned (OpenSpec.upto coordOnceSpec)

/-- 'catchboltlaw18.CoordWounds', WHERE WHAT IT READS IS OF BULK AT MOST 1048576: true; the input reads as it did. -/
def coordWoundsUptoRow : OpenClaim := { program := "ytadnlannbafjpaagreat", sum := "9327cf0cb3c2fd031bf72cc19741984a5cf6d6a0c10e4946f96f7ed02d744c06", func := "catchbolt/catchboltlaw18.CoordWounds", spec := "coordWounds", inPlace := ["internal/reflectlite.TypeOf"], unfollowed := true, recurses := true, apart := false, narrowed := true }
def CoordWoundsUptoSaid : Prop := coordWoundsUptoRow.holds Tryz.pinned (OpenSpec.upto coordWoundsSpec)

/-- 'catchboltlaw18.CoordCircles', WHERE WHAT IT READS IS OF BULK AT MOST 1048576: true; the input reads as it did. -/
def coordCirclesUptoRow : OpenClaim := { program := "ytadnlannbafjpaagreat", sum := "9327cf0cb3c2fd031bf72cc19741984a5cf6d6a0c10e4946f96f7ed02d744c06", func := "catchbolt/catchboltlaw18.CoordCircles", spec := "coordCircles", inPlace := ["internal/reflectlite.TypeOf"], unfollowed := true, recurses := true, apart := false, narrowed := true }
def CoordCirclesUptoSaid : Prop := coordCirclesUptoRow.holds Tryz.pinned (OpenSpec.upto coordCirclesSpec)

/-- 'catchboltlaw18.CoordSends', WHERE WHAT IT READS IS OF BULK AT MOST 1048576: true; the input reads as it did. -/
def coordSendsUptoRow : OpenClaim := { program := "ytadnlannbafjpaagreat", sum := "9327cf0cb3c2fd031bf72cc19741984a5cf6d6a0c10e4946f96f7ed02d744c06", func := "catchbolt/catchboltlaw18.CoordSends", spec := "coordSends", inPlace := ["internal/reflectlite.TypeOf"], unfollowed := true, recurses := true, apart := false, narrowed := true }
def CoordSendsUptoSaid : Prop := coordSendsUptoRow.holds Tryz.pinned (OpenSpec.upto coordSendsSpec)

/-- 'catchboltlaw18.CoordTwice', WHERE WHAT IT READS IS OF BULK AT MOST 1048576: true; the input reads as it did. -/
def coordTwiceUptoRow : OpenClaim := { program := "ytadnlannbafjpaagreat", sum := "9327cf0cb3c2fd031bf72cc19741984a5cf6d6a0c10e4946f96f7ed02d744c06", func := "catchbolt/catchboltlaw18.CoordTwice", spec := "coordTwice", inPlace := ["internal/reflectlite.TypeOf"], unfollowed := true, recurses := true, apart := false, narrowed := true }
def CoordTwiceUptoSaid : Prop := coordTwiceUptoRow.holds Tryz.pinned (OpenSpec.upto coordTwiceSpec)

end Rows
end Go.Proofs.YtadnlannbafjpaaGreat
