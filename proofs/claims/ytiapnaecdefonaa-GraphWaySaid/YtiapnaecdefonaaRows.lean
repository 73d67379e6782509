/-
  No cell of these rows narrows 'for every input' (looked for: loops, veiled, ifaces, maps, wideKeys, modest, calm, conditions, laid).
  DERIVED. THE GIVEN ROWS OF THIS SEAT. 5 by the template 'for every input the law returns true; each argument reads behind the call as it read before'; 0 by the template 'total and deterministic' (their statements: YtiapnaecdefonaaTotals.lean).
  GIVEN WITH THE SEED: the statements are not yours to turn. If you find one false, say at which input.
  Laid BY PROGRAM, IN A SANDBOX (cutbox-rows.mjs): the forced cells as the released guide's own fill.sh prints them over the translation d646ba6db1db21a4… (all of the seat's roots in one cut). By AI agents, Wed Nov 11 2026. No macro, syntax, notation, axiom, sorry.
-/
import Derived.Test.YtiapnaecdefonaaChecked
import GoSem.Claim
import GoSem.ClaimJoined
import GoSem.ClaimMapViews
import Derived.JoinedTies
import Derived.KernelRfl
namespace Go.Proofs.Ytiapnaecdefonaa
/- THE CELL 'sum', in the pinned program and in every row, IS THE sha256 OF THE DUMP (.gsa) THAT YtiapnaecdefonaaProg.lean LOADS. Nothing in Lean hashes anything: it is a label: what it is worth is what the hold of that sum in a sandbox is worth. -/
noncomputable def Try.pinned : Pinned := { name := "ytiapnaecdefonaa", sum := "d646ba6db1db21a47eda366451bb901cabb933d3fadd26a595f1a6373721902e", checked := Try.checked }
namespace Rows
def none {H : Type} : Left H := { results := [], args := [] }

/-- 'catchboltlaw10.GraphWay': WHATEVER THE INPUT: true; the input reads as it did. -/
def graphWaySpec : ChangeSpec := { name := "graphWay", fn := fun _ => fun
  | [d1, d2, d3] => { results := [.lit (.bool true)], args := [d1, d2, d3] }
  | _ => none }
def graphWayRow : OpenClaim := { program := "ytiapnaecdefonaa", sum := "d646ba6db1db21a47eda366451bb901cabb933d3fadd26a595f1a6373721902e", func := "catchbolt/catchboltlaw10.GraphWay", spec := "graphWay", unfollowed := true, recurses := true, apart := false }
def GraphWaySaid : Prop := graphWayRow.holds Try.pinned (OpenSpec.ofChange graphWaySpec)

/-- ITS FALSE NEIGHBOUR: 'it returns false'. Refute it at one input. -/
def graphWayWrong : ChangeSpec := { name := "graphWay", fn := fun _ => fun
  | [d1, d2, d3] => { results := [.lit (.bool false)], args := [d1, d2, d3] }
  | _ => none }
def GraphWayWrongFalsely : Prop := graphWayRow.holds Try.pinned (OpenSpec.ofChange graphWayWrong)

/-- 'catchboltlaw11.WoundOf': WHATEVER THE INPUT: true; the input reads as it did. -/
def woundOfSpec : ChangeSpec := { name := "woundOf", fn := fun _ => fun
  | [d] => { results := [.lit (.bool true)], args := [d] }
  | _ => none }
def woundOfRow : OpenClaim := { program := "ytiapnaecdefonaa", sum := "d646ba6db1db21a47eda366451bb901cabb933d3fadd26a595f1a6373721902e", func := "catchbolt/catchboltlaw11.WoundOf", spec := "woundOf", unfollowed := true, recurses := true, apart := false }
def WoundOfSaid : Prop := woundOfRow.holds Try.pinned (OpenSpec.ofChange woundOfSpec)

/-- ITS FALSE NEIGHBOUR: 'it returns false'. Refute it at one input. -/
def woundOfWrong : ChangeSpec := { name := "woundOf", fn := fun _ => fun
  | [d] => { results := [.lit (.bool false)], args := [d] }
  | _ => none }
def WoundOfWrongFalsely : Prop := woundOfRow.holds Try.pinned (OpenSpec.ofChange woundOfWrong)

/-- 'catchboltlaw11.WoundBy': WHATEVER THE INPUT: true; the input reads as it did. -/
def woundBySpec : ChangeSpec := { name := "woundBy", fn := fun _ => fun
  | [d] => { results := [.lit (.bool true)], args := [d] }
  | _ => none }
def woundByRow : OpenClaim := { program := "ytiapnaecdefonaa", sum := "d646ba6db1db21a47eda366451bb901cabb933d3fadd26a595f1a6373721902e", func := "catchbolt/catchboltlaw11.WoundBy", spec := "woundBy", unfollowed := true, recurses := true, apart := false }
def WoundBySaid : Prop := woundByRow.holds Try.pinned (OpenSpec.ofChange woundBySpec)

/-- ITS FALSE NEIGHBOUR: 'it returns false'. Refute it at one input. -/
def woundByWrong : ChangeSpec := { name := "woundBy", fn := fun _ => fun
  | [d] => { results := [.lit (.bool false)], args := [d] }
  | _ => none }
def WoundByWrongFalsely : Prop := woundByRow.holds Try.pinned (OpenSpec.ofChange woundByWrong)

/-- 'catchboltlaw11.WoundBreaks': WHATEVER THE INPUT: true; the input reads as it did. -/
def woundBreaksSpec : ChangeSpec := { name := "woundBreaks", fn := fun _ => fun
  | [d] => { results := [.lit (.bool true)], args := [d] }
  | _ => none }
def woundBreaksRow : OpenClaim := { program := "ytiapnaecdefonaa", sum := "d646ba6db1db21a47eda366451bb901cabb933d3fadd26a595f1a6373721902e", func := "catchbolt/catchboltlaw11.WoundBreaks", spec := "woundBreaks", unfollowed := true, recurses := true, apart := false }
def WoundBreaksSaid : Prop := woundBreaksRow.holds Try.pinned (OpenSpec.ofChange woundBreaksSpec)

/-- ITS FALSE NEIGHBOUR: 'it returns false'. Refute it at one input. -/
def woundBreaksWrong : ChangeSpec := { name := "woundBreaks", fn := fun _ => fun
  | [d] => { results := [.lit (.bool false)], args := [d] }
  | _ => none }
def WoundBreaksWrongFalsely : Prop := woundBreaksRow.holds Try.pinned (OpenSpec.ofChange woundBreaksWrong)

/-- 'catchboltlaw11.WoundMore': WHATEVER THE INPUT: true; the input reads as it did. -/
def woundMoreSpec : ChangeSpec := { name := "woundMore", fn := fun _ => fun
  | [d1, d2] => { results := [.lit (.bool true)], args := [d1, d2] }
  | _ => none }
def woundMoreRow : OpenClaim := { program := "ytiapnaecdefonaa", sum := "d646ba6db1db21a47eda366451bb901cabb933d3fadd26a595f1a6373721902e", func := "catchbolt/catchboltlaw11.WoundMore", spec := "woundMore", unfollowed := true, recurses := true, apart := false }
def WoundMoreSaid : Prop := woundMoreRow.holds Try.pinned (OpenSpec.ofChange woundMoreSpec)

/-- ITS FALSE NEIGHBOUR: 'it returns false'. Refute it at one input. -/
def woundMoreWrong : ChangeSpec := { name := "woundMore", fn := fun _ => fun
  | [d1, d2] => { results := [.lit (.bool false)], args := [d1, d2] }
  | _ => none }
def WoundMoreWrongFalsely : Prop := woundMoreRow.holds Try.pinned (OpenSpec.ofChange woundMoreWrong)

/- THE SECOND FORM. 'bulk': how many values and letters a reading holds, each counted each time it is reached (what is shared counts as often as it is met; a slice's spare places count too). A statement '..UptoSaid' is the law's where the arguments, and the package variables that the reading takes, are together of bulk at most 1048576: NARROWER than '..Said'. Prove '..Said' where nothing that the law and all that it calls make is longer than what came in: it says more and counts as full. Else prove '..UptoSaid'. A law counts once. -/
mutual
def uptoBulk {H : Type} : DataW H → Nat
  | .lit (.string bytes) => bytes.length + 1
  | .lit _ => 1
  | .nil => 1
  | .ptr d => uptoBulk d + 1
  | .slice elems spare => uptoBulkAll elems + uptoBulkAll spare + 1
  | .agg parts => uptoBulkAll parts + 1
  | .iface _ d => uptoBulk d + 1
  | .map entries => uptoBulkEntries entries + 1
  | .held _ => 1
def uptoBulkAll {H : Type} : List (DataW H) → Nat
  | [] => 0
  | d :: r => uptoBulk d + uptoBulkAll r
def uptoBulkEntries {H : Type} : List (Lit × DataW H) → Nat
  | [] => 0
  | x :: r => uptoBulkEntry x + uptoBulkEntries r
def uptoBulkEntry {H : Type} : Lit × DataW H → Nat
  | (.string bytes, d) => bytes.length + uptoBulk d + 1
  | (_, d) => uptoBulk d + 1
 end
def uptoSmall : (H : Type) → List (DataW H) → Bool := fun _ ds => decide (uptoBulkAll ds ≤ 1048576)
def OpenSpec.upto (s : _root_.Go.ChangeSpec) : _root_.Go.OpenSpec := { _root_.Go.OpenSpec.ofChange s with cond := some uptoSmall }

/-- 'catchboltlaw10.GraphWay', WHERE WHAT IT READS IS OF BULK AT MOST 1048576: true; the input reads as it did. -/
def graphWayUptoRow : OpenClaim := { program := "ytiapnaecdefonaa", sum := "d646ba6db1db21a47eda366451bb901cabb933d3fadd26a595f1a6373721902e", func := "catchbolt/catchboltlaw10.GraphWay", spec := "graphWay", unfollowed := true, recurses := true, apart := false, narrowed := true }
def GraphWayUptoSaid : Prop := graphWayUptoRow.holds Try.pinned (OpenSpec.upto graphWaySpec)

/-- 'catchboltlaw11.WoundOf', WHERE WHAT IT READS IS OF BULK AT MOST 1048576: true; the input reads as it did. -/
def woundOfUptoRow : OpenClaim := { program := "ytiapnaecdefonaa", sum := "d646ba6db1db21a47eda366451bb901cabb933d3fadd26a595f1a6373721902e", func := "catchbolt/catchboltlaw11.WoundOf", spec := "woundOf", unfollowed := true, recurses := true, apart := false, narrowed := true }
def WoundOfUptoSaid : Prop := woundOfUptoRow.holds Try.pinned (OpenSpec.upto woundOfSpec)

/-- 'catchboltlaw11.WoundBy', WHERE WHAT IT READS IS OF BULK AT MOST 1048576: true; the input reads as it did. -/
def woundByUptoRow : OpenClaim := { program := "ytiapnaecdefonaa", sum := "d646ba6db1db21a47eda366451bb901cabb933d3fadd26a595f1a6373721902e", func := "catchbolt/catchboltlaw11.WoundBy", spec := "woundBy", unfollowed := true, recurses := true, apart := false, narrowed := true }
def WoundByUptoSaid : Prop := woundByUptoRow.holds Try.pinned (OpenSpec.upto woundBySpec)

/-- 'catchboltlaw11.WoundBreaks', WHERE WHAT IT READS IS OF BULK AT MOST 1048576: true; the input reads as it did. -/
def woundBreaksUptoRow : OpenClaim := { program := "ytiapnaecdefonaa", sum := "d646ba6db1db21a47eda366451bb901cabb933d3fadd26a595f1a6373721902e", func := "catchbolt/catchboltlaw11.WoundBreaks", spec := "woundBreaks", unfollowed := true, recurses := true, apart := false, narrowed := true }
def WoundBreaksUptoSaid : Prop := woundBreaksUptoRow.holds Try.pinned (OpenSpec.upto woundBreaksSpec)

/-- 'catchboltlaw11.WoundMore', WHERE WHAT IT READS IS OF BULK AT MOST 1048576: true; the input reads as it did. -/
def woundMoreUptoRow : OpenClaim := { program := "ytiapnaecdefonaa", sum := "d646ba6db1db21a47eda366451bb901cabb933d3fadd26a595f1a6373721902e", func := "catchbolt/catchboltlaw11.WoundMore", spec := "woundMore", unfollowed := true, recurses := true, apart := false, narrowed := true }
def WoundMoreUptoSaid : Prop := woundMoreUptoRow.holds Try.pinned (OpenSpec.upto woundMoreSpec)

end Rows
end Go.Proofs.Ytiapnaecdefonaa
