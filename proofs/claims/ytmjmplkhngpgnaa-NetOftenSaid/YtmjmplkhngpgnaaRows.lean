/-
  No cell of these rows narrows 'for every input' (looked for: loops, veiled, ifaces, maps, wideKeys, modest, calm, conditions, laid).
  DERIVED. THE GIVEN ROWS OF THIS SEAT. 6 by the template 'for every input the law returns true; each argument reads behind the call as it read before'; 0 by the template 'total and deterministic' (their statements: YtmjmplkhngpgnaaTotals.lean).
  GIVEN WITH THE SEED: the statements are not yours to turn. If you find one false, say at which input.
  Laid BY PROGRAM, IN A SANDBOX (cutbox-rows.mjs): the forced cells as the released guide's own fill.sh prints them over the translation c816e51d5781319a… (all of the seat's roots in one cut). By AI agents, Wed Nov 11 2026. No macro, syntax, notation, axiom, sorry.
-/
import Derived.Test.YtmjmplkhngpgnaaChecked
import GoSem.Claim
import GoSem.ClaimJoined
import GoSem.ClaimMapViews
import Derived.JoinedTies
import Derived.KernelRfl
namespace Go.Proofs.Ytmjmplkhngpgnaa
/- THE CELL 'sum', in the pinned program and in every row, IS THE sha256 OF THE DUMP (.gsa) THAT YtmjmplkhngpgnaaProg.lean LOADS. Nothing in Lean hashes anything: it is a label: what it is worth is what the hold of that sum in a sandbox is worth. -/
noncomputable def Try.pinned : Pinned := { name := "ytmjmplkhngpgnaa", sum := "c816e51d5781319a34512b7f9f8630d831430931aea85fbd390d309d8e8cd8cf", checked := Try.checked }
namespace Rows
def none {H : Type} : Left H := { results := [], args := [] }

/-- 'catchboltlaw04.MsgReads': WHATEVER THE INPUT: true; the input reads as it did. -/
def msgReadsSpec : ChangeSpec := { name := "msgReads", fn := fun _ => fun
  | [d] => { results := [.lit (.bool true)], args := [d] }
  | _ => none }
def msgReadsRow : OpenClaim := { program := "ytmjmplkhngpgnaa", sum := "c816e51d5781319a34512b7f9f8630d831430931aea85fbd390d309d8e8cd8cf", func := "catchbolt/catchboltlaw04.MsgReads", spec := "msgReads", inPlace := ["internal/reflectlite.TypeOf"], unfollowed := true, recurses := true, plainKeys := false, apart := false }
def MsgReadsSaid : Prop := msgReadsRow.holds Try.pinned (OpenSpec.ofChange msgReadsSpec)

/-- ITS FALSE NEIGHBOUR: 'it returns false'. Refute it at one input. -/
def msgReadsWrong : ChangeSpec := { name := "msgReads", fn := fun _ => fun
  | [d] => { results := [.lit (.bool false)], args := [d] }
  | _ => none }
def MsgReadsWrongFalsely : Prop := msgReadsRow.holds Try.pinned (OpenSpec.ofChange msgReadsWrong)

/-- 'catchboltlaw05.NetActs': WHATEVER THE INPUT: true; the input reads as it did. -/
def netActsSpec : ChangeSpec := { name := "netActs", fn := fun _ => fun
  | [d1, d2] => { results := [.lit (.bool true)], args := [d1, d2] }
  | _ => none }
def netActsRow : OpenClaim := { program := "ytmjmplkhngpgnaa", sum := "c816e51d5781319a34512b7f9f8630d831430931aea85fbd390d309d8e8cd8cf", func := "catchbolt/catchboltlaw05.NetActs", spec := "netActs", inPlace := ["internal/reflectlite.TypeOf"], unfollowed := true, recurses := true, plainKeys := false, apart := false }
def NetActsSaid : Prop := netActsRow.holds Try.pinned (OpenSpec.ofChange netActsSpec)

/-- ITS FALSE NEIGHBOUR: 'it returns false'. Refute it at one input. -/
def netActsWrong : ChangeSpec := { name := "netActs", fn := fun _ => fun
  | [d1, d2] => { results := [.lit (.bool false)], args := [d1, d2] }
  | _ => none }
def NetActsWrongFalsely : Prop := netActsRow.holds Try.pinned (OpenSpec.ofChange netActsWrong)

/-- 'catchboltlaw05.NetOften': WHATEVER THE INPUT: true; the input reads as it did. -/
def netOftenSpec : ChangeSpec := { name := "netOften", fn := fun _ => fun
  | [d1, d2] => { results := [.lit (.bool true)], args := [d1, d2] }
  | _ => none }
def netOftenRow : OpenClaim := { program := "ytmjmplkhngpgnaa", sum := "c816e51d5781319a34512b7f9f8630d831430931aea85fbd390d309d8e8cd8cf", func := "catchbolt/catchboltlaw05.NetOften", spec := "netOften", inPlace := ["internal/reflectlite.TypeOf"], unfollowed := true, recurses := true, plainKeys := false, apart := false }
def NetOftenSaid : Prop := netOftenRow.holds Try.pinned (OpenSpec.ofChange netOftenSpec)

/-- ITS FALSE NEIGHBOUR: 'it returns false'. Refute it at one input. -/
def netOftenWrong : ChangeSpec := { name := "netOften", fn := fun _ => fun
  | [d1, d2] => { results := [.lit (.bool false)], args := [d1, d2] }
  | _ => none }
def NetOftenWrongFalsely : Prop := netOftenRow.holds Try.pinned (OpenSpec.ofChange netOftenWrong)

/-- 'catchboltlaw05.NetOwn': WHATEVER THE INPUT: true; the input reads as it did. -/
def netOwnSpec : ChangeSpec := { name := "netOwn", fn := fun _ => fun
  | [d1, d2] => { results := [.lit (.bool true)], args := [d1, d2] }
  | _ => none }
def netOwnRow : OpenClaim := { program := "ytmjmplkhngpgnaa", sum := "c816e51d5781319a34512b7f9f8630d831430931aea85fbd390d309d8e8cd8cf", func := "catchbolt/catchboltlaw05.NetOwn", spec := "netOwn", inPlace := ["internal/reflectlite.TypeOf"], unfollowed := true, recurses := true, plainKeys := false, apart := false }
def NetOwnSaid : Prop := netOwnRow.holds Try.pinned (OpenSpec.ofChange netOwnSpec)

/-- ITS FALSE NEIGHBOUR: 'it returns false'. Refute it at one input. -/
def netOwnWrong : ChangeSpec := { name := "netOwn", fn := fun _ => fun
  | [d1, d2] => { results := [.lit (.bool false)], args := [d1, d2] }
  | _ => none }
def NetOwnWrongFalsely : Prop := netOwnRow.holds Try.pinned (OpenSpec.ofChange netOwnWrong)

/-- 'catchboltlaw05.NetRound': WHATEVER THE INPUT: true; the input reads as it did. -/
def netRoundSpec : ChangeSpec := { name := "netRound", fn := fun _ => fun
  | [d1, d2, d3] => { results := [.lit (.bool true)], args := [d1, d2, d3] }
  | _ => none }
def netRoundRow : OpenClaim := { program := "ytmjmplkhngpgnaa", sum := "c816e51d5781319a34512b7f9f8630d831430931aea85fbd390d309d8e8cd8cf", func := "catchbolt/catchboltlaw05.NetRound", spec := "netRound", inPlace := ["internal/reflectlite.TypeOf"], unfollowed := true, recurses := true, plainKeys := false, apart := false }
def NetRoundSaid : Prop := netRoundRow.holds Try.pinned (OpenSpec.ofChange netRoundSpec)

/-- ITS FALSE NEIGHBOUR: 'it returns false'. Refute it at one input. -/
def netRoundWrong : ChangeSpec := { name := "netRound", fn := fun _ => fun
  | [d1, d2, d3] => { results := [.lit (.bool false)], args := [d1, d2, d3] }
  | _ => none }
def NetRoundWrongFalsely : Prop := netRoundRow.holds Try.pinned (OpenSpec.ofChange netRoundWrong)

/-- 'catchboltlaw05.NetLimit': WHATEVER THE INPUT: true; the input reads as it did. -/
def netLimitSpec : ChangeSpec := { name := "netLimit", fn := fun _ => fun
  | [d1, d2] => { results := [.lit (.bool true)], args := [d1, d2] }
  | _ => none }
def netLimitRow : OpenClaim := { program := "ytmjmplkhngpgnaa", sum := "c816e51d5781319a34512b7f9f8630d831430931aea85fbd390d309d8e8cd8cf", func := "catchbolt/catchboltlaw05.NetLimit", spec := "netLimit", inPlace := ["internal/reflectlite.TypeOf"], unfollowed := true, recurses := true, plainKeys := false, apart := false }
def NetLimitSaid : Prop := netLimitRow.holds Try.pinned (OpenSpec.ofChange netLimitSpec)

/-- ITS FALSE NEIGHBOUR: 'it returns false'. Refute it at one input. -/
def netLimitWrong : ChangeSpec := { name := "netLimit", fn := fun _ => fun
  | [d1, d2] => { results := [.lit (.bool false)], args := [d1, d2] }
  | _ => none }
def NetLimitWrongFalsely : Prop := netLimitRow.holds Try.pinned (OpenSpec.ofChange netLimitWrong)

/- THE SECOND FORM. 'bulk': how many values and letters a reading holds, each counted each time it is reached (what is shared counts as often as it is met; a slice's spare places count too). A statement '..UptoSaid' is the law's where the arguments, and the package variables that the reading takes, are together of bulk at most 1048576: NARROWER than '..Said'. Prove '..Said' where nothing that the law and all that it calls make is longer than what came in: it says more and counts as full. Else prove '..UptoSaid'. A law counts once. -/
mutual
def uptoBulk {H : Type} : DataW H → Nat
  | .lit (.string bytes) => bytes.length + 1
  | .lit _ => 1
  | .nil => 1
  | .ptr d => uptoBulk d + 1
  | .slice elems spare => uptoBulkAll elems + uptoBulkAll spare + 1
  | .agg parts => uptoBulkAll parts + 1
  | .iface _ d => uptoBulk d + 1
  | .map entries => uptoBulkEntries entries + 1
  | .held _ => 1
def uptoBulkAll {H : Type} : List (DataW H) → Nat
  | [] => 0
  | d :: r => uptoBulk d + uptoBulkAll r
def uptoBulkEntries {H : Type} : List (Lit × DataW H) → Nat
  | [] => 0
  | x :: r => uptoBulkEntry x + uptoBulkEntries r
def uptoBulkEntry {H : Type} : Lit × DataW H → Nat
  | (.string bytes, d) => bytes.length + uptoBulk d + 1
  | (_, d) => uptoBulk d + 1
 end
def uptoSmall : (H : Type) → List (DataW H) → Bool := fun _ ds => decide (uptoBulkAll ds ≤ 1048576)
def OpenSpec.upto (s : _root_.Go.ChangeSpec) : _root_.Go.OpenSpec := { _root_.Go.OpenSpec.ofChange s with cond := some uptoSmall }

/-- 'catchboltlaw04.MsgReads', WHERE WHAT IT READS IS OF BULK AT MOST 1048576: true; the input reads as it did. -/
def msgReadsUptoRow : OpenClaim := { program := "ytmjmplkhngpgnaa", sum := "c816e51d5781319a34512b7f9f8630d831430931aea85fbd390d309d8e8cd8cf", func := "catchbolt/catchboltlaw04.MsgReads", spec := "msgReads", inPlace := ["internal/reflectlite.TypeOf"], unfollowed := true, recurses := true, plainKeys := false, apart := false, narrowed := true }
def MsgReadsUptoSaid : Prop := msgReadsUptoRow.holds Try.pinned (OpenSpec.upto msgReadsSpec)

/-- 'catchboltlaw05.NetActs', WHERE WHAT IT READS IS OF BULK AT MOST 1048576: true; the input reads as it did. -/
def netActsUptoRow : OpenClaim := { program := "ytmjmplkhngpgnaa", sum := "c816e51d5781319a34512b7f9f8630d831430931aea85fbd390d309d8e8cd8cf", func := "catchbolt/catchboltlaw05.NetActs", spec := "netActs", inPlace := ["internal/reflectlite.TypeOf"], unfollowed := true, recurses := true, plainKeys := false, apart := false, narrowed := true }
def NetActsUptoSaid : Prop := netActsUptoRow.holds Try.pinned (OpenSpec.upto netActsSpec)

/-- 'catchboltlaw05.NetOften', WHERE WHAT IT READS IS OF BULK AT MOST 1048576: true; the input reads as it did. -/
def netOftenUptoRow : OpenClaim := { program := "ytmjmplkhngpgnaa", sum := "c816e51d5781319a34512b7f9f8630d831430931aea85fbd390d309d8e8cd8cf", func := "catchbolt/catchboltlaw05.NetOften", spec := "netOften", inPlace := ["internal/reflectlite.TypeOf"], unfollowed := true, recurses := true, plainKeys := false, apart := false, narrowed := true }
def NetOftenUptoSaid : Prop := netOftenUptoRow.holds Try.pinned (OpenSpec.upto netOftenSpec)

/-- 'catchboltlaw05.NetOwn', WHERE WHAT IT READS IS OF BULK AT MOST 1048576: true; the input reads as it did. -/
def netOwnUptoRow : OpenClaim := { program := "ytmjmplkhngpgnaa", sum := "c816e51d5781319a34512b7f9f8630d831430931aea85fbd390d309d8e8cd8cf", func := "catchbolt/catchboltlaw05.NetOwn", spec := "netOwn", inPlace := ["internal/reflectlite.TypeOf"], unfollowed := true, recurses := true, plainKeys := false, apart := false, narrowed := true }
def NetOwnUptoSaid : Prop := netOwnUptoRow.holds Try.pinned (OpenSpec.upto netOwnSpec)

/-- 'catchboltlaw05.NetRound', WHERE WHAT IT READS IS OF BULK AT MOST 1048576: true; the input reads as it did. -/
def netRoundUptoRow : OpenClaim := { program := "ytmjmplkhngpgnaa", sum := "c816e51d5781319a34512b7f9f8630d831430931aea85fbd390d309d8e8cd8cf", func := "catchbolt/catchboltlaw05.NetRound", spec := "netRound", inPlace := ["internal/reflectlite.TypeOf"], unfollowed := true, recurses := true, plainKeys := false, apart := false, narrowed := true }
def NetRoundUptoSaid : Prop := netRoundUptoRow.holds Try.pinned (OpenSpec.upto netRoundSpec)

/-- 'catchboltlaw05.NetLimit', WHERE WHAT IT READS IS OF BULK AT MOST 1048576: true; the input reads as it did. -/
def netLimitUptoRow : OpenClaim := { program := "ytmjmplkhngpgnaa", sum := "c816e51d5781319a34512b7f9f8630d831430931aea85fbd390d309d8e8cd8cf", func := "catchbolt/catchboltlaw05.NetLimit", spec := "netLimit", inPlace := ["internal/reflectlite.TypeOf"], unfollowed := true, recurses := true, plainKeys := false, apart := false, narrowed := true }
def NetLimitUptoSaid : Prop := netLimitUptoRow.holds Try.pinned (OpenSpec.upto netLimitSpec)

end Rows
end Go.Proofs.Ytmjmplkhngpgnaa
