/- The contract of the document's Put. -/
import Derived.Test.YthdfgdehddmkpaaWordP
import Derived.Deep.RegionHeld
namespace Go.Proofs.Ythdfgdehddmkpaa
open Go.RowKit
set_option linter.unusedVariables false
set_option linter.unusedSimpArgs false


/-- What the document's Put answers. -/
def PutRPost (wd n m : Nat) (bs : List UInt8) (is : List Int) (w : World) (e : Ending) (w' : World) : Prop :=
  (AllFit wd is ∧ ∃ v, e = .returned (.tuple #[v, .int .i64 (-1), .int .i64 0]) ∧ w'.ownsRow w.heap.size 5 1 v (n + wd * m) (u8s (bs ++ encL wd is)) ∧ Below w.heap.size w w') ∨
  (∃ k : Nat, FirstBad wd is k ∧ e = .returned (.tuple #[.slice none 0 0, .int .i64 k, .int .i64 2]) ∧ Below w.heap.size w w')
structure CopyRel (bs : List UInt8) (w : World) (k : Nat) (v : Value) (W : World) : Prop where
  own : W.ownsRow w.heap.size 5 1 v k (u8s (bs.take k))
  bel : Below w.heap.size w W

end Go.Proofs.Ythdfgdehddmkpaa
