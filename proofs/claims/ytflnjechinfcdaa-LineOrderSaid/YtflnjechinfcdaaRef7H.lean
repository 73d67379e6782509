/- The document's line: words. -/
import Derived.Test.YtflnjechinfcdaaRef7A
namespace Go.Proofs.Ytflnjechinfcdaa
open Go.RowKit
set_option linter.unusedVariables false
set_option linter.unusedSimpArgs false

theorem own_made0 {w : World} {base : Nat} (hb : base ≤ w.heap.size) : (w.alloc (.cells #[] 33)).ownsRow base 33 4 (.slice (some ⟨w.heap.size, 0, none⟩) 0 0) 0 [] :=
  ⟨rfl, .inr ⟨w.heap.size, 0, #[], rfl, hb, Blk.new w _ _, Nat.le_refl _, Nat.zero_le _, rfl, rfl⟩⟩
/-- A slice handed on, or a newer one. -/
def Kin (w w' : World) (A A' : Option Addr) : Prop := A' = A ∨ ∀ ad, A' = some ad → w.heap.size ≤ ad.block ∧ ad.block < w'.heap.size
end Go.Proofs.Ytflnjechinfcdaa
