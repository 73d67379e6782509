/- ResOrder of any list. -/
import Derived.Test.YtjfadhdnaloleaaDoorLaw2E
import Derived.Test.YtjfadhdnaloleaaDoorLaw2F
import Derived.Test.YtjfadhdnaloleaaDoorLaw2J
namespace Go.Proofs.YtjfadhdnaloleaaDoor
open Go.RowKit
theorem order_any {H : Type} {enc : TypeId × Value → H} {base : Nat} {held : Bool} {A : Option Addr} {len cap : Nat} {x : DataW H} {p : List MemPlace} (a b c d : Int) (w : World) (hg : EType w)
    (h : DataW.Trod enc Tryd.prog w base (fun _ => true) held 43 (.slice A len cap) x p) :
    Calls Tryd.prog 6 #[.slice A len cap, resV a b, resV c d] w fun e w' => e = .returned (.bool true) ∧ Below w.heap.size w w' := by
  obtain ⟨zs, hl⟩ := row_in h
  by_cases h2 : 200 < len
  · exact order_big A len cap a b c d h2 w hg
  · by_cases h0 : len = 0
    · subst h0; exact order_zero A cap a b c d w hg
    · obtain rfl : zs.size = len := hl.1
      exact order_some A cap zs a b c d (by omega) (by omega) w hg hl
end Go.Proofs.YtjfadhdnaloleaaDoor
