/- The walk of ScriptReads. -/
import Derived.Test.YtggfadiahacgeaaDoorScrK
namespace Go.Proofs.YtggfadiahacgeaaDoor
open Go.RowKit Go.ChangeShapes Go.WideShapes Go.Deep
set_option linter.unusedVariables false
set_option linter.unusedSimpArgs false

theorem slice_capS {H : Type} {enc : TypeId × Value → H} {P : Program} {W : World} {base : Nat} {spare : Nat → Bool} {held : Bool} {A : Option Addr} {len cap : Nat} {d : DataW H} {p : List MemPlace} {t e : TypeId} (hu : P.underlying t = some (.slice e)) (h : DataW.Trod enc P W base spare held t (.slice A len cap) d p) : len ≤ cap := by
  obtain ⟨fuel, hf⟩ := h
  rcases open_slice hu hf with ⟨hcs, _⟩ | ⟨a, len', cap', m, n, D, Pl, hcs, hb, hl, hm, hmm, hx, hi⟩
  · simp [Value.cells] at hcs
    obtain ⟨rfl, rfl, rfl⟩ := hcs
    omega
  · simp [Value.cells] at hcs
    obtain ⟨rfl, rfl, rfl⟩ := hcs
    omega
/-- Two rows of entries in one world: what a loop over both keeps. -/
structure TwoE (w W : World) (A A' : Option Addr) (n : Nat) (ls : List (List Int)) : Prop where
  a : Reads W W.heap.size 6 A n (ints ls.flatten)
  b : Reads W W.heap.size 6 A' n (ints ls.flatten)
  bel : Below w.heap.size w W
theorem reads_stepE {w w' : World} {size n : Nat} {A : Option Addr} {xs : List Value} (h : Reads w w.heap.size size A n xs) (hb : Below w.heap.size w w') : Reads w' w'.heap.size size A n xs := (h.below hb).more hb.size
theorem TwoE.step {w W W' : World} {A A' : Option Addr} {n : Nat} {ls : List (List Int)} (h : TwoE w W A A' n ls) (hb : Below W.heap.size W W') : TwoE w W' A A' n ls := ⟨reads_stepE h.a hb, reads_stepE h.b hb, stepB h.bel hb⟩

theorem copy_post {w w1 w3 : World} {A : Option Addr} {len : Nat} {l : List UInt8} {v3 : Value} (hB1 : Below w.heap.size w w1) (h : Reads w w.heap.size 1 A len (u8s l)) (hown3 : w3.ownsRow w.heap.size 5 1 v3 (0 + len) ([] ++ u8s l)) (hg3 : (w1.alloc (.cells #[] 5)).grownBy w3 (Value.slice (some ⟨w1.heap.size, 0, none⟩) 0 0).ownBlock) :
    ∃ A3 c3, v3 = .slice A3 len c3 ∧ Reads w3 w3.heap.size 1 A3 len (u8s l) ∧ len ≤ c3 ∧ Below w.heap.size w w3 ∧ Reads w3 w3.heap.size 1 A len (u8s l) := by
  rw [Nat.zero_add, List.nil_append] at hown3
  have hb : Below w.heap.size w w3 := below_own (hB1.alloc hB1.size (.cells #[] 5)) hg3 (own_emptyV w1 (base := w.heap.size) (size := 1) 5 hB1.size) (Nat.le_refl _) (by have := hB1.size; simp; omega)
  obtain ⟨A3, c3, e, hr, hc, _⟩ := own_el hown3
  exact ⟨A3, c3, e, hr, hc, hb, (h.below hb).more hb.size⟩
end Go.Proofs.YtggfadiahacgeaaDoor
