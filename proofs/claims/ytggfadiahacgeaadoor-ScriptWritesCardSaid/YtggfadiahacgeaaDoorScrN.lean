/- The walk of ScriptAdds. -/
import Derived.Test.YtggfadiahacgeaaDoorScrL
namespace Go.Proofs.YtggfadiahacgeaaDoor
open Go.RowKit
set_option linter.unusedVariables false
set_option linter.unusedSimpArgs false

theorem reads_takeS {w : World} {B n k : Nat} {A : Option Addr} {l : List UInt8} (h : Reads w B 1 A n (u8s l)) (hk : k ≤ n) : Reads w B 1 A k (u8s (l.take k)) := by
  have hl := h.u8_len
  refine ⟨by rw [u8s_length, List.length_take]; omega, fun h0 => ?_⟩
  obtain ⟨ad, e, hb, hc⟩ := h.2 (by omega)
  refine ⟨ad, e, hb, fun j u hu => hc j u ?_⟩
  unfold u8s at hu ⊢
  rw [List.map_take, List.getElem?_take] at hu
  split at hu
  · exact hu
  · cases hu
structure ThreeE (w W : World) (A A' A'' : Option Addr) (n1 n2 n : Nat) (l1 l2 l : List (List Int)) : Prop where
  z : Reads W W.heap.size 6 A n (ints l.flatten)
  x : Reads W W.heap.size 6 A' n1 (ints l1.flatten)
  y : Reads W W.heap.size 6 A'' n2 (ints l2.flatten)
  bel : Below w.heap.size w W
theorem ThreeE.drewN {w W : World} {A A' A'' : Option Addr} {n1 n2 n : Nat} {l1 l2 l : List (List Int)} (h : ThreeE w W A A' A'' n1 n2 n l1 l2 l) (q : Nat) : ThreeE w (W.drewN q) A A' A'' n1 n2 n l1 l2 l := ⟨h.z, h.x, h.y, below_drewN h.bel q⟩
theorem app_post {w w3 w4 : World} {n m c3 : Nat} {l l' : List UInt8} {A3 : Option Addr} {v4 : Value} (h3 : w3.ownsRow w.heap.size 5 1 (.slice A3 n c3) n (u8s l)) (hb3 : Below w.heap.size w w3) (hown4 : w4.ownsRow w.heap.size 5 1 v4 (n + m) (u8s l ++ u8s l')) (hg : w3.grownBy w4 (Value.slice A3 n c3).ownBlock) :
    ∃ A4 c4, v4 = .slice A4 (n + m) c4 ∧ Reads w4 w4.heap.size 1 A4 (n + m) (u8s (l ++ l')) ∧ n + m ≤ c4 ∧ Below w.heap.size w w4 := by
  rw [← u8s_append] at hown4
  obtain ⟨A4, c4, e, hr, hc, _⟩ := own_el hown4
  exact ⟨A4, c4, e, hr, hc, below_own hb3 hg h3 (Nat.le_refl _) hb3.size⟩
theorem copy_own {w w1 w3 : World} {len : Nat} {l : List UInt8} {v3 : Value} (hB1 : Below w.heap.size w w1) (hown3 : w3.ownsRow w.heap.size 5 1 v3 (0 + len) ([] ++ u8s l)) (hg3 : (w1.alloc (.cells #[] 5)).grownBy w3 (Value.slice (some ⟨w1.heap.size, 0, none⟩) 0 0).ownBlock) :
    ∃ A3 c3, v3 = .slice A3 len c3 ∧ w3.ownsRow w.heap.size 5 1 (.slice A3 len c3) len (u8s l) ∧ Below w.heap.size w w3 := by
  rw [Nat.zero_add, List.nil_append] at hown3
  have hb : Below w.heap.size w w3 := below_own (hB1.alloc hB1.size (.cells #[] 5)) hg3 (own_emptyV w1 (base := w.heap.size) (size := 1) 5 hB1.size) (Nat.le_refl _) (by have := hB1.size; simp; omega)
  obtain ⟨A3, c3, rfl, _, _, _⟩ := own_el hown3
  exact ⟨A3, c3, rfl, hown3, hb⟩

end Go.Proofs.YtggfadiahacgeaaDoor
