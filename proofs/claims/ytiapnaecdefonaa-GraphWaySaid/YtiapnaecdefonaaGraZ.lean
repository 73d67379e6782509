/- The document's example: what is reached, who is on a circle, the way. -/
import Derived.Test.YtiapnaecdefonaaGraM
namespace Go.Proofs.Ytiapnaecdefonaa
set_option linter.unusedVariables false
set_option linter.unusedSimpArgs false

def E0 : Egs := [(1, 2), (2, 3), (3, 1), (4, 1)]
theorem e0_mem {a b : Int} : b ∈ nxt E0 a ↔ (a = 1 ∧ b = 2) ∨ (a = 2 ∧ b = 3) ∨ (a = 3 ∧ b = 1) ∨ (a = 4 ∧ b = 1) := by
  rw [nxt_mem]; simp [E0]
theorem e0_reach (x : Int) : x ∈ [1, 2, 3] ↔ Rp (nxt E0) 4 x := by
  have h1 : (1 : Int) ∈ nxt E0 4 := e0_mem.2 (by simp)
  have h2 : (2 : Int) ∈ nxt E0 1 := e0_mem.2 (by simp)
  have h3 : (3 : Int) ∈ nxt E0 2 := e0_mem.2 (by simp)
  constructor
  · intro hx
    simp at hx
    rcases hx with rfl | rfl | rfl
    · exact Rp.one h1
    · exact ⟨1, Rt.one h1, h2⟩
    · exact ⟨2, (Rt.one h1).tail h2, h3⟩
  · rintro ⟨d, _, h⟩
    rcases e0_mem.1 h with h | h | h | h <;> simp [h]
theorem e0_circ (x : Int) : x ∈ [1, 2, 3] ↔ Rp (nxt E0) x x := by
  have h1 : (1 : Int) ∈ nxt E0 3 := e0_mem.2 (by simp)
  have h2 : (2 : Int) ∈ nxt E0 1 := e0_mem.2 (by simp)
  have h3 : (3 : Int) ∈ nxt E0 2 := e0_mem.2 (by simp)
  constructor
  · intro hx
    simp at hx
    rcases hx with rfl | rfl | rfl
    · exact ⟨3, (Rt.one h2).tail h3, h1⟩
    · exact ⟨1, (Rt.one h3).tail h1, h2⟩
    · exact ⟨2, (Rt.one h1).tail h2, h3⟩
  · rintro ⟨d, _, h⟩
    rcases e0_mem.1 h with h | h | h | h <;> simp [h]
theorem srt_one (x : Int) : srt [x] = [x] := by simp [srt]
theorem e0_way {i : Nat} (hi : (bst (nxt E0) 4 i).row.length ≤ i) : wayL (bst (nxt E0) 4 i) 3 = [4, 1, 2, 3] := by
  have n1 : nxt E0 1 = [2] := by unfold nxt; rw [show outs E0 1 = [2] by decide, srt_one]
  have n2 : nxt E0 2 = [3] := by unfold nxt; rw [show outs E0 2 = [3] by decide, srt_one]
  have n3 : nxt E0 3 = [1] := by unfold nxt; rw [show outs E0 3 = [1] by decide, srt_one]
  have n4 : nxt E0 4 = [1] := by unfold nxt; rw [show outs E0 4 = [1] by decide, srt_one]
  have hb : (bst (nxt E0) 4 4).row = [4, 1, 2, 3] := by simp [bst, visit, n1, n2, n3, n4]
  have hw : wayL (bst (nxt E0) 4 4) 3 = [4, 1, 2, 3] := by simp [wayL, bst, visit, Pof, n1, n2, n3, n4]
  rw [bst_eq hi (j := 4) (by rw [hb]; decide)]
  exact hw
end Go.Proofs.Ytiapnaecdefonaa
