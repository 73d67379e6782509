/- A slice of resources that came in, opened. -/
import Derived.Test.YtjfadhdnaloleaaDoorLaw2H
import Derived.Test.YtjfadhdnaloleaaDoorLaw2
import Derived.Deep.Slices
import Derived.ChangeSame
import Derived.ChangeArms
import Derived.DataReads
import Derived.Deep.Fields
import Derived.Lib.SmallJoins
namespace Go.Proofs.YtjfadhdnaloleaaDoor
open Go.RowKit Go.ChangeShapes Go.WideShapes Go.Deep
set_option linter.unusedVariables false
set_option linter.unusedSimpArgs false

theorem two_of {α : Type} (l : List α) (h : l.length = 2) : ∃ x y, l = [x, y] := by
  match l, h with
  | [x, y], _ => exact ⟨x, y, rfl⟩

theorem pair_cells {H : Type} {enc : TypeId × Value → H} {P : Program} {w : World} {base : Nat} {spare : Nat → Bool} {held : Bool} {t : TypeId} {f0 f1 : Field} {k0 k1 : IntKind} {cs : List Value} {fuel : Nat} {x : DataW H × List MemPlace}
    (hs : P.underlying t = some (.struct #[f0, f1])) (hone : oneCellFields P #[f0, f1] = true) (h0 : P.underlying f0.type = some (.int k0)) (h1 : P.underlying f1.type = some (.int k1))
    (ht : DataW.trod enc P w base spare held fuel t cs = some x) (hcl : cs.length = 2) : ∃ a b : Int, cs = [.int k0 a, .int k1 b] := by
  obtain ⟨xs, n, _, _, _, hxl, hg⟩ := DataW.trod_struct hs ht
  obtain ⟨u0, u1, rfl⟩ := two_of cs hcl
  obtain ⟨y0, y1, rfl⟩ := two_of xs hxl
  obtain ⟨o0, c0⟩ := hone_of hone 0 f0 rfl
  obtain ⟨o1, c1⟩ := hone_of hone 1 f1 rfl
  have g0 := hg 0 f0 rfl
  have g1 := hg 1 f1 rfl
  simp [o0, c0] at g0
  simp [o1, c1] at g1
  obtain ⟨a, e0, _, _⟩ := DataW.trod_int h0 g0
  obtain ⟨b, e1, _, _⟩ := DataW.trod_int h1 g1
  simp at e0 e1
  exact ⟨a, b, by rw [e0, e1]⟩

set_option maxRecDepth 100000 in
theorem row_in {H : Type} {enc : TypeId × Value → H} {W : World} {base : Nat} {held : Bool} {A : Option Addr} {len cap : Nat} {d : DataW H} {p : List MemPlace}
    (h : DataW.Trod enc Tryd.prog W base (fun _ => true) held 43 (.slice A len cap) d p) : ∃ zs, RowIn W A len zs := by
  obtain ⟨fuel, hf⟩ := h
  rcases open_slice Tryd.underlying43 hf with ⟨hcs, _⟩ | ⟨a, len', cap', m, n, D, Pl, hcs, hb, hl, hm, hmm, hx, hi⟩
  · simp [Value.cells] at hcs
    obtain ⟨rfl, rfl, rfl⟩ := hcs
    exact ⟨#[], rfl, fun h => absurd h (by omega)⟩
  · simp [Value.cells] at hcs
    obtain ⟨rfl, rfl, rfl⟩ := hcs
    have hC : Tryd.prog.cellsOf 23 = 2 := by kernel_rfl
    have hC3 : Tryd.prog.cellsOf 3 = 1 := by kernel_rfl
    have cell : ∀ k : Fin len, ∃ p : Int × Int, W.cell? (a.add (k.1 * 2)) = some (.int .i64 p.1) ∧ W.cell? (a.add (k.1 * 2 + 1)) = some (.int .i64 p.2) := by
      intro k
      have hk := k.2
      obtain ⟨cs', hc, ht⟩ := hi k.1 (by rw [hmm]; simp; omega)
      rw [hC] at hc
      obtain ⟨_, hcl, hat⟩ := World.cells?_some hc
      obtain ⟨a0, b0, rfl⟩ := pair_cells Tryd.underlying23 (by kernel_rfl) Tryd.underlying3 Tryd.underlying3 ht hcl
      have h0 := hat 0 (by omega)
      have h1 := hat 1 (by omega)
      rw [add_add] at h0 h1
      exact ⟨(a0, b0), h0, h1⟩
    obtain ⟨f, hf⟩ : ∃ f : Fin len → Int × Int, ∀ k : Fin len, W.cell? (a.add (k.1 * 2)) = some (.int .i64 (f k).1) ∧ W.cell? (a.add (k.1 * 2 + 1)) = some (.int .i64 (f k).2) := ⟨fun k => Classical.choose (cell k), fun k => Classical.choose_spec (cell k)⟩
    refine ⟨Array.ofFn f, by simp, fun hn => ?_⟩
    have h0 := (hf ⟨0, hn⟩).1
    have e0 : a.add 0 = a := by simp [Addr.add]
    simp only [Nat.zero_mul] at h0
    rw [e0] at h0
    have hs : a.spot = none := World.cell?_spot h0
    have hbl := World.block_lt_of_cell? _ _ h0
    obtain ⟨b, off, sp⟩ := a
    simp only at hs
    subst hs
    refine ⟨b, off, rfl, hbl, ?_⟩
    intro j u hj
    have hlt : j < len * 2 := by
      have := (List.getElem?_eq_some_iff.1 hj).1
      rw [flat_len] at this
      simpa using this
    obtain ⟨f0, f1⟩ := flat_pair (Array.ofFn f) (i := j / 2) (by simp; omega)
    have hz : (Array.ofFn f)[j / 2]! = f ⟨j / 2, by omega⟩ := by rw [getElem!_pos _ _ (by simp; omega)]; simp
    rw [hz] at f0 f1
    have hh := hf ⟨j / 2, by omega⟩
    have h01 : j % 2 = 0 ∨ j % 2 = 1 := by omega
    rcases h01 with h | h
    · have e : j / 2 * 2 = j := by omega
      rw [e, hj] at f0
      have h2 := hh.1
      simp only [e] at h2
      rw [Lib.add_plain] at h2
      rw [h2, ← f0]
    · have e : j / 2 * 2 + 1 = j := by omega
      rw [e, hj] at f1
      have h2 := hh.2
      simp only [e] at h2
      rw [Lib.add_plain] at h2
      rw [h2, ← f1]
end Go.Proofs.YtjfadhdnaloleaaDoor
