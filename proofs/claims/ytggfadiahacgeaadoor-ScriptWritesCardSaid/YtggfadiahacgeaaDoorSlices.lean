/- Slices of bytes and of integers that came in, opened; how long they are. -/
import Derived.Test.YtggfadiahacgeaaDoorWord
import Derived.Deep.Slices
import Derived.ChangeSame
import Derived.ChangeArms
import Derived.DataReads
import Derived.SizedLaws
import Derived.OpenShut
namespace Go.Proofs.YtggfadiahacgeaaDoor
open Go.RowKit Go.ChangeShapes Go.WideShapes Go.Deep
set_option linter.unusedVariables false
set_option linter.unusedSimpArgs false

theorem choose_fn {α : Type} [Inhabited α] {n : Nat} {p : Nat → α → Prop} (h : ∀ i, i < n → ∃ x, p i x) : ∃ f : Nat → α, ∀ i, i < n → p i (f i) := choose_lt h
theorem reads_of_cells {W : World} {a : Addr} {len : Nat} {α : Type} (g : α → Value) (f : Nat → α) (h : ∀ k, k < len → W.cell? (a.add k) = some (g (f k))) : Reads W W.heap.size 1 (some a) len (((List.range len).map f).map g) := by
  refine ⟨by simp, fun hn => ⟨a, rfl, ?_, fun j u hu => ?_⟩⟩
  · have := World.block_lt_of_cell? _ _ (h 0 hn)
    rwa [block_of_add] at this
  · have hj : j < len := by
      have := (List.getElem?_eq_some_iff.1 hu).1
      simpa using this
    rw [h j hj, ← hu]; simp [hj]

theorem wf_u8 {x : Int} (h : (Lit.int .u8 x).wf = true) : 0 ≤ x ∧ x < 256 := by
  have := bounds_u8 h
  omega
section
variable {H : Type} {enc : TypeId × Value → H} {W : World} {base : Nat} {held : Bool} {A : Option Addr} {len cap : Nat} {d : DataW H} {p : List MemPlace}
set_option maxRecDepth 100000 in
theorem bytes_in (h : DataW.Trod enc Tryd.prog W base (fun _ => true) held 25 (.slice A len cap) d p) : ∃ bs : List UInt8, Reads W W.heap.size 1 A len (u8s bs) := by
  obtain ⟨fuel, hf⟩ := h
  rcases open_slice1 Tryd.underlying25 (by kernel_rfl) hf with ⟨hcs, _⟩ | ⟨a, len', cap', m, n, V, D, Pl, hcs, hb, hl, hm, hmm, hx, hi⟩
  · simp [Value.cells] at hcs
    obtain ⟨rfl, rfl, rfl⟩ := hcs
    exact ⟨[], Reads.none_⟩
  · simp [Value.cells] at hcs
    obtain ⟨rfl, rfl, rfl⟩ := hcs
    have cell : ∀ k, k < len → ∃ c : UInt8, W.cell? (a.add k) = some (.int .u8 (c.toNat : Int)) := by
      intro k hk
      obtain ⟨hc, ht⟩ := hi k (by rw [hmm]; simp; omega)
      obtain ⟨x, e, _, wf⟩ := DataW.trod_int Tryd.underlying5 ht
      simp at e
      obtain ⟨x0, x1⟩ := wf_u8 wf
      refine ⟨UInt8.ofNat x.toNat, ?_⟩
      rw [hc, e, u8_ofNat_toNat, show (((x.toNat % 256 : Nat)) : Int) = x by omega]
    obtain ⟨f, hf⟩ := choose_fn cell
    exact ⟨(List.range len).map f, reads_of_cells (fun c : UInt8 => .int .u8 (c.toNat : Int)) f hf⟩
end
/-- A slice of numbers of whatever kind that came in. -/
theorem kints_in {H : Type} {enc : TypeId × Value → H} {P : Program} {W : World} {base : Nat} {held : Bool} {A : Option Addr} {len cap : Nat} {d : DataW H} {p : List MemPlace} {t e : TypeId} {q : IntKind} (hu : P.underlying t = some (.slice e)) (he : P.underlying e = some (.int q)) (hc : P.cellsOf e = 1)
    (h : DataW.Trod enc P W base (fun _ => true) held t (.slice A len cap) d p) : ∃ is : List Int, Reads W W.heap.size 1 A len (is.map (Value.int q)) ∧ ∀ x ∈ is, (Lit.int q x).wf = true := by
  obtain ⟨fuel, hf⟩ := h
  rcases open_slice1 hu hc hf with ⟨hcs, _⟩ | ⟨a, len', cap', m, n, V, D, Pl, hcs, hb, hl, hm, hmm, hx, hi⟩
  · simp [Value.cells] at hcs
    obtain ⟨rfl, rfl, rfl⟩ := hcs
    exact ⟨[], Reads.none_, by simp⟩
  · simp [Value.cells] at hcs
    obtain ⟨rfl, rfl, rfl⟩ := hcs
    have cell : ∀ k, k < len → ∃ x : Int, W.cell? (a.add k) = some (.int q x) ∧ (Lit.int q x).wf = true := by
      intro k hk
      obtain ⟨hc, ht⟩ := hi k (by rw [hmm]; simp; omega)
      obtain ⟨x, e, _, wf⟩ := DataW.trod_int he ht
      simp at e
      exact ⟨x, by rw [hc, e], wf⟩
    obtain ⟨f, hf⟩ := choose_fn cell
    refine ⟨(List.range len).map f, reads_of_cells (Value.int q) f (fun k hk => (hf k hk).1), fun x hx => ?_⟩
    obtain ⟨k, hk, rfl⟩ := List.mem_map.1 hx
    exact (hf k (List.mem_range.1 hk)).2
/-- How long a slice is that came in: its bytes reach no further than memory does. -/
theorem slice_sized {H : Type} {enc : TypeId × Value → H} {P : Program} {W : World} {base : Nat} {spare : Nat → Bool} {held : Bool} {A : Option Addr} {len cap : Nat} {d : DataW H} {p : List MemPlace} {ts : List TypeId} {ds : List (DataW H)} {j : Nat} {t e : TypeId}
    (hsz : (DataW.weightsEach P ts ds).all (· ≤ reachBytes) = true) (ht : ts[j]? = some t) (hd : ds[j]? = some d) (hu : P.underlying t = some (.slice e)) (hc : P.cellsOf e = 1)
    (h : DataW.Trod enc P W base spare held t (.slice A len cap) d p) : len * P.bytesOf e ≤ 140737488351232 := by
  obtain ⟨fuel, hf⟩ := h
  rcases open_slice1 hu hc hf with ⟨hcs, _⟩ | ⟨a, len', cap', m, n, V, D, Pl, hcs, hb, hl, hm, hmm, hx, hi⟩
  · simp [Value.cells] at hcs
    obtain ⟨rfl, rfl, rfl⟩ := hcs
    simp
  · simp [Value.cells] at hcs
    obtain ⟨rfl, rfl, rfl⟩ := hcs
    injection hx with hx _
    subst hx
    have := sized_slice hsz ht hd hu
    simp only [List.length_map, List.length_range] at this
    have h2 : reachBytes = 140737488351232 := rfl
    rw [h2] at this
    exact Nat.le_trans (Nat.mul_le_mul_right _ (by omega)) this
end Go.Proofs.YtggfadiahacgeaaDoor
