/- Slices of structs of integers that came in, as lists of lists. -/
import Derived.Test.YtggfadiahacgeaaDoorDoor
import Derived.Test.YtggfadiahacgeaaDoorSlices
namespace Go.Proofs.YtggfadiahacgeaaDoor
open Go.RowKit Go.ChangeShapes Go.WideShapes Go.Deep
set_option linter.unusedVariables false
set_option linter.unusedSimpArgs false

theorem ints_get (l : List Int) (j : Nat) : (ints l)[j]? = (l[j]?).map (Value.int .i64) := by unfold ints; exact List.getElem?_map
theorem flat_get {n : Nat} : ∀ {ls : List (List Int)} {i k : Nat}, (∀ l ∈ ls, l.length = n) → k < n → ls.flatten[i * n + k]? = (ls[i]?).bind (·[k]?)
  | [], i, k, _, _ => by simp
  | l :: ls, 0, k, h, hk => by
    rw [List.flatten_cons, Nat.zero_mul, Nat.zero_add, List.getElem?_append_left (by rw [h l (by simp)]; exact hk)]; rfl
  | l :: ls, i + 1, k, h, hk => by
    have hl := h l (by simp)
    rw [List.flatten_cons, List.getElem?_append_right (by rw [hl, Nat.succ_mul]; omega), hl, show (i + 1) * n + k - n = i * n + k by rw [Nat.succ_mul]; omega, flat_get (fun x hx => h x (by simp [hx])) hk]
    rfl
theorem flat_length {n : Nat} : ∀ {ls : List (List Int)}, (∀ l ∈ ls, l.length = n) → ls.flatten.length = ls.length * n
  | [], _ => by simp
  | l :: ls, h => by rw [List.flatten_cons, List.length_append, flat_length (fun x hx => h x (by simp [hx])), h l (by simp), List.length_cons, Nat.succ_mul]; omega
section
variable {H : Type} {enc : TypeId × Value → H} {P : Program} {W : World} {base : Nat} {held : Bool} {A : Option Addr} {len cap : Nat} {dt : DataW H} {p : List MemPlace}
theorem flats_in {t e : TypeId} {d n : Nat} (hu : P.underlying t = some (.slice e)) (hf : flatB P d e = some (true, n)) (h6 : all64 P d e = true) (hn : 0 < n)
    (h : DataW.Trod enc P W base (fun _ => true) held t (.slice A len cap) dt p) : ∃ ls : List (List Int), ls.length = len ∧ (∀ l ∈ ls, l.length = n) ∧ (∀ l ∈ ls, ∀ y ∈ l, (Lit.int .i64 y).wf = true) ∧ Reads W W.heap.size n A len (ints ls.flatten) := by
  obtain ⟨fuel, hx⟩ := h
  rcases open_slice hu hx with ⟨hcs, _⟩ | ⟨a, len', cap', m, k0, D, Pl, hcs, hb, hl, hm, hmm, hx, hi⟩
  · simp [Value.cells] at hcs
    obtain ⟨rfl, rfl, rfl⟩ := hcs
    exact ⟨[], rfl, by simp, by simp, by simp [ints], fun h => absurd h (by omega)⟩
  · simp [Value.cells] at hcs
    obtain ⟨rfl, rfl, rfl⟩ := hcs
    have hC : P.cellsOf e = n := flat_cellsOf hf
    have cell : ∀ k, k < len → ∃ l : List Int, (l.length = n ∧ ∀ y ∈ l, (Lit.int .i64 y).wf = true) ∧ ∀ j y, l[j]? = some y → W.cell? (a.add (k * n + j)) = some (.int .i64 y) := by
      intro k hk
      obtain ⟨cs', hc, ht⟩ := hi k (by rw [hmm]; simp; omega)
      rw [hC] at hc
      obtain ⟨_, hcl, hat⟩ := World.cells?_some hc
      obtain ⟨hl2, hall⟩ := flat_ints d e true n hf h6 _ _ _ ht
      obtain ⟨l, hle, hw⟩ := ints_of hall
      subst hle
      refine ⟨l, ⟨by simpa using hl2, hw⟩, fun j y hj => ?_⟩
      have hjn : j < n := by have := (List.getElem?_eq_some_iff.1 hj).1; simp at hl2; omega
      have := hat j hjn
      rw [add_add] at this
      rw [this]
      simp [ints, hj]
    obtain ⟨f, hfn⟩ := choose_fn cell
    have hall : ∀ l ∈ (List.range len).map f, l.length = n := fun l hl => by
      obtain ⟨k, hk, rfl⟩ := List.mem_map.1 hl
      exact (hfn k (List.mem_range.1 hk)).1.1
    refine ⟨(List.range len).map f, by simp, hall, fun l hl => ?_, ?_⟩
    · obtain ⟨k, hk, rfl⟩ := List.mem_map.1 hl
      exact (hfn k (List.mem_range.1 hk)).1.2
    · refine ⟨by rw [ints_length, flat_length hall]; simp, fun h0 => ⟨a, rfl, ?_, fun j u hu => ?_⟩⟩
      · have h1 := (hfn 0 h0).1.1
        have := (hfn 0 h0).2 0 _ (List.getElem?_eq_getElem (show 0 < (f 0).length by omega))
        have := World.block_lt_of_cell? _ _ this
        rwa [block_of_add] at this
      · have hj : j < len * n := by
          have := (List.getElem?_eq_some_iff.1 hu).1
          rw [ints_length, flat_length hall] at this
          simpa using this
        have hd : j / n < len := Nat.div_lt_of_lt_mul (by rw [Nat.mul_comm]; exact hj)
        have hml := Nat.mod_lt j hn
        have hdm : j = j / n * n + j % n := by have := Nat.div_add_mod j n; rw [Nat.mul_comm] at this; omega
        have hget : ((List.range len).map f).flatten[j]? = (f (j / n))[j % n]? := by
          conv => lhs; rw [hdm]
          rw [flat_get hall hml]
          simp [hd]
        have hu2 : (ints ((List.range len).map f).flatten)[j]? = (((List.range len).map f).flatten[j]?).map (Value.int .i64) := ints_get _ _
        rw [hu2, hget] at hu
        obtain ⟨y, hy, rfl⟩ := Option.map_eq_some_iff.1 hu
        conv => lhs; rw [hdm]
        exact (hfn _ hd).2 _ _ hy
end
/-- A struct at a place of a slice that reads. -/
theorem Reads.flat_at {w : World} {B n size : Nat} {A : Option Addr} {ls : List (List Int)} (h : Reads w B size A n (ints ls.flatten)) (hall : ∀ l ∈ ls, l.length = size) (hn : ls.length = n) (hs : 0 < size) {i : Nat} (hi : i < n) :
    ∃ b off, A = some ⟨b, off, none⟩ ∧ b < B ∧ (∀ j, j < size → w.cell? ⟨b, off + i * size + j, none⟩ = some (.int .i64 (fld (ls.getD i []) j))) ∧ (ls.getD i []).length = size := by
  obtain ⟨ad, e, hb, hc⟩ := h.2 (by omega)
  have hl : ls.getD i [] = ls[i]'(by omega) := by simp [List.getD, hn, hi]
  have hlen : (ls.getD i []).length = size := by rw [hl]; exact hall _ (List.getElem_mem _)
  have hcell : ∀ j, j < size → w.cell? (ad.add (i * size + j)) = some (.int .i64 (fld (ls.getD i []) j)) := by
    intro j hj
    apply hc
    have h1 : ls.flatten[i * size + j]? = (ls.getD i [])[j]? := by rw [flat_get hall hj, hl]; simp [hn, hi]
    rw [ints_get, h1, fld_get (by omega)]; rfl
  obtain ⟨b, off, sp⟩ := ad
  have hsp : sp = none := by
    have h0 : (ints ls.flatten)[0]? = some (.int .i64 (fld (ls.getD 0 []) 0)) := by
      have h1 : ls.flatten[0 * size + 0]? = _ := flat_get hall hs
      rw [Nat.zero_mul] at h1
      have h2 : (ls[0]'(by omega)).length = size := hall _ (List.getElem_mem _)
      rw [ints_get, h1, List.getElem?_eq_getElem (show 0 < ls.length by omega)]
      simp [List.getD, show 0 < ls.length by omega, fld, List.getElem?_eq_getElem (show 0 < (ls[0]'(by omega)).length by omega)]
    exact World.cell?_spot (hc 0 _ h0)
  subst hsp
  refine ⟨b, off, e, hb, fun j hj => ?_, hlen⟩
  have := hcell j hj
  unfold Addr.add at this
  split at this
  · rename_i h0
    rw [show off + i * size + j = off by omega]; exact this
  · rw [show off + i * size + j = off + (i * size + j) by omega]; exact this
theorem cells_whole {w : World} {b off size : Nat} {l : List Int} (hl : l.length = size) (h : ∀ j, j < size → w.cell? ⟨b, off + j, none⟩ = some (.int .i64 (fld l j))) : ∀ j v, (ints l)[j]? = some v → w.cell? ((⟨b, off, none⟩ : Addr).add j) = some v := by
  intro j v hv
  have hj : j < size := by have := (List.getElem?_eq_some_iff.1 hv).1; rw [ints_length] at this; omega
  have h2 : (ints l)[j]? = some (.int .i64 (fld l j)) := by rw [ints_get, fld_get (by omega)]; rfl
  rw [h2] at hv
  rw [← hv, ← h j hj]
  unfold Addr.add
  split
  · rename_i h0; subst h0; rfl
  · rfl
end Go.Proofs.YtggfadiahacgeaaDoor
