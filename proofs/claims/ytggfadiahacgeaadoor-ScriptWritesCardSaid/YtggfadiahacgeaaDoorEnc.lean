/- Slices whose elements are told by lists of cells, all of one length. -/
import Derived.Test.YtggfadiahacgeaaDoorBase
namespace Go.Proofs.YtggfadiahacgeaaDoor
open Go.RowKit
set_option linter.unusedVariables false
set_option linter.unusedSimpArgs false

theorem fm_length {α : Type} {enc : α → List Value} {n : Nat} (hn : ∀ a, (enc a).length = n) : ∀ L : List α, (L.flatMap enc).length = L.length * n
  | [] => by simp
  | a :: r => by rw [List.flatMap_cons, List.length_append, fm_length hn r, hn, List.length_cons, Nat.succ_mul]; omega
theorem fm_get {α : Type} {enc : α → List Value} {n : Nat} (hn : ∀ a, (enc a).length = n) : ∀ {L : List α} {i k : Nat} (hi : i < L.length), k < n → (L.flatMap enc)[i * n + k]? = (enc L[i])[k]?
  | [], i, k, hi, _ => by simp at hi
  | a :: r, 0, k, hi, hk => by rw [List.flatMap_cons, Nat.zero_mul, Nat.zero_add, List.getElem?_append_left (by rw [hn]; exact hk)]; rfl
  | a :: r, i + 1, k, hi, hk => by
    rw [List.flatMap_cons, List.getElem?_append_right (by rw [hn, Nat.succ_mul]; omega), hn, show (i + 1) * n + k - n = i * n + k by rw [Nat.succ_mul]; omega, fm_get hn (by simpa using hi) hk]
    rfl
theorem fm_take {α : Type} {enc : α → List Value} {n : Nat} (hn : ∀ a, (enc a).length = n) : ∀ (L : List α) (k : Nat), (L.flatMap enc).take (k * n) = (L.take k).flatMap enc
  | [], k => by simp
  | a :: r, 0 => by simp
  | a :: r, k + 1 => by
    rw [List.flatMap_cons, List.take_append, hn, show (k + 1) * n - n = k * n by rw [Nat.succ_mul]; omega, fm_take hn r k, List.take_of_length_le (by rw [hn, Nat.succ_mul]; omega)]
    rfl
theorem fm_drop {α : Type} {enc : α → List Value} {n : Nat} (hn : ∀ a, (enc a).length = n) : ∀ (L : List α) (k : Nat), (L.flatMap enc).drop (k * n) = (L.drop k).flatMap enc
  | [], k => by simp
  | a :: r, 0 => by simp
  | a :: r, k + 1 => by
    rw [List.flatMap_cons, List.drop_append, hn, show (k + 1) * n - n = k * n by rw [Nat.succ_mul]; omega, fm_drop hn r k, List.drop_of_length_le (by rw [hn, Nat.succ_mul]; omega)]
    rfl
section
variable {α : Type} {enc : α → List Value} {w : World} {B n m : Nat} {A : Option Addr} {L : List α}
theorem Reads.el_len (hn : ∀ a, (enc a).length = n) (h0 : 0 < n) (h : Reads w B n A m (L.flatMap enc)) : L.length = m := by
  have := h.1; rw [fm_length hn] at this
  exact Nat.eq_of_mul_eq_mul_right h0 this
theorem Reads.el_cells (hn : ∀ a, (enc a).length = n) (h0 : 0 < n) (h : Reads w B n A m (L.flatMap enc)) {i : Nat} (hi : i < L.length) :
    ∃ b off, A = some ⟨b, off, none⟩ ∧ b < B ∧ (∀ j v, (enc L[i])[j]? = some v → w.cell? ⟨b, off + i * n + j, none⟩ = some v) := by
  have hl := h.el_len hn h0
  obtain ⟨ad, e, hb, hc⟩ := h.2 (by omega)
  have hcell : ∀ j v, (enc L[i])[j]? = some v → w.cell? (ad.add (i * n + j)) = some v := by
    intro j v hv
    have hj : j < n := by have := (List.getElem?_eq_some_iff.1 hv).1; rwa [hn] at this
    apply hc
    rw [fm_get hn hi hj]; exact hv
  obtain ⟨b, off, sp⟩ := ad
  have hsp : sp = none := by
    have hl0 : 0 < L.length := by omega
    have hne : 0 < (enc L[0]).length := by rw [hn]; exact h0
    have h1 := fm_get hn hl0 h0
    rw [Nat.zero_mul, Nat.zero_add, List.getElem?_eq_getElem hne] at h1
    exact World.cell?_spot (hc 0 _ h1)
  subst hsp
  refine ⟨b, off, e, hb, fun j v hv => ?_⟩
  have := hcell j v hv
  unfold Addr.add at this
  split at this
  · rename_i h9; rw [show off + i * n + j = off by omega]; exact this
  · rw [show off + i * n + j = off + (i * n + j) by omega]; exact this
theorem Reads.el_take (hn : ∀ a, (enc a).length = n) (h0 : 0 < n) (h : Reads w B n A m (L.flatMap enc)) {k : Nat} (hk : k ≤ m) : Reads w B n A k ((L.take k).flatMap enc) := by
  have hl := h.el_len hn h0
  refine ⟨by rw [fm_length hn, List.length_take]; congr 1; omega, fun h1 => ?_⟩
  obtain ⟨ad, e, hb, hc⟩ := h.2 (by omega)
  refine ⟨ad, e, hb, fun j u hu => hc j u ?_⟩
  rw [← fm_take hn, List.getElem?_take] at hu
  split at hu
  · exact hu
  · cases hu
theorem Reads.el_drop (hn : ∀ a, (enc a).length = n) (h : Reads w B n A m (L.flatMap enc)) {k cap : Nat} (hk : k ≤ m) (hc : m ≤ cap) : Reads w B n (if cap = k then A else A.map (·.add (k * n))) (m - k) ((L.drop k).flatMap enc) := by
  rw [← fm_drop hn]; exact h.cut hk hc
end
theorem own_el {w : World} {base n size : Nat} {t : TypeId} {v : Value} {xs : List Value} (h : w.ownsRow base t size v n xs) : ∃ A cap, v = .slice A n cap ∧ Reads w w.heap.size size A n xs ∧ n ≤ cap ∧ (∀ ad, A = some ad → base ≤ ad.block ∧ ad.block < w.heap.size ∧ (.slice A n cap : Value).ownBlock = some ad.block) := by
  rcases h.2 with ⟨rfl, h0⟩ | ⟨g', cap', cur, rfl, hb, hh, hnc, _⟩
  · subst h0; exact ⟨_, _, rfl, Reads.of_own h, Nat.le_refl _, fun ad hx => by cases hx⟩
  · exact ⟨_, _, rfl, Reads.of_own h, hnc, fun ad hx => by cases hx; exact ⟨hb, own_lt hh, rfl⟩⟩
end Go.Proofs.YtggfadiahacgeaaDoor
