/- What a message that may be is by the document: plain lists. -/
import Derived.Test.YthdfgdehddmkpaaLaw4B
import Derived.Test.YthdfgdehddmkpaaMsgK
namespace Go.Proofs.Ythdfgdehddmkpaa
open Go.RowKit
set_option linter.unusedVariables false
set_option linter.unusedSimpArgs false

/-- A message with some of its numbers alone. -/
def keepL (m : List Int) (S : Nat → Bool) : List Int := (List.range 28).map fun i => if S i then fld m i else 0
@[simp] theorem keepL_length (m : List Int) (S : Nat → Bool) : (keepL m S).length = 28 := by simp [keepL]
theorem eq_keepL {m : List Int} (hl : m.length = 28) (S : Nat → Bool) : m = keepL m S ↔ ∀ i, i < 28 → S i = false → fld m i = 0 := by
  constructor
  · intro h i hi hS
    have : m[i]? = (keepL m S)[i]? := by rw [← h]
    rw [fld_get (by omega)] at this
    simpa [keepL, hi, hS] using this
  · intro h
    apply List.ext_getElem?
    intro i
    by_cases hi : i < 28
    · rw [fld_get (by omega)]
      simp only [keepL, List.getElem?_map, List.getElem?_range hi, Option.map_some]
      cases hS : S i with
      | true => simp
      | false => rw [h i hi hS]; simp
    · rw [List.getElem?_eq_none (by omega), List.getElem?_eq_none (by simp; omega)]
theorem path_zero {m : List Int} (hn : fld m 11 = 0) : pathB m = true ↔ ∀ j, 12 ≤ j → j < 28 → fld m j = 0 := by
  have key : ∀ i, okAt m i = decide (stTx m i = 0 ∧ stSeq m i = 0) := fun i => by unfold okAt; rw [if_neg (by omega)]
  unfold pathB
  rw [decide_eq_true_eq]
  constructor
  · intro h j h1 h2
    have := h ((j - 12) / 2) (by omega)
    rw [key, decide_eq_true_eq] at this
    unfold stTx stSeq at this
    rcases (show j = 12 + (j - 12) / 2 * 2 ∨ j = 12 + (j - 12) / 2 * 2 + 1 by omega) with e | e
    · rw [← e] at this; exact this.1
    · rw [← e] at this; exact this.2
  · intro h i hi
    rw [key, decide_eq_true_eq]
    exact ⟨h _ (by omega) (by omega), h _ (by omega) (by omega)⟩
theorem inS00 {x : Int} : inS 0 0 x = true ↔ x = 0 := by rw [inS_iff]; omega
theorem place_no {t r : Int} : placeB false t r = true ↔ t = 0 ∧ r = 0 := by unfold placeB; simp

/-- The numbers that a class of kinds has. -/
def sA (i : Nat) : Bool := decide (i < 8)
def sB (i : Nat) : Bool := decide (i < 5 ∨ i = 8)
def sC (i : Nat) : Bool := decide (i < 4)
def sD (i : Nat) : Bool := decide (i < 4 ∨ i = 8)
def sE (i : Nat) : Bool := decide (i < 4 ∨ i = 9)
def sF (i : Nat) : Bool := decide (i < 3 ∨ 9 ≤ i)

/-- Kinds 1 and 2. -/
theorem mayA {m : List Int} (hl : m.length = 28) (hk : 1 ≤ fld m 0 ∧ fld m 0 ≤ 2) (hg : goesB m = true) (ht : inS 1 1048576 (fld m 3) = true) (hs : inS 1 1048576 (fld m 4) = true) (hp : resB (fld m 5) (fld m 6) = true) (hm : inS 1 4 (fld m 7) = true) :
    mayB m = decide (m = keepL m sA) := by
  rw [Bool.eq_iff_iff, decide_eq_true_eq, eq_keepL hl]
  unfold mayB sTx sSeq sAt sMode sCode sNext sNseq sN placeB
  rw [hg, if_pos (by omega), if_pos (by omega), decide_eq_true (by omega), if_pos rfl, if_pos (by omega), if_neg (by omega), if_neg (by omega), if_neg (by omega), if_neg (by omega), if_neg (by omega), if_neg (by omega), ht, hs, hp, hm]
  simp only [Bool.true_and, Bool.and_eq_true, inS00]
  constructor
  · rintro ⟨h8, h9, h10, h11, hpt⟩ i hi hS
    have hpz := (path_zero h11).1 hpt
    have : ¬ i < 8 := of_decide_eq_false hS
    rcases (show i = 8 ∨ i = 9 ∨ i = 10 ∨ i = 11 ∨ 12 ≤ i by omega) with rfl | rfl | rfl | rfl | h
    · exact h8
    · exact h9
    · exact h10
    · exact h11
    · exact hpz i h hi
  · intro h
    have h11 := h 11 (by omega) rfl
    exact ⟨h 8 (by omega) rfl, h 9 (by omega) rfl, h 10 (by omega) rfl, h11, (path_zero h11).2 fun j h1 h2 => h j h2 (decide_eq_false (by omega))⟩
/-- Kind 3. -/
theorem mayC3 {m : List Int} (hl : m.length = 28) (hk : fld m 0 = 3) (hg : goesB m = true) (ht : inS 1 1048576 (fld m 3) = true) (hs : inS 1 1048576 (fld m 4) = true) (hc : inS 1 15 (fld m 8) = true) :
    mayB m = decide (m = keepL m sB) := by
  rw [Bool.eq_iff_iff, decide_eq_true_eq, eq_keepL hl]
  unfold mayB sTx sSeq sAt sMode sCode sNext sNseq sN
  rw [hg, if_pos (by omega), if_pos (by omega), decide_eq_false (by omega), if_neg (by omega), if_pos (by omega), if_neg (by omega), if_neg (by omega), if_neg (by omega), if_neg (by omega), ht, hs, hc]
  simp only [Bool.true_and, Bool.and_eq_true, inS00, place_no]
  constructor
  · rintro ⟨⟨h5, h6⟩, h7, h9, h10, h11, hpt⟩ i hi hS
    have hpz := (path_zero h11).1 hpt
    have : ¬ (i < 5 ∨ i = 8) := of_decide_eq_false hS
    rcases (show i = 5 ∨ i = 6 ∨ i = 7 ∨ i = 9 ∨ i = 10 ∨ i = 11 ∨ 12 ≤ i by omega) with rfl | rfl | rfl | rfl | rfl | rfl | h
    · exact h5
    · exact h6
    · exact h7
    · exact h9
    · exact h10
    · exact h11
    · exact hpz i h hi
  · intro h
    have h11 := h 11 (by omega) rfl
    exact ⟨⟨h 5 (by omega) rfl, h 6 (by omega) rfl⟩, h 7 (by omega) rfl, h 9 (by omega) rfl, h 10 (by omega) rfl, h11, (path_zero h11).2 fun j h1 h2 => h j h2 (decide_eq_false (by omega))⟩
/-- Kinds 4, 7, 8, 9. -/
theorem mayC {m : List Int} (hl : m.length = 28) (hk : fld m 0 = 4 ∨ fld m 0 = 7 ∨ fld m 0 = 8 ∨ fld m 0 = 9) (hg : goesB m = true) (ht : inS 1 1048576 (fld m 3) = true) :
    mayB m = decide (m = keepL m sC) := by
  rw [Bool.eq_iff_iff, decide_eq_true_eq, eq_keepL hl]
  unfold mayB sTx sSeq sAt sMode sCode sNext sNseq sN
  rw [hg, if_pos (by omega), if_neg (by omega), decide_eq_false (by omega), if_neg (by omega), if_neg (by omega), if_neg (by omega), if_neg (by omega), if_neg (by omega), if_neg (by omega), if_neg (by omega), ht]
  simp only [Bool.true_and, Bool.and_eq_true, inS00, place_no]
  constructor
  · rintro ⟨h4, ⟨h5, h6⟩, h7, h8, h9, h10, h11, hpt⟩ i hi hS
    have hpz := (path_zero h11).1 hpt
    have : ¬ (i < 4) := of_decide_eq_false hS
    rcases (show i = 4 ∨ i = 5 ∨ i = 6 ∨ i = 7 ∨ i = 8 ∨ i = 9 ∨ i = 10 ∨ i = 11 ∨ 12 ≤ i by omega) with rfl | rfl | rfl | rfl | rfl | rfl | rfl | rfl | h
    · exact h4
    · exact h5
    · exact h6
    · exact h7
    · exact h8
    · exact h9
    · exact h10
    · exact h11
    · exact hpz i h hi
  · intro h
    have h11 := h 11 (by omega) rfl
    exact ⟨h 4 (by omega) rfl, ⟨h 5 (by omega) rfl, h 6 (by omega) rfl⟩, h 7 (by omega) rfl, h 8 (by omega) rfl, h 9 (by omega) rfl, h 10 (by omega) rfl, h11, (path_zero h11).2 fun j h1 h2 => h j h2 (decide_eq_false (by omega))⟩
/-- Kinds 5, 6. -/
theorem mayD {m : List Int} (hl : m.length = 28) (hk : fld m 0 = 5 ∨ fld m 0 = 6) (hg : goesB m = true) (ht : inS 1 1048576 (fld m 3) = true) (hc : inS 0 1 (fld m 8) = true) :
    mayB m = decide (m = keepL m sD) := by
  rw [Bool.eq_iff_iff, decide_eq_true_eq, eq_keepL hl]
  unfold mayB sTx sSeq sAt sMode sCode sNext sNseq sN
  rw [hg, if_pos (by omega), if_neg (by omega), decide_eq_false (by omega), if_neg (by omega), if_neg (by omega), if_pos (by omega), if_neg (by omega), if_neg (by omega), if_neg (by omega), if_neg (by omega), ht, hc]
  simp only [Bool.true_and, Bool.and_eq_true, inS00, place_no]
  constructor
  · rintro ⟨h4, ⟨h5, h6⟩, h7, h9, h10, h11, hpt⟩ i hi hS
    have hpz := (path_zero h11).1 hpt
    have : ¬ (i < 4 ∨ i = 8) := of_decide_eq_false hS
    rcases (show i = 4 ∨ i = 5 ∨ i = 6 ∨ i = 7 ∨ i = 9 ∨ i = 10 ∨ i = 11 ∨ 12 ≤ i by omega) with rfl | rfl | rfl | rfl | rfl | rfl | rfl | h
    · exact h4
    · exact h5
    · exact h6
    · exact h7
    · exact h9
    · exact h10
    · exact h11
    · exact hpz i h hi
  · intro h
    have h11 := h 11 (by omega) rfl
    exact ⟨h 4 (by omega) rfl, ⟨h 5 (by omega) rfl, h 6 (by omega) rfl⟩, h 7 (by omega) rfl, h 9 (by omega) rfl, h 10 (by omega) rfl, h11, (path_zero h11).2 fun j h1 h2 => h j h2 (decide_eq_false (by omega))⟩
/-- Kind 10. -/
theorem mayE {m : List Int} (hl : m.length = 28) (hk : fld m 0 = 10) (hg : goesB m = true) (ht : inS 1 1048576 (fld m 3) = true) (hx : inS 1 (wrap64 (fld m 3 - 1)) (fld m 9) = true) :
    mayB m = decide (m = keepL m sE) := by
  rw [Bool.eq_iff_iff, decide_eq_true_eq, eq_keepL hl]
  unfold mayB sTx sSeq sAt sMode sCode sNext sNseq sN
  rw [hg, if_pos (by omega), if_neg (by omega), decide_eq_false (by omega), if_neg (by omega), if_neg (by omega), if_neg (by omega), if_pos (by omega), if_neg (by omega), if_neg (by omega), ht, hx]
  simp only [Bool.true_and, Bool.and_eq_true, inS00, place_no]
  constructor
  · rintro ⟨h4, ⟨h5, h6⟩, h7, h8, h10, h11, hpt⟩ i hi hS
    have hpz := (path_zero h11).1 hpt
    have : ¬ (i < 4 ∨ i = 9) := of_decide_eq_false hS
    rcases (show i = 4 ∨ i = 5 ∨ i = 6 ∨ i = 7 ∨ i = 8 ∨ i = 10 ∨ i = 11 ∨ 12 ≤ i by omega) with rfl | rfl | rfl | rfl | rfl | rfl | rfl | h
    · exact h4
    · exact h5
    · exact h6
    · exact h7
    · exact h8
    · exact h10
    · exact h11
    · exact hpz i h hi
  · intro h
    have h11 := h 11 (by omega) rfl
    exact ⟨h 4 (by omega) rfl, ⟨h 5 (by omega) rfl, h 6 (by omega) rfl⟩, h 7 (by omega) rfl, h 8 (by omega) rfl, h 10 (by omega) rfl, h11, (path_zero h11).2 fun j h1 h2 => h j h2 (decide_eq_false (by omega))⟩
/-- Kind 11. -/
theorem mayF {m : List Int} (hl : m.length = 28) (hk : fld m 0 = 11) (hg : goesB m = true) (hx : inS 1 1048576 (fld m 9) = true) (hq : inS 0 1048576 (fld m 10) = true) (hn : inS 1 8 (fld m 11) = true) (hp : pathB m = true) :
    mayB m = decide (m = keepL m sF) := by
  rw [Bool.eq_iff_iff, decide_eq_true_eq, eq_keepL hl]
  unfold mayB sTx sSeq sAt sMode sCode sNext sNseq sN
  rw [hg, if_neg (by omega), if_neg (by omega), decide_eq_false (by omega), if_neg (by omega), if_neg (by omega), if_neg (by omega), if_neg (by omega), if_pos (by omega), if_pos (by omega), if_pos (by omega), hx, hq, hn, hp]
  simp only [Bool.true_and, Bool.and_true, Bool.and_eq_true, inS00, place_no]
  constructor
  · rintro ⟨h3, h4, ⟨h5, h6⟩, h7, h8⟩ i hi hS
    have : ¬ (i < 3 ∨ 9 ≤ i) := of_decide_eq_false hS
    rcases (show i = 3 ∨ i = 4 ∨ i = 5 ∨ i = 6 ∨ i = 7 ∨ i = 8 by omega) with rfl | rfl | rfl | rfl | rfl | rfl
    · exact h3
    · exact h4
    · exact h5
    · exact h6
    · exact h7
    · exact h8
  · intro h
    exact ⟨h 3 (by omega) rfl, h 4 (by omega) rfl, ⟨h 5 (by omega) rfl, h 6 (by omega) rfl⟩, h 7 (by omega) rfl, h 8 (by omega) rfl⟩
end Go.Proofs.Ythdfgdehddmkpaa
