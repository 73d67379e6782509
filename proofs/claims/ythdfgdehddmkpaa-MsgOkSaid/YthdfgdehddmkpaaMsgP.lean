/- A message and its bytes, there and back. -/
import Derived.Test.YthdfgdehddmkpaaMsgI
import Derived.Test.YthdfgdehddmkpaaMsgH
namespace Go.Proofs.Ythdfgdehddmkpaa
open Go.RowKit
set_option linter.unusedVariables false
set_option linter.unusedSimpArgs false

theorem pos_succ : ∀ i : Nat, i < 28 → posM (i + 1) = posM i + widM i := by decide +kernel
theorem wid_small : ∀ i : Nat, i < 28 → 1 ≤ widM i ∧ widM i ≤ 4 := by decide +kernel
/-- The bytes of the first numbers. -/
def encTo (m : List Int) (n : Nat) : List UInt8 := (List.range n).flatMap fun i => encN (widM i) (fld m i).toNat
theorem encTo_succ (m : List Int) (n : Nat) : encTo m (n + 1) = encTo m n ++ encN (widM n) (fld m n).toNat := by
  simp [encTo, List.range_succ, List.flatMap_append]
theorem encTo_length (m : List Int) : ∀ n, n ≤ 28 → (encTo m n).length = posM n
  | 0, _ => by simp [encTo, posM]
  | n + 1, h => by rw [encTo_succ, List.length_append, encTo_length m n (by omega), encN_length, pos_succ n (by omega)]
theorem encTo_at (m : List Int) {i : Nat} : ∀ n, n ≤ 28 → i < n → ((encTo m n).drop (posM i)).take (widM i) = encN (widM i) (fld m i).toNat
  | 0, _, h => by omega
  | n + 1, h, hi => by
    have hl := encTo_length m n (by omega)
    rw [encTo_succ]
    by_cases hn : i < n
    · have h1 := encTo_at m n (by omega) hn
      have h2 := encTo_length m (i + 1) (by omega)
      have h3 := pos_succ i (by omega)
      have h4 : posM (i + 1) ≤ posM n := by
        have : ∀ k, i + 1 + k ≤ 28 → posM (i + 1) ≤ posM (i + 1 + k) := by
          intro k
          induction k with
          | zero => intro _; exact Nat.le_refl _
          | succ k ih => intro hk; have := ih (by omega); have := pos_succ (i + 1 + k) (by omega); rw [show i + 1 + (k + 1) = i + 1 + k + 1 by omega]; omega
        have := this (n - (i + 1)) (by omega)
        rwa [show i + 1 + (n - (i + 1)) = n by omega] at this
      rw [List.drop_append_of_le_length (by omega), List.take_append_of_le_length (by rw [List.length_drop]; omega)]
      exact h1
    · obtain rfl : i = n := by omega
      rw [← hl, List.drop_left, List.take_of_length_le (by rw [encN_length]; exact Nat.le_refl _)]
theorem pathL_list {m : List Int} (hl : m.length = 28) : pathL m = (List.range 16).map fun i => fld m (12 + i) := by
  apply List.ext_getElem?
  intro i
  unfold pathL
  rw [List.getElem?_drop]
  by_cases hi : i < 16
  · rw [fld_get (by omega)]; simp [hi]
  · rw [List.getElem?_eq_none (by omega), List.getElem?_eq_none (by simp; omega)]
theorem encM_to {m : List Int} (hl : m.length = 28) : encM m = encTo m 28 := by
  unfold encM headM
  rw [pathL_list hl]
  rfl
/-- A number of a message that may be fits. -/
theorem may_fit {m : List Int} (h : mayB m = true) {i : Nat} (hi : i < 28) : 0 ≤ fld m i ∧ fld m i < pw (widM i) := by
  obtain ⟨⟨h0, h1, h2⟩, h3, h4, ⟨h5, h6⟩, h7, h8, h9, h10, h11, hp⟩ := may_parts h
  by_cases h12 : i < 12
  · match i, h12 with
    | 0, _ => rw [show widM 0 = 1 from rfl, pw1]; omega
    | 1, _ => rw [show widM 1 = 1 from rfl, pw1]; omega
    | 2, _ => rw [show widM 2 = 1 from rfl, pw1]; omega
    | 3, _ => rw [show widM 3 = 4 from rfl, pw4]; omega
    | 4, _ => rw [show widM 4 = 4 from rfl, pw4]; omega
    | 5, _ => rw [show widM 5 = 1 from rfl, pw1]; omega
    | 6, _ => rw [show widM 6 = 1 from rfl, pw1]; omega
    | 7, _ => rw [show widM 7 = 1 from rfl, pw1]; omega
    | 8, _ => rw [show widM 8 = 1 from rfl, pw1]; omega
    | 9, _ => rw [show widM 9 = 4 from rfl, pw4]; omega
    | 10, _ => rw [show widM 10 = 4 from rfl, pw4]; omega
    | 11, _ => rw [show widM 11 = 1 from rfl, pw1]; omega
  · have hw : widM i = 4 := by unfold widM; rw [if_neg (by omega), if_neg (by omega), if_neg (by omega), if_neg (by omega), if_neg (by omega)]
    have hj := hp ((i - 12) / 2) (by omega)
    rw [hw, pw4]
    unfold stTx stSeq at hj
    rcases (show i = 12 + (i - 12) / 2 * 2 ∨ i = 12 + (i - 12) / 2 * 2 + 1 by omega) with e | e
    · have := hj.1; rw [← e] at this; omega
    · have := hj.2; rw [← e] at this; omega
theorem encM_length {m : List Int} (hl : m.length = 28) : (encM m).length = 88 := by
  rw [encM_to hl, encTo_length m 28 (Nat.le_refl _)]; rfl
theorem list_fld {m : List Int} (hl : m.length = 28) : m = (List.range 28).map (fld m) := by
  apply List.ext_getElem?
  intro i
  by_cases hi : i < 28
  · rw [fld_get (by omega)]; simp [hi]
  · rw [List.getElem?_eq_none (by omega), List.getElem?_eq_none (by simp; omega)]
/-- What was encoded is decoded. -/
theorem dec_enc {m : List Int} (hl : m.length = 28) (h : mayB m = true) : decM (encM m) = m := by
  conv => rhs; rw [list_fld hl]
  unfold decM
  apply List.map_congr_left
  intro i hi
  have hi' : i < 28 := by simpa using hi
  obtain ⟨f0, f1⟩ := may_fit h hi'
  unfold decAt
  rw [encM_to hl, encTo_at m 28 (Nat.le_refl _) hi', decN_encN (by omega)]
  omega
theorem fld_dec (l : List UInt8) {i : Nat} (hi : i < 28) : fld (decM l) i = decAt l i := by
  unfold fld decM; simp [List.getD, hi]
theorem encTo_dec {l : List UInt8} (hl : l.length = 88) : ∀ n, n ≤ 28 → encTo (decM l) n = l.take (posM n)
  | 0, _ => by simp [encTo, posM]
  | n + 1, h => by
    have hp := pos_wid (i := n) (by omega)
    rw [encTo_succ, encTo_dec hl n (by omega), pos_succ n (by omega), List.take_add, fld_dec l (by omega)]
    unfold decAt
    rw [Int.toNat_natCast]
    have hs : ((l.drop (posM n)).take (widM n)).length = widM n := by rw [List.length_take, List.length_drop]; omega
    have := encN_decN ((l.drop (posM n)).take (widM n))
    rw [hs] at this
    rw [this]
/-- Bytes that are decoded are those of what they are. -/
theorem enc_dec {l : List UInt8} (hl : l.length = 88) : encM (decM l) = l := by
  rw [encM_to (decM_length l), encTo_dec hl 28 (Nat.le_refl _)]
  exact List.take_of_length_le (by rw [hl]; exact Nat.le_refl _)
end Go.Proofs.Ythdfgdehddmkpaa
