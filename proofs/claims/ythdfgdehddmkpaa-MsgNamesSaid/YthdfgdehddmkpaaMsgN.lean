/- The kinds' names. -/
import Derived.Test.YthdfgdehddmkpaaMsgJ
namespace Go.Proofs.Ythdfgdehddmkpaa
open Go.RowKit
set_option linter.unusedVariables false
set_option linter.unusedSimpArgs false

/-- The names, and a kind's. -/
def nmL : List ByteArray := [⟨#[108, 111, 99, 107]⟩, ⟨#[103, 114, 97, 110, 116, 101, 100]⟩, ⟨#[114, 101, 102, 117, 115, 101, 100]⟩, ⟨#[112, 114, 101, 112, 97, 114, 101]⟩, ⟨#[118, 111, 116, 101]⟩, ⟨#[100, 101, 99, 105, 100, 101]⟩, ⟨#[97, 99, 107]⟩, ⟨#[114, 101, 110, 101, 119]⟩, ⟨#[101, 120, 112, 105, 114, 101, 100]⟩, ⟨#[119, 111, 117, 110, 100]⟩, ⟨#[112, 114, 111, 98, 101]⟩]
def nmOf (a : Int) : ByteArray := if 1 ≤ a ∧ a ≤ 11 then nmL.getD (a.toNat - 1) ⟨#[]⟩ else ⟨#[]⟩
theorem nm_out {a : Int} (h : a < 1 ∨ 11 < a) : nmOf a = ⟨#[]⟩ := by unfold nmOf; rw [if_neg (by omega)]

set_option maxRecDepth 100000 in
set_option maxHeartbeats 4000000 in
theorem name_any (a : Int) (w : World) : Calls Try.prog 17 #[.int .i64 a] w fun e w' => e = .returned (.tuple #[.string (nmOf a), .bool (inS 1 11 a)]) ∧ Below w.heap.size w w' := by
  rcases kind_cases a with h | h | h | h | h | h | h | h | h | h | h | h | h
  case inr.inr.inr.inr.inr.inr.inr.inr.inr.inr.inr.inl =>
    have HN := Lib.hid (nm_out (.inl h))
    have HI := Lib.hid (inS_no.2 (show ¬ (1 ≤ a ∧ a ≤ 11) by omega))
    have d1 : decide (a < 1) = true := by simpa using h
    clear h
    go_enter Try.func17, Try.ntmps17
    go_wp2
    go_ret2
    exact ⟨by rw [HN.out, HI.out]; rfl, Below.refl _ _⟩
  case inr.inr.inr.inr.inr.inr.inr.inr.inr.inr.inr.inr =>
    have HN := Lib.hid (nm_out (.inr h))
    have HI := Lib.hid (inS_no.2 (show ¬ (1 ≤ a ∧ a ≤ 11) by omega))
    have d1 : decide (a < 1) = false := by simp; omega
    have d2 : decide (11 < a) = true := by simpa using h
    clear h
    go_enter Try.func17, Try.ntmps17
    go_wp2
    go_ret2
    exact ⟨by rw [HN.out, HI.out]; rfl, Below.refl _ _⟩
  all_goals
    subst h
    go_enter Try.func17, Try.ntmps17
    go_wp2
    go_ret2
    exact ⟨rfl, Below.alloc (Below.refl _ _) (Nat.le_refl _) _⟩

theorem nm_pair : ∀ k : Nat, k < 11 → ∀ j : Nat, j < 11 → ((nmL.getD k ⟨#[]⟩).toList == (nmL.getD j ⟨#[]⟩).toList) = (k == j) := by decide +kernel
theorem nm_full : ∀ k : Nat, k < 11 → (nmL.getD k ⟨#[]⟩).toList.isEmpty = false := by decide +kernel
theorem nm_cell : ∀ k : Nat, k < 11 → ([.string ⟨#[108, 111, 99, 107]⟩, .string ⟨#[103, 114, 97, 110, 116, 101, 100]⟩, .string ⟨#[114, 101, 102, 117, 115, 101, 100]⟩, .string ⟨#[112, 114, 101, 112, 97, 114, 101]⟩, .string ⟨#[118, 111, 116, 101]⟩, .string ⟨#[100, 101, 99, 105, 100, 101]⟩, .string ⟨#[97, 99, 107]⟩, .string ⟨#[114, 101, 110, 101, 119]⟩, .string ⟨#[101, 120, 112, 105, 114, 101, 100]⟩, .string ⟨#[119, 111, 117, 110, 100]⟩, .string ⟨#[112, 114, 111, 98, 101]⟩] : List Value)[k]? = some (.string (nmL.getD k ⟨#[]⟩)) := by
  intro k hk
  match k, hk with
  | 0, _ => rfl
  | 1, _ => rfl
  | 2, _ => rfl
  | 3, _ => rfl
  | 4, _ => rfl
  | 5, _ => rfl
  | 6, _ => rfl
  | 7, _ => rfl
  | 8, _ => rfl
  | 9, _ => rfl
  | 10, _ => rfl
end Go.Proofs.Ythdfgdehddmkpaa
