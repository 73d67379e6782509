/- The document's Ok: its small functions. -/
import Derived.Test.YthdfgdehddmkpaaRefO
import Derived.Deep.DeepCutAuto
namespace Go.Proofs.Ythdfgdehddmkpaa
open Go.RowKit
set_option linter.unusedVariables false
set_option linter.unusedSimpArgs false

set_option maxRecDepth 100000 in
set_option maxHeartbeats 1000000 in
theorem number_any (x : Int) (w : World) : Calls Try.prog 19 #[.int .i64 x] w fun e w' => e = .returned (.bool (inS 1 1048576 x)) ∧ w = w' := by
  have HQ : Hid ((decide (0 < x) && decide (x ≤ 1048576)) = inS 1 1048576 x) := by
    show _ = _
    unfold inS; rw [Bool.eq_iff_iff]; simp; omega
  cases h1 : decide (0 < x) <;> cases h2 : decide (x ≤ 1048576)
  all_goals
    go_enter Try.func19, Try.ntmps19
    go_wp2
    go_ret
    exact ⟨ret_bool (by rw [← HQ.out, h1, h2]; rfl), rfl⟩
theorem number_b {x : Int} {b : Bool} (h : inS 1 1048576 x = b) (w : World) : Calls Try.prog 19 #[.int .i64 x] w fun e w' => e = .returned (.bool b) ∧ w = w' :=
  (number_any x w).mono fun _ _ ⟨he, hw⟩ => ⟨by rw [he, h], hw⟩
set_option maxRecDepth 100000 in
set_option maxHeartbeats 1000000 in
theorem rokD_any (t r : Int) (w : World) :
    Calls Try.prog 20 #[resV t r] w fun e w' => e = .returned (.bool (resB t r)) ∧ Below w.heap.size w w' := by
  have HQ : Hid ((decide (0 < t) && (decide (t < 251) && (decide (-1 < r) && decide (r < 251)))) = resB t r) := by
    show _ = _
    unfold resB; rw [Bool.eq_iff_iff]; simp; omega
  cases h1 : decide (0 < t) <;> cases h2 : decide (t < 251) <;> cases h3 : decide (-1 < r) <;> cases h4 : decide (r < 251)
  all_goals
    go_enter Try.func20, Try.ntmps20
    go_wp2
    go_ret
    exact ⟨ret_bool (by rw [← HQ.out, h1, h2, h3, h4]; rfl), Joins.below_alloc1 _ _⟩

/-- What is left where a message may not be. -/
theorem may_goes {m : List Int} (h : mayB m = true) : goesB m = true := by unfold mayB at h; simp only [Bool.and_eq_true] at h; exact h.1
theorem may_tx {m : List Int} (h : mayB m = true) (hk : 1 ≤ fld m 0 ∧ fld m 0 ≤ 10) : inS 1 1048576 (fld m 3) = true := by
  unfold mayB sTx at h; rw [if_pos hk] at h; simp only [Bool.and_eq_true] at h; exact h.2.1
theorem may_seq {m : List Int} (h : mayB m = true) (hk : 1 ≤ fld m 0 ∧ fld m 0 ≤ 3) : inS 1 1048576 (fld m 4) = true := by
  unfold mayB sSeq at h; rw [if_pos hk] at h; simp only [Bool.and_eq_true] at h; exact h.2.2.1
theorem may_place {m : List Int} (h : mayB m = true) (hk : 1 ≤ fld m 0 ∧ fld m 0 ≤ 2) : resB (fld m 5) (fld m 6) = true := by
  unfold mayB sAt at h; rw [decide_eq_true (show fld m 0 = 1 ∨ fld m 0 = 2 by omega)] at h; simp only [Bool.and_eq_true] at h; exact h.2.2.2.1
theorem may_mode {m : List Int} (h : mayB m = true) (hk : 1 ≤ fld m 0 ∧ fld m 0 ≤ 2) : inS 1 4 (fld m 7) = true := by
  unfold mayB sMode at h; rw [if_pos hk] at h; simp only [Bool.and_eq_true] at h; exact h.2.2.2.2.1
theorem may_code3 {m : List Int} (h : mayB m = true) (hk : fld m 0 = 3) : inS 1 15 (fld m 8) = true := by
  unfold mayB sCode at h; rw [if_pos hk] at h; simp only [Bool.and_eq_true] at h; exact h.2.2.2.2.2.1
theorem may_code56 {m : List Int} (h : mayB m = true) (hk : fld m 0 = 5 ∨ fld m 0 = 6) : inS 0 1 (fld m 8) = true := by
  unfold mayB sCode at h; rw [if_neg (by omega), if_pos hk] at h; simp only [Bool.and_eq_true] at h; exact h.2.2.2.2.2.1
theorem may_next10 {m : List Int} (h : mayB m = true) (hk : fld m 0 = 10) : inS 1 (wrap64 (fld m 3 - 1)) (fld m 9) = true := by
  unfold mayB sNext at h; rw [if_pos hk] at h; simp only [Bool.and_eq_true] at h; exact h.2.2.2.2.2.2.1
theorem may_next11 {m : List Int} (h : mayB m = true) (hk : fld m 0 = 11) : inS 1 1048576 (fld m 9) = true := by
  unfold mayB sNext at h; rw [if_neg (by omega), if_pos hk] at h; simp only [Bool.and_eq_true] at h; exact h.2.2.2.2.2.2.1
theorem may_nseq11 {m : List Int} (h : mayB m = true) (hk : fld m 0 = 11) : inS 0 1048576 (fld m 10) = true := by
  unfold mayB sNseq at h; rw [if_pos hk] at h; simp only [Bool.and_eq_true] at h; exact h.2.2.2.2.2.2.2.1
theorem may_n11 {m : List Int} (h : mayB m = true) (hk : fld m 0 = 11) : inS 1 8 (fld m 11) = true := by
  unfold mayB sN at h; rw [if_pos hk] at h; simp only [Bool.and_eq_true] at h; exact h.2.2.2.2.2.2.2.2.1
theorem may_path {m : List Int} (h : mayB m = true) : pathB m = true := by
  unfold mayB at h; simp only [Bool.and_eq_true] at h; exact h.2.2.2.2.2.2.2.2.2
theorem may_no {m : List Int} (h : mayB m = true → False) : mayB m = false := by
  cases e : mayB m
  · rfl
  · exact (h e).elim

/-- The letter of a kind. -/
def wb (k : Int) : Int := if k = 1 ∨ k = 4 ∨ k = 6 ∨ k = 8 then 111 else if k = 11 then 101 else 98
/-- The message's block, as it was. -/
def KeepsO (w : World) (m : List Int) (w' : World) : Prop := Blk w' w.heap.size 29 (mc m) ∧ Below w.heap.size w w'
/-- What a region leaves, and the message as it was. -/
structure CutO (w : World) (m : List Int) (v v' : Value) (wx : World) : Prop where
  val : v = v'
  keeps : KeepsO w m wx


/-- Stores into a message's block, one behind the other. -/
theorem blk_sets {g : Nat} {t : TypeId} : ∀ (l : List (Nat × Int)) (V : World) (q : List Int), Blk V g t (mc q) → Blk (l.foldl (fun W p => W.setCell ⟨g, p.1, none⟩ (.int .i64 p.2)) V) g t (mc (l.foldl (fun q p => q.set p.1 p.2) q))
  | [], _, _, h => h
  | p :: l, V, q, h => blk_sets l _ _ (by have := h.set_ p.1 (.int .i64 p.2); rwa [mc_set] at this)
theorem blk_fars {g b : Nat} {t : TypeId} {c : Array Value} (hb : g ≠ b) : ∀ (l : List (Nat × Int)) (V : World), Blk V g t c → Blk (l.foldl (fun W p => W.setCell ⟨b, p.1, none⟩ (.int .i64 p.2)) V) g t c
  | [], _, h => h
  | p :: l, V, h => blk_fars hb l _ (h.far hb _)
theorem below_sets {B b : Nat} {w : World} (hb : B ≤ b) : ∀ (l : List (Nat × Int)) (V : World), Below B w V → Below B w (l.foldl (fun W p => W.setCell ⟨b, p.1, none⟩ (.int .i64 p.2)) V)
  | [], _, h => h
  | p :: l, V, h => below_sets hb l _ (h.setCell hb _)
theorem way_out {m : List Int} (hk : fld m 0 = 1 ∨ fld m 0 = 4 ∨ fld m 0 = 6 ∨ fld m 0 = 8) (h : goesB m = true) : fld m 1 = 0 ∧ 1 ≤ fld m 2 ∧ fld m 2 ≤ 64 := by
  unfold goesB wayB at h; rw [if_pos hk] at h; unfold downB at h; rw [Bool.and_eq_true, inS_iff] at h; simpa using h
theorem way_back {m : List Int} (hk : fld m 0 = 2 ∨ fld m 0 = 3 ∨ fld m 0 = 5 ∨ fld m 0 = 7 ∨ fld m 0 = 9 ∨ fld m 0 = 10) (h : goesB m = true) : (1 ≤ fld m 1 ∧ fld m 1 ≤ 64) ∧ fld m 2 = 0 := by
  unfold goesB wayB at h; rw [if_neg (by omega), if_pos hk] at h; unfold upB at h; rw [Bool.and_eq_true, inS_iff] at h; simpa using h
theorem way_both {m : List Int} (hk : fld m 0 = 11) (h : goesB m = true) : (fld m 1 = 0 ∧ 1 ≤ fld m 2 ∧ fld m 2 ≤ 64) ∨ ((1 ≤ fld m 1 ∧ fld m 1 ≤ 64) ∧ fld m 2 = 0) := by
  unfold goesB wayB at h; rw [if_neg (by omega), if_neg (by omega), if_pos hk, Bool.or_eq_true] at h
  rcases h with h | h
  · unfold downB at h; rw [Bool.and_eq_true, inS_iff] at h; left; simpa using h
  · unfold upB at h; rw [Bool.and_eq_true, inS_iff] at h; right; simpa using h
end Go.Proofs.Ythdfgdehddmkpaa
