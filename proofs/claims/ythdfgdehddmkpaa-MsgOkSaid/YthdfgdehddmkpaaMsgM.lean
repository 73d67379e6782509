/- Messages as plain lists of 28 numbers: what may be, and their bytes. -/
import Derived.Test.YthdfgdehddmkpaaWordM
import Derived.Test.YthdfgdehddmkpaaBase
namespace Go.Proofs.Ythdfgdehddmkpaa
open Go.RowKit
set_option linter.unusedVariables false
set_option linter.unusedSimpArgs false

/-- A number of a message. -/
def fld (m : List Int) (i : Nat) : Int := m.getD i 0
theorem fld_get {m : List Int} {i : Nat} (h : i < m.length) : m[i]? = some (fld m i) := by
  unfold fld; simp [List.getD, h]
/-- Is a number in a span? -/
def inS (lo hi x : Int) : Bool := decide (lo ≤ x ∧ x ≤ hi)
theorem inS_iff {lo hi x : Int} : inS lo hi x = true ↔ lo ≤ x ∧ x ≤ hi := by unfold inS; simp
theorem inS_no {lo hi x : Int} : inS lo hi x = false ↔ ¬ (lo ≤ x ∧ x ≤ hi) := by unfold inS; simp

/-- What a kind asks of a field: from where, to where. -/
def sTx (k : Int) : Int × Int := if 1 ≤ k ∧ k ≤ 10 then (1, 1048576) else (0, 0)
def sSeq (k : Int) : Int × Int := if 1 ≤ k ∧ k ≤ 3 then (1, 1048576) else (0, 0)
def sMode (k : Int) : Int × Int := if 1 ≤ k ∧ k ≤ 2 then (1, 4) else (0, 0)
def sCode (k : Int) : Int × Int := if k = 3 then (1, 15) else if k = 5 ∨ k = 6 then (0, 1) else (0, 0)
def sNext (k tx : Int) : Int × Int := if k = 10 then (1, wrap64 (tx - 1)) else if k = 11 then (1, 1048576) else (0, 0)
def sNseq (k : Int) : Int × Int := if k = 11 then (0, 1048576) else (0, 0)
def sN (k : Int) : Int × Int := if k = 11 then (1, 8) else (0, 0)
def sAt (k : Int) : Bool := decide (k = 1 ∨ k = 2)

/-- A step's numbers, and whether a step may be. -/
def stTx (m : List Int) (i : Nat) : Int := fld m (12 + i * 2)
def stSeq (m : List Int) (i : Nat) : Int := fld m (12 + i * 2 + 1)
def Fresh (m : List Int) (i j : Nat) : Prop := ∀ k, k < j → stTx m k ≠ stTx m i
theorem Fresh.zero (m : List Int) (i : Nat) : Fresh m i 0 := fun k h => absurd h (by omega)
theorem Fresh.succ {m : List Int} {i j : Nat} (h : Fresh m i j) (hj : stTx m j ≠ stTx m i) : Fresh m i (j + 1) := fun k hk => by
  rcases Nat.lt_or_ge k j with h1 | h1
  · exact h k h1
  · obtain rfl : k = j := by omega
    exact hj
instance (m : List Int) (i j : Nat) : Decidable (Fresh m i j) := by unfold Fresh; infer_instance
def isStepB (m : List Int) (i : Nat) : Bool := decide (Fresh m i i) && (inS 1 1048576 (stTx m i) && inS 1 1048576 (stSeq m i))
theorem isStepB_dup {m : List Int} {i j : Nat} (hj : j < i) (h : stTx m j = stTx m i) : isStepB m i = false := by
  unfold isStepB
  rw [decide_eq_false (fun hf => hf j hj h)]; rfl
theorem isStepB_fresh {m : List Int} {i : Nat} (h : Fresh m i i) : isStepB m i = (inS 1 1048576 (stTx m i) && inS 1 1048576 (stSeq m i)) := by
  unfold isStepB
  rw [decide_eq_true h]; rfl

/-- Whether the step at a place is as N says. -/
def okAt (m : List Int) (i : Nat) : Bool := if (i : Int) < fld m 11 then isStepB m i else decide (stTx m i = 0 ∧ stSeq m i = 0)
def PathTill (m : List Int) (k : Nat) : Prop := ∀ i, i < k → okAt m i = true
theorem PathTill.zero (m : List Int) : PathTill m 0 := fun i h => absurd h (by omega)
theorem PathTill.succ {m : List Int} {k : Nat} (h : PathTill m k) (hk : okAt m k = true) : PathTill m (k + 1) := fun i hi => by
  rcases Nat.lt_or_ge i k with h1 | h1
  · exact h i h1
  · obtain rfl : i = k := by omega
    exact hk
instance (m : List Int) (k : Nat) : Decidable (PathTill m k) := by unfold PathTill; infer_instance
def pathB (m : List Int) : Bool := decide (PathTill m 8)
theorem pathB_no {m : List Int} {k : Nat} (hk : k < 8) (h : okAt m k = false) : pathB m = false := by
  unfold pathB
  exact decide_eq_false fun hf => by rw [hf k hk] at h; cases h
theorem pathB_yes {m : List Int} (h : PathTill m 8) : pathB m = true := decide_eq_true h

/-- Which way a message goes. -/
def downB (m : List Int) : Bool := (fld m 1 == 0) && inS 1 64 (fld m 2)
def upB (m : List Int) : Bool := inS 1 64 (fld m 1) && (fld m 2 == 0)
def wayB (k : Int) (d u : Bool) : Bool :=
  if k = 1 ∨ k = 4 ∨ k = 6 ∨ k = 8 then d else if k = 2 ∨ k = 3 ∨ k = 5 ∨ k = 7 ∨ k = 9 ∨ k = 10 then u else if k = 11 then (d || u) else false
theorem wayB_out {k : Int} (h : k < 1 ∨ 11 < k) (d u : Bool) : wayB k d u = false := by
  unfold wayB
  rw [if_neg (by omega), if_neg (by omega), if_neg (by omega)]
def goesB (m : List Int) : Bool := wayB (fld m 0) (downB m) (upB m)

/-- Whether a resource may be; whether it is as a kind asks. -/
def resB (t r : Int) : Bool := decide (1 ≤ t ∧ t ≤ 250 ∧ 0 ≤ r ∧ r ≤ 250)
def placeB (named : Bool) (t r : Int) : Bool := if named then resB t r else decide (t = 0 ∧ r = 0)
/-- May a message be? -/
def mayB (m : List Int) : Bool :=
  goesB m && (inS (sTx (fld m 0)).1 (sTx (fld m 0)).2 (fld m 3) && (inS (sSeq (fld m 0)).1 (sSeq (fld m 0)).2 (fld m 4) && (placeB (sAt (fld m 0)) (fld m 5) (fld m 6) &&
  (inS (sMode (fld m 0)).1 (sMode (fld m 0)).2 (fld m 7) && (inS (sCode (fld m 0)).1 (sCode (fld m 0)).2 (fld m 8) && (inS (sNext (fld m 0) (fld m 3)).1 (sNext (fld m 0) (fld m 3)).2 (fld m 9) &&
  (inS (sNseq (fld m 0)).1 (sNseq (fld m 0)).2 (fld m 10) && (inS (sN (fld m 0)).1 (sN (fld m 0)).2 (fld m 11) && pathB m))))))))
end Go.Proofs.Ythdfgdehddmkpaa
