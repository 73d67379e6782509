/- What a message that may be is by the document: plain lists. -/
import Derived.Test.YthfhhapefjideaaGreatMsgA
import Derived.Test.YthfhhapefjideaaGreatRes
import Derived.Deep.DeepCutAuto
namespace Go.Proofs.YthfhhapefjideaaGreat
open Go.RowKit
set_option linter.unusedVariables false
set_option linter.unusedSimpArgs false

/-- A message with some of its numbers alone. -/
def keepL (m : List Int) (S : Nat → Bool) : List Int := (List.range 28).map fun i => if S i then fld m i else 0
@[simp] theorem keepL_length (m : List Int) (S : Nat → Bool) : (keepL m S).length = 28 := by simp [keepL]
theorem eq_keepL {m : List Int} (hl : m.length = 28) (S : Nat → Bool) : m = keepL m S ↔ ∀ i, i < 28 → S i = false → fld m i = 0 := by
  constructor
  · intro h i hi hS
    have : m[i]? = (keepL m S)[i]? := by rw [← h]
    rw [fld_get (by omega)] at this
    simpa [keepL, hi, hS] using this
  · intro h
    apply List.ext_getElem?
    intro i
    by_cases hi : i < 28
    · rw [fld_get (by omega)]
      simp only [keepL, List.getElem?_map, List.getElem?_range hi, Option.map_some]
      cases hS : S i with
      | true => simp
      | false => rw [h i hi hS]; simp
    · rw [List.getElem?_eq_none (by omega), List.getElem?_eq_none (by simp; omega)]
theorem path_zero {m : List Int} (hn : fld m 11 = 0) : pathB m = true ↔ ∀ j, 12 ≤ j → j < 28 → fld m j = 0 := by
  have key : ∀ i, okAt m i = decide (stTx m i = 0 ∧ stSeq m i = 0) := fun i => by unfold okAt; rw [if_neg (by omega)]
  unfold pathB
  rw [decide_eq_true_eq]
  constructor
  · intro h j h1 h2
    have := h ((j - 12) / 2) (by omega)
    rw [key, decide_eq_true_eq] at this
    unfold stTx stSeq at this
    rcases (show j = 12 + (j - 12) / 2 * 2 ∨ j = 12 + (j - 12) / 2 * 2 + 1 by omega) with e | e
    · rw [← e] at this; exact this.1
    · rw [← e] at this; exact this.2
  · intro h i hi
    rw [key, decide_eq_true_eq]
    exact ⟨h _ (by omega) (by omega), h _ (by omega) (by omega)⟩
theorem inS00 {x : Int} : inS 0 0 x = true ↔ x = 0 := by rw [inS_iff]; omega
theorem place_no {t r : Int} : placeB false t r = true ↔ t = 0 ∧ r = 0 := by unfold placeB; simp

/-- The numbers that a class of kinds has. -/
def sA (i : Nat) : Bool := decide (i < 8)
def sB (i : Nat) : Bool := decide (i < 5 ∨ i = 8)
def sC (i : Nat) : Bool := decide (i < 4)
def sD (i : Nat) : Bool := decide (i < 4 ∨ i = 8)
def sE (i : Nat) : Bool := decide (i < 4 ∨ i = 9)
def sF (i : Nat) : Bool := decide (i < 3 ∨ 9 ≤ i)

/-- Kinds 1 and 2. -/
theorem mayA {m : List Int} (hl : m.length = 28) (hk : 1 ≤ fld m 0 ∧ fld m 0 ≤ 2) (hg : goesB m = true) (ht : inS 1 1048576 (fld m 3) = true) (hs : inS 1 1048576 (fld m 4) = true) (hp : resB (fld m 5) (fld m 6) = true) (hm : inS 1 4 (fld m 7) = true) :
    mayB m = decide (m = keepL m sA) := by
  rw [Bool.eq_iff_iff, decide_eq_true_eq, eq_keepL hl]
  unfold mayB sTx sSeq sAt sMode sCode sNext sNseq sN placeB
  rw [hg, if_pos (by omega), if_pos (by omega), decide_eq_true (by omega), if_pos rfl, if_pos (by omega), if_neg (by omega), if_neg (by omega), if_neg (by omega), if_neg (by omega), if_neg (by omega), if_neg (by omega), ht, hs, hp, hm]
  simp only [Bool.true_and, Bool.and_eq_true, inS00]
  constructor
  · rintro ⟨h8, h9, h10, h11, hpt⟩ i hi hS
    have hpz := (path_zero h11).1 hpt
    have : ¬ i < 8 := of_decide_eq_false hS
    rcases (show i = 8 ∨ i = 9 ∨ i = 10 ∨ i = 11 ∨ 12 ≤ i by omega) with rfl | rfl | rfl | rfl | h
    · exact h8
    · exact h9
    · exact h10
    · exact h11
    · exact hpz i h hi
  · intro h
    have h11 := h 11 (by omega) rfl
    exact ⟨h 8 (by omega) rfl, h 9 (by omega) rfl, h 10 (by omega) rfl, h11, (path_zero h11).2 fun j h1 h2 => h j h2 (decide_eq_false (by omega))⟩
/-- Kind 3. -/
theorem mayC3 {m : List Int} (hl : m.length = 28) (hk : fld m 0 = 3) (hg : goesB m = true) (ht : inS 1 1048576 (fld m 3) = true) (hs : inS 1 1048576 (fld m 4) = true) (hc : inS 1 15 (fld m 8) = true) :
    mayB m = decide (m = keepL m sB) := by
  rw [Bool.eq_iff_iff, decide_eq_true_eq, eq_keepL hl]
  unfold mayB sTx sSeq sAt sMode sCode sNext sNseq sN
  rw [hg, if_pos (by omega), if_pos (by omega), decide_eq_false (by omega), if_neg (by omega), if_pos (by omega), if_neg (by omega), if_neg (by omega), if_neg (by omega), if_neg (by omega), ht, hs, hc]
  simp only [Bool.true_and, Bool.and_eq_true, inS00, place_no]
  constructor
  · rintro ⟨⟨h5, h6⟩, h7, h9, h10, h11, hpt⟩ i hi hS
    have hpz := (path_zero h11).1 hpt
    have : ¬ (i < 5 ∨ i = 8) := of_decide_eq_false hS
    rcases (show i = 5 ∨ i = 6 ∨ i = 7 ∨ i = 9 ∨ i = 10 ∨ i = 11 ∨ 12 ≤ i by omega) with rfl | rfl | rfl | rfl | rfl | rfl | h
    · exact h5
    · exact h6
    · exact h7
    · exact h9
    · exact h10
    · exact h11
    · exact hpz i h hi
  · intro h
    have h11 := h 11 (by omega) rfl
    exact ⟨⟨h 5 (by omega) rfl, h 6 (by omega) rfl⟩, h 7 (by omega) rfl, h 9 (by omega) rfl, h 10 (by omega) rfl, h11, (path_zero h11).2 fun j h1 h2 => h j h2 (decide_eq_false (by omega))⟩
/-- Kinds 4, 7, 8, 9. -/
theorem mayC {m : List Int} (hl : m.length = 28) (hk : fld m 0 = 4 ∨ fld m 0 = 7 ∨ fld m 0 = 8 ∨ fld m 0 = 9) (hg : goesB m = true) (ht : inS 1 1048576 (fld m 3) = true) :
    mayB m = decide (m = keepL m sC) := by
  rw [Bool.eq_iff_iff, decide_eq_true_eq, eq_keepL hl]
  unfold mayB sTx sSeq sAt sMode sCode sNext sNseq sN
  rw [hg, if_pos (by omega), if_neg (by omega), decide_eq_false (by omega), if_neg (by omega), if_neg (by omega), if_neg (by omega), if_neg (by omega), if_neg (by omega), if_neg (by omega), if_neg (by omega), ht]
  simp only [Bool.true_and, Bool.and_eq_true, inS00, place_no]
  constructor
  · rintro ⟨h4, ⟨h5, h6⟩, h7, h8, h9, h10, h11, hpt⟩ i hi hS
    have hpz := (path_zero h11).1 hpt
    have : ¬ (i < 4) := of_decide_eq_false hS
    rcases (show i = 4 ∨ i = 5 ∨ i = 6 ∨ i = 7 ∨ i = 8 ∨ i = 9 ∨ i = 10 ∨ i = 11 ∨ 12 ≤ i by omega) with rfl | rfl | rfl | rfl | rfl | rfl | rfl | rfl | h
    · exact h4
    · exact h5
    · exact h6
    · exact h7
    · exact h8
    · exact h9
    · exact h10
    · exact h11
    · exact hpz i h hi
  · intro h
    have h11 := h 11 (by omega) rfl
    exact ⟨h 4 (by omega) rfl, ⟨h 5 (by omega) rfl, h 6 (by omega) rfl⟩, h 7 (by omega) rfl, h 8 (by omega) rfl, h 9 (by omega) rfl, h 10 (by omega) rfl, h11, (path_zero h11).2 fun j h1 h2 => h j h2 (decide_eq_false (by omega))⟩
/-- Kinds 5, 6. -/
theorem mayD {m : List Int} (hl : m.length = 28) (hk : fld m 0 = 5 ∨ fld m 0 = 6) (hg : goesB m = true) (ht : inS 1 1048576 (fld m 3) = true) (hc : inS 0 1 (fld m 8) = true) :
    mayB m = decide (m = keepL m sD) := by
  rw [Bool.eq_iff_iff, decide_eq_true_eq, eq_keepL hl]
  unfold mayB sTx sSeq sAt sMode sCode sNext sNseq sN
  rw [hg, if_pos (by omega), if_neg (by omega), decide_eq_false (by omega), if_neg (by omega), if_neg (by omega), if_pos (by omega), if_neg (by omega), if_neg (by omega), if_neg (by omega), if_neg (by omega), ht, hc]
  simp only [Bool.true_and, Bool.and_eq_true, inS00, place_no]
  constructor
  · rintro ⟨h4, ⟨h5, h6⟩, h7, h9, h10, h11, hpt⟩ i hi hS
    have hpz := (path_zero h11).1 hpt
    have : ¬ (i < 4 ∨ i = 8) := of_decide_eq_false hS
    rcases (show i = 4 ∨ i = 5 ∨ i = 6 ∨ i = 7 ∨ i = 9 ∨ i = 10 ∨ i = 11 ∨ 12 ≤ i by omega) with rfl | rfl | rfl | rfl | rfl | rfl | rfl | h
    · exact h4
    · exact h5
    · exact h6
    · exact h7
    · exact h9
    · exact h10
    · exact h11
    · exact hpz i h hi
  · intro h
    have h11 := h 11 (by omega) rfl
    exact ⟨h 4 (by omega) rfl, ⟨h 5 (by omega) rfl, h 6 (by omega) rfl⟩, h 7 (by omega) rfl, h 9 (by omega) rfl, h 10 (by omega) rfl, h11, (path_zero h11).2 fun j h1 h2 => h j h2 (decide_eq_false (by omega))⟩
/-- Kind 10. -/
theorem mayE {m : List Int} (hl : m.length = 28) (hk : fld m 0 = 10) (hg : goesB m = true) (ht : inS 1 1048576 (fld m 3) = true) (hx : inS 1 (wrap64 (fld m 3 - 1)) (fld m 9) = true) :
    mayB m = decide (m = keepL m sE) := by
  rw [Bool.eq_iff_iff, decide_eq_true_eq, eq_keepL hl]
  unfold mayB sTx sSeq sAt sMode sCode sNext sNseq sN
  rw [hg, if_pos (by omega), if_neg (by omega), decide_eq_false (by omega), if_neg (by omega), if_neg (by omega), if_neg (by omega), if_pos (by omega), if_neg (by omega), if_neg (by omega), ht, hx]
  simp only [Bool.true_and, Bool.and_eq_true, inS00, place_no]
  constructor
  · rintro ⟨h4, ⟨h5, h6⟩, h7, h8, h10, h11, hpt⟩ i hi hS
    have hpz := (path_zero h11).1 hpt
    have : ¬ (i < 4 ∨ i = 9) := of_decide_eq_false hS
    rcases (show i = 4 ∨ i = 5 ∨ i = 6 ∨ i = 7 ∨ i = 8 ∨ i = 10 ∨ i = 11 ∨ 12 ≤ i by omega) with rfl | rfl | rfl | rfl | rfl | rfl | rfl | h
    · exact h4
    · exact h5
    · exact h6
    · exact h7
    · exact h8
    · exact h10
    · exact h11
    · exact hpz i h hi
  · intro h
    have h11 := h 11 (by omega) rfl
    exact ⟨h 4 (by omega) rfl, ⟨h 5 (by omega) rfl, h 6 (by omega) rfl⟩, h 7 (by omega) rfl, h 8 (by omega) rfl, h 10 (by omega) rfl, h11, (path_zero h11).2 fun j h1 h2 => h j h2 (decide_eq_false (by omega))⟩
/-- Kind 11. -/
theorem mayF {m : List Int} (hl : m.length = 28) (hk : fld m 0 = 11) (hg : goesB m = true) (hx : inS 1 1048576 (fld m 9) = true) (hq : inS 0 1048576 (fld m 10) = true) (hn : inS 1 8 (fld m 11) = true) (hp : pathB m = true) :
    mayB m = decide (m = keepL m sF) := by
  rw [Bool.eq_iff_iff, decide_eq_true_eq, eq_keepL hl]
  unfold mayB sTx sSeq sAt sMode sCode sNext sNseq sN
  rw [hg, if_neg (by omega), if_neg (by omega), decide_eq_false (by omega), if_neg (by omega), if_neg (by omega), if_neg (by omega), if_neg (by omega), if_pos (by omega), if_pos (by omega), if_pos (by omega), hx, hq, hn, hp]
  simp only [Bool.true_and, Bool.and_true, Bool.and_eq_true, inS00, place_no]
  constructor
  · rintro ⟨h3, h4, ⟨h5, h6⟩, h7, h8⟩ i hi hS
    have : ¬ (i < 3 ∨ 9 ≤ i) := of_decide_eq_false hS
    rcases (show i = 3 ∨ i = 4 ∨ i = 5 ∨ i = 6 ∨ i = 7 ∨ i = 8 by omega) with rfl | rfl | rfl | rfl | rfl | rfl
    · exact h3
    · exact h4
    · exact h5
    · exact h6
    · exact h7
    · exact h8
  · intro h
    exact ⟨h 3 (by omega) rfl, h 4 (by omega) rfl, ⟨h 5 (by omega) rfl, h 6 (by omega) rfl⟩, h 7 (by omega) rfl, h 8 (by omega) rfl⟩
end Go.Proofs.YthfhhapefjideaaGreat
/- The document's Ok: its small functions. -/
namespace Go.Proofs.YthfhhapefjideaaGreat
open Go.RowKit
set_option linter.unusedVariables false
set_option linter.unusedSimpArgs false

set_option maxRecDepth 100000 in
set_option maxHeartbeats 1000000 in
theorem number_any (x : Int) (w : World) : Calls Tryz.prog 66 #[.int .i64 x] w fun e w' => e = .returned (.bool (inS 1 1048576 x)) ∧ w = w' := by
  have HQ : Hid ((decide (0 < x) && decide (x ≤ 1048576)) = inS 1 1048576 x) := by
    show _ = _
    unfold inS; rw [Bool.eq_iff_iff]; simp; omega
  cases h1 : decide (0 < x) <;> cases h2 : decide (x ≤ 1048576)
  all_goals
    go_enter Tryz.func66, Tryz.ntmps66
    go_wp2
    go_ret
    exact ⟨ret_bool (by rw [← HQ.out, h1, h2]; rfl), rfl⟩
theorem number_b {x : Int} {b : Bool} (h : inS 1 1048576 x = b) (w : World) : Calls Tryz.prog 66 #[.int .i64 x] w fun e w' => e = .returned (.bool b) ∧ w = w' :=
  (number_any x w).mono fun _ _ ⟨he, hw⟩ => ⟨by rw [he, h], hw⟩
set_option maxRecDepth 100000 in
set_option maxHeartbeats 1000000 in
theorem rokD_any (t r : Int) (w : World) :
    Calls Tryz.prog 49 #[resV t r] w fun e w' => e = .returned (.bool (resB t r)) ∧ Below w.heap.size w w' := by
  have HQ : Hid ((decide (0 < t) && (decide (t < 251) && (decide (-1 < r) && decide (r < 251)))) = resB t r) := by
    show _ = _
    unfold resB; rw [Bool.eq_iff_iff]; simp; omega
  cases h1 : decide (0 < t) <;> cases h2 : decide (t < 251) <;> cases h3 : decide (-1 < r) <;> cases h4 : decide (r < 251)
  all_goals
    go_enter Tryz.func49, Tryz.ntmps49
    go_wp2
    go_ret
    exact ⟨ret_bool (by rw [← HQ.out, h1, h2, h3, h4]; rfl), Joins.below_alloc1 _ _⟩

/-- What is left where a message may not be. -/
theorem may_goes {m : List Int} (h : mayB m = true) : goesB m = true := by unfold mayB at h; simp only [Bool.and_eq_true] at h; exact h.1
theorem may_tx {m : List Int} (h : mayB m = true) (hk : 1 ≤ fld m 0 ∧ fld m 0 ≤ 10) : inS 1 1048576 (fld m 3) = true := by
  unfold mayB sTx at h; rw [if_pos hk] at h; simp only [Bool.and_eq_true] at h; exact h.2.1
theorem may_seq {m : List Int} (h : mayB m = true) (hk : 1 ≤ fld m 0 ∧ fld m 0 ≤ 3) : inS 1 1048576 (fld m 4) = true := by
  unfold mayB sSeq at h; rw [if_pos hk] at h; simp only [Bool.and_eq_true] at h; exact h.2.2.1
theorem may_place {m : List Int} (h : mayB m = true) (hk : 1 ≤ fld m 0 ∧ fld m 0 ≤ 2) : resB (fld m 5) (fld m 6) = true := by
  unfold mayB sAt at h; rw [decide_eq_true (show fld m 0 = 1 ∨ fld m 0 = 2 by omega)] at h; simp only [Bool.and_eq_true] at h; exact h.2.2.2.1
theorem may_mode {m : List Int} (h : mayB m = true) (hk : 1 ≤ fld m 0 ∧ fld m 0 ≤ 2) : inS 1 4 (fld m 7) = true := by
  unfold mayB sMode at h; rw [if_pos hk] at h; simp only [Bool.and_eq_true] at h; exact h.2.2.2.2.1
theorem may_code3 {m : List Int} (h : mayB m = true) (hk : fld m 0 = 3) : inS 1 15 (fld m 8) = true := by
  unfold mayB sCode at h; rw [if_pos hk] at h; simp only [Bool.and_eq_true] at h; exact h.2.2.2.2.2.1
theorem may_code56 {m : List Int} (h : mayB m = true) (hk : fld m 0 = 5 ∨ fld m 0 = 6) : inS 0 1 (fld m 8) = true := by
  unfold mayB sCode at h; rw [if_neg (by omega), if_pos hk] at h; simp only [Bool.and_eq_true] at h; exact h.2.2.2.2.2.1
theorem may_next10 {m : List Int} (h : mayB m = true) (hk : fld m 0 = 10) : inS 1 (wrap64 (fld m 3 - 1)) (fld m 9) = true := by
  unfold mayB sNext at h; rw [if_pos hk] at h; simp only [Bool.and_eq_true] at h; exact h.2.2.2.2.2.2.1
theorem may_next11 {m : List Int} (h : mayB m = true) (hk : fld m 0 = 11) : inS 1 1048576 (fld m 9) = true := by
  unfold mayB sNext at h; rw [if_neg (by omega), if_pos hk] at h; simp only [Bool.and_eq_true] at h; exact h.2.2.2.2.2.2.1
theorem may_nseq11 {m : List Int} (h : mayB m = true) (hk : fld m 0 = 11) : inS 0 1048576 (fld m 10) = true := by
  unfold mayB sNseq at h; rw [if_pos hk] at h; simp only [Bool.and_eq_true] at h; exact h.2.2.2.2.2.2.2.1
theorem may_n11 {m : List Int} (h : mayB m = true) (hk : fld m 0 = 11) : inS 1 8 (fld m 11) = true := by
  unfold mayB sN at h; rw [if_pos hk] at h; simp only [Bool.and_eq_true] at h; exact h.2.2.2.2.2.2.2.2.1
theorem may_path {m : List Int} (h : mayB m = true) : pathB m = true := by
  unfold mayB at h; simp only [Bool.and_eq_true] at h; exact h.2.2.2.2.2.2.2.2.2
theorem may_no {m : List Int} (h : mayB m = true → False) : mayB m = false := by
  cases e : mayB m
  · rfl
  · exact (h e).elim

/-- The letter of a kind. -/
def wb (k : Int) : Int := if k = 1 ∨ k = 4 ∨ k = 6 ∨ k = 8 then 111 else if k = 11 then 101 else 98
/-- The message's block, as it was. -/
def KeepsO (w : World) (m : List Int) (w' : World) : Prop := Blk w' w.heap.size 46 (mc m) ∧ Below w.heap.size w w'
/-- What a region leaves, and the message as it was. -/
structure CutO (w : World) (m : List Int) (v v' : Value) (wx : World) : Prop where
  val : v = v'
  keeps : KeepsO w m wx


/-- Stores into a message's block, one behind the other. -/
theorem blk_sets {g : Nat} {t : TypeId} : ∀ (l : List (Nat × Int)) (V : World) (q : List Int), Blk V g t (mc q) → Blk (l.foldl (fun W p => W.setCell ⟨g, p.1, none⟩ (.int .i64 p.2)) V) g t (mc (l.foldl (fun q p => q.set p.1 p.2) q))
  | [], _, _, h => h
  | p :: l, V, q, h => blk_sets l _ _ (by have := h.set_ p.1 (.int .i64 p.2); rwa [mc_set] at this)
theorem blk_fars {g b : Nat} {t : TypeId} {c : Array Value} (hb : g ≠ b) : ∀ (l : List (Nat × Int)) (V : World), Blk V g t c → Blk (l.foldl (fun W p => W.setCell ⟨b, p.1, none⟩ (.int .i64 p.2)) V) g t c
  | [], _, h => h
  | p :: l, V, h => blk_fars hb l _ (h.far hb _)
theorem below_sets {B b : Nat} {w : World} (hb : B ≤ b) : ∀ (l : List (Nat × Int)) (V : World), Below B w V → Below B w (l.foldl (fun W p => W.setCell ⟨b, p.1, none⟩ (.int .i64 p.2)) V)
  | [], _, h => h
  | p :: l, V, h => below_sets hb l _ (h.setCell hb _)
theorem way_out {m : List Int} (hk : fld m 0 = 1 ∨ fld m 0 = 4 ∨ fld m 0 = 6 ∨ fld m 0 = 8) (h : goesB m = true) : fld m 1 = 0 ∧ 1 ≤ fld m 2 ∧ fld m 2 ≤ 64 := by
  unfold goesB wayB at h; rw [if_pos hk] at h; unfold downB at h; rw [Bool.and_eq_true, inS_iff] at h; simpa using h
theorem way_back {m : List Int} (hk : fld m 0 = 2 ∨ fld m 0 = 3 ∨ fld m 0 = 5 ∨ fld m 0 = 7 ∨ fld m 0 = 9 ∨ fld m 0 = 10) (h : goesB m = true) : (1 ≤ fld m 1 ∧ fld m 1 ≤ 64) ∧ fld m 2 = 0 := by
  unfold goesB wayB at h; rw [if_neg (by omega), if_pos hk] at h; unfold upB at h; rw [Bool.and_eq_true, inS_iff] at h; simpa using h
theorem way_both {m : List Int} (hk : fld m 0 = 11) (h : goesB m = true) : (fld m 1 = 0 ∧ 1 ≤ fld m 2 ∧ fld m 2 ≤ 64) ∨ ((1 ≤ fld m 1 ∧ fld m 1 ≤ 64) ∧ fld m 2 = 0) := by
  unfold goesB wayB at h; rw [if_neg (by omega), if_neg (by omega), if_pos hk, Bool.or_eq_true] at h
  rcases h with h | h
  · unfold downB at h; rw [Bool.and_eq_true, inS_iff] at h; left; simpa using h
  · unfold upB at h; rw [Bool.and_eq_true, inS_iff] at h; right; simpa using h
end Go.Proofs.YthfhhapefjideaaGreat
/- The document's Ok: a message that goes no way that its kind goes. -/
namespace Go.Proofs.YthfhhapefjideaaGreat
open Go.RowKit
set_option linter.unusedVariables false
set_option linter.unusedSimpArgs false

set_option maxRecDepth 100000 in
set_option maxHeartbeats 2000000 in
theorem refOk_num (m : List Int) (hl : m.length = 28) (ho : goesB m = false) (hn : fld m 0 < 1 ∨ 11 < fld m 0) (w : World) :
    Calls Tryz.prog 61 #[.agg (mc m)] w fun e w' => e = .returned (.bool (mayB m)) ∧ Below w.heap.size w w' := by
  have c0 := mc_get hl (i := 0) (by omega)
  have HM := Lib.hid (may_no (m := m) fun h => by have := may_goes h; rw [ho] at this; cases this)
  rcases hn with hk | hk
  · have d1 : decide (fld m 0 < 1) = true := by simpa using hk
    generalize fld m 0 = k at c0 d1
    clear hk hl ho
    go_enter Tryz.func61, Tryz.ntmps61
    go_wp2_with fail
    go_ret
    exact ⟨ret_bool HM.out.symm, Joins.below_alloc1 _ _⟩
  · have d1 : decide (fld m 0 < 1) = false := by simp; omega
    have d2 : decide (11 < fld m 0) = true := by simpa using hk
    generalize fld m 0 = k at c0 d1 d2
    clear hk hl ho
    go_enter Tryz.func61, Tryz.ntmps61
    go_wp2_with fail
    go_ret
    exact ⟨ret_bool HM.out.symm, Joins.below_alloc1 _ _⟩

/-- The ways' letters. -/
def waysB : ByteArray := ⟨#[111, 98, 98, 111, 98, 111, 98, 111, 98, 98, 101]⟩
theorem ways_at : ∀ j : Nat, j < 11 → waysB[j]?.map (fun c => (c.toNat : Int)) = some (wb ((j : Int) + 1)) := by decide +kernel
theorem ways_run {k : Int} (h1 : 1 ≤ k) (h2 : k ≤ 11) (w : World) : (Instr.index 9 (.string ⟨#[111, 98, 98, 111, 98, 111, 98, 111, 98, 98, 101]⟩) (.int .i64 (k - 1))).run Tryz.prog w = .ok (.int .u8 (wb k)) w := by
  obtain ⟨j, hj⟩ : ∃ j : Nat, k = (j : Int) + 1 := ⟨(k - 1).toNat, by omega⟩
  have hw := ways_at j (by omega)
  subst hj
  rw [show (j : Int) + 1 - 1 = j by omega]
  obtain ⟨c, hc, he⟩ := Option.map_eq_some_iff.1 hw
  have hc' : (⟨#[111, 98, 98, 111, 98, 111, 98, 111, 98, 98, 101]⟩ : ByteArray)[j]? = some c := hc
  unfold Instr.index
  simp only [asIntOf, Sem.run_bind, Sem.run_pure, Result.andThen_ok, run_underlying Tryz.underlying9]
  rw [if_pos (by omega), Int.toNat_natCast, hc']
  simp only [Sem.run_pure]
  rw [← he]

set_option maxRecDepth 100000 in
set_option maxHeartbeats 2000000 in
theorem stray_f0tlow_111 (m : List Int) (hl : m.length = 28) (hm : mayB m = false) (hk : 1 ≤ fld m 0 ∧ fld m 0 ≤ 11) (h : fld m 1 = 0 ∧ fld m 2 < 0) (hx : wb (fld m 0) = 111) (w : World) :
    Calls Tryz.prog 61 #[.agg (mc m)] w fun e w' => e = .returned (.bool (mayB m)) ∧ Below w.heap.size w w' := by
  have HM := Lib.hid hm
  have hrun := fun w => ways_run hk.1 hk.2 w
  rw [hx] at hrun
  have d1 : decide (fld m 0 < 1) = false := by simp; omega
  have d2 : decide (11 < fld m 0) = false := by simp; omega
  have hb1 := hk.1
  have hb2 := hk.2
  have c0 := mc_get hl (i := 0) (by omega)
  have c1 := mc_get hl (i := 1) (by omega)
  have c2 := mc_get hl (i := 2) (by omega)
  have f1 : (fld m 1 == 0) = true := by simp [h.1]
  have t1 : decide (1 ≤ fld m 2) = false := by simp; omega
  have t0 : (fld m 2 == 0) = false := by simp; omega
  generalize fld m 0 = k at *
  generalize fld m 1 = f at *
  generalize fld m 2 = t at *
  clear hl hm hk h hx
  go_enter Tryz.func61, Tryz.ntmps61
  go_wp2_with fail
  go_ret
  exact ⟨ret_bool HM.out.symm, Joins.below_alloc1 _ _⟩
set_option maxRecDepth 100000 in
set_option maxHeartbeats 2000000 in
theorem stray_f0tlow_98 (m : List Int) (hl : m.length = 28) (hm : mayB m = false) (hk : 1 ≤ fld m 0 ∧ fld m 0 ≤ 11) (h : fld m 1 = 0 ∧ fld m 2 < 0) (hx : wb (fld m 0) = 98) (w : World) :
    Calls Tryz.prog 61 #[.agg (mc m)] w fun e w' => e = .returned (.bool (mayB m)) ∧ Below w.heap.size w w' := by
  have HM := Lib.hid hm
  have hrun := fun w => ways_run hk.1 hk.2 w
  rw [hx] at hrun
  have d1 : decide (fld m 0 < 1) = false := by simp; omega
  have d2 : decide (11 < fld m 0) = false := by simp; omega
  have hb1 := hk.1
  have hb2 := hk.2
  have c0 := mc_get hl (i := 0) (by omega)
  have c1 := mc_get hl (i := 1) (by omega)
  have c2 := mc_get hl (i := 2) (by omega)
  have f1 : (fld m 1 == 0) = true := by simp [h.1]
  have t1 : decide (1 ≤ fld m 2) = false := by simp; omega
  have t0 : (fld m 2 == 0) = false := by simp; omega
  generalize fld m 0 = k at *
  generalize fld m 1 = f at *
  generalize fld m 2 = t at *
  clear hl hm hk h hx
  go_enter Tryz.func61, Tryz.ntmps61
  go_wp2_with fail
  go_ret
  exact ⟨ret_bool HM.out.symm, Joins.below_alloc1 _ _⟩
set_option maxRecDepth 100000 in
set_option maxHeartbeats 2000000 in
theorem stray_f0tlow_101 (m : List Int) (hl : m.length = 28) (hm : mayB m = false) (hk : 1 ≤ fld m 0 ∧ fld m 0 ≤ 11) (h : fld m 1 = 0 ∧ fld m 2 < 0) (hx : wb (fld m 0) = 101) (w : World) :
    Calls Tryz.prog 61 #[.agg (mc m)] w fun e w' => e = .returned (.bool (mayB m)) ∧ Below w.heap.size w w' := by
  have HM := Lib.hid hm
  have hrun := fun w => ways_run hk.1 hk.2 w
  rw [hx] at hrun
  have d1 : decide (fld m 0 < 1) = false := by simp; omega
  have d2 : decide (11 < fld m 0) = false := by simp; omega
  have hb1 := hk.1
  have hb2 := hk.2
  have c0 := mc_get hl (i := 0) (by omega)
  have c1 := mc_get hl (i := 1) (by omega)
  have c2 := mc_get hl (i := 2) (by omega)
  have f1 : (fld m 1 == 0) = true := by simp [h.1]
  have t1 : decide (1 ≤ fld m 2) = false := by simp; omega
  have t0 : (fld m 2 == 0) = false := by simp; omega
  generalize fld m 0 = k at *
  generalize fld m 1 = f at *
  generalize fld m 2 = t at *
  clear hl hm hk h hx
  go_enter Tryz.func61, Tryz.ntmps61
  go_wp2_with fail
  go_ret
  exact ⟨ret_bool HM.out.symm, Joins.below_alloc1 _ _⟩
set_option maxRecDepth 100000 in
set_option maxHeartbeats 2000000 in
theorem stray_f0t0_111 (m : List Int) (hl : m.length = 28) (hm : mayB m = false) (hk : 1 ≤ fld m 0 ∧ fld m 0 ≤ 11) (h : fld m 1 = 0 ∧ fld m 2 = 0) (hx : wb (fld m 0) = 111) (w : World) :
    Calls Tryz.prog 61 #[.agg (mc m)] w fun e w' => e = .returned (.bool (mayB m)) ∧ Below w.heap.size w w' := by
  have HM := Lib.hid hm
  have hrun := fun w => ways_run hk.1 hk.2 w
  rw [hx] at hrun
  have d1 : decide (fld m 0 < 1) = false := by simp; omega
  have d2 : decide (11 < fld m 0) = false := by simp; omega
  have hb1 := hk.1
  have hb2 := hk.2
  have c0 := mc_get hl (i := 0) (by omega)
  have c1 := mc_get hl (i := 1) (by omega)
  have c2 := mc_get hl (i := 2) (by omega)
  have f1 : (fld m 1 == 0) = true := by simp [h.1]
  have t1 : decide (1 ≤ fld m 2) = false := by simp; omega
  have t0 : (fld m 2 == 0) = true := by simp [h.2]
  have f2 : decide (1 ≤ fld m 1) = false := by simp; omega
  generalize fld m 0 = k at *
  generalize fld m 1 = f at *
  generalize fld m 2 = t at *
  clear hl hm hk h hx
  go_enter Tryz.func61, Tryz.ntmps61
  go_wp2_with fail
  go_ret
  exact ⟨ret_bool HM.out.symm, Joins.below_alloc1 _ _⟩
set_option maxRecDepth 100000 in
set_option maxHeartbeats 2000000 in
theorem stray_f0t0_98 (m : List Int) (hl : m.length = 28) (hm : mayB m = false) (hk : 1 ≤ fld m 0 ∧ fld m 0 ≤ 11) (h : fld m 1 = 0 ∧ fld m 2 = 0) (hx : wb (fld m 0) = 98) (w : World) :
    Calls Tryz.prog 61 #[.agg (mc m)] w fun e w' => e = .returned (.bool (mayB m)) ∧ Below w.heap.size w w' := by
  have HM := Lib.hid hm
  have hrun := fun w => ways_run hk.1 hk.2 w
  rw [hx] at hrun
  have d1 : decide (fld m 0 < 1) = false := by simp; omega
  have d2 : decide (11 < fld m 0) = false := by simp; omega
  have hb1 := hk.1
  have hb2 := hk.2
  have c0 := mc_get hl (i := 0) (by omega)
  have c1 := mc_get hl (i := 1) (by omega)
  have c2 := mc_get hl (i := 2) (by omega)
  have f1 : (fld m 1 == 0) = true := by simp [h.1]
  have t1 : decide (1 ≤ fld m 2) = false := by simp; omega
  have t0 : (fld m 2 == 0) = true := by simp [h.2]
  have f2 : decide (1 ≤ fld m 1) = false := by simp; omega
  generalize fld m 0 = k at *
  generalize fld m 1 = f at *
  generalize fld m 2 = t at *
  clear hl hm hk h hx
  go_enter Tryz.func61, Tryz.ntmps61
  go_wp2_with fail
  go_ret
  exact ⟨ret_bool HM.out.symm, Joins.below_alloc1 _ _⟩
set_option maxRecDepth 100000 in
set_option maxHeartbeats 2000000 in
theorem stray_f0t0_101 (m : List Int) (hl : m.length = 28) (hm : mayB m = false) (hk : 1 ≤ fld m 0 ∧ fld m 0 ≤ 11) (h : fld m 1 = 0 ∧ fld m 2 = 0) (hx : wb (fld m 0) = 101) (w : World) :
    Calls Tryz.prog 61 #[.agg (mc m)] w fun e w' => e = .returned (.bool (mayB m)) ∧ Below w.heap.size w w' := by
  have HM := Lib.hid hm
  have hrun := fun w => ways_run hk.1 hk.2 w
  rw [hx] at hrun
  have d1 : decide (fld m 0 < 1) = false := by simp; omega
  have d2 : decide (11 < fld m 0) = false := by simp; omega
  have hb1 := hk.1
  have hb2 := hk.2
  have c0 := mc_get hl (i := 0) (by omega)
  have c1 := mc_get hl (i := 1) (by omega)
  have c2 := mc_get hl (i := 2) (by omega)
  have f1 : (fld m 1 == 0) = true := by simp [h.1]
  have t1 : decide (1 ≤ fld m 2) = false := by simp; omega
  have t0 : (fld m 2 == 0) = true := by simp [h.2]
  have f2 : decide (1 ≤ fld m 1) = false := by simp; omega
  generalize fld m 0 = k at *
  generalize fld m 1 = f at *
  generalize fld m 2 = t at *
  clear hl hm hk h hx
  go_enter Tryz.func61, Tryz.ntmps61
  go_wp2_with fail
  go_ret
  exact ⟨ret_bool HM.out.symm, Joins.below_alloc1 _ _⟩
set_option maxRecDepth 100000 in
set_option maxHeartbeats 2000000 in
theorem stray_f0tin_98 (m : List Int) (hl : m.length = 28) (hm : mayB m = false) (hk : 1 ≤ fld m 0 ∧ fld m 0 ≤ 11) (h : fld m 1 = 0 ∧ 1 ≤ fld m 2 ∧ fld m 2 ≤ 64) (hx : wb (fld m 0) = 98) (w : World) :
    Calls Tryz.prog 61 #[.agg (mc m)] w fun e w' => e = .returned (.bool (mayB m)) ∧ Below w.heap.size w w' := by
  have HM := Lib.hid hm
  have hrun := fun w => ways_run hk.1 hk.2 w
  rw [hx] at hrun
  have d1 : decide (fld m 0 < 1) = false := by simp; omega
  have d2 : decide (11 < fld m 0) = false := by simp; omega
  have hb1 := hk.1
  have hb2 := hk.2
  have c0 := mc_get hl (i := 0) (by omega)
  have c1 := mc_get hl (i := 1) (by omega)
  have c2 := mc_get hl (i := 2) (by omega)
  have f1 : (fld m 1 == 0) = true := by simp [h.1]
  have t1 : decide (1 ≤ fld m 2) = true := by simp; omega
  have t2 : decide (fld m 2 ≤ 64) = true := by simp; omega
  have t0 : (fld m 2 == 0) = false := by simp; omega
  generalize fld m 0 = k at *
  generalize fld m 1 = f at *
  generalize fld m 2 = t at *
  clear hl hm hk h hx
  go_enter Tryz.func61, Tryz.ntmps61
  go_wp2_with fail
  go_ret
  exact ⟨ret_bool HM.out.symm, Joins.below_alloc1 _ _⟩
set_option maxRecDepth 100000 in
set_option maxHeartbeats 2000000 in
theorem stray_f0thigh_111 (m : List Int) (hl : m.length = 28) (hm : mayB m = false) (hk : 1 ≤ fld m 0 ∧ fld m 0 ≤ 11) (h : fld m 1 = 0 ∧ 64 < fld m 2) (hx : wb (fld m 0) = 111) (w : World) :
    Calls Tryz.prog 61 #[.agg (mc m)] w fun e w' => e = .returned (.bool (mayB m)) ∧ Below w.heap.size w w' := by
  have HM := Lib.hid hm
  have hrun := fun w => ways_run hk.1 hk.2 w
  rw [hx] at hrun
  have d1 : decide (fld m 0 < 1) = false := by simp; omega
  have d2 : decide (11 < fld m 0) = false := by simp; omega
  have hb1 := hk.1
  have hb2 := hk.2
  have c0 := mc_get hl (i := 0) (by omega)
  have c1 := mc_get hl (i := 1) (by omega)
  have c2 := mc_get hl (i := 2) (by omega)
  have f1 : (fld m 1 == 0) = true := by simp [h.1]
  have t1 : decide (1 ≤ fld m 2) = true := by simp; omega
  have t2 : decide (fld m 2 ≤ 64) = false := by simp; omega
  have t0 : (fld m 2 == 0) = false := by simp; omega
  generalize fld m 0 = k at *
  generalize fld m 1 = f at *
  generalize fld m 2 = t at *
  clear hl hm hk h hx
  go_enter Tryz.func61, Tryz.ntmps61
  go_wp2_with fail
  go_ret
  exact ⟨ret_bool HM.out.symm, Joins.below_alloc1 _ _⟩
set_option maxRecDepth 100000 in
set_option maxHeartbeats 2000000 in
theorem stray_f0thigh_98 (m : List Int) (hl : m.length = 28) (hm : mayB m = false) (hk : 1 ≤ fld m 0 ∧ fld m 0 ≤ 11) (h : fld m 1 = 0 ∧ 64 < fld m 2) (hx : wb (fld m 0) = 98) (w : World) :
    Calls Tryz.prog 61 #[.agg (mc m)] w fun e w' => e = .returned (.bool (mayB m)) ∧ Below w.heap.size w w' := by
  have HM := Lib.hid hm
  have hrun := fun w => ways_run hk.1 hk.2 w
  rw [hx] at hrun
  have d1 : decide (fld m 0 < 1) = false := by simp; omega
  have d2 : decide (11 < fld m 0) = false := by simp; omega
  have hb1 := hk.1
  have hb2 := hk.2
  have c0 := mc_get hl (i := 0) (by omega)
  have c1 := mc_get hl (i := 1) (by omega)
  have c2 := mc_get hl (i := 2) (by omega)
  have f1 : (fld m 1 == 0) = true := by simp [h.1]
  have t1 : decide (1 ≤ fld m 2) = true := by simp; omega
  have t2 : decide (fld m 2 ≤ 64) = false := by simp; omega
  have t0 : (fld m 2 == 0) = false := by simp; omega
  generalize fld m 0 = k at *
  generalize fld m 1 = f at *
  generalize fld m 2 = t at *
  clear hl hm hk h hx
  go_enter Tryz.func61, Tryz.ntmps61
  go_wp2_with fail
  go_ret
  exact ⟨ret_bool HM.out.symm, Joins.below_alloc1 _ _⟩
set_option maxRecDepth 100000 in
set_option maxHeartbeats 2000000 in
theorem stray_f0thigh_101 (m : List Int) (hl : m.length = 28) (hm : mayB m = false) (hk : 1 ≤ fld m 0 ∧ fld m 0 ≤ 11) (h : fld m 1 = 0 ∧ 64 < fld m 2) (hx : wb (fld m 0) = 101) (w : World) :
    Calls Tryz.prog 61 #[.agg (mc m)] w fun e w' => e = .returned (.bool (mayB m)) ∧ Below w.heap.size w w' := by
  have HM := Lib.hid hm
  have hrun := fun w => ways_run hk.1 hk.2 w
  rw [hx] at hrun
  have d1 : decide (fld m 0 < 1) = false := by simp; omega
  have d2 : decide (11 < fld m 0) = false := by simp; omega
  have hb1 := hk.1
  have hb2 := hk.2
  have c0 := mc_get hl (i := 0) (by omega)
  have c1 := mc_get hl (i := 1) (by omega)
  have c2 := mc_get hl (i := 2) (by omega)
  have f1 : (fld m 1 == 0) = true := by simp [h.1]
  have t1 : decide (1 ≤ fld m 2) = true := by simp; omega
  have t2 : decide (fld m 2 ≤ 64) = false := by simp; omega
  have t0 : (fld m 2 == 0) = false := by simp; omega
  generalize fld m 0 = k at *
  generalize fld m 1 = f at *
  generalize fld m 2 = t at *
  clear hl hm hk h hx
  go_enter Tryz.func61, Tryz.ntmps61
  go_wp2_with fail
  go_ret
  exact ⟨ret_bool HM.out.symm, Joins.below_alloc1 _ _⟩
set_option maxRecDepth 100000 in
set_option maxHeartbeats 2000000 in
theorem stray_t0flow_111 (m : List Int) (hl : m.length = 28) (hm : mayB m = false) (hk : 1 ≤ fld m 0 ∧ fld m 0 ≤ 11) (h : fld m 2 = 0 ∧ fld m 1 < 0) (hx : wb (fld m 0) = 111) (w : World) :
    Calls Tryz.prog 61 #[.agg (mc m)] w fun e w' => e = .returned (.bool (mayB m)) ∧ Below w.heap.size w w' := by
  have HM := Lib.hid hm
  have hrun := fun w => ways_run hk.1 hk.2 w
  rw [hx] at hrun
  have d1 : decide (fld m 0 < 1) = false := by simp; omega
  have d2 : decide (11 < fld m 0) = false := by simp; omega
  have hb1 := hk.1
  have hb2 := hk.2
  have c0 := mc_get hl (i := 0) (by omega)
  have c1 := mc_get hl (i := 1) (by omega)
  have c2 := mc_get hl (i := 2) (by omega)
  have f1 : (fld m 1 == 0) = false := by simp; omega
  have t0 : (fld m 2 == 0) = true := by simp [h.1]
  have f2 : decide (1 ≤ fld m 1) = false := by simp; omega
  generalize fld m 0 = k at *
  generalize fld m 1 = f at *
  generalize fld m 2 = t at *
  clear hl hm hk h hx
  go_enter Tryz.func61, Tryz.ntmps61
  go_wp2_with fail
  go_ret
  exact ⟨ret_bool HM.out.symm, Joins.below_alloc1 _ _⟩
set_option maxRecDepth 100000 in
set_option maxHeartbeats 2000000 in
theorem stray_t0flow_98 (m : List Int) (hl : m.length = 28) (hm : mayB m = false) (hk : 1 ≤ fld m 0 ∧ fld m 0 ≤ 11) (h : fld m 2 = 0 ∧ fld m 1 < 0) (hx : wb (fld m 0) = 98) (w : World) :
    Calls Tryz.prog 61 #[.agg (mc m)] w fun e w' => e = .returned (.bool (mayB m)) ∧ Below w.heap.size w w' := by
  have HM := Lib.hid hm
  have hrun := fun w => ways_run hk.1 hk.2 w
  rw [hx] at hrun
  have d1 : decide (fld m 0 < 1) = false := by simp; omega
  have d2 : decide (11 < fld m 0) = false := by simp; omega
  have hb1 := hk.1
  have hb2 := hk.2
  have c0 := mc_get hl (i := 0) (by omega)
  have c1 := mc_get hl (i := 1) (by omega)
  have c2 := mc_get hl (i := 2) (by omega)
  have f1 : (fld m 1 == 0) = false := by simp; omega
  have t0 : (fld m 2 == 0) = true := by simp [h.1]
  have f2 : decide (1 ≤ fld m 1) = false := by simp; omega
  generalize fld m 0 = k at *
  generalize fld m 1 = f at *
  generalize fld m 2 = t at *
  clear hl hm hk h hx
  go_enter Tryz.func61, Tryz.ntmps61
  go_wp2_with fail
  go_ret
  exact ⟨ret_bool HM.out.symm, Joins.below_alloc1 _ _⟩
set_option maxRecDepth 100000 in
set_option maxHeartbeats 2000000 in
theorem stray_t0flow_101 (m : List Int) (hl : m.length = 28) (hm : mayB m = false) (hk : 1 ≤ fld m 0 ∧ fld m 0 ≤ 11) (h : fld m 2 = 0 ∧ fld m 1 < 0) (hx : wb (fld m 0) = 101) (w : World) :
    Calls Tryz.prog 61 #[.agg (mc m)] w fun e w' => e = .returned (.bool (mayB m)) ∧ Below w.heap.size w w' := by
  have HM := Lib.hid hm
  have hrun := fun w => ways_run hk.1 hk.2 w
  rw [hx] at hrun
  have d1 : decide (fld m 0 < 1) = false := by simp; omega
  have d2 : decide (11 < fld m 0) = false := by simp; omega
  have hb1 := hk.1
  have hb2 := hk.2
  have c0 := mc_get hl (i := 0) (by omega)
  have c1 := mc_get hl (i := 1) (by omega)
  have c2 := mc_get hl (i := 2) (by omega)
  have f1 : (fld m 1 == 0) = false := by simp; omega
  have t0 : (fld m 2 == 0) = true := by simp [h.1]
  have f2 : decide (1 ≤ fld m 1) = false := by simp; omega
  generalize fld m 0 = k at *
  generalize fld m 1 = f at *
  generalize fld m 2 = t at *
  clear hl hm hk h hx
  go_enter Tryz.func61, Tryz.ntmps61
  go_wp2_with fail
  go_ret
  exact ⟨ret_bool HM.out.symm, Joins.below_alloc1 _ _⟩
set_option maxRecDepth 100000 in
set_option maxHeartbeats 2000000 in
theorem stray_t0fin_111 (m : List Int) (hl : m.length = 28) (hm : mayB m = false) (hk : 1 ≤ fld m 0 ∧ fld m 0 ≤ 11) (h : fld m 2 = 0 ∧ 1 ≤ fld m 1 ∧ fld m 1 ≤ 64) (hx : wb (fld m 0) = 111) (w : World) :
    Calls Tryz.prog 61 #[.agg (mc m)] w fun e w' => e = .returned (.bool (mayB m)) ∧ Below w.heap.size w w' := by
  have HM := Lib.hid hm
  have hrun := fun w => ways_run hk.1 hk.2 w
  rw [hx] at hrun
  have d1 : decide (fld m 0 < 1) = false := by simp; omega
  have d2 : decide (11 < fld m 0) = false := by simp; omega
  have hb1 := hk.1
  have hb2 := hk.2
  have c0 := mc_get hl (i := 0) (by omega)
  have c1 := mc_get hl (i := 1) (by omega)
  have c2 := mc_get hl (i := 2) (by omega)
  have f1 : (fld m 1 == 0) = false := by simp; omega
  have t0 : (fld m 2 == 0) = true := by simp [h.1]
  have f2 : decide (1 ≤ fld m 1) = true := by simp; omega
  have f3 : decide (fld m 1 ≤ 64) = true := by simp; omega
  generalize fld m 0 = k at *
  generalize fld m 1 = f at *
  generalize fld m 2 = t at *
  clear hl hm hk h hx
  go_enter Tryz.func61, Tryz.ntmps61
  go_wp2_with fail
  go_ret
  exact ⟨ret_bool HM.out.symm, Joins.below_alloc1 _ _⟩
set_option maxRecDepth 100000 in
set_option maxHeartbeats 2000000 in
theorem stray_t0fhigh_111 (m : List Int) (hl : m.length = 28) (hm : mayB m = false) (hk : 1 ≤ fld m 0 ∧ fld m 0 ≤ 11) (h : fld m 2 = 0 ∧ 64 < fld m 1) (hx : wb (fld m 0) = 111) (w : World) :
    Calls Tryz.prog 61 #[.agg (mc m)] w fun e w' => e = .returned (.bool (mayB m)) ∧ Below w.heap.size w w' := by
  have HM := Lib.hid hm
  have hrun := fun w => ways_run hk.1 hk.2 w
  rw [hx] at hrun
  have d1 : decide (fld m 0 < 1) = false := by simp; omega
  have d2 : decide (11 < fld m 0) = false := by simp; omega
  have hb1 := hk.1
  have hb2 := hk.2
  have c0 := mc_get hl (i := 0) (by omega)
  have c1 := mc_get hl (i := 1) (by omega)
  have c2 := mc_get hl (i := 2) (by omega)
  have f1 : (fld m 1 == 0) = false := by simp; omega
  have t0 : (fld m 2 == 0) = true := by simp [h.1]
  have f2 : decide (1 ≤ fld m 1) = true := by simp; omega
  have f3 : decide (fld m 1 ≤ 64) = false := by simp; omega
  generalize fld m 0 = k at *
  generalize fld m 1 = f at *
  generalize fld m 2 = t at *
  clear hl hm hk h hx
  go_enter Tryz.func61, Tryz.ntmps61
  go_wp2_with fail
  go_ret
  exact ⟨ret_bool HM.out.symm, Joins.below_alloc1 _ _⟩
set_option maxRecDepth 100000 in
set_option maxHeartbeats 2000000 in
theorem stray_t0fhigh_98 (m : List Int) (hl : m.length = 28) (hm : mayB m = false) (hk : 1 ≤ fld m 0 ∧ fld m 0 ≤ 11) (h : fld m 2 = 0 ∧ 64 < fld m 1) (hx : wb (fld m 0) = 98) (w : World) :
    Calls Tryz.prog 61 #[.agg (mc m)] w fun e w' => e = .returned (.bool (mayB m)) ∧ Below w.heap.size w w' := by
  have HM := Lib.hid hm
  have hrun := fun w => ways_run hk.1 hk.2 w
  rw [hx] at hrun
  have d1 : decide (fld m 0 < 1) = false := by simp; omega
  have d2 : decide (11 < fld m 0) = false := by simp; omega
  have hb1 := hk.1
  have hb2 := hk.2
  have c0 := mc_get hl (i := 0) (by omega)
  have c1 := mc_get hl (i := 1) (by omega)
  have c2 := mc_get hl (i := 2) (by omega)
  have f1 : (fld m 1 == 0) = false := by simp; omega
  have t0 : (fld m 2 == 0) = true := by simp [h.1]
  have f2 : decide (1 ≤ fld m 1) = true := by simp; omega
  have f3 : decide (fld m 1 ≤ 64) = false := by simp; omega
  generalize fld m 0 = k at *
  generalize fld m 1 = f at *
  generalize fld m 2 = t at *
  clear hl hm hk h hx
  go_enter Tryz.func61, Tryz.ntmps61
  go_wp2_with fail
  go_ret
  exact ⟨ret_bool HM.out.symm, Joins.below_alloc1 _ _⟩
set_option maxRecDepth 100000 in
set_option maxHeartbeats 2000000 in
theorem stray_t0fhigh_101 (m : List Int) (hl : m.length = 28) (hm : mayB m = false) (hk : 1 ≤ fld m 0 ∧ fld m 0 ≤ 11) (h : fld m 2 = 0 ∧ 64 < fld m 1) (hx : wb (fld m 0) = 101) (w : World) :
    Calls Tryz.prog 61 #[.agg (mc m)] w fun e w' => e = .returned (.bool (mayB m)) ∧ Below w.heap.size w w' := by
  have HM := Lib.hid hm
  have hrun := fun w => ways_run hk.1 hk.2 w
  rw [hx] at hrun
  have d1 : decide (fld m 0 < 1) = false := by simp; omega
  have d2 : decide (11 < fld m 0) = false := by simp; omega
  have hb1 := hk.1
  have hb2 := hk.2
  have c0 := mc_get hl (i := 0) (by omega)
  have c1 := mc_get hl (i := 1) (by omega)
  have c2 := mc_get hl (i := 2) (by omega)
  have f1 : (fld m 1 == 0) = false := by simp; omega
  have t0 : (fld m 2 == 0) = true := by simp [h.1]
  have f2 : decide (1 ≤ fld m 1) = true := by simp; omega
  have f3 : decide (fld m 1 ≤ 64) = false := by simp; omega
  generalize fld m 0 = k at *
  generalize fld m 1 = f at *
  generalize fld m 2 = t at *
  clear hl hm hk h hx
  go_enter Tryz.func61, Tryz.ntmps61
  go_wp2_with fail
  go_ret
  exact ⟨ret_bool HM.out.symm, Joins.below_alloc1 _ _⟩
set_option maxRecDepth 100000 in
set_option maxHeartbeats 2000000 in
theorem stray_both_111 (m : List Int) (hl : m.length = 28) (hm : mayB m = false) (hk : 1 ≤ fld m 0 ∧ fld m 0 ≤ 11) (h : fld m 1 ≠ 0 ∧ fld m 2 ≠ 0) (hx : wb (fld m 0) = 111) (w : World) :
    Calls Tryz.prog 61 #[.agg (mc m)] w fun e w' => e = .returned (.bool (mayB m)) ∧ Below w.heap.size w w' := by
  have HM := Lib.hid hm
  have hrun := fun w => ways_run hk.1 hk.2 w
  rw [hx] at hrun
  have d1 : decide (fld m 0 < 1) = false := by simp; omega
  have d2 : decide (11 < fld m 0) = false := by simp; omega
  have hb1 := hk.1
  have hb2 := hk.2
  have c0 := mc_get hl (i := 0) (by omega)
  have c1 := mc_get hl (i := 1) (by omega)
  have c2 := mc_get hl (i := 2) (by omega)
  have f1 : (fld m 1 == 0) = false := by simp [h.1]
  have t0 : (fld m 2 == 0) = false := by simp [h.2]
  generalize fld m 0 = k at *
  generalize fld m 1 = f at *
  generalize fld m 2 = t at *
  clear hl hm hk h hx
  go_enter Tryz.func61, Tryz.ntmps61
  go_wp2_with fail
  go_ret
  exact ⟨ret_bool HM.out.symm, Joins.below_alloc1 _ _⟩
set_option maxRecDepth 100000 in
set_option maxHeartbeats 2000000 in
theorem stray_both_98 (m : List Int) (hl : m.length = 28) (hm : mayB m = false) (hk : 1 ≤ fld m 0 ∧ fld m 0 ≤ 11) (h : fld m 1 ≠ 0 ∧ fld m 2 ≠ 0) (hx : wb (fld m 0) = 98) (w : World) :
    Calls Tryz.prog 61 #[.agg (mc m)] w fun e w' => e = .returned (.bool (mayB m)) ∧ Below w.heap.size w w' := by
  have HM := Lib.hid hm
  have hrun := fun w => ways_run hk.1 hk.2 w
  rw [hx] at hrun
  have d1 : decide (fld m 0 < 1) = false := by simp; omega
  have d2 : decide (11 < fld m 0) = false := by simp; omega
  have hb1 := hk.1
  have hb2 := hk.2
  have c0 := mc_get hl (i := 0) (by omega)
  have c1 := mc_get hl (i := 1) (by omega)
  have c2 := mc_get hl (i := 2) (by omega)
  have f1 : (fld m 1 == 0) = false := by simp [h.1]
  have t0 : (fld m 2 == 0) = false := by simp [h.2]
  generalize fld m 0 = k at *
  generalize fld m 1 = f at *
  generalize fld m 2 = t at *
  clear hl hm hk h hx
  go_enter Tryz.func61, Tryz.ntmps61
  go_wp2_with fail
  go_ret
  exact ⟨ret_bool HM.out.symm, Joins.below_alloc1 _ _⟩
set_option maxRecDepth 100000 in
set_option maxHeartbeats 2000000 in
theorem stray_both_101 (m : List Int) (hl : m.length = 28) (hm : mayB m = false) (hk : 1 ≤ fld m 0 ∧ fld m 0 ≤ 11) (h : fld m 1 ≠ 0 ∧ fld m 2 ≠ 0) (hx : wb (fld m 0) = 101) (w : World) :
    Calls Tryz.prog 61 #[.agg (mc m)] w fun e w' => e = .returned (.bool (mayB m)) ∧ Below w.heap.size w w' := by
  have HM := Lib.hid hm
  have hrun := fun w => ways_run hk.1 hk.2 w
  rw [hx] at hrun
  have d1 : decide (fld m 0 < 1) = false := by simp; omega
  have d2 : decide (11 < fld m 0) = false := by simp; omega
  have hb1 := hk.1
  have hb2 := hk.2
  have c0 := mc_get hl (i := 0) (by omega)
  have c1 := mc_get hl (i := 1) (by omega)
  have c2 := mc_get hl (i := 2) (by omega)
  have f1 : (fld m 1 == 0) = false := by simp [h.1]
  have t0 : (fld m 2 == 0) = false := by simp [h.2]
  generalize fld m 0 = k at *
  generalize fld m 1 = f at *
  generalize fld m 2 = t at *
  clear hl hm hk h hx
  go_enter Tryz.func61, Tryz.ntmps61
  go_wp2_with fail
  go_ret
  exact ⟨ret_bool HM.out.symm, Joins.below_alloc1 _ _⟩
/-- Which letters there are where no way fits. -/
theorem stray_letters {m : List Int} (ho : goesB m = false) (hk : 1 ≤ fld m 0 ∧ fld m 0 ≤ 11) : (wb (fld m 0) = 111 ∧ downB m = false) ∨ (wb (fld m 0) = 98 ∧ upB m = false) ∨ (wb (fld m 0) = 101 ∧ downB m = false ∧ upB m = false) := by
  have ho : wayB (fld m 0) (downB m) (upB m) = false := ho
  unfold wb
  unfold wayB at ho
  by_cases h1 : fld m 0 = 1 ∨ fld m 0 = 4 ∨ fld m 0 = 6 ∨ fld m 0 = 8
  · rw [if_pos h1] at ho ⊢; exact .inl ⟨rfl, ho⟩
  · rw [if_neg h1] at ho ⊢
    by_cases h2 : fld m 0 = 11
    · rw [if_pos h2]
      rw [if_neg (by omega), if_pos h2, Bool.or_eq_false_iff] at ho
      exact .inr (.inr ⟨rfl, ho⟩)
    · rw [if_neg h2]
      rw [if_pos (by omega)] at ho
      exact .inr (.inl ⟨rfl, ho⟩)
theorem refOk_stray (m : List Int) (hl : m.length = 28) (ho : goesB m = false) (hk : 1 ≤ fld m 0 ∧ fld m 0 ≤ 11) (w : World) :
    Calls Tryz.prog 61 #[.agg (mc m)] w fun e w' => e = .returned (.bool (mayB m)) ∧ Below w.heap.size w w' := by
  have hm : mayB m = false := may_no fun h => by have := may_goes h; rw [ho] at this; cases this
  have hL := stray_letters ho hk
  rcases (show (fld m 1 = 0 ∧ fld m 2 < 0) ∨ (fld m 1 = 0 ∧ fld m 2 = 0) ∨ (fld m 1 = 0 ∧ 1 ≤ fld m 2 ∧ fld m 2 ≤ 64) ∨ (fld m 1 = 0 ∧ 64 < fld m 2) ∨ (fld m 2 = 0 ∧ fld m 1 < 0) ∨ (fld m 2 = 0 ∧ 1 ≤ fld m 1 ∧ fld m 1 ≤ 64) ∨ (fld m 2 = 0 ∧ 64 < fld m 1) ∨ (fld m 1 ≠ 0 ∧ fld m 2 ≠ 0) by omega) with h | h | h | h | h | h | h | h
  · rcases hL with ⟨hx, _⟩ | ⟨hx, _⟩ | ⟨hx, _⟩
    · exact stray_f0tlow_111 m hl hm hk h hx w
    · exact stray_f0tlow_98 m hl hm hk h hx w
    · exact stray_f0tlow_101 m hl hm hk h hx w
  · rcases hL with ⟨hx, _⟩ | ⟨hx, _⟩ | ⟨hx, _⟩
    · exact stray_f0t0_111 m hl hm hk h hx w
    · exact stray_f0t0_98 m hl hm hk h hx w
    · exact stray_f0t0_101 m hl hm hk h hx w
  · have hd : downB m = true := by unfold downB; rw [Bool.and_eq_true, inS_iff]; simp; omega
    rcases hL with ⟨_, h2⟩ | ⟨hx, _⟩ | ⟨_, h2, _⟩
    · rw [hd] at h2; cases h2
    · exact stray_f0tin_98 m hl hm hk h hx w
    · rw [hd] at h2; cases h2
  · rcases hL with ⟨hx, _⟩ | ⟨hx, _⟩ | ⟨hx, _⟩
    · exact stray_f0thigh_111 m hl hm hk h hx w
    · exact stray_f0thigh_98 m hl hm hk h hx w
    · exact stray_f0thigh_101 m hl hm hk h hx w
  · rcases hL with ⟨hx, _⟩ | ⟨hx, _⟩ | ⟨hx, _⟩
    · exact stray_t0flow_111 m hl hm hk h hx w
    · exact stray_t0flow_98 m hl hm hk h hx w
    · exact stray_t0flow_101 m hl hm hk h hx w
  · have hu : upB m = true := by unfold upB; rw [Bool.and_eq_true, inS_iff]; simp; omega
    rcases hL with ⟨hx, _⟩ | ⟨_, h2⟩ | ⟨_, _, h2⟩
    · exact stray_t0fin_111 m hl hm hk h hx w
    · rw [hu] at h2; cases h2
    · rw [hu] at h2; cases h2
  · rcases hL with ⟨hx, _⟩ | ⟨hx, _⟩ | ⟨hx, _⟩
    · exact stray_t0fhigh_111 m hl hm hk h hx w
    · exact stray_t0fhigh_98 m hl hm hk h hx w
    · exact stray_t0fhigh_101 m hl hm hk h hx w
  · rcases hL with ⟨hx, _⟩ | ⟨hx, _⟩ | ⟨hx, _⟩
    · exact stray_both_111 m hl hm hk h hx w
    · exact stray_both_98 m hl hm hk h hx w
    · exact stray_both_101 m hl hm hk h hx w
end Go.Proofs.YthfhhapefjideaaGreat
