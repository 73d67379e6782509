/- Whether a text can go on to be a resource's: the document's search. -/
import Derived.Test.YtjfadhdnaloleaaDoorRefD
namespace Go.Proofs.YtjfadhdnaloleaaDoor
open Go.RowKit
set_option linter.unusedVariables false
set_option linter.unusedSimpArgs false

def hitR (k : List UInt8) (r : Nat) : Bool := decide (k.length ≤ (dig r).length) && decide ((dig r).take k.length = k)
def tabG (s : List UInt8) (t : Nat) : Bool :=
  if s.length ≤ (dig t).length then decide ((dig t).take s.length = s)
  else (decide (s.take (dig t).length = dig t) && decide (s[(dig t).length]? = some 46)) && (List.range 250).any fun i => hitR (s.drop ((dig t).length + 1)) (i + 1)
def goesB (s : List UInt8) : Bool := (List.range 250).any fun i => tabG s (i + 1)

theorem hitR_iff (k : List UInt8) (r : Nat) : hitR k r = true ↔ k <+: dig r := by
  unfold hitR
  rw [List.prefix_iff_eq_take]
  simp only [Bool.and_eq_true, decide_eq_true_eq]
  constructor
  · rintro ⟨_, h⟩; exact h.symm
  · intro h
    refine ⟨?_, h.symm⟩
    have := congrArg List.length h
    simp at this; omega
theorem tabG_iff (s : List UInt8) (t : Nat) : tabG s t = true ↔ s <+: dig t ∨ ∃ k, s = dig t ++ 46 :: k ∧ ∃ r, 1 ≤ r ∧ r ≤ 250 ∧ k <+: dig r := by
  unfold tabG
  split
  · rename_i h
    rw [decide_eq_true_eq, List.prefix_iff_eq_take]
    constructor
    · intro e; exact .inl e.symm
    · rintro (e | ⟨k, rfl, _⟩)
      · exact e.symm
      · simp at h; omega
  · rename_i h
    simp only [Bool.and_eq_true, decide_eq_true_eq, List.any_eq_true, List.mem_range]
    constructor
    · rintro ⟨⟨e1, e2⟩, i, hi, hk⟩
      refine .inr ⟨s.drop ((dig t).length + 1), ?_, i + 1, by omega, by omega, (hitR_iff _ _).1 hk⟩
      have h1 : (dig t).length < s.length := by omega
      have h2 : s[(dig t).length] = 46 := by rw [List.getElem?_eq_getElem h1] at e2; exact Option.some.inj e2
      conv => lhs; rw [← List.take_append_drop (dig t).length s, e1, List.drop_eq_getElem_cons h1, h2]
    · rintro (e | ⟨k, rfl, r, h1, h2, hk⟩)
      · have := e.length_le; omega
      · refine ⟨⟨by simp, by simp⟩, r - 1, by omega, ?_⟩
        rw [show r - 1 + 1 = r by omega, hitR_iff, List.drop_append]
        simpa [List.drop_of_length_le] using hk
theorem goesB_iff (s : List UInt8) : goesB s = true ↔ G s := by
  unfold goesB
  rw [List.any_eq_true]
  simp only [List.mem_range, tabG_iff]
  constructor
  · rintro ⟨i, hi, h | ⟨k, rfl, r, h1, h2, hk⟩⟩
    · exact (dig_G (by omega) (by omega)).pre h
    · exact (row_G (t := i + 1) (by omega) (by omega) h1 h2).pre (by rw [List.prefix_append_right_inj, List.cons_prefix_cons]; exact ⟨rfl, hk⟩)
  · rintro ⟨t, r, h1, h2, h3, h⟩
    refine ⟨t - 1, by omega, ?_⟩
    rw [show t - 1 + 1 = t by omega]
    unfold Tx at h; split at h
    · exact .inl h
    · rename_i hr
      by_cases hl : s.length ≤ (dig t).length
      · exact .inl (List.prefix_of_prefix_length_le h (List.prefix_append _ _) hl)
      · have hp := List.prefix_of_prefix_length_le (List.prefix_append (dig t) (46 :: dig r)) h (by omega)
        obtain ⟨k, rfl⟩ := hp
        rw [List.prefix_append_right_inj] at h
        cases k with
        | nil => simp at hl
        | cons c k =>
          rw [List.cons_prefix_cons] at h
          obtain ⟨rfl, h⟩ := h
          exact .inr ⟨k, rfl, r, by omega, h3, h⟩

/-- None below k. -/
def NoneB (f : Nat → Bool) (k : Nat) : Prop := ∀ j, 1 ≤ j → j < k → f j = false
theorem NoneB.zero (f : Nat → Bool) : NoneB f 1 := fun j h1 h2 => by omega
theorem NoneB.next {f : Nat → Bool} {k : Nat} (h : NoneB f k) (hk : f k = false) : NoneB f (k + 1) := fun j h1 h2 => by
  by_cases e : j = k
  · rw [e]; exact hk
  · exact h j h1 (by omega)
theorem NoneB.all {f : Nat → Bool} (h : NoneB f 251) : (List.range 250).any (fun i => f (i + 1)) = false := by
  rw [List.any_eq_false]; intro i hi; rw [h (i + 1) (by omega) (by have := List.mem_range.1 hi; omega)]; simp
theorem NoneB.hit {f : Nat → Bool} {k : Nat} (h1 : 1 ≤ k) (h2 : k < 251) (h : f k = true) : (List.range 250).any (fun i => f (i + 1)) = true := by
  rw [List.any_eq_true]; exact ⟨k - 1, List.mem_range.2 (by omega), by rw [show k - 1 + 1 = k by omega]; exact h⟩

theorem str_eq (a b : ByteArray) : (a.toList == b.toList) = decide (a.data.toList = b.data.toList) := by
  rw [Lib.toList_data, Lib.toList_data, Bool.eq_iff_iff]; simp
theorem tabG_short {s : ByteArray} {t : Nat} (h : s.size ≤ (dig t).length) : tabG s.data.toList t = (((ByteArray.mk (dig t).toArray).extract 0 s.size).toList == s.toList) := by
  rw [str_eq, Lib.extract_data]
  unfold tabG
  rw [if_pos (by simpa using h)]
  simp
def rowsB (s : ByteArray) (t : Nat) : Bool := (List.range 250).any fun i => hitR (s.data.toList.drop ((dig t).length + 1)) (i + 1)
theorem tabG_long {s : ByteArray} {t : Nat} (h : (dig t).length < s.size) :
    tabG s.data.toList t = (decide ((s.extract 0 (dig t).length).toList = dig t) && (((s[(dig t).length].toNat : Int) == 46) && rowsB s t)) := by
  rw [Lib.toList_data, Lib.extract_data]
  unfold tabG rowsB
  rw [if_neg (by simpa using h), Bool.and_assoc]
  have e1 : decide (List.take (dig t).length s.data.toList = dig t) = decide (List.take ((dig t).length - 0) (List.drop 0 s.data.toList) = dig t) := by simp
  rw [e1]
  congr 1
  · congr 1
    have : s.data.toList[(dig t).length]? = some s[(dig t).length] := List.getElem?_eq_getElem (by simpa using h)
    rw [this, Bool.eq_iff_iff]
    simp only [Option.some.injEq, decide_eq_true_eq, beq_iff_eq]
    constructor
    · intro e; rw [e]; rfl
    · intro e; apply UInt8.toNat_inj.1; show s[(dig t).length].toNat = 46; omega

theorem hit_at (s : ByteArray) (d r : Nat) (hd : d ≤ s.size) : hitR (s.data.toList.drop d) r = (decide (s.size ≤ (dig r).length + d) && (((ByteArray.mk (dig r).toArray).extract 0 (s.size - d)).toList == (s.extract d s.size).toList)) := by
  rw [str_eq, Lib.extract_data, Lib.extract_data]
  unfold hitR
  congr 1
  · rw [Bool.eq_iff_iff]; simp
  · have : List.take (s.size - d) (List.drop d s.data.toList) = List.drop d s.data.toList := List.take_of_length_le (by simp)
    rw [this]; simp

set_option maxRecDepth 100000 in
set_option maxHeartbeats 4000000 in
theorem goes_any (s : ByteArray) (hs : s.size ≤ maxLen) (w : World) :
    Calls Tryd.prog 29 #[.string s] w fun e w' => e = .returned (.bool (goesB s.data.toList)) ∧ Below w.heap.size w w' := by
  unfold maxLen at hs
  go_enter Tryd.func29, Tryd.ntmps29
  go_wp2_with fail
  go_loopw [3] (fun i wr => ∃ t : Nat, 1 ≤ t ∧ t ≤ 251 ∧ NoneB (tabG s.data.toList) t ∧ i = .int .i64 t ∧ Below w.heap.size w wr) (fun i _ => 251 - (intOf i).toNat)
  case atStart => exact ⟨1, by omega, by omega, NoneB.zero _, rfl, Below.refl _ _⟩
  case round =>
    obtain ⟨t, ht1, ht2, hn, rfl, hb⟩ := hrel
    rename_i wr _
    have HN := Lib.hid hn
    have HB := Lib.hid hb
    have hz := hb.size
    clear hn hb
    by_cases hlt : t < 251
    · have hl3 := dig_len3 (n := t) (by omega)
      by_cases hl : s.size ≤ (dig t).length
      · have HT := Lib.hid (tabG_short hl)
        cases hc : (((ByteArray.mk (dig t).toArray).extract 0 s.size).toList == s.toList)
        · go_wp2_with (go_at_call 25; refine (digR t (by omega) _).mono ?_; rintro e w5 ⟨rfl, hb5⟩)
          go_roundw
          case rel => exact ⟨t + 1, by omega, by omega, HN.out.next (HT.out.trans hc), by go_num, HB.out.trans (hb5.mono hz)⟩
          case measure => simp [intOf]; omega
        · go_wp2_with (go_at_call 25; refine (digR t (by omega) _).mono ?_; rintro e w5 ⟨rfl, hb5⟩)
          go_ret
          exact ⟨ret_bool (NoneB.hit ht1 hlt (HT.out.trans hc)).symm, HB.out.trans (hb5.mono hz)⟩
      · have hl' : (dig t).length < s.size := by omega
        have HT := Lib.hid (tabG_long hl')
        by_cases hc : (s.extract 0 (dig t).length).toList = dig t
        · cases hd : ((s[(dig t).length].toNat : Int) == 46)
          · have hd' : ((s[(dig t).length].toNat : Int) != 46) = true := by simp [bne, hd]
            have HC := Lib.hid hc
            go_wp2_with (go_at_call 25; refine (digR t (by omega) _).mono ?_; rintro e w5 ⟨rfl, hb5⟩)
            go_roundw
            case rel => exact ⟨t + 1, by omega, by omega, HN.out.next (by rw [HT.out, hd]; simp), by go_num, HB.out.trans (hb5.mono hz)⟩
            case measure => simp [intOf]; omega
          · have hd' : ((s[(dig t).length].toNat : Int) != 46) = false := by simp [bne, hd]
            have HC := Lib.hid hc
            go_wp2_with (go_at_call 25; refine (digR t (by omega) _).mono ?_; rintro e w5 ⟨rfl, hb5⟩)
            have hw5 : Below w.heap.size w w5 := HB.out.trans (hb5.mono hz)
            have HW5 := Lib.hid hw5
            have hz5 := hw5.size
            have HR := Lib.hid (show tabG s.data.toList t = rowsB s t by rw [HT.out, hd, decide_eq_true HC.out]; rfl)
            have hw1 : IntKind.i64.wrap ((dig t).length + 1) = (dig t).length + 1 := IntWalk.i64_in _ (by omega)
            clear hw5 hb5 hc hd hd' HT HC
            go_loopw [5, 6, 7] (fun i _ _ wr => ∃ r : Nat, 1 ≤ r ∧ r ≤ 251 ∧ NoneB (hitR (s.data.toList.drop ((dig t).length + 1))) r ∧ i = .int .i64 r ∧ Below w.heap.size w wr) (fun i _ _ _ => 251 - (intOf i).toNat)
            case atStart => exact ⟨1, by omega, by omega, NoneB.zero _, rfl, HW5.out⟩
            case round =>
              obtain ⟨r, hr1, hr2, hm, rfl, hb6⟩ := hrel
              rename_i wr6 _
              have HM := Lib.hid hm
              have HB6 := Lib.hid hb6
              have hz6 := hb6.size
              clear hm hb6
              by_cases hlr : r < 251
              · have hl4 := dig_len3 (n := r) (by omega)
                have HH := Lib.hid (hit_at s ((dig t).length + 1) r (by omega))
                by_cases hq : s.size ≤ (dig r).length + ((dig t).length + 1)
                · cases hc : (((ByteArray.mk (dig r).toArray).extract 0 (s.size - ((dig t).length + 1))).toList == (s.extract ((dig t).length + 1) s.size).toList)
                  · go_wp2_with (go_at_call 25; refine (digR r (by omega) _).mono ?_; rintro e w7 ⟨rfl, hb7⟩)
                    go_roundw
                    case rel => exact ⟨r + 1, by omega, by omega, HM.out.next (by rw [HH.out, hc]; simp), by go_num, HB6.out.trans (hb7.mono hz6)⟩
                    case measure => simp [intOf]; omega
                  · go_wp2_with (go_at_call 25; refine (digR r (by omega) _).mono ?_; rintro e w7 ⟨rfl, hb7⟩)
                    go_ret
                    exact ⟨ret_bool (NoneB.hit ht1 hlt (by rw [HR.out]; exact NoneB.hit hr1 hlr (by rw [HH.out, hc, decide_eq_true hq]; rfl))).symm, HB6.out.trans (hb7.mono hz6)⟩
                · go_wp2_with (go_at_call 25; refine (digR r (by omega) _).mono ?_; rintro e w7 ⟨rfl, hb7⟩)
                  go_roundw
                  case rel => exact ⟨r + 1, by omega, by omega, HM.out.next (by rw [HH.out, decide_eq_false hq]; rfl), by go_num, HB6.out.trans (hb7.mono hz6)⟩
                  case measure => simp [intOf]; omega
              · obtain rfl : r = 251 := by omega
                go_wp2_with fail
                go_roundw
                case rel => exact ⟨t + 1, by omega, by omega, HN.out.next (by rw [HR.out]; exact HM.out.all), by go_num, HB6.out⟩
                case measure => simp [intOf]; omega
        · have HC := Lib.hid hc
          go_wp2_with (go_at_call 25; refine (digR t (by omega) _).mono ?_; rintro e w5 ⟨rfl, hb5⟩)
          go_roundw
          case rel => exact ⟨t + 1, by omega, by omega, HN.out.next (by rw [HT.out, decide_eq_false HC.out]; rfl), by go_num, HB.out.trans (hb5.mono hz)⟩
          case measure => simp [intOf]; omega
    · obtain rfl : t = 251 := by omega
      go_wp2_with fail
      go_ret
      exact ⟨ret_bool HN.out.all.symm, HB.out⟩
end Go.Proofs.YtjfadhdnaloleaaDoor
