/- The walk of MsgNames. -/
import Derived.Test.YthdfgdehddmkpaaMsgN
namespace Go.Proofs.Ythdfgdehddmkpaa
open Go.RowKit
set_option linter.unusedVariables false
set_option linter.unusedSimpArgs false

theorem nm_in {k : Nat} (h : k < 11) : nmOf ((k : Int) + 1) = nmL.getD k ⟨#[]⟩ := by
  unfold nmOf; rw [if_pos (by omega), show ((k : Int) + 1).toNat - 1 = k by omega]
set_option maxRecDepth 100000 in
set_option maxHeartbeats 8000000 in
theorem msgNames_walk (a b : Int) (w : World) :
    Calls Try.prog 7 #[.int .i64 a, .int .i64 b] w fun e w' => e = .returned (.bool true) ∧ Below w.heap.size w w' := by
  rcases (show a < 1 ∨ 11 < a ∨ (1 ≤ a ∧ a ≤ 11) by omega) with h | h | h
  · have HN := Lib.hid (nm_out (.inl h))
    have HI := Lib.hid (inS_no.2 (show ¬ (1 ≤ a ∧ a ≤ 11) by omega))
    have d1 : decide (1 ≤ a) = false := by simpa using h
    clear h
    go_enter Try.func7, Try.ntmps7
    go_wp2_with fail
    refine (msgAlive _).mono ?_
    rintro e w1 ⟨rfl, hb1⟩
    have B1 := Lib.hid hb1
    clear hb1
    go_wp2_with fail
    refine (name_any a _).mono ?_
    rintro e w2 ⟨rfl, hb2⟩
    rw [HN.out, HI.out]
    have B2 := Lib.hid (stepB B1.out hb2)
    clear hb2
    go_wp2_with fail
    refine (name_any b _).mono ?_
    rintro e w3 ⟨rfl, hb3⟩
    have B3 := Lib.hid (stepB B2.out hb3)
    clear hb3
    generalize nmOf b = t
    generalize inS 1 11 b = q
    go_wp2_with fail
    go_ret
    refine ⟨rfl, ?_⟩
    first | exact B3.out | exact stepA B3.out _
  · have HN := Lib.hid (nm_out (.inr h))
    have HI := Lib.hid (inS_no.2 (show ¬ (1 ≤ a ∧ a ≤ 11) by omega))
    have d1 : decide (1 ≤ a) = true := by simp; omega
    have d2 : decide (a ≤ 11) = false := by simpa using h
    clear h
    go_enter Try.func7, Try.ntmps7
    go_wp2_with fail
    refine (msgAlive _).mono ?_
    rintro e w1 ⟨rfl, hb1⟩
    have B1 := Lib.hid hb1
    clear hb1
    go_wp2_with fail
    refine (name_any a _).mono ?_
    rintro e w2 ⟨rfl, hb2⟩
    rw [HN.out, HI.out]
    have B2 := Lib.hid (stepB B1.out hb2)
    clear hb2
    go_wp2_with fail
    refine (name_any b _).mono ?_
    rintro e w3 ⟨rfl, hb3⟩
    have B3 := Lib.hid (stepB B2.out hb3)
    clear hb3
    generalize nmOf b = t
    generalize inS 1 11 b = q
    go_wp2_with fail
    go_ret
    refine ⟨rfl, ?_⟩
    first | exact B3.out | exact stepA B3.out _
  · obtain ⟨k, rfl⟩ : ∃ k : Nat, a = ((k : Int) + 1) := ⟨a.toNat - 1, by omega⟩
    have hk : k < 11 := by omega
    have HN := Lib.hid (nm_in hk)
    have HI := Lib.hid (inS_iff.2 h)
    have hs0 := nm_full k hk
    have hcell := nm_cell k hk
    have d1 : decide (1 ≤ ((k : Int) + 1)) = true := by simpa using h.1
    have d2 : decide (((k : Int) + 1) ≤ 11) = true := by simpa using h.2
    have hb : (∃ s, nmOf b = s ∧ inS 1 11 b = true ∧ ((nmL.getD k ⟨#[]⟩).toList == s.toList) = (((k : Int) + 1) == b)) ∨ inS 1 11 b = false := by
      by_cases hb : 1 ≤ b ∧ b ≤ 11
      · obtain ⟨j, rfl⟩ : ∃ j : Nat, b = ((j : Int) + 1) := ⟨b.toNat - 1, by omega⟩
        refine .inl ⟨_, rfl, inS_iff.2 hb, ?_⟩
        rw [nm_in (by omega), nm_pair k hk j (by omega)]
        rw [Bool.eq_iff_iff]; simp only [beq_iff_eq]; omega
      · exact .inr (inS_no.2 hb)
    generalize nmL.getD k ⟨#[]⟩ = s at HN hs0 hcell hb
    obtain ⟨_, hc2⟩ := List.getElem?_eq_some_iff.1 hcell
    clear hcell
    have hs1 : (s.toList == []) = false := by cases hsl : s.toList <;> simp_all
    rcases hb with ⟨t, ht, hib, hst⟩ | hib
    · cases hab : (((k : Int) + 1) == b)
      all_goals
        rw [hab] at hst
        have HT := Lib.hid ht
        have HB := Lib.hid hib
        clear ht hib h
        go_enter Try.func7, Try.ntmps7
        go_wp2_with fail
        refine (msgAlive _).mono ?_
        rintro e w1 ⟨rfl, hb1⟩
        have B1 := Lib.hid hb1
        clear hb1
        go_wp2_with fail
        refine (name_any _ _).mono ?_
        rintro e w2 ⟨rfl, hb2⟩
        rw [HN.out, HI.out]
        have B2 := Lib.hid (stepB B1.out hb2)
        clear hb2
        go_wp2_with fail
        refine (name_any b _).mono ?_
        rintro e w3 ⟨rfl, hb3⟩
        rw [HT.out, HB.out]
        have B3 := Lib.hid (stepB B2.out hb3)
        clear hb3
        go_wp2_with fail
        go_ret
        exact ⟨rfl, stepA B3.out _⟩
    · have HB := Lib.hid hib
      clear hib h
      go_enter Try.func7, Try.ntmps7
      go_wp2_with fail
      refine (msgAlive _).mono ?_
      rintro e w1 ⟨rfl, hb1⟩
      have B1 := Lib.hid hb1
      clear hb1
      go_wp2_with fail
      refine (name_any _ _).mono ?_
      rintro e w2 ⟨rfl, hb2⟩
      rw [HN.out, HI.out]
      have B2 := Lib.hid (stepB B1.out hb2)
      clear hb2
      go_wp2_with fail
      refine (name_any b _).mono ?_
      rintro e w3 ⟨rfl, hb3⟩
      rw [HB.out]
      generalize nmOf b = t
      have B3 := Lib.hid (stepB B2.out hb3)
      clear hb3
      go_wp2_with fail
      go_ret
      exact ⟨rfl, stepA B3.out _⟩
end Go.Proofs.Ythdfgdehddmkpaa
