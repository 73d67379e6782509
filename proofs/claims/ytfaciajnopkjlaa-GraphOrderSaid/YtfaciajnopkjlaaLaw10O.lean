/- GraphOrder. -/
import Derived.Test.YtfaciajnopkjlaaLaw10R
import Derived.Test.YtfaciajnopkjlaaGraP
namespace Go.Proofs.Ytfaciajnopkjlaa
open Go.RowKit
set_option linter.unusedVariables false
set_option linter.unusedSimpArgs false

theorem ordF_len (E : Egs) : (ordF E (nds E)).length ≤ (nds E).length := ordN_len (nds_ris E) _
set_option maxRecDepth 100000 in
set_option maxHeartbeats 8000000 in
theorem graphOrder_walk (a0 : Option Addr) (len0 cap0 : Nat) (l0 : List (List Int)) (W : World) (h : EdgM W W.heap.size a0 len0 l0) :
    Calls Try.prog 5 #[.slice a0 len0 cap0] W fun e w' => e = .returned (.bool true) ∧ Below W.heap.size W w' := by
  have HH := Lib.hid h
  clear h
  by_cases h60 : 60 < len0
  · have d1 : decide ((60 : Int) < (len0 : Int)) = true := by simp; omega
    go_enter Try.func5, Try.ntmps5
    go_wp2_with (go_at_call 8; refine (alive10_any _).mono ?_; rintro e w1 ⟨rfl, hb1⟩; have B1 := Lib.hid hb1; clear hb1)
    go_ret
    exact ⟨rfl, B1.out⟩
  · have d1 : decide ((60 : Int) < (len0 : Int)) = false := by simp; omega
    have hN : (nds (eds l0)).length ≤ 400 := by have := nds_len (eds l0); rw [HH.out.elen] at this; omega
    have hn0 := fun W => run_eql_nil_nil (P := Try.prog) W 32 Try.underlying32
    go_enter Try.func5, Try.ntmps5
    go_wp2_with (go_at_call 8; refine (alive10_any _).mono ?_; rintro e w1 ⟨rfl, hb1⟩; have B1 := Lib.hid hb1; have E1 := Lib.hid (HH.out.next hb1); clear hb1)
    refine (orderG_any (c := cap0) w1 E1.out (by omega)).mono ?_
    rintro e w2 ⟨v2, rfl, hrow2, hb2⟩
    obtain ⟨A2, c2, rfl, hr2, _⟩ := own_slice hrow2
    have R2 := Lib.hid hr2
    have E2 := Lib.hid (E1.out.next hb2)
    have B2 := Lib.hid (B1.out.trans (hb2.mono B1.out.size))
    clear hrow2 hb2 hr2
    go_wp2_with fail
    refine (orderR_any (c := cap0) w2 E2.out (by omega)).mono ?_
    rintro e w3 ⟨v3, rfl, hrow3, hb3⟩
    obtain ⟨A3, c3, rfl, hr3, _⟩ := own_slice hrow3
    have R3 := Lib.hid hr3
    have R2' := Lib.hid (R2.out.below hb3)
    have B3 := Lib.hid (B2.out.trans (hb3.mono B2.out.size))
    clear hrow3 hb3 hr3 R2 E2
    by_cases hfull : (ordF (eds l0) (nds (eds l0))).length = (nds (eds l0)).length
    · have hE : ordE (eds l0) = .nilIface := by unfold ordE; rw [if_pos hfull]
      have hR : ordR (eds l0) = ordF (eds l0) (nds (eds l0)) := by unfold ordR; rw [if_pos hfull]
      have hD : decide ((ordF (eds l0) (nds (eds l0))).length = (nds (eds l0)).length) = true := by simpa using hfull
      rw [hE, hD]
      have hl9 : (ordR (eds l0)).length ≤ 9223372036854775807 := by rw [hR, hfull]; omega
      clear hE hR hD hfull
      generalize ordR (eds l0) = o at R2' R3 hl9 ⊢
      go_wp2_with (go_at_call 9
                   refine (ints_same A2 A3 _ c2 c3 _ _ o w3 hl9 R2'.out R3.out).mono ?_
                   rintro e w4 ⟨rfl, q, rfl⟩)
      go_ret
      exact ⟨rfl, below_drewN B3.out q⟩
    · have hE : ordE (eds l0) = errno 11 := by unfold ordE; rw [if_neg hfull]
      have hR : ordR (eds l0) = [] := by unfold ordR; rw [if_neg hfull]
      have hD : decide ((ordF (eds l0) (nds (eds l0))).length = (nds (eds l0)).length) = false := by simpa using hfull
      rw [hE, hD, hR]
      clear hE hR hD hfull
      go_wp2_with (go_at_call 18; refine (code_errno 11 (by decide) _).mono ?_; rintro e w' ⟨rfl, hww⟩; subst hww)
      go_ret
      exact ⟨rfl, B3.out⟩
end Go.Proofs.Ytfaciajnopkjlaa
