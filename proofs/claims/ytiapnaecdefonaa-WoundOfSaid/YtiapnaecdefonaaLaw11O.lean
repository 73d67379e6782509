/- WoundOf. -/
import Derived.Test.YtiapnaecdefonaaWndL
import Derived.Test.YtiapnaecdefonaaWndH
import Derived.Test.YtiapnaecdefonaaWndF
import Derived.Test.YtiapnaecdefonaaEdgB
namespace Go.Proofs.Ytiapnaecdefonaa
open Go.RowKit
set_option linter.unusedVariables false
set_option linter.unusedSimpArgs false

set_option maxRecDepth 100000 in
set_option maxHeartbeats 8000000 in
theorem woundOf_walk (a0 : Option Addr) (len0 cap0 : Nat) (l0 : List (List Int)) (W : World) (h : EdgM W W.heap.size a0 len0 l0) :
    Calls Try.prog 4 #[.slice a0 len0 cap0] W fun e w' => e = .returned (.bool true) ∧ Below W.heap.size W w' := by
  have HH := Lib.hid h
  clear h
  by_cases h60 : 60 < len0
  · have d1 : decide ((60 : Int) < (len0 : Int)) = true := by simp; omega
    go_enter Try.func4, Try.ntmps4
    go_wp2_with (go_at_call 12; refine (alive11_any _).mono ?_; rintro e w1 ⟨rfl, hb1⟩; have B1 := Lib.hid hb1; clear hb1)
    go_ret
    exact ⟨rfl, B1.out⟩
  · have d1 : decide ((60 : Int) < (len0 : Int)) = false := by simp; omega
    have HL := Lib.hid (show (hurtL (eds l0)).length ≤ 400 from by have := hurt_len (eds l0); rw [HH.out.elen] at this; omega)
    go_enter Try.func4, Try.ntmps4
    go_wp2_with (go_at_call 12; refine (alive11_any _).mono ?_; rintro e w1 ⟨rfl, hb1⟩; have B1 := Lib.hid hb1; have E1 := Lib.hid (HH.out.next hb1); clear hb1)
    refine (ofG_any (c := cap0) w1 E1.out (by omega)).mono ?_
    rintro e w2 ⟨v2, rfl, hrow2, hb2⟩
    obtain ⟨A2, c2, rfl, hr2, _⟩ := own_slice hrow2
    have R2 := Lib.hid hr2
    have E2 := Lib.hid (E1.out.next hb2)
    have B2 := Lib.hid (B1.out.trans (hb2.mono B1.out.size))
    clear hrow2 hb2 hr2
    go_wp2_with fail
    refine (ofR_any (c := cap0) w2 E2.out (by omega)).mono ?_
    rintro e w3 ⟨v3, rfl, hrow3, hb3⟩
    obtain ⟨A3, c3, rfl, hr3, _⟩ := own_slice hrow3
    have R3 := Lib.hid hr3
    have R2' := Lib.hid (R2.out.below hb3)
    have E3 := Lib.hid (E2.out.next hb3)
    have B3 := Lib.hid (B2.out.trans (hb3.mono B2.out.size))
    have h4 := HL.out
    clear hrow3 hb3 hr3 R2
    go_wp2_with fail
    go_loopw [5] (fun s5 wr => ∃ k q : Nat, s5 = .int .i64 k ∧ k ≤ (hurtL (eds l0)).length ∧ wr = w3.drewN q) (fun s5 _ => 1000 - (RowKit.intOf s5).toNat)
    case atStart => exact ⟨0, 0, rfl, Nat.zero_le _, rfl⟩
    case round =>
      obtain ⟨k, q, rfl, hk, rfl⟩ := hrel
      by_cases hlt : k < (hurtL (eds l0)).length
      · obtain ⟨b, off, rfl, _, k0, k1⟩ := wnd_at R2'.out rfl hlt
        obtain ⟨b', off', rfl, _, k2, k3⟩ := wnd_at R3.out rfl hlt
        generalize (byL (eds l0) (gd (hurtL (eds l0)) k)).getD 0 = y at k1 k3
        generalize gd (hurtL (eds l0)) k = x at k0 k2
        have g0 : (x != x) = false := by simp
        have g1 : (y != y) = false := by simp
        go_wp2_with fail
        go_quiet (fail)
        go_wp2_with fail
        go_roundw
        case rel => exact ⟨k + 1, _, by go_num, by omega, rfl⟩
        case measure => simp [RowKit.intOf]; omega
      · obtain rfl : k = (hurtL (eds l0)).length := by omega
        have E4 := Lib.hid (E3.out.drewN q)
        have B4 := Lib.hid (below_drewN B3.out q)
        generalize w3.drewN q = w4 at E4 B4 ⊢
        clear R2' R3 E3 B3
        go_wp2_with fail
        refine (restG_any (c := cap0) w4 E4.out (by omega)).mono ?_
        rintro e w5 ⟨A5, c5, rfl, hr5, hb5⟩
        have R5 := Lib.hid hr5
        have E5 := Lib.hid (E4.out.next hb5)
        have B5 := Lib.hid (B4.out.trans (hb5.mono B4.out.size))
        have hlen : (restL (eds l0) l0).length ≤ len0 := by unfold restL; have := List.length_filter_le (leftE (eds l0)) l0; have := HH.out.count; omega
        clear hr5 hb5
        go_wp2_with fail
        refine (restR_any (c := cap0) w5 E5.out (by omega)).mono ?_
        rintro e w6 ⟨A6, c6, rfl, hr6, hb6⟩
        have R6 := Lib.hid hr6
        have R5' := Lib.hid (R5.out.next hb6)
        have B6 := Lib.hid (B5.out.trans (hb6.mono B5.out.size))
        clear hr6 hb6
        go_wp2_with fail
        refine (edges_same A5 A6 _ c5 c6 _ _ _ w6 (by omega) R5'.out R6.out).mono ?_
        rintro e w7 ⟨rfl, q', rfl⟩
        go_wp2_with fail
        go_ret
        exact ⟨rfl, below_drewN B6.out q'⟩
end Go.Proofs.Ytiapnaecdefonaa
