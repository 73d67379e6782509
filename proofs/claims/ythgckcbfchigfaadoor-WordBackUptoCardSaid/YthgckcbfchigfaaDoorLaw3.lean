/- The walks of WordNone and WordPuts. -/
import Derived.Test.YthgckcbfchigfaaDoorWordL
namespace Go.Proofs.YthgckcbfchigfaaDoor
open Go.RowKit
set_option linter.unusedVariables false
set_option linter.unusedSimpArgs false

set_option maxRecDepth 100000 in
set_option maxHeartbeats 4000000 in
theorem wordNone_walk (x : Int) (l : Value) (w : World) (hg : EType w) :
    Calls Tryd.prog 6 #[.int .i64 x, l] w fun e w' => e = .returned (.bool true) ∧ Below w.heap.size w w' := by
  have HG := Lib.hid hg
  clear hg
  go_enter Tryd.func6, Tryd.ntmps6
  go_wp2_with fail
  refine (wordAlive _ HG.out).mono ?_
  rintro e w1 ⟨rfl, hb1⟩
  have B1 := Lib.hid hb1
  clear hb1
  go_wp2_with fail
  refine (take_nil _ _).mono ?_
  rintro e w2 ⟨rfl, rfl⟩
  go_wp2_with fail
  refine (all_nil _ _).mono ?_
  rintro e w2 ⟨rfl, hb2⟩
  have B2 := Lib.hid (stepB B1.out hb2)
  clear hb2
  go_wp2_with fail
  refine (code_errno 1 (by decide) _).mono ?_
  rintro e w3 ⟨rfl, rfl⟩
  go_wp2_with fail
  refine (code_errno 1 (by decide) _).mono ?_
  rintro e w3 ⟨rfl, rfl⟩
  go_wp2_with fail
  refine (at0_nil _).mono ?_
  rintro e w3 ⟨rfl, rfl⟩
  go_wp2_with fail
  refine (left_nil _).mono ?_
  rintro e w3 ⟨rfl, rfl⟩
  go_wp2_with fail
  go_ret
  exact ⟨rfl, B2.out⟩

set_option maxRecDepth 100000 in
set_option maxHeartbeats 4000000 in
theorem wordPuts_walk (A A' : Option Addr) (n cap m cap' : Nat) (x : Int) (bs : List UInt8) (is : List Int) (hn : n ≤ 140737488351232) (hm : m * 8 ≤ 140737488351232) (w : World) (hg : EType w)
    (hb : Reads w w.heap.size 1 A n (u8s bs)) (hl : Reads w w.heap.size 1 A' m (i64s is)) :
    Calls Tryd.prog 3 #[.slice A n cap, .int .i64 x, .slice A' m cap'] w fun e w' => e = .returned (.bool true) ∧ Below w.heap.size w w' := by
  have HG := Lib.hid hg
  have HB := Lib.hid hb
  have HL := Lib.hid hl
  obtain ⟨i0, hi0, hz0, hz1, hz2⟩ := info_parts info_u8
  clear hg hb hl
  go_enter Tryd.func3, Tryd.ntmps3
  go_wp2_with fail
  refine (wordAlive _ HG.out).mono ?_
  rintro e w1 ⟨rfl, hb1⟩
  have B1 := Lib.hid hb1
  clear hb1
  go_wp2_with (at_builtin
               refine wpList_append_wide _ rfl (.tmp 15) (.tmp 16) _ rfl w1.heap.size 5 i0 _ 1 1 Tryd.underlying22 hi0 hz0 hz1 hz2 rfl (by omega) (.slice (some ⟨w1.heap.size, 0, none⟩) 0 0) 0 [] rfl
                 (World.ownsRow_made w1 #[] 0 (Nat.le_refl _) (Nat.zero_le _) (by simp)) _ A n cap (u8s bs) rfl ((HB.out.step B1.out).stepA _) (u8s_one bs) (by simp only [maxLen]; omega) (by omega) (by simp) ?_
               intro v2 w2 hown2 hg2
               rw [Nat.zero_add, List.nil_append] at hown2
               obtain ⟨A2, cap2, rfl, hR2, hA2⟩ := own_slice hown2
               have B2 := Lib.hid (((stepA B1.out (.cells #[] 5)).grown hg2 (by have := B1.out.size; simp; omega) (by intro k hk; simp [Value.ownBlock] at hk; have := B1.out.size; omega)))
               have R2 := Lib.hid hR2
               clear hown2 hg2 hR2 hA2)
  have E2 := Lib.hid (HG.out.below B2.out)
  have HB2 := Lib.hid (HB.out.step B2.out)
  have HL2 := Lib.hid (HL.out.step B2.out)
  cases hx : mayW x with
  | false =>
    have HX := Lib.hid hx
    clear hx
    refine (put_arg _ _ x HX.out _).mono ?_
    rintro e w3 ⟨rfl, rfl⟩
    go_wp2_with fail
    refine (putR_arg _ _ x HX.out _).mono ?_
    rintro e w3 ⟨rfl, rfl⟩
    go_wp2_with fail
    refine (same_yes none none 0 0 0 _ _ [] _ rfl (by omega) (Reads.none_ (B := 0)) (Reads.none_ (B := 0))).mono ?_
    rintro e w3 ⟨rfl, q, rfl⟩
    go_wp2_with fail
    refine (code_errno 1 (by decide) _).mono ?_
    rintro e w3 ⟨rfl, rfl⟩
    go_wp2_with fail
    refine (at_errno 1 _ ?_).mono ?_
    · exact E2.out
    rintro e w3 ⟨rfl, hb3⟩
    have B3 := Lib.hid (stepB (below_drewN B2.out q) hb3)
    clear hb3
    go_wp2_with fail
    go_ret
    exact ⟨rfl, B3.out⟩
  | true =>
    obtain ⟨hx1, hx4⟩ := mayW_iff.1 hx
    obtain ⟨wd, rfl⟩ : ∃ wd : Nat, x = wd := ⟨x.toNat, by omega⟩
    clear hx
    have h1 : 1 ≤ wd := by omega
    have h4 : wd ≤ 4 := by omega
    have hN : n + wd * m ≤ 211106232532992 := by
      have : wd * m ≤ 4 * m := Nat.mul_le_mul_right m h4
      omega
    clear hx1 hx4
    rcases fit_or wd is with hf | ⟨k, hf⟩
    · have HF := Lib.hid hf
      clear hf
      refine (put_ok HF.out A2 A' n cap2 m cap' bs h1 h4 hN _ R2.out HL2.out).mono ?_
      rintro e w3 ⟨v3, rfl, hown3, hb3⟩
      obtain ⟨A3, c3, rfl, hR3, hA3⟩ := own_slice hown3
      have B3 := Lib.hid (stepB B2.out hb3)
      have R3 := Lib.hid hR3
      have HB3 := Lib.hid (HB2.out.step hb3)
      have HL3 := Lib.hid (HL2.out.step hb3)
      clear hown3 hb3 hR3 hA3
      go_wp2_with fail
      refine (putR_ok HF.out A A' n cap m cap' bs h1 h4 hN _ HB3.out HL3.out).mono ?_
      rintro e w4 ⟨v4, rfl, hown4, hb4⟩
      obtain ⟨A4, c4, rfl, hR4, hA4⟩ := own_slice hown4
      have B4 := Lib.hid (stepB B3.out hb4)
      have R4 := Lib.hid hR4
      have R34 := Lib.hid (R3.out.step hb4)
      clear hown4 hb4 hR4 hA4
      go_wp2_with fail
      refine (same_yes A3 A4 (n + wd * m) c3 c4 _ _ _ _ R4.out.u8_len (by omega) R34.out R4.out).mono ?_
      rintro e w5 ⟨rfl, q, rfl⟩
      go_wp2_with fail
      refine (code_nil _).mono ?_
      rintro e w5 ⟨rfl, rfl⟩
      go_wp2_with fail
      refine (at_nil _).mono ?_
      rintro e w5 ⟨rfl, hb5⟩
      have B5 := Lib.hid (stepB (below_drewN B4.out q) hb5)
      clear hb5
      go_wp2_with fail
      go_ret
      exact ⟨rfl, B5.out⟩
    · have HF := Lib.hid hf
      clear hf
      refine (put_bad HF.out A2 A' n cap2 m cap' bs h1 h4 hN _ R2.out HL2.out).mono ?_
      rintro e w3 ⟨b3, rfl, hF3, hb3⟩
      have B3 := Lib.hid (stepB B2.out hb3)
      have F3 := Lib.hid hF3
      have HB3 := Lib.hid (HB2.out.step hb3)
      have HL3 := Lib.hid (HL2.out.step hb3)
      clear hb3 hF3
      go_wp2_with fail
      refine (putR_bad HF.out A A' n cap m cap' bs h1 h4 hN _ HB3.out HL3.out).mono ?_
      rintro e w4 ⟨rfl, hb4⟩
      have B4 := Lib.hid (stepB B3.out hb4)
      have F4 := Lib.hid (F3.out.here hb4)
      have E4 := Lib.hid (HG.out.below B4.out)
      clear hb4
      go_wp2_with fail
      refine (same_yes none none 0 0 0 _ _ [] _ rfl (by omega) (Reads.none_ (B := 0)) (Reads.none_ (B := 0))).mono ?_
      rintro e w5 ⟨rfl, q, rfl⟩
      go_wp2_with fail
      refine (code_fault b3 k 2 (by decide) _ ?_).mono ?_
      · exact F4.out.drewN q
      rintro e w5 ⟨rfl, rfl⟩
      go_wp2_with fail
      refine (at_fault b3 k 2 _ ?_ ?_).mono ?_
      · exact E4.out
      · exact F4.out.drewN q
      rintro e w5 ⟨rfl, hb5⟩
      have B5 := Lib.hid (stepB (below_drewN B4.out q) hb5)
      clear hb5
      go_wp2_with fail
      go_ret
      exact ⟨rfl, B5.out⟩
end Go.Proofs.YthgckcbfchigfaaDoor
