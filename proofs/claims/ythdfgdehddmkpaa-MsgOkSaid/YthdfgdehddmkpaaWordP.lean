/- The contract of package word's Put. -/
import Derived.Test.YthdfgdehddmkpaaWordN
namespace Go.Proofs.Ythdfgdehddmkpaa
open Go.RowKit
set_option linter.unusedVariables false
set_option linter.unusedSimpArgs false

set_option maxRecDepth 100000 in
set_option maxHeartbeats 1000000 in
theorem put_arg (b l : Value) (x : Int) (h : mayW x = false) (w : World) : Calls Try.prog 29 #[b, .int .i64 x, l] w fun e w' => e = .returned (.tuple #[.slice none 0 0, errno 1]) ∧ w = w' := by
  have H := Lib.hid h
  clear h
  go_enter Try.func29, Try.ntmps29
  go_wp2_with fail
  refine (mayBe_no H.out _).mono ?_
  rintro e w' ⟨rfl, rfl⟩
  go_wp2_with fail
  go_ret2
  exact ⟨rfl, rfl⟩

/-- What Put answers: all bytes, or a fault at the first number that doesn't fit. -/
def PutPost (wd n m : Nat) (bs : List UInt8) (is : List Int) (w : World) (e : Ending) (w' : World) : Prop :=
  (AllFit wd is ∧ ∃ v, e = .returned (.tuple #[v, .nilIface]) ∧ w'.ownsRow w.heap.size 5 1 v (n + wd * m) (u8s (bs ++ encL wd is)) ∧ Below w.heap.size w w') ∨
  (∃ k b, FirstBad wd is k ∧ e = .returned (.tuple #[.slice none 0 0, faultV b]) ∧ FaultAt w' b k 2 ∧ Below w.heap.size w w')
/-- What holds at the head of Put's loop. -/
structure PutRel (wd n : Nat) (bs : List UInt8) (is : List Int) (w : World) (j : Nat) (v : Value) (W : World) : Prop where
  fit : FitTill wd is j
  own : W.ownsRow w.heap.size 5 1 v (n + wd * j) (u8s (bs ++ encL wd (is.take j)))
  bel : Below w.heap.size w W
structure PutRel2 (wd n : Nat) (bs : List UInt8) (is : List Int) (w : World) (j k : Nat) (x : Int) (v : Value) (W : World) : Prop where
  own : W.ownsRow w.heap.size 5 1 v (n + wd * j + k) (u8s (bs ++ encL wd (is.take j) ++ (encN wd x.toNat).take k))
  bel : Below w.heap.size w W

set_option maxRecDepth 100000 in
set_option maxHeartbeats 4000000 in
theorem put_any (A A' : Option Addr) (n cap m cap' wd : Nat) (bs : List UInt8) (is : List Int) (h1 : 1 ≤ wd) (h4 : wd ≤ 4) (hN : n + wd * m ≤ 211106232532992) (w : World) (hb : Reads w w.heap.size 1 A n (u8s bs)) (hl : Reads w w.heap.size 1 A' m (i64s is)) :
    Calls Try.prog 29 #[.slice A n cap, .int .i64 wd, .slice A' m cap'] w (PutPost wd n m bs is w) := by
  have HW := Lib.hid (mayW_iff.2 (show 1 ≤ (wd : Int) ∧ (wd : Int) ≤ 4 by omega))
  have HB := Lib.hid hb
  have HL := Lib.hid hl
  have HLN := Lib.hid hl.int_len
  have HBN := Lib.hid hb.u8_len
  obtain ⟨i0, hi0, hz0, hz1, hz2⟩ := info_parts info_u8
  have hm : m ≤ wd * m := Nat.le_mul_of_pos_left m (by omega)
  have hw1 : IntKind.i64.wrap ((wd : Int) * (m : Int)) = ((wd * m : Nat) : Int) := by rw [← Int.natCast_mul]; exact IntWalk.i64_in _ (by omega)
  have hw2 : IntKind.i64.wrap ((n : Int) + ((wd * m : Nat) : Int)) = ((n + wd * m : Nat) : Int) := IntWalk.i64_in _ (by omega)
  clear hb hl
  go_enter Try.func29, Try.ntmps29
  go_wp2_with fail
  refine (mayBe_yes HW.out _).mono ?_
  rintro e w' ⟨rfl, rfl⟩
  clear hw1 hw2
  go_wp2_with (first
    | (refine wpList_make_own _ rfl (.const (.int .i64 0)) (.tmp 22) 31 rfl w.heap.size 5 i0 _ 1 Try.underlying31 hi0 hz0 hz1 .i64 .i64 _ (n + wd * m) rfl rfl (by push_cast; rfl) (by rw [hz2]; omega) (by simp only [maxLen]; omega) (Nat.le_refl _) ?_
       intro w1 hown1 hg1
       have B1 := Lib.hid (Below.grown (Below.refl w.heap.size w) hg1 (Nat.le_refl _) (fun k hk => by cases hk))
       have O1 := Lib.hid hown1
       clear hown1 hg1)
    | (at_builtin
       refine wpList_append_wide _ rfl (.tmp 23) (.tmp 24) _ rfl w.heap.size 5 i0 _ 1 1 Try.underlying31 hi0 hz0 hz1 hz2 rfl (by omega) (.slice (some ⟨w.heap.size, 0, none⟩) 0 (n + wd * m)) 0 [] rfl
         O1.out w.heap.size A n cap (u8s bs) rfl (HB.out.below B1.out) (u8s_one bs) (by simp only [maxLen]; omega) (by omega) B1.out.size ?_
       intro v2 w2 hown2 hg2
       rw [Nat.zero_add, List.nil_append] at hown2
       have B2 := Lib.hid (below_own B1.out hg2 O1.out (Nat.le_refl _) B1.out.size)
       have O2 := Lib.hid hown2
       clear hown2 hg2))
  go_loopw [8, 28] (fun v i W => ∃ j : Nat, j ≤ m ∧ i = .int .i64 j ∧ PutRel wd n bs is w j v W) (fun _ i _ => m - (intOf i).toNat)
  case atStart => exact ⟨0, Nat.zero_le _, rfl, FitTill.zero _ _, by simpa [encL] using O2.out, B2.out⟩
  case round =>
    obtain ⟨j, hj, rfl, hfit, hown, hbel⟩ := hrel
    rename World => W
    have F := Lib.hid hfit
    have O := Lib.hid hown
    have B := Lib.hid hbel
    clear hfit hown hbel
    by_cases hlt : j < m
    · have hjm : n + wd * j + wd ≤ n + wd * m := by have := Nat.mul_le_mul_left wd (show j + 1 ≤ m by omega); rw [Nat.mul_succ] at this; omega
      have hjl : j < is.length := by rw [HLN.out]; exact hlt
      obtain ⟨ad, rfl, hbA, hcA⟩ := (HL.out.below B.out).int_at hjl
      have E := Lib.hid (encL_take_succ wd is hjl)
      have FS := Lib.hid (fun hx => F.out.succ hjl hx)
      have FB := Lib.hid (fun hx => F.out.bad hjl hx)
      generalize is[j] = x at hcA E FS FB
      cases hf : fitsB wd x with
      | false =>
        have HF := Lib.hid hf
        clear hf
        go_wp2_with fail
        refine (fits_any x wd h1 h4 _).mono ?_
        rintro e w' ⟨rfl, rfl⟩
        rw [HF.out]
        go_wp2_with fail
        go_ret2
        exact .inr ⟨j, _, FB.out HF.out, rfl, Blk.new _ _ _, B.out.alloc B.out.size _⟩
      | true =>
        have HF := Lib.hid hf
        clear hf
        go_wp2_with fail
        refine (fits_any x wd h1 h4 _).mono ?_
        rintro e w' ⟨rfl, rfl⟩
        rw [HF.out]
        go_wp2_with fail
        go_loopw [8, 43] (fun v i W => ∃ k : Nat, k ≤ wd ∧ i = .int .i64 k ∧ PutRel2 wd n bs is w j k x v W) (fun _ i _ => wd - (intOf i).toNat)
        case atStart => exact ⟨0, Nat.zero_le _, rfl, by simpa using O.out, B.out⟩
        case round =>
          obtain ⟨k, hk, rfl, hown, hbel⟩ := hrel
          rename World => V
          have O := Lib.hid hown
          have B := Lib.hid hbel
          clear hown hbel
          by_cases hkl : k < wd
          · have hx := (fitsB_iff.1 HF.out).1
            have HBY := Lib.hid (byte_div hx (wd - 1 - k))
            have HT := Lib.hid (encN_take_succ x.toNat wd k hkl)
            generalize UInt8.ofNat (x.toNat / pw (wd - 1 - k)) = c at HBY HT
            clear hx
            go_wp2_with (at_builtin
                         refine wpList_append_wide _ rfl (.tmp 46) (.tmp 55) _ rfl w.heap.size 5 i0 _ 1 1 Try.underlying31 hi0 hz0 hz1 hz2 rfl (by omega) u8 (n + wd * j + k) (u8s (bs ++ encL wd (is.take j) ++ (encN wd x.toNat).take k)) rfl
                           (O.out.alloc _) _ (some ⟨V.heap.size, 0, none⟩) 1 1 (u8s [c]) rfl (reads_new1 V _ _ c HBY.out) (u8s_one _) (by simp only [maxLen]; omega) (by omega) (by have := B.out.size; simp; omega) ?_
                         intro v3 w3 hown3 hg3
                         have B3 := Lib.hid (below_own (B.out.alloc B.out.size _) hg3 (O.out.alloc _) (Nat.le_refl _) (by have := B.out.size; simp; omega))
                         have O3 := Lib.hid hown3
                         clear hown3 hg3)
            go_roundw
            case rel => exact ⟨k + 1, by omega, by go_num, by rw [HT.out, ← List.append_assoc, u8s_append]; exact O3.out, B3.out⟩
            case measure => simp [intOf]; omega
          · obtain rfl : k = wd := by omega
            go_wp2_with fail
            go_roundw
            case rel => exact ⟨j + 1, by omega, by go_num, FS.out HF.out, by have := O.out; rw [show (encN k x.toNat).take k = encN k x.toNat from List.take_of_length_le (by simp [encN_length])] at this; rw [E.out, ← List.append_assoc, Nat.mul_succ, ← Nat.add_assoc]; exact this, B.out⟩
            case measure => simp [intOf]; omega
    · obtain rfl : j = m := by omega
      go_wp2_with fail
      go_ret2
      refine .inl ⟨FitTill.all (by rw [HLN.out]; exact F.out), _, rfl, ?_, B.out⟩
      have := O.out
      rwa [List.take_of_length_le (by rw [HLN.out]; exact Nat.le_refl _)] at this
end Go.Proofs.Ythdfgdehddmkpaa
