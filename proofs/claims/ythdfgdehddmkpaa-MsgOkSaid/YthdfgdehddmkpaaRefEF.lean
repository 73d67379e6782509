/- The document's bytes of a message that may be. -/
import Derived.Test.YthdfgdehddmkpaaLaw4B
namespace Go.Proofs.Ythdfgdehddmkpaa
open Go.RowKit
set_option linter.unusedVariables false
set_option linter.unusedSimpArgs false

/-- A number as one byte. -/
def b8 (x : Int) : UInt8 := UInt8.ofNat x.toNat
theorem b8_mod {x : Int} (h0 : 0 ≤ x) : x % 256 = ((b8 x).toNat : Int) := by unfold b8; rw [u8_ofNat_toNat]; omega
theorem encL1_three (a b c : Int) : encL 1 [a, b, c] = [b8 a, b8 b, b8 c] := by simp [encL, encN, pw, b8]
theorem encL1_four (a b c d : Int) : encL 1 [a, b, c, d] = [b8 a, b8 b, b8 c, b8 d] := by simp [encL, encN, pw, b8]
theorem encL1_one (a : Int) : encL 1 [a] = [b8 a] := by simp [encL, encN, pw, b8]
theorem encL4_two (a b : Int) : encL 4 [a, b] = encN 4 a.toNat ++ encN 4 b.toNat := by simp [encL]
theorem own_full {w : World} {t : TypeId} {base g : Nat} (l : List UInt8) {n : Nat} (hg : g = w.heap.size) (hn : l.length = n) (hb : base ≤ w.heap.size) (hm : n ≤ maxLen) :
    (w.alloc (.cells (u8s l).toArray t)).ownsRow base t 1 (.slice (some ⟨g, 0, none⟩) n n) n (u8s l) := by
  subst hg
  exact ⟨by simp [u8s_length, hn], .inr ⟨w.heap.size, n, (u8s l).toArray, rfl, hb, heap_alloc_new w _, Nat.le_refl _, hm, by simp [u8s_length, hn], by rw [Nat.mul_one]; exact List.take_of_length_le (by simp [u8s_length, hn])⟩⟩
theorem own_later {W W' : World} {base n : Nat} {t : TypeId} {v : Value} {xs : List Value} (h : W.ownsRow base t 1 v n xs) (hb : Below W.heap.size W W') : W'.ownsRow base t 1 v n xs := by
  rcases h with ⟨h0, h1 | ⟨g, cap, cur, hv, hg, hh, h2⟩⟩
  · exact ⟨h0, .inl h1⟩
  · have hlt : g < W.heap.size := by
      rcases Nat.lt_or_ge g W.heap.size with h | h
      · exact h
      · rw [Array.getElem?_eq_none h] at hh; cases hh
    exact ⟨h0, .inr ⟨g, cap, cur, hv, hg, (hb.block g hlt).trans hh, h2⟩⟩
/-- What holds between two appends. -/
structure EncSt (w : World) (m : List Int) (bs : List UInt8) (v : Value) (n : Nat) (W : World) : Prop where
  msg : Blk W w.heap.size 29 (mc m)
  own : W.ownsRow (w.heap.size + 1) 5 1 v n (u8s bs)
  bel : Below w.heap.size w W
theorem EncSt.later {w W W' : World} {m : List Int} {bs : List UInt8} {v : Value} {n : Nat} (h : EncSt w m bs v n W) (hb : Below W.heap.size W W') : EncSt w m bs v n W' :=
  ⟨h.msg.here hb, own_later h.own hb, stepB h.bel hb⟩
theorem EncSt.app {w W W' : World} {m : List Int} {bs bs' : List UInt8} {v v' : Value} {n n' : Nat} (h : EncSt w m bs v n W) (ho : W'.ownsRow (w.heap.size + 1) 5 1 v' n' (u8s bs')) (hg : W.grownBy W' v.ownBlock) : EncSt w m bs' v' n' W' :=
  ⟨(hg.block w.heap.size h.msg.lt (fun e => by have := ownBlock_ge h.own _ e.symm; omega)).trans h.msg, ho, below_own h.bel hg h.own (by omega) (Nat.le_of_lt h.msg.lt)⟩

set_option maxRecDepth 100000 in
set_option maxHeartbeats 1000000 in
theorem four_any (x : Int) (h0 : 0 ≤ x) (h1 : x < 4294967296) (w : World) :
    Calls Try.prog 23 #[.int .i64 x] w fun e w' => ∃ A, e = .returned (.slice A 4 4) ∧ Reads w' w'.heap.size 1 A 4 (u8s (encN 4 x.toNat)) ∧ Below w.heap.size w w' := by
  have q3 := byte_quo h0 3
  have q2 := byte_quo h0 2
  have q1 := byte_quo h0 1
  have q0 := byte_quo h0 0
  rw [show ((pw 3 : Nat) : Int) = 16777216 from by decide] at q3
  rw [show ((pw 2 : Nat) : Int) = 65536 from by decide] at q2
  rw [show ((pw 1 : Nat) : Int) = 256 from by decide] at q1
  rw [show ((pw 0 : Nat) : Int) = 1 from by decide, Int.ediv_one] at q0
  have HL := Lib.hid (show encN 4 x.toNat = [UInt8.ofNat (x.toNat / pw 3), UInt8.ofNat (x.toNat / pw 2), UInt8.ofNat (x.toNat / pw 1), UInt8.ofNat (x.toNat / pw 0)] from rfl)
  generalize UInt8.ofNat (x.toNat / pw 3) = d3 at q3 HL
  generalize UInt8.ofNat (x.toNat / pw 2) = d2 at q2 HL
  generalize UInt8.ofNat (x.toNat / pw 1) = d1 at q1 HL
  generalize UInt8.ofNat (x.toNat / pw 0) = d0 at q0 HL
  go_enter Try.func23, Try.ntmps23
  go_wp2_with fail
  go_ret
  rw [HL.out]
  refine ⟨_, rfl, ?_, Joins.below_alloc1 _ _⟩
  exact reads_bytes (l := [d3, d2, d1, d0]) (Blk.new w 5 _) rfl

theorem head_bytes (m : List Int) : headM m = [b8 (fld m 0), b8 (fld m 1), b8 (fld m 2)] ++ encN 4 (fld m 3).toNat ++ encN 4 (fld m 4).toNat ++ [b8 (fld m 5), b8 (fld m 6), b8 (fld m 7), b8 (fld m 8)] ++ encN 4 (fld m 9).toNat ++ encN 4 (fld m 10).toNat ++ [b8 (fld m 11)] := by
  unfold headM
  rw [encL1_three, encL1_four, encL1_one, encL4_two, encL4_two]
  simp only [List.append_assoc]

set_option maxRecDepth 100000 in
set_option maxHeartbeats 8000000 in
theorem encodeR_any (m : List Int) (hl : m.length = 28) (hm : mayB m = true) (w : World) :
    Calls Try.prog 14 #[.agg (mc m)] w fun e w' => ∃ A c, e = .returned (.slice A 88 c) ∧ Reads w' w'.heap.size 1 A 88 (u8s (encM m)) ∧ Below w.heap.size w w' := by
  have HL := Lib.hid hl
  obtain ⟨⟨h0, h1, h2⟩, h3, h4, ⟨h5, h6⟩, h7, h8, h9, h10, h11, hp⟩ := may_parts hm
  have HP := Lib.hid hp
  have m0 := b8_mod h0.1
  have m1 := b8_mod h1.1
  have m2 := b8_mod h2.1
  have m5 := b8_mod h5.1
  have m6 := b8_mod h6.1
  have m7 := b8_mod h7.1
  have m8 := b8_mod h8.1
  have m11 := b8_mod h11.1
  have F3 := Lib.hid h3
  have F4 := Lib.hid h4
  have F9 := Lib.hid h9
  have F10 := Lib.hid h10
  have HB := Lib.hid (head_bytes m)
  obtain ⟨i0, hi0, hz0, hz1, hz2⟩ := info_parts info_u8
  have c0 := mc_get hl (i := 0) (by omega)
  have c1 := mc_get hl (i := 1) (by omega)
  have c2 := mc_get hl (i := 2) (by omega)
  have c3 := mc_get hl (i := 3) (by omega)
  clear hl hm h0 h1 h2 h3 h4 h5 h6 h7 h8 h9 h10 h11 hp
  go_enter Try.func14, Try.ntmps14
  have S0 := Lib.hid (show EncSt w m [b8 (fld m 0), b8 (fld m 1), b8 (fld m 2)] (.slice (some ⟨w.heap.size + 1, 0, none⟩) 3 3) 3 ((w.alloc (.cells (mc m) 29)).alloc (.cells (u8s [b8 (fld m 0), b8 (fld m 1), b8 (fld m 2)]).toArray 5)) from
    ⟨(Blk.new _ _ _).alloc _, own_full (w := w.alloc (.cells (mc m) 29)) (t := 5) (base := w.heap.size + 1) [b8 (fld m 0), b8 (fld m 1), b8 (fld m 2)] (n := 3) (by simp) rfl (by simp) (by unfold maxLen; omega), Joins.below_alloc2 _ _ _⟩)
  go_upto_region 2 with (fail)
  go_wp2_with fail
  refine (four_any (fld m 3) F3.out.1 (by have := F3.out; omega) _).mono ?_
  rintro e x1 ⟨A1, rfl, hR, hb⟩
  have T1 := Lib.hid (S0.out.later hb)
  have R1 := Lib.hid hR
  clear hR hb
  have hx1 : w.heap.size + 1 ≤ x1.heap.size := T1.out.msg.lt
  go_upto_region 3 with (
    at_builtin
    refine wpList_append_wide _ rfl (.tmp 15) (.tmp 18) _ rfl (w.heap.size + 1) 5 i0 _ 1 1 Try.underlying31 hi0 hz0 hz1 hz2 rfl (by omega) (.slice (some ⟨w.heap.size + 1, 0, none⟩) 3 3) 3 (u8s ([b8 (fld m 0), b8 (fld m 1), b8 (fld m 2)])) rfl
      T1.out.own x1.heap.size A1 4 4 (u8s (encN 4 (fld m 3).toNat)) rfl R1.out (u8s_one _) (by unfold maxLen; omega) (by omega) hx1 ?_
    intro v1 w1 hown hg
    rw [← u8s_append] at hown
    have S1 := Lib.hid (EncSt.app T1.out hown hg)
    clear hown hg)
  have k4 := (S1.out.msg.cell 4).trans (mc_get HL.out (i := 4) (by omega))
  go_wp2_with fail
  refine (four_any (fld m 4) F4.out.1 (by have := F4.out; omega) _).mono ?_
  rintro e x2 ⟨A2, rfl, hR, hb⟩
  have T2 := Lib.hid (S1.out.later hb)
  have R2 := Lib.hid hR
  clear hR hb
  have hx2 : w.heap.size + 1 ≤ x2.heap.size := T2.out.msg.lt
  go_upto_region 4 with (
    at_builtin
    refine wpList_append_wide _ rfl (.tmp 20) (.tmp 23) _ rfl (w.heap.size + 1) 5 i0 _ 1 1 Try.underlying31 hi0 hz0 hz1 hz2 rfl (by omega) v1 7 (u8s ([b8 (fld m 0), b8 (fld m 1), b8 (fld m 2)] ++ encN 4 (fld m 3).toNat)) rfl
      T2.out.own x2.heap.size A2 4 4 (u8s (encN 4 (fld m 4).toNat)) rfl R2.out (u8s_one _) (by unfold maxLen; omega) (by omega) hx2 ?_
    intro v2 w2 hown hg
    rw [← u8s_append] at hown
    have S2 := Lib.hid (EncSt.app T2.out hown hg)
    clear hown hg)
  have k5 := (S2.out.msg.cell 5).trans (mc_get HL.out (i := 5) (by omega))
  have k6 := (S2.out.msg.cell 6).trans (mc_get HL.out (i := 6) (by omega))
  have k7 := (S2.out.msg.cell 7).trans (mc_get HL.out (i := 7) (by omega))
  have k8 := (S2.out.msg.cell 8).trans (mc_get HL.out (i := 8) (by omega))
  go_upto_region 5 with (
    at_builtin
    refine wpList_append_wide _ rfl (.tmp 25) (.tmp 40) _ rfl (w.heap.size + 1) 5 i0 _ 1 1 Try.underlying31 hi0 hz0 hz1 hz2 rfl (by omega) v2 11 (u8s ([b8 (fld m 0), b8 (fld m 1), b8 (fld m 2)] ++ encN 4 (fld m 3).toNat ++ encN 4 (fld m 4).toNat)) rfl
      (S2.out.own.alloc _) _ _ 4 4 (u8s [b8 (fld m 5), b8 (fld m 6), b8 (fld m 7), b8 (fld m 8)]) rfl (reads_bytes (l := [b8 (fld m 5), b8 (fld m 6), b8 (fld m 7), b8 (fld m 8)]) (Blk.new _ _ _) rfl) (u8s_one _) (by unfold maxLen; omega) (by omega) (by have := S2.out.msg.lt; simp; omega) ?_
    intro v3 w3 hown hg
    rw [← u8s_append] at hown
    have S3 := Lib.hid (EncSt.app (S2.out.later (Below.alloc (Below.refl _ _) (Nat.le_refl _) _)) hown hg)
    clear hown hg)
  have k9 := (S3.out.msg.cell 9).trans (mc_get HL.out (i := 9) (by omega))
  go_wp2_with fail
  refine (four_any (fld m 9) F9.out.1 (by have := F9.out; omega) _).mono ?_
  rintro e x4 ⟨A4, rfl, hR, hb⟩
  have T4 := Lib.hid (S3.out.later hb)
  have R4 := Lib.hid hR
  clear hR hb
  have hx4 : w.heap.size + 1 ≤ x4.heap.size := T4.out.msg.lt
  go_upto_region 6 with (
    at_builtin
    refine wpList_append_wide _ rfl (.tmp 42) (.tmp 45) _ rfl (w.heap.size + 1) 5 i0 _ 1 1 Try.underlying31 hi0 hz0 hz1 hz2 rfl (by omega) v3 15 (u8s ([b8 (fld m 0), b8 (fld m 1), b8 (fld m 2)] ++ encN 4 (fld m 3).toNat ++ encN 4 (fld m 4).toNat ++ [b8 (fld m 5), b8 (fld m 6), b8 (fld m 7), b8 (fld m 8)])) rfl
      T4.out.own x4.heap.size A4 4 4 (u8s (encN 4 (fld m 9).toNat)) rfl R4.out (u8s_one _) (by unfold maxLen; omega) (by omega) hx4 ?_
    intro v4 w4 hown hg
    rw [← u8s_append] at hown
    have S4 := Lib.hid (EncSt.app T4.out hown hg)
    clear hown hg)
  have k10 := (S4.out.msg.cell 10).trans (mc_get HL.out (i := 10) (by omega))
  go_wp2_with fail
  refine (four_any (fld m 10) F10.out.1 (by have := F10.out; omega) _).mono ?_
  rintro e x5 ⟨A5, rfl, hR, hb⟩
  have T5 := Lib.hid (S4.out.later hb)
  have R5 := Lib.hid hR
  clear hR hb
  have hx5 : w.heap.size + 1 ≤ x5.heap.size := T5.out.msg.lt
  go_upto_region 7 with (
    at_builtin
    refine wpList_append_wide _ rfl (.tmp 47) (.tmp 50) _ rfl (w.heap.size + 1) 5 i0 _ 1 1 Try.underlying31 hi0 hz0 hz1 hz2 rfl (by omega) v4 19 (u8s ([b8 (fld m 0), b8 (fld m 1), b8 (fld m 2)] ++ encN 4 (fld m 3).toNat ++ encN 4 (fld m 4).toNat ++ [b8 (fld m 5), b8 (fld m 6), b8 (fld m 7), b8 (fld m 8)] ++ encN 4 (fld m 9).toNat)) rfl
      T5.out.own x5.heap.size A5 4 4 (u8s (encN 4 (fld m 10).toNat)) rfl R5.out (u8s_one _) (by unfold maxLen; omega) (by omega) hx5 ?_
    intro v5 w5 hown hg
    rw [← u8s_append] at hown
    have S5 := Lib.hid (EncSt.app T5.out hown hg)
    clear hown hg)
  have k11 := (S5.out.msg.cell 11).trans (mc_get HL.out (i := 11) (by omega))
  go_upto_region 8 with (
    at_builtin
    refine wpList_append_wide _ rfl (.tmp 52) (.tmp 56) _ rfl (w.heap.size + 1) 5 i0 _ 1 1 Try.underlying31 hi0 hz0 hz1 hz2 rfl (by omega) v5 23 (u8s ([b8 (fld m 0), b8 (fld m 1), b8 (fld m 2)] ++ encN 4 (fld m 3).toNat ++ encN 4 (fld m 4).toNat ++ [b8 (fld m 5), b8 (fld m 6), b8 (fld m 7), b8 (fld m 8)] ++ encN 4 (fld m 9).toNat ++ encN 4 (fld m 10).toNat)) rfl
      (S5.out.own.alloc _) _ _ 1 1 (u8s [b8 (fld m 11)]) rfl (reads_bytes (l := [b8 (fld m 11)]) (Blk.new _ _ _) rfl) (u8s_one _) (by unfold maxLen; omega) (by omega) (by have := S5.out.msg.lt; simp; omega) ?_
    intro v6 w6 hown hg
    rw [← u8s_append] at hown
    have S6 := Lib.hid (EncSt.app (S5.out.later (Below.alloc (Below.refl _ _) (Nat.le_refl _) _)) hown hg)
    clear hown hg)
  have HS := Lib.hid (show EncSt w m (headM m ++ encL 4 ((pathL m).take (0 * 2))) v6 (24 + 8 * 0) w6 by
    have := S6.out
    rw [← HB.out] at this
    simpa [encL] using this)
  go_wp2_with fail
  go_loopw [3, 4] (fun v k W => ∃ j : Nat, j ≤ 8 ∧ k = .int .i64 j ∧ EncSt w m (headM m ++ encL 4 ((pathL m).take (j * 2))) v (24 + 8 * j) W) (fun _ k _ => 8 - (intOf k).toNat)
  case atStart => exact ⟨0, by omega, rfl, HS.out⟩
  case round =>
    obtain ⟨j, hj, rfl, hst⟩ := hrel
    rename World => W
    have ST := Lib.hid hst
    have hlw := hst.msg.lt
    clear hst
    by_cases hlt : j < 8
    · have k0 : W.cell? ⟨w.heap.size, 12 + j * 2, none⟩ = some (.int .i64 (stTx m j)) := (ST.out.msg.cell _).trans (mc_get HL.out (by omega))
      have HPJ := Lib.hid (HP.out j hlt)
      have HT := Lib.hid (take_step HL.out hlt)
      go_wp2_with fail
      refine (four_any (stTx m j) HPJ.out.1.1 (by have := HPJ.out; omega) _).mono ?_
      rintro e y1 ⟨B1, rfl, hR, hb⟩
      have Y1 := Lib.hid (ST.out.later hb)
      have Q1 := Lib.hid hR
      clear hR hb
      have hy1 : w.heap.size + 1 ≤ y1.heap.size := Y1.out.msg.lt
      go_upto_region 12 with (
        at_builtin
        refine wpList_append_wide _ rfl (.tmp 62) (.tmp 68) _ rfl (w.heap.size + 1) 5 i0 _ 1 1 Try.underlying31 hi0 hz0 hz1 hz2 rfl (by omega) u3 (24 + 8 * j) (u8s (headM m ++ encL 4 ((pathL m).take (j * 2)))) rfl
          Y1.out.own y1.heap.size B1 4 4 (u8s (encN 4 (stTx m j).toNat)) rfl Q1.out (u8s_one _) (by unfold maxLen; omega) (by omega) hy1 ?_
        intro v9 w9 hown hg
        rw [← u8s_append] at hown
        have S9 := Lib.hid (EncSt.app Y1.out hown hg)
        clear hown hg)
      have k1 : w9.cell? ⟨w.heap.size, 12 + j * 2 + 1, none⟩ = some (.int .i64 (stSeq m j)) := (S9.out.msg.cell _).trans (mc_get HL.out (by omega))
      go_wp2_with fail
      refine (four_any (stSeq m j) HPJ.out.2.1 (by have := HPJ.out; omega) _).mono ?_
      rintro e y2 ⟨B2, rfl, hR, hb⟩
      have Y2 := Lib.hid (S9.out.later hb)
      have Q2 := Lib.hid hR
      clear hR hb
      have hy2 : w.heap.size + 1 ≤ y2.heap.size := Y2.out.msg.lt
      go_wp2_with (at_builtin
                   refine wpList_append_wide _ rfl (.tmp 70) (.tmp 76) _ rfl (w.heap.size + 1) 5 i0 _ 1 1 Try.underlying31 hi0 hz0 hz1 hz2 rfl (by omega) v9 (24 + 8 * j + 4) (u8s (headM m ++ encL 4 ((pathL m).take (j * 2)) ++ encN 4 (stTx m j).toNat)) rfl
                     Y2.out.own y2.heap.size B2 4 4 (u8s (encN 4 (stSeq m j).toNat)) rfl Q2.out (u8s_one _) (by unfold maxLen; omega) (by omega) hy2 ?_
                   intro v10 w10 hown hg
                   rw [← u8s_append, List.append_assoc, List.append_assoc, ← encL4_two, HT.out, show 24 + 8 * j + 4 + 4 = 24 + 8 * (j + 1) by omega] at hown
                   have S10 := Lib.hid (EncSt.app Y2.out hown hg)
                   clear hown hg)
      go_roundw
      case rel => exact ⟨j + 1, by omega, by go_num, S10.out⟩
      case measure => simp [intOf]; omega
    · obtain rfl : j = 8 := by omega
      have HT := Lib.hid (show (pathL m).take (8 * 2) = pathL m from List.take_of_length_le (by simp [pathL, HL.out]))
      obtain ⟨A, c, rfl, hR, _⟩ := own_slice ST.out.own
      rw [HT.out] at hR
      have HR := Lib.hid hR
      clear hR
      go_wp2_with fail
      go_ret
      exact ⟨A, c, rfl, HR.out, ST.out.bel⟩
end Go.Proofs.Ythdfgdehddmkpaa
