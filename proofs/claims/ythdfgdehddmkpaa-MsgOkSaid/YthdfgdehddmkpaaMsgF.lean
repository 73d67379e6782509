/- The contract of package msg's mayBe. -/
import Derived.Test.YthdfgdehddmkpaaMsgB1
import Derived.Test.YthdfgdehddmkpaaMsgB2
import Derived.Test.YthdfgdehddmkpaaMsgB3
import Derived.Test.YthdfgdehddmkpaaMsgB4
import Derived.Test.YthdfgdehddmkpaaMsgD
import Derived.Test.YthdfgdehddmkpaaMsgE
namespace Go.Proofs.Ythdfgdehddmkpaa
open Go.RowKit
set_option linter.unusedVariables false
set_option linter.unusedSimpArgs false

theorem asked_any (m : List Int) (hl : m.length = 28) (w : World) :
    Calls Try.prog 32 #[.agg (mc m)] w fun e w' => e = .returned (askV (fld m 0) (fld m 3)) ∧ Below w.heap.size w w' := by
  rcases kind_cases (fld m 0) with h | h | h | h | h | h | h | h | h | h | h | h
  · exact asked_1 m hl h w
  · exact asked_2 m hl h w
  · exact asked_3 m hl h w
  · exact asked_4 m hl h w
  · exact asked_5 m hl h w
  · exact asked_6 m hl h w
  · exact asked_7 m hl h w
  · exact asked_8 m hl h w
  · exact asked_9 m hl h w
  · exact asked_10 m hl h w
  · exact asked_11 m hl h w
  · exact asked_out m hl h w
theorem has_b {lo hi x : Int} {b : Bool} (h : inS lo hi x = b) (w : World) :
    Calls Try.prog 34 #[spanV lo hi, .int .i64 x] w fun e w' => e = .returned (.bool b) ∧ w' = w.alloc (.cells #[.int .i64 lo, .int .i64 hi] 71) :=
  (has_any lo hi x w).mono fun _ _ ⟨he, hw⟩ => ⟨by rw [he, h], hw⟩
/-- What a kind's asking is made of. -/
structure AskIs (m : List Int) (at_ : Bool) (l : List Int) : Prop where
  len : l.length = 14
  val : askV (fld m 0) (fld m 3) = .agg #[.bool at_, .int .i64 (fld l 0), .int .i64 (fld l 1), .int .i64 (fld l 2), .int .i64 (fld l 3), .int .i64 (fld l 4), .int .i64 (fld l 5), .int .i64 (fld l 6), .int .i64 (fld l 7), .int .i64 (fld l 8), .int .i64 (fld l 9), .int .i64 (fld l 10), .int .i64 (fld l 11), .int .i64 (fld l 12), .int .i64 (fld l 13)]
  may : mayB m = (goesB m && (inS (fld l 0) (fld l 1) (fld m 3) && (inS (fld l 2) (fld l 3) (fld m 4) && (placeB at_ (fld m 5) (fld m 6) && (inS (fld l 4) (fld l 5) (fld m 7) && (inS (fld l 6) (fld l 7) (fld m 8) && (inS (fld l 8) (fld l 9) (fld m 9) && (inS (fld l 10) (fld l 11) (fld m 10) && (inS (fld l 12) (fld l 13) (fld m 11) && pathB m)))))))))
theorem askIs (m : List Int) : ∃ at_ l, AskIs m at_ l :=
  ⟨sAt (fld m 0), [(sTx (fld m 0)).1, (sTx (fld m 0)).2, (sSeq (fld m 0)).1, (sSeq (fld m 0)).2, (sMode (fld m 0)).1, (sMode (fld m 0)).2, (sCode (fld m 0)).1, (sCode (fld m 0)).2, (sNext (fld m 0) (fld m 3)).1, (sNext (fld m 0) (fld m 3)).2, (sNseq (fld m 0)).1, (sNseq (fld m 0)).2, (sN (fld m 0)).1, (sN (fld m 0)).2],
   rfl, rfl, rfl⟩

set_option maxRecDepth 100000 in
set_option maxHeartbeats 8000000 in
theorem mayBe_msg (m : List Int) (hl : m.length = 28) (w : World) :
    Calls Try.prog 22 #[.agg (mc m)] w fun e w' => e = .returned (.bool (mayB m)) ∧ Below w.heap.size w w' := by
  obtain ⟨at_, l, hall, hval, hmay⟩ := askIs m
  have HL := Lib.hid hl
  have HV := Lib.hid hval
  have HY := Lib.hid hmay
  have HI := Lib.hid (mc_info hl)
  clear hl hall hval hmay
  go_enter Try.func22, Try.ntmps22
  go_wp2_with (refine wpList_load_row rfl 29 (.tmp 1) rfl w.heap.size rfl 29 (mc m) (0, 0) _ (Blk.new _ _ _) Try.underlying29 rfl HI.out ?_)
  refine (asked_any m HL.out _).mono ?_
  rintro e w1 ⟨rfl, hb1⟩
  rw [HV.out]
  have HB1 := Lib.hid (stepB (Below.alloc (Below.refl w.heap.size w) (Nat.le_refl _) (.cells (mc m) 29)) hb1)
  have HM1 := Lib.hid ((Blk.new w 29 (mc m)).here hb1)
  clear hb1
  generalize fld l 0 = l0 at HY ⊢
  generalize fld l 1 = l1 at HY ⊢
  generalize fld l 2 = l2 at HY ⊢
  generalize fld l 3 = l3 at HY ⊢
  generalize fld l 4 = l4 at HY ⊢
  generalize fld l 5 = l5 at HY ⊢
  generalize fld l 6 = l6 at HY ⊢
  generalize fld l 7 = l7 at HY ⊢
  generalize fld l 8 = l8 at HY ⊢
  generalize fld l 9 = l9 at HY ⊢
  generalize fld l 10 = l10 at HY ⊢
  generalize fld l 11 = l11 at HY ⊢
  generalize fld l 12 = l12 at HY ⊢
  generalize fld l 13 = l13 at HY ⊢
  have hlw1 : w.heap.size < w1.heap.size := HM1.out.lt
  go_wp2_with (refine wpList_load_row rfl 29 (.tmp 1) rfl w.heap.size rfl 29 (mc m) (0, 0) _ (HM1.out.alloc _) Try.underlying29 rfl HI.out ?_)
  refine (goes_any m HL.out _).mono ?_
  rintro e w2 ⟨rfl, hb2⟩
  have HB2 := Lib.hid (stepB (stepA HB1.out _) hb2)
  have HM2 := Lib.hid ((HM1.out.alloc _).here hb2)
  have HA2 := Lib.hid ((Blk.new w1 73 #[.bool at_, .int .i64 l0, .int .i64 l1, .int .i64 l2, .int .i64 l3, .int .i64 l4, .int .i64 l5, .int .i64 l6, .int .i64 l7, .int .i64 l8, .int .i64 l9, .int .i64 l10, .int .i64 l11, .int .i64 l12, .int .i64 l13]).here hb2)
  have hlw2 : w1.heap.size < w2.heap.size := HA2.out.lt
  have hlm2 : w.heap.size < w2.heap.size := HM2.out.lt
  clear hb2
  have k3 := (HM2.out.cell 3).trans (mc_get HL.out (i := 3) (by omega))
  have k4 := (HM2.out.cell 4).trans (mc_get HL.out (i := 4) (by omega))
  have k5 := (HM2.out.cell 5).trans (mc_get HL.out (i := 5) (by omega))
  have k6 := (HM2.out.cell 6).trans (mc_get HL.out (i := 6) (by omega))
  have f0 := HA2.out.cell 0
  have f1 := HA2.out.cell 1
  have f2 := HA2.out.cell 2
  have f3 := HA2.out.cell 3
  have f4 := HA2.out.cell 4
  cases hg : goesB m
  · have HG := Lib.hid hg
    clear hg
    go_wp2_with fail
    go_ret
    exact ⟨ret_bool (by rw [HY.out, HG.out]; rfl), HB2.out⟩
  have HG := Lib.hid hg
  clear hg
  cases htx : inS l0 l1 (fld m 3)
  · have Htx := Lib.hid htx
    clear htx
    go_wp2_with (first | (go_at_call 34; with_reducible refine (has_b Htx.out _).mono ?_; rintro e w9 ⟨rfl, rfl⟩))
    go_ret
    exact ⟨ret_bool (by rw [HY.out, HG.out, Htx.out]; rfl), (stepA HB2.out _)⟩
  have Htx := Lib.hid htx
  clear htx
  cases hseq : inS l2 l3 (fld m 4)
  · have Hseq := Lib.hid hseq
    clear hseq
    go_wp2_with (first | (go_at_call 34; with_reducible refine (has_b Htx.out _).mono ?_; rintro e w9 ⟨rfl, rfl⟩) | (go_at_call 34; with_reducible refine (has_b Hseq.out _).mono ?_; rintro e w9 ⟨rfl, rfl⟩))
    go_ret
    exact ⟨ret_bool (by rw [HY.out, HG.out, Htx.out, Hseq.out]; rfl), (stepA (stepA HB2.out _) _)⟩
  have Hseq := Lib.hid hseq
  clear hseq
  go_wp2_with (first | (go_at_call 34; with_reducible refine (has_b Htx.out _).mono ?_; rintro e w9 ⟨rfl, rfl⟩) | (go_at_call 34; with_reducible refine (has_b Hseq.out _).mono ?_; rintro e w9 ⟨rfl, rfl⟩))
  refine (isPlace_any (fld m 5) (fld m 6) at_ _).mono ?_
  rintro e w3 ⟨rfl, hb3⟩
  have HB3 := Lib.hid (stepB (stepA (stepA HB2.out _) _) hb3)
  have HM3 := Lib.hid (((HM2.out.alloc _).alloc _).here hb3)
  have HA3 := Lib.hid (((HA2.out.alloc _).alloc _).here hb3)
  have hlw3 : w1.heap.size < w3.heap.size := HA3.out.lt
  have hlm3 : w.heap.size < w3.heap.size := HM3.out.lt
  have p1 : w1.heap.size < w3.heap.size + 1 := by omega
  have p2 : w1.heap.size < w3.heap.size + 1 + 1 := by omega
  have p3 : w1.heap.size < w3.heap.size + 1 + 1 + 1 := by omega
  have p4 : w1.heap.size < w3.heap.size + 1 + 1 + 1 + 1 := by omega
  have q1 : w.heap.size < w3.heap.size + 1 := by omega
  have q2 : w.heap.size < w3.heap.size + 1 + 1 := by omega
  have q3 : w.heap.size < w3.heap.size + 1 + 1 + 1 := by omega
  have q4 : w.heap.size < w3.heap.size + 1 + 1 + 1 + 1 := by omega
  clear hb3 k3 k4 k5 k6 f0 f1 f2 f3 f4 hlw2 hlm2
  have k7 := (HM3.out.cell 7).trans (mc_get HL.out (i := 7) (by omega))
  have k8 := (HM3.out.cell 8).trans (mc_get HL.out (i := 8) (by omega))
  have k9 := (HM3.out.cell 9).trans (mc_get HL.out (i := 9) (by omega))
  have k10 := (HM3.out.cell 10).trans (mc_get HL.out (i := 10) (by omega))
  have k11 := (HM3.out.cell 11).trans (mc_get HL.out (i := 11) (by omega))
  have f5 := HA3.out.cell 5
  have f6 := HA3.out.cell 6
  have f7 := HA3.out.cell 7
  have f8 := HA3.out.cell 8
  have f9 := HA3.out.cell 9
  have f10 := HA3.out.cell 10
  have f11 := HA3.out.cell 11
  have f12 := HA3.out.cell 12
  have f13 := HA3.out.cell 13
  have f14 := HA3.out.cell 14
  cases hpl : placeB at_ (fld m 5) (fld m 6)
  · have HPL := Lib.hid hpl
    clear hpl
    go_wp2_with fail
    go_ret
    exact ⟨ret_bool (by rw [HY.out, HG.out, Htx.out, Hseq.out, HPL.out]; rfl), HB3.out⟩
  have HPL := Lib.hid hpl
  clear hpl
  cases hmode : inS l4 l5 (fld m 7)
  · have Hmode := Lib.hid hmode
    clear hmode
    go_wp2_with (first | (go_at_call 34; with_reducible refine (has_b Hmode.out _).mono ?_; rintro e w9 ⟨rfl, rfl⟩))
    go_ret
    exact ⟨ret_bool (by rw [HY.out, HG.out, Htx.out, Hseq.out, HPL.out, Hmode.out]; rfl), (stepA HB3.out _)⟩
  have Hmode := Lib.hid hmode
  clear hmode
  cases hcode : inS l6 l7 (fld m 8)
  · have Hcode := Lib.hid hcode
    clear hcode
    go_wp2_with (first | (go_at_call 34; with_reducible refine (has_b Hmode.out _).mono ?_; rintro e w9 ⟨rfl, rfl⟩) | (go_at_call 34; with_reducible refine (has_b Hcode.out _).mono ?_; rintro e w9 ⟨rfl, rfl⟩))
    go_ret
    exact ⟨ret_bool (by rw [HY.out, HG.out, Htx.out, Hseq.out, HPL.out, Hmode.out, Hcode.out]; rfl), (stepA (stepA HB3.out _) _)⟩
  have Hcode := Lib.hid hcode
  clear hcode
  cases hnext : inS l8 l9 (fld m 9)
  · have Hnext := Lib.hid hnext
    clear hnext
    go_wp2_with (first | (go_at_call 34; with_reducible refine (has_b Hmode.out _).mono ?_; rintro e w9 ⟨rfl, rfl⟩) | (go_at_call 34; with_reducible refine (has_b Hcode.out _).mono ?_; rintro e w9 ⟨rfl, rfl⟩) | (go_at_call 34; with_reducible refine (has_b Hnext.out _).mono ?_; rintro e w9 ⟨rfl, rfl⟩))
    go_ret
    exact ⟨ret_bool (by rw [HY.out, HG.out, Htx.out, Hseq.out, HPL.out, Hmode.out, Hcode.out, Hnext.out]; rfl), (stepA (stepA (stepA HB3.out _) _) _)⟩
  have Hnext := Lib.hid hnext
  clear hnext
  cases hnseq : inS l10 l11 (fld m 10)
  · have Hnseq := Lib.hid hnseq
    clear hnseq
    go_wp2_with (first | (go_at_call 34; with_reducible refine (has_b Hmode.out _).mono ?_; rintro e w9 ⟨rfl, rfl⟩) | (go_at_call 34; with_reducible refine (has_b Hcode.out _).mono ?_; rintro e w9 ⟨rfl, rfl⟩) | (go_at_call 34; with_reducible refine (has_b Hnext.out _).mono ?_; rintro e w9 ⟨rfl, rfl⟩) | (go_at_call 34; with_reducible refine (has_b Hnseq.out _).mono ?_; rintro e w9 ⟨rfl, rfl⟩))
    go_ret
    exact ⟨ret_bool (by rw [HY.out, HG.out, Htx.out, Hseq.out, HPL.out, Hmode.out, Hcode.out, Hnext.out, Hnseq.out]; rfl), (stepA (stepA (stepA (stepA HB3.out _) _) _) _)⟩
  have Hnseq := Lib.hid hnseq
  clear hnseq
  cases hn : inS l12 l13 (fld m 11)
  · have Hn := Lib.hid hn
    clear hn
    go_wp2_with (first | (go_at_call 34; with_reducible refine (has_b Hmode.out _).mono ?_; rintro e w9 ⟨rfl, rfl⟩) | (go_at_call 34; with_reducible refine (has_b Hcode.out _).mono ?_; rintro e w9 ⟨rfl, rfl⟩) | (go_at_call 34; with_reducible refine (has_b Hnext.out _).mono ?_; rintro e w9 ⟨rfl, rfl⟩) | (go_at_call 34; with_reducible refine (has_b Hnseq.out _).mono ?_; rintro e w9 ⟨rfl, rfl⟩) | (go_at_call 34; with_reducible refine (has_b Hn.out _).mono ?_; rintro e w9 ⟨rfl, rfl⟩))
    go_ret
    exact ⟨ret_bool (by rw [HY.out, HG.out, Htx.out, Hseq.out, HPL.out, Hmode.out, Hcode.out, Hnext.out, Hnseq.out, Hn.out]; rfl), (stepA (stepA (stepA (stepA (stepA HB3.out _) _) _) _) _)⟩
  have HM9 := Lib.hid (show Blk (((((w3.alloc (.cells #[.int .i64 l4, .int .i64 l5] 71)).alloc (.cells #[.int .i64 l6, .int .i64 l7] 71)).alloc (.cells #[.int .i64 l8, .int .i64 l9] 71)).alloc (.cells #[.int .i64 l10, .int .i64 l11] 71)).alloc (.cells #[.int .i64 l12, .int .i64 l13] 71)) w.heap.size 29 (mc m) from (((((HM3.out.alloc _).alloc _).alloc _).alloc _).alloc _))
  have Hn := Lib.hid hn
  clear hn
  go_wp2_with (first | (go_at_call 34; with_reducible refine (has_b Hmode.out _).mono ?_; rintro e w9 ⟨rfl, rfl⟩) | (go_at_call 34; with_reducible refine (has_b Hcode.out _).mono ?_; rintro e w9 ⟨rfl, rfl⟩) | (go_at_call 34; with_reducible refine (has_b Hnext.out _).mono ?_; rintro e w9 ⟨rfl, rfl⟩) | (go_at_call 34; with_reducible refine (has_b Hnseq.out _).mono ?_; rintro e w9 ⟨rfl, rfl⟩) | (go_at_call 34; with_reducible refine (has_b Hn.out _).mono ?_; rintro e w9 ⟨rfl, rfl⟩) | (refine wpList_load_row_g (by rfl) 29 (.tmp 1) rfl w.heap.size rfl 29 (mc m) (0, 0) _ HM9.out Try.underlying29 rfl HI.out ?_))
  refine (isPath_any m HL.out _).mono ?_
  rintro e w4 ⟨rfl, hb4⟩
  have HB4 := Lib.hid (stepB (stepA (stepA (stepA (stepA (stepA HB3.out _) _) _) _) _) hb4)
  clear hb4 k7 k8 k9 k10 k11 f5 f6 f7 f8 f9 f10 f11 f12 f13 f14 hlw3 hlm3 p1 p2 p3 p4 q1 q2 q3 q4
  go_wp2_with fail
  go_ret
  exact ⟨ret_bool (by rw [HY.out, HG.out, Htx.out, Hseq.out, HPL.out, Hmode.out, Hcode.out, Hnext.out, Hnseq.out, Hn.out]; rfl), HB4.out⟩
end Go.Proofs.Ythdfgdehddmkpaa
