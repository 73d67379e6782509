/- The document's Ok, of whatever message. -/
import Derived.Test.YthdfgdehddmkpaaRefK
import Derived.Test.YthdfgdehddmkpaaRefEF
import Derived.Test.YthdfgdehddmkpaaRefKAS
import Derived.Test.YthdfgdehddmkpaaRefKA1P
import Derived.Test.YthdfgdehddmkpaaRefKA1M
import Derived.Test.YthdfgdehddmkpaaRefKA1Y
import Derived.Test.YthdfgdehddmkpaaRefKA2P
import Derived.Test.YthdfgdehddmkpaaRefKA2M
import Derived.Test.YthdfgdehddmkpaaRefKA2Y
import Derived.Test.YthdfgdehddmkpaaRefKB
import Derived.Test.YthdfgdehddmkpaaRefKC
import Derived.Test.YthdfgdehddmkpaaRefKD1
import Derived.Test.YthdfgdehddmkpaaRefKD2
import Derived.Test.YthdfgdehddmkpaaRefKE
import Derived.Test.YthdfgdehddmkpaaRefKF
import Derived.Test.YthdfgdehddmkpaaRefKG
namespace Go.Proofs.Ythdfgdehddmkpaa
open Go.RowKit
set_option linter.unusedVariables false
set_option linter.unusedSimpArgs false

theorem refOk_1 (m : List Int) (hl : m.length = 28) (hk : fld m 0 = 1) (hg : goesB m = true) (w : World) :
    Calls Try.prog 10 #[.agg (mc m)] w fun e w' => e = .returned (.bool (mayB m)) ∧ Below w.heap.size w w' := by
  cases htx : inS 1 1048576 (fld m 3)
  · exact refOk_1t m hl hk hg htx w
  cases hsq : inS 1 1048576 (fld m 4)
  · exact refOk_1s m hl hk hg htx hsq w
  cases hpl : resB (fld m 5) (fld m 6)
  · exact refOk_1p m hl hk hg htx hsq hpl w
  rcases (show fld m 7 < 1 ∨ 4 < fld m 7 ∨ (1 ≤ fld m 7 ∧ fld m 7 ≤ 4) by omega) with h8 | h8 | h8
  · exact refOk_1l m hl hk hg htx hsq hpl h8 w
  · exact refOk_1h m hl hk hg htx hsq hpl h8 w
  · exact refOk_1y m hl hk hg htx hsq hpl h8 w
theorem refOk_2 (m : List Int) (hl : m.length = 28) (hk : fld m 0 = 2) (hg : goesB m = true) (w : World) :
    Calls Try.prog 10 #[.agg (mc m)] w fun e w' => e = .returned (.bool (mayB m)) ∧ Below w.heap.size w w' := by
  cases htx : inS 1 1048576 (fld m 3)
  · exact refOk_2t m hl hk hg htx w
  cases hsq : inS 1 1048576 (fld m 4)
  · exact refOk_2s m hl hk hg htx hsq w
  cases hpl : resB (fld m 5) (fld m 6)
  · exact refOk_2p m hl hk hg htx hsq hpl w
  rcases (show fld m 7 < 1 ∨ 4 < fld m 7 ∨ (1 ≤ fld m 7 ∧ fld m 7 ≤ 4) by omega) with h8 | h8 | h8
  · exact refOk_2l m hl hk hg htx hsq hpl h8 w
  · exact refOk_2h m hl hk hg htx hsq hpl h8 w
  · exact refOk_2y m hl hk hg htx hsq hpl h8 w
theorem refOk_any (m : List Int) (hl : m.length = 28) (w : World) :
    Calls Try.prog 10 #[.agg (mc m)] w fun e w' => e = .returned (.bool (mayB m)) ∧ Below w.heap.size w w' := by
  cases hg : goesB m
  · by_cases hk : 1 ≤ fld m 0 ∧ fld m 0 ≤ 11
    · exact refOk_stray m hl hg hk w
    · exact refOk_num m hl hg (by omega) w
  · rcases kind_cases (fld m 0) with h | h | h | h | h | h | h | h | h | h | h | h
    · exact refOk_1 m hl h hg w
    · exact refOk_2 m hl h hg w
    · exact refOk_3 m hl h hg w
    · exact refOk_4 m hl h hg w
    · exact refOk_5 m hl h hg w
    · exact refOk_6 m hl h hg w
    · exact refOk_7 m hl h hg w
    · exact refOk_8 m hl h hg w
    · exact refOk_9 m hl h hg w
    · exact refOk_10 m hl h hg w
    · rcases way_both h hg with hw | hw
      · exact refOk_11o m hl h hg hw w
      · exact refOk_11b m hl h hg hw w
    · unfold goesB at hg
      rw [wayB_out h] at hg
      cases hg

set_option maxRecDepth 100000 in
set_option maxHeartbeats 4000000 in
theorem msgOk_walk (m : List Int) (hl : m.length = 28) (w : World) :
    Calls Try.prog 3 #[.agg (mc m)] w fun e w' => e = .returned (.bool true) ∧ Below w.heap.size w w' := by
  have HL := Lib.hid hl
  have HI := Lib.hid (mc_info hl)
  have hn0 := fun W => run_eql_nil_nil (P := Try.prog) W 33 Try.underlying33
  clear hl
  cases hm : mayB m
  · have HM := Lib.hid hm
    clear hm
    go_enter Try.func3, Try.ntmps3
    go_wp2_with fail
    refine (msgAlive _).mono ?_
    rintro e w1 ⟨rfl, hb1⟩
    have B1 := Lib.hid (stepB (stepA (Below.refl w.heap.size w) (.cells (mc m) 29)) hb1)
    have M1 := Lib.hid ((Blk.new w 29 (mc m)).here hb1)
    clear hb1
    go_wp2_with (refine wpList_load_row rfl 29 (.tmp 1) rfl w.heap.size rfl 29 (mc m) (0, 0) _ M1.out Try.underlying29 rfl HI.out ?_)
    refine (encode_bad m HL.out HM.out _).mono ?_
    rintro e w2 ⟨rfl, hb2⟩
    have B2 := Lib.hid (stepB B1.out hb2)
    have M2 := Lib.hid (M1.out.here hb2)
    clear hb2
    go_wp2_with (refine wpList_load_row rfl 29 (.tmp 1) rfl w.heap.size rfl 29 (mc m) (0, 0) _ M2.out Try.underlying29 rfl HI.out ?_)
    refine (refOk_any m HL.out _).mono ?_
    rintro e w3 ⟨rfl, hb3⟩
    rw [HM.out]
    have B3 := Lib.hid (stepB B2.out hb3)
    have M3 := Lib.hid (M2.out.here hb3)
    clear hb3
    go_wp2_with (refine wpList_load_row rfl 29 (.tmp 1) rfl w.heap.size rfl 29 (mc m) (0, 0) _ M3.out Try.underlying29 rfl HI.out ?_)
    refine (ok_any m HL.out _).mono ?_
    rintro e w4 ⟨rfl, hb4⟩
    rw [HM.out, if_neg (by decide)]
    have B4 := Lib.hid (stepB B3.out hb4)
    clear hb4
    go_wp2_with (go_at_call 11; refine (code_errno 5 (by decide) _).mono ?_; rintro e w5 ⟨rfl, rfl⟩)
    go_ret
    exact ⟨rfl, B4.out⟩
  · have HM := Lib.hid hm
    clear hm
    go_enter Try.func3, Try.ntmps3
    go_wp2_with fail
    refine (msgAlive _).mono ?_
    rintro e w1 ⟨rfl, hb1⟩
    have B1 := Lib.hid (stepB (stepA (Below.refl w.heap.size w) (.cells (mc m) 29)) hb1)
    have M1 := Lib.hid ((Blk.new w 29 (mc m)).here hb1)
    clear hb1
    go_wp2_with (refine wpList_load_row rfl 29 (.tmp 1) rfl w.heap.size rfl 29 (mc m) (0, 0) _ M1.out Try.underlying29 rfl HI.out ?_)
    refine (encode_ok m HL.out HM.out _).mono ?_
    rintro e w2 ⟨A2, c2, rfl, hown2, hb2⟩
    have B2 := Lib.hid (stepB B1.out hb2)
    have M2 := Lib.hid (M1.out.here hb2)
    have R2 := Lib.hid (Reads.of_own hown2)
    clear hown2 hb2
    go_wp2_with (refine wpList_load_row rfl 29 (.tmp 1) rfl w.heap.size rfl 29 (mc m) (0, 0) _ M2.out Try.underlying29 rfl HI.out ?_)
    refine (refOk_any m HL.out _).mono ?_
    rintro e w3 ⟨rfl, hb3⟩
    rw [HM.out]
    have B3 := Lib.hid (stepB B2.out hb3)
    have M3 := Lib.hid (M2.out.here hb3)
    have R3 := Lib.hid (R2.out.step hb3)
    clear hb3
    go_wp2_with (refine wpList_load_row rfl 29 (.tmp 1) rfl w.heap.size rfl 29 (mc m) (0, 0) _ M3.out Try.underlying29 rfl HI.out ?_)
    refine (ok_any m HL.out _).mono ?_
    rintro e w4 ⟨rfl, hb4⟩
    rw [HM.out, if_pos rfl]
    have B4 := Lib.hid (stepB B3.out hb4)
    have M4 := Lib.hid (M3.out.here hb4)
    have R4 := Lib.hid (R3.out.step hb4)
    clear hb4
    go_wp2_with (refine wpList_load_row_g (by rfl) 29 (.tmp 1) rfl w.heap.size rfl 29 (mc m) (0, 0) _ M4.out Try.underlying29 rfl HI.out ?_)
    refine (encodeR_any m HL.out HM.out _).mono ?_
    rintro e w5 ⟨A5, c5, rfl, hR5, hb5⟩
    have B5 := Lib.hid (stepB B4.out hb5)
    have R5 := Lib.hid hR5
    have R6 := Lib.hid (R4.out.step hb5)
    clear hb5 hR5
    go_wp2_with fail
    refine (same_yes A2 A5 88 c2 c5 _ _ (encM m) _ (encM_length HL.out) (by omega) R6.out R5.out).mono ?_
    rintro e w7 ⟨rfl, q, rfl⟩
    go_wp2_with fail
    go_ret
    exact ⟨rfl, below_drewN B5.out _⟩
end Go.Proofs.Ythdfgdehddmkpaa
