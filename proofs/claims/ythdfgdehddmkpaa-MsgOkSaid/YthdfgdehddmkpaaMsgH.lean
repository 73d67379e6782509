/- The contracts of package msg's Ok and Encode. -/
import Derived.Test.YthdfgdehddmkpaaMsgF
import Derived.Test.YthdfgdehddmkpaaMsgG
namespace Go.Proofs.Ythdfgdehddmkpaa
open Go.RowKit
set_option linter.unusedVariables false
set_option linter.unusedSimpArgs false

theorem sTx_le {k x : Int} (h : inS (sTx k).1 (sTx k).2 x = true) : 0 ≤ x ∧ x ≤ 1048576 := by
  rw [inS_iff] at h; unfold sTx at h; split at h <;> simp at h <;> omega
theorem sSeq_le {k x : Int} (h : inS (sSeq k).1 (sSeq k).2 x = true) : 0 ≤ x ∧ x ≤ 1048576 := by
  rw [inS_iff] at h; unfold sSeq at h; split at h <;> simp at h <;> omega
theorem sMode_le {k x : Int} (h : inS (sMode k).1 (sMode k).2 x = true) : 0 ≤ x ∧ x ≤ 4 := by
  rw [inS_iff] at h; unfold sMode at h; split at h <;> simp at h <;> omega
theorem sCode_le {k x : Int} (h : inS (sCode k).1 (sCode k).2 x = true) : 0 ≤ x ∧ x ≤ 15 := by
  rw [inS_iff] at h; unfold sCode at h
  split at h
  · simp at h; omega
  · split at h <;> simp at h <;> omega
theorem sNext_le {k tx x : Int} (ht : 0 ≤ tx ∧ tx ≤ 1048576) (h : inS (sNext k tx).1 (sNext k tx).2 x = true) : 0 ≤ x ∧ x ≤ 1048576 := by
  rw [inS_iff] at h; unfold sNext wrap64 at h
  split at h
  · simp only at h; omega
  · split at h <;> simp at h <;> omega
theorem sNseq_le {k x : Int} (h : inS (sNseq k).1 (sNseq k).2 x = true) : 0 ≤ x ∧ x ≤ 1048576 := by
  rw [inS_iff] at h; unfold sNseq at h; split at h <;> simp at h <;> omega
theorem sN_le {k x : Int} (h : inS (sN k).1 (sN k).2 x = true) : 0 ≤ x ∧ x ≤ 8 := by
  rw [inS_iff] at h; unfold sN at h; split at h <;> simp at h <;> omega
theorem place_le {b : Bool} {t r : Int} (h : placeB b t r = true) : (0 ≤ t ∧ t ≤ 250) ∧ 0 ≤ r ∧ r ≤ 250 := by
  unfold placeB at h
  split at h
  · unfold resB at h; simp at h; omega
  · simp at h; omega
theorem way_le {m : List Int} (h : goesB m = true) : (0 ≤ fld m 0 ∧ fld m 0 ≤ 11) ∧ (0 ≤ fld m 1 ∧ fld m 1 ≤ 64) ∧ 0 ≤ fld m 2 ∧ fld m 2 ≤ 64 := by
  have hd : downB m = true → (0 ≤ fld m 1 ∧ fld m 1 ≤ 64) ∧ 0 ≤ fld m 2 ∧ fld m 2 ≤ 64 := by
    intro h; unfold downB at h; rw [Bool.and_eq_true, inS_iff] at h; simp at h; omega
  have hu : upB m = true → (0 ≤ fld m 1 ∧ fld m 1 ≤ 64) ∧ 0 ≤ fld m 2 ∧ fld m 2 ≤ 64 := by
    intro h; unfold upB at h; rw [Bool.and_eq_true, inS_iff] at h; simp at h; omega
  unfold goesB wayB at h
  split at h
  · have := hd h; omega
  · split at h
    · have := hu h; omega
    · split at h
      · rw [Bool.or_eq_true] at h
        rcases h with h | h
        · have := hd h; omega
        · have := hu h; omega
      · cases h
theorem path_le {m : List Int} (h : pathB m = true) {i : Nat} (hi : i < 8) : (0 ≤ stTx m i ∧ stTx m i ≤ 1048576) ∧ 0 ≤ stSeq m i ∧ stSeq m i ≤ 1048576 := by
  have h' : PathTill m 8 := of_decide_eq_true h
  have := h' i hi
  unfold okAt at this
  split at this
  · unfold isStepB at this
    simp only [Bool.and_eq_true, inS_iff] at this
    omega
  · simp at this; omega
theorem allFit_of {w : Nat} {l : List Int} (h : ∀ x ∈ l, 0 ≤ x ∧ x < pw w) : AllFit w l := fun x hx => fitsB_iff.2 (h x hx)
theorem pw1 : pw 1 = 256 := by decide
theorem pw4 : pw 4 = 4294967296 := by decide
/-- What a message that may be is made of. -/
theorem may_parts {m : List Int} (h : mayB m = true) : ((0 ≤ fld m 0 ∧ fld m 0 ≤ 11) ∧ (0 ≤ fld m 1 ∧ fld m 1 ≤ 64) ∧ 0 ≤ fld m 2 ∧ fld m 2 ≤ 64) ∧ (0 ≤ fld m 3 ∧ fld m 3 ≤ 1048576) ∧ (0 ≤ fld m 4 ∧ fld m 4 ≤ 1048576) ∧ ((0 ≤ fld m 5 ∧ fld m 5 ≤ 250) ∧ 0 ≤ fld m 6 ∧ fld m 6 ≤ 250) ∧ (0 ≤ fld m 7 ∧ fld m 7 ≤ 4) ∧ (0 ≤ fld m 8 ∧ fld m 8 ≤ 15) ∧
    (0 ≤ fld m 9 ∧ fld m 9 ≤ 1048576) ∧ (0 ≤ fld m 10 ∧ fld m 10 ≤ 1048576) ∧ (0 ≤ fld m 11 ∧ fld m 11 ≤ 8) ∧ ∀ i, i < 8 → (0 ≤ stTx m i ∧ stTx m i ≤ 1048576) ∧ 0 ≤ stSeq m i ∧ stSeq m i ≤ 1048576 := by
  unfold mayB at h
  simp only [Bool.and_eq_true] at h
  obtain ⟨h1, h2, h3, h4, h5, h6, h7, h8, h9, h10⟩ := h
  exact ⟨way_le h1, sTx_le h2, sSeq_le h3, place_le h4, sMode_le h5, sCode_le h6, sNext_le (sTx_le h2) h7, sNseq_le h8, sN_le h9, fun i hi => path_le h10 hi⟩
theorem may_fits {m : List Int} (h : mayB m = true) : FitsM m := by
  obtain ⟨⟨h0, h1, h2⟩, h3, h4, ⟨h5, h6⟩, h7, h8, h9, h10, h11, hp⟩ := may_parts h
  refine ⟨allFit_of ?_, allFit_of ?_, allFit_of ?_, allFit_of ?_, allFit_of ?_, fun i hi => allFit_of ?_⟩
  all_goals
    intro x hx
    simp only [List.mem_cons, List.mem_nil_iff, or_false] at hx
    try have hpi := hp i hi
    rw [show pw _ = _ from by first | exact pw1 | exact pw4]
    omega

set_option maxRecDepth 100000 in
set_option maxHeartbeats 1000000 in
theorem ok_any (m : List Int) (hl : m.length = 28) (w : World) :
    Calls Try.prog 12 #[.agg (mc m)] w fun e w' => e = .returned (if mayB m then .nilIface else errno 5) ∧ Below w.heap.size w w' := by
  have HL := Lib.hid hl
  have HI := Lib.hid (mc_info hl)
  clear hl
  cases hm : mayB m
  all_goals
    have HM := Lib.hid hm
    clear hm
    go_enter Try.func12, Try.ntmps12
    go_wp2_with (refine wpList_load_row rfl 29 (.tmp 1) rfl w.heap.size rfl 29 (mc m) (0, 0) _ (Blk.new _ _ _) Try.underlying29 rfl HI.out ?_)
    refine (mayBe_msg m HL.out _).mono ?_
    rintro e w1 ⟨rfl, hb1⟩
    rw [HM.out]
    have HB1 := Lib.hid (stepB (stepA (Below.refl w.heap.size w) _) hb1)
    clear hb1
    go_wp2_with fail
    go_ret
    exact ⟨rfl, HB1.out⟩

set_option maxRecDepth 100000 in
set_option maxHeartbeats 1000000 in
theorem encode_ok (m : List Int) (hl : m.length = 28) (hm : mayB m = true) (w : World) :
    Calls Try.prog 9 #[.agg (mc m)] w fun e w' => ∃ A c, e = .returned (.tuple #[.slice A 88 c, .nilIface]) ∧ w'.ownsRow w.heap.size 5 1 (.slice A 88 c) 88 (u8s (encM m)) ∧ Below w.heap.size w w' := by
  have HL := Lib.hid hl
  have HI := Lib.hid (mc_info hl)
  have HF := Lib.hid (may_fits hm)
  have HM := Lib.hid hm
  have hn := fun W => run_eql_nil_nil (P := Try.prog) W 33 Try.underlying33
  clear hl hm
  go_enter Try.func9, Try.ntmps9
  go_wp2_with (refine wpList_load_row rfl 29 (.tmp 1) rfl w.heap.size rfl 29 (mc m) (0, 0) _ (Blk.new _ _ _) Try.underlying29 rfl HI.out ?_)
  refine (ok_any m HL.out _).mono ?_
  rintro e w1 ⟨rfl, hb1⟩
  rw [HM.out, if_pos rfl]
  have HB1 := Lib.hid (stepB (stepA (Below.refl w.heap.size w) _) hb1)
  have HM1 := Lib.hid ((Blk.new w 29 (mc m)).here hb1)
  clear hb1
  go_wp2_with (refine wpList_load_row rfl 29 (.tmp 1) rfl w.heap.size rfl 29 (mc m) (0, 0) _ HM1.out Try.underlying29 rfl HI.out ?_)
  refine (write_any m HL.out HF.out _).mono ?_
  rintro e w2 ⟨A, c, rfl, hown, hb2⟩
  have HO2 := Lib.hid (own_base hown HB1.out.size)
  have HB2 := Lib.hid (stepB HB1.out hb2)
  clear hown hb2
  go_wp2_with fail
  go_ret2
  exact ⟨A, c, rfl, HO2.out, HB2.out⟩
set_option maxRecDepth 100000 in
set_option maxHeartbeats 1000000 in
theorem encode_bad (m : List Int) (hl : m.length = 28) (hm : mayB m = false) (w : World) :
    Calls Try.prog 9 #[.agg (mc m)] w fun e w' => e = .returned (.tuple #[.slice none 0 0, errno 5]) ∧ Below w.heap.size w w' := by
  have HL := Lib.hid hl
  have HI := Lib.hid (mc_info hl)
  have HM := Lib.hid hm
  have hn := fun W => run_eql_held_nil (P := Try.prog) W 33 55 (.int .i64 5) Try.underlying33
  clear hl hm
  go_enter Try.func9, Try.ntmps9
  go_wp2_with (refine wpList_load_row rfl 29 (.tmp 1) rfl w.heap.size rfl 29 (mc m) (0, 0) _ (Blk.new _ _ _) Try.underlying29 rfl HI.out ?_)
  refine (ok_any m HL.out _).mono ?_
  rintro e w1 ⟨rfl, hb1⟩
  rw [HM.out, if_neg (by decide)]
  have HB1 := Lib.hid (stepB (stepA (Below.refl w.heap.size w) _) hb1)
  clear hb1
  go_wp2_with fail
  go_ret2
  exact ⟨rfl, HB1.out⟩

/-- The document's example. -/
def exM : List Int := [4, 0, 2, 7, 0, 0, 0, 0, 0, 0, 0, 0, 0, 0, 0, 0, 0, 0, 0, 0, 0, 0, 0, 0, 0, 0, 0, 0]
theorem exM_may : mayB exM = true := by decide +kernel
theorem exM_bytes : encM exM = [4, 0, 2, 0, 0, 0, 7] ++ List.replicate 81 0 := by decide +kernel
end Go.Proofs.Ythdfgdehddmkpaa
