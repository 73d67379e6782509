/- The contract of package msg's isPath. -/
import Derived.Test.YthdfgdehddmkpaaMsgC
namespace Go.Proofs.Ythdfgdehddmkpaa
open Go.RowKit
set_option linter.unusedVariables false
set_option linter.unusedSimpArgs false

/-- The steps' part of a message. -/
def pathL (m : List Int) : List Int := m.drop 12
theorem pathL_step {m : List Int} (hl : m.length = 28) {i : Nat} (hi : i < 8) : ((pathL m).drop (i * 2)).take 2 = [stTx m i, stSeq m i] := by
  unfold pathL stTx stSeq
  rw [List.drop_drop]
  have h1 : 12 + i * 2 < m.length := by omega
  have h2 : 12 + i * 2 + 1 < m.length := by omega
  rw [List.drop_eq_getElem_cons h1, List.drop_eq_getElem_cons h2, List.take_succ_cons, List.take_succ_cons, List.take_zero]
  simp [fld, List.getD, h1, h2]
theorem pathL_size {m : List Int} (hl : m.length = 28) : (Try.prog.info? 27).map (·.size) = some (ints (pathL m)).length := by
  rw [ints_length, show (pathL m).length = 16 by simp [pathL, hl]]; kernel_rfl
theorem mc_info {m : List Int} (hl : m.length = 28) : (Try.prog.info? 29).map (·.size) = some (mc m).size := by
  rw [mc_size hl]; kernel_rfl
theorem index_path {m : List Int} (hl : m.length = 28) {i : Nat} (hi : i < 8) (w : World) :
    (Instr.index 27 (.agg (ints (pathL m)).toArray) (.int .i64 (i : Int))).run Try.prog w = .ok (.agg #[.int .i64 (stTx m i), .int .i64 (stSeq m i)]) w := by
  rw [index_flat (len := 8) (k := 2) (by kernel_rfl) flat_step hi (by simp [pathL, hl]) w, pathL_step hl hi]
  rfl
theorem mc_path {w : World} {g : Nat} {m : List Int} (hl : m.length = 28) (h : Blk w g 29 (mc m)) :
    ∀ j v, (ints (pathL m))[j]? = some v → w.cell? ((⟨g, 12, none⟩ : Addr).add j) = some v := by
  have := h.cells_at 12 16 (by simp [hl])
  rw [show ((ints m).drop 12).take 16 = ints (pathL m) by unfold ints pathL; rw [← List.map_drop]; exact List.take_of_length_le (by simp [hl])] at this
  exact this

/-- What holds at the head of isPath's loop. -/
structure PathRel (w : World) (m : List Int) (k : Nat) (W : World) : Prop where
  till : PathTill m k
  msg : Blk W w.heap.size 29 (mc m)
  bel : Below w.heap.size w W

set_option maxRecDepth 100000 in
set_option maxHeartbeats 4000000 in
theorem isPath_any (m : List Int) (hl : m.length = 28) (w : World) :
    Calls Try.prog 36 #[.agg (mc m)] w fun e w' => e = .returned (.bool (pathB m)) ∧ Below w.heap.size w w' := by
  have HL := Lib.hid hl
  have HP := Lib.hid (mc_path hl (Blk.new w 29 (mc m)))
  have HZ := Lib.hid (pathL_size hl)
  clear hl
  go_enter Try.func36, Try.ntmps36
  go_wp2_with (refine wpList_load_cells rfl 27 _ rfl ⟨w.heap.size, 12, none⟩ rfl (ints (pathL m)) _ HP.out Try.underlying27 rfl HZ.out ?_)
  go_loopw [7] (fun k W => ∃ j : Nat, j ≤ 8 ∧ k = .int .i64 j ∧ PathRel w m j W) (fun k _ => 8 - (intOf k).toNat)
  case atStart => exact ⟨0, by omega, rfl, PathTill.zero _, Blk.new _ _ _, Below.alloc (Below.refl _ _) (Nat.le_refl _) _⟩
  case round =>
    obtain ⟨k, hk, rfl, htl, hmsg, hbel⟩ := hrel
    rename World => W
    have HT := Lib.hid htl
    have HM := Lib.hid hmsg
    have HB := Lib.hid hbel
    clear htl hmsg hbel
    by_cases hlt : k < 8
    · have hix := fun w => index_path HL.out hlt w
      have k0 : W.cell? ⟨w.heap.size, 11, none⟩ = some (.int .i64 (fld m 11)) := (HM.out.cell _).trans (mc_get HL.out (by omega))
      have hlw : w.heap.size < W.heap.size := HM.out.lt
      have hgs := guard_step
      have hne := fun w => neq_step (stTx m k) (stSeq m k) 0 0 w
      cases hc : decide ((k : Int) < fld m 11)
      · have HO := Lib.hid (show okAt m k = decide (stTx m k = 0 ∧ stSeq m k = 0) by unfold okAt; rw [if_neg (by simpa using hc)])
        have hc2 : decide (fld m 11 ≤ (k : Int)) = true := by simp at hc ⊢; omega
        generalize fld m 11 = N at k0 hc hc2
        cases hz : decide (stTx m k = 0 ∧ stSeq m k = 0)
        · have HZ2 := Lib.hid hz
          rw [hz] at hne
          clear hz
          go_wp2_with fail
          go_ret
          refine ⟨ret_bool ?_, ?_⟩
          · rw [pathB_no hlt (by rw [HO.out, HZ2.out])]
          · exact HB.out.alloc (by omega) _
        · have HZ2 := Lib.hid hz
          rw [hz] at hne
          clear hz
          go_wp2_with fail
          go_roundw
          case rel => exact ⟨k + 1, by omega, by go_num, HT.out.succ (by rw [HO.out, HZ2.out]), HM.out.alloc _, HB.out.alloc (by omega) _⟩
          case measure => simp [intOf]; omega
      · have HO := Lib.hid (show okAt m k = isStepB m k by unfold okAt; rw [if_pos (by simpa using hc)])
        have hc2 : decide (fld m 11 ≤ (k : Int)) = false := by simp at hc ⊢; omega
        have HI := Lib.hid (mc_info HL.out)
        have HN := Lib.hid (mc_get HL.out (i := 11) (by omega))
        generalize fld m 11 = N at k0 hc hc2 HN
        cases hz : isStepB m k
        · have HZ2 := Lib.hid hz
          clear hz
          go_wp2_with (first
            | (refine wpList_load_row_g (by rfl) 29 (.tmp 1) rfl w.heap.size rfl 29 (mc m) (0, 0) _ (HM.out.alloc _) Try.underlying29 rfl HI.out ?_)
            | (go_at_call 46
               refine (isStep_any m HL.out k hlt _).mono ?_
               rintro e w5 ⟨rfl, hb5⟩
               have HB5 := Lib.hid (stepB (HB.out.alloc (by omega) _) hb5)
               have HM5 := Lib.hid ((HM.out.alloc _).here hb5)
               have k5 := (((HM.out.alloc _).here hb5).cell 11).trans HN.out
               rw [HZ2.out]
               clear hb5))
          go_ret
          exact ⟨ret_bool (by rw [pathB_no hlt (by rw [HO.out, HZ2.out])]), HB5.out⟩
        · have HZ2 := Lib.hid hz
          clear hz
          go_wp2_with (first
            | (refine wpList_load_row_g (by rfl) 29 (.tmp 1) rfl w.heap.size rfl 29 (mc m) (0, 0) _ (HM.out.alloc _) Try.underlying29 rfl HI.out ?_)
            | (go_at_call 46
               refine (isStep_any m HL.out k hlt _).mono ?_
               rintro e w5 ⟨rfl, hb5⟩
               have HB5 := Lib.hid (stepB (HB.out.alloc (by omega) _) hb5)
               have HM5 := Lib.hid ((HM.out.alloc _).here hb5)
               have k5 := (((HM.out.alloc _).here hb5).cell 11).trans HN.out
               rw [HZ2.out]
               clear hb5))
          go_roundw
          case rel => exact ⟨k + 1, by omega, by go_num, HT.out.succ (by rw [HO.out, HZ2.out]), HM5.out, HB5.out⟩
          case measure => simp [intOf]; omega
    · obtain rfl : k = 8 := by omega
      go_wp2_with fail
      go_ret
      exact ⟨ret_bool (by rw [pathB_yes HT.out]), HB.out⟩
end Go.Proofs.Ythdfgdehddmkpaa
