/- The document's Ok: a probe that goes its way. -/
import Derived.Test.YthfhhapefjideaaGreatRefKM
import Derived.Deep.QuietTactic
import Derived.BigQuiet
namespace Go.Proofs.YthfhhapefjideaaGreat
open Go.RowKit
set_option linter.unusedVariables false
set_option linter.unusedSimpArgs false

set_option maxRecDepth 100000 in
set_option maxHeartbeats 8000000 in
theorem refOk_11b (m : List Int) (hl : m.length = 28) (hk : fld m 0 = 11) (hg : goesB m = true) (hw : (1 ≤ fld m 1 ∧ fld m 1 ≤ 64) ∧ fld m 2 = 0) (w : World) :
    Calls Tryz.prog 61 #[.agg (mc m)] w fun e w' => e = .returned (.bool (mayB m)) ∧ Below w.heap.size w w' := by
  have HL := Lib.hid hl
  have HI := Lib.hid (mc_info hl)
  have HK := Lib.hid hk
  have HG := Lib.hid hg
  have hgm := guard_msg
  have c0 := mc_get hl (i := 0) (by omega)
  have c1 := mc_get hl (i := 1) (by omega)
  have c2 := mc_get hl (i := 2) (by omega)
  rw [hk] at c0
  obtain ⟨⟨ht1, ht2⟩, hf⟩ := hw
  rw [hf] at c2
  have HF := Lib.hid hf
  have a1 : decide (1 ≤ fld m 1) = true := by simpa using ht1
  have a2 : decide (fld m 1 ≤ 64) = true := by simpa using ht2
  have a3 : (fld m 1 == 0) = false := by simp; omega
  clear hf ht1 ht2 hl hk hg
  have hrun : ∀ w, (Instr.index 9 (.string ⟨#[111, 98, 98, 111, 98, 111, 98, 111, 98, 98, 101]⟩) (.int .i64 10)).run Tryz.prog w = .ok (.int .u8 101) w := fun w => ways_run (k := 11) (by omega) (by omega) w
  rcases (show fld m 11 < 1 ∨ 8 < fld m 11 ∨ (1 ≤ fld m 11 ∧ fld m 11 ≤ 8) by omega) with hn | hn | hn
  · have HMAY := Lib.hid (may_no (m := m) fun h => by have h' := may_n11 h HK.out; rw [inS_iff] at h'; omega)
    have b1 : decide (fld m 11 < 1) = true := by simpa using hn
    clear hn
    go_enter Tryz.func61, Tryz.ntmps61
    have M0 := Lib.hid ((Blk.new w 46 (mc m)).alloc (.cells (mc zM) 46))
    have N0 := Lib.hid (Blk.new_at (w := w.alloc (.cells (mc m) 46)) (n := w.heap.size + 1) (by simp) 46 (mc zM))
    have B0 := Lib.hid (Below.alloc (Below.alloc (Below.refl w.heap.size w) (Nat.le_refl _) (.cells (mc m) 46)) (by simp) (.cells (mc zM) 46))
    rw [mc_zero] at M0 N0 B0
    go_wp2_with (first
      | (refine wpList_store_mid rfl 46 (.tmp 7) (.tmp 77) rfl (w.heap.size + 1) 0 (mc [11, fld m 1, 0, 0, 0, 0, 0, 0, 0, 0, 0, 0, 0, 0, 0, 0, 0, 0, 0, 0, 0, 0, 0, 0, 0, 0, 0, 0]) rfl rfl (mc_there zM_length rfl N0.out) (mc_info rfl) (ints_oneCell _) ?_
         have HH := Lib.hid (mc_put (q := [11, fld m 1, 0, 0, 0, 0, 0, 0, 0, 0, 0, 0, 0, 0, 0, 0, 0, 0, 0, 0, 0, 0, 0, 0, 0, 0, 0, 0]) zM_length rfl N0.out)
         have HM := Lib.hid (M0.out.farCells (b := w.heap.size + 1) (by omega) (mc [11, fld m 1, 0, 0, 0, 0, 0, 0, 0, 0, 0, 0, 0, 0, 0, 0, 0, 0, 0, 0, 0, 0, 0, 0, 0, 0, 0, 0]).toList 0)
         have HB := Lib.hid (Below.setCells (B := w.heap.size) (b := w.heap.size + 1) (Nat.le_succ _) (mc [11, fld m 1, 0, 0, 0, 0, 0, 0, 0, 0, 0, 0, 0, 0, 0, 0, 0, 0, 0, 0, 0, 0, 0, 0, 0, 0, 0, 0]).toList 0 _ B0.out)
         generalize World.setCells _ _ _ _ = V at HH HM HB ⊢
         have hlV := HM.out.lt
         have k0 := (HM.out.cell 0).trans (mc_get HL.out (i := 0) (by omega))
         have k11 := (HM.out.cell 11).trans (mc_get HL.out (i := 11) (by omega))
         rw [HK.out] at k0
         have g11 := HH.out.cell 11
         have z11 := HH.out.frozen 11
         have HP := Lib.hid (mc_path HL.out (HM.out.far (p := ⟨w.heap.size + 1, 11, none⟩) (by simp) (.int .i64 (fld m 11))))
         have HT := Lib.hid (fun (n : Nat) (hn : 12 + n ≤ 28) => mc_there_at (n := n) (HH.out.set_ 11 (.int .i64 (fld m 11))) hn))
      | (refine wpList_load_cells rfl 44 (.tmp 84) rfl ⟨w.heap.size, 12, none⟩ rfl (ints (pathL m)) _ HP.out Tryz.underlying44 rfl (pathL_size HL.out) ?_)
      | (refine wpList_store_mid rfl 44 (.tmp 86) (.tmp 85) rfl (w.heap.size + 1) 12 (ints (pathL m)).toArray rfl rfl (HT.out _ (pathL_cells HL.out)) (pathL_info HL.out) (ints_oneCell _) ?_
         have HH1 := Lib.hid (show Blk ((V.setCell ⟨w.heap.size + 1, 11, none⟩ (.int .i64 (fld m 11))).setCells (w.heap.size + 1) 12 (ints (pathL m)).toArray.toList) (w.heap.size + 1) 46 (mc [11, fld m 1, 0, 0, 0, 0, 0, 0, 0, 0, 0, fld m 11, fld m 12, fld m 13, fld m 14, fld m 15, fld m 16, fld m 17, fld m 18, fld m 19, fld m 20, fld m 21, fld m 22, fld m 23, fld m 24, fld m 25, fld m 26, fld m 27]) from mc_splice (q := [11, fld m 1, 0, 0, 0, 0, 0, 0, 0, 0, 0, 0, 0, 0, 0, 0, 0, 0, 0, 0, 0, 0, 0, 0, 0, 0, 0, 0]) (x := fld m 11) HL.out (HH.out.set_ 11 (.int .i64 (fld m 11))))
         have HM1 := Lib.hid ((HM.out.far (p := ⟨w.heap.size + 1, 11, none⟩) (by simp) (.int .i64 (fld m 11))).farCells (b := w.heap.size + 1) (by omega) (ints (pathL m)).toArray.toList 12)
         have HB1 := Lib.hid (Below.setCells (B := w.heap.size) (b := w.heap.size + 1) (Nat.le_succ _) (ints (pathL m)).toArray.toList 12 _ (HB.out.setCell (p := ⟨w.heap.size + 1, 11, none⟩) (by simp) (.int .i64 (fld m 11))))
         generalize World.setCells _ _ _ _ = U at HH1 HM1 HB1 ⊢
         clear k0 k11 g11 z11 hlV
         have k9 := (HM1.out.cell 9).trans (mc_get HL.out (i := 9) (by omega))
         have k10 := (HM1.out.cell 10).trans (mc_get HL.out (i := 10) (by omega))
         have k11 := (HM1.out.cell 11).trans (mc_get HL.out (i := 11) (by omega))
         have g9 := HH1.out.cell 9
         have z9 := HH1.out.frozen 9
         have g10 := HH1.out.cell 10
         have z10 := HH1.out.frozen 10
         have hlU := HM1.out.lt
         have FEND := Lib.hid (show Blk (World.setCell (World.setCell U ⟨w.heap.size + 1, 9, none⟩ (.int .i64 (fld m 9))) ⟨w.heap.size + 1, 10, none⟩ (.int .i64 (fld m 10))) w.heap.size 46 (mc m) from blk_fars (b := w.heap.size + 1) (by omega) [(9, fld m 9), (10, fld m 10)] U HM1.out)
         have HEND := Lib.hid (show Blk (World.setCell (World.setCell U ⟨w.heap.size + 1, 9, none⟩ (.int .i64 (fld m 9))) ⟨w.heap.size + 1, 10, none⟩ (.int .i64 (fld m 10))) (w.heap.size + 1) 46 (mc [11, fld m 1, 0, 0, 0, 0, 0, 0, 0, fld m 9, fld m 10, fld m 11, fld m 12, fld m 13, fld m 14, fld m 15, fld m 16, fld m 17, fld m 18, fld m 19, fld m 20, fld m 21, fld m 22, fld m 23, fld m 24, fld m 25, fld m 26, fld m 27]) from blk_sets [(9, fld m 9), (10, fld m 10)] U [11, fld m 1, 0, 0, 0, 0, 0, 0, 0, 0, 0, fld m 11, fld m 12, fld m 13, fld m 14, fld m 15, fld m 16, fld m 17, fld m 18, fld m 19, fld m 20, fld m 21, fld m 22, fld m 23, fld m 24, fld m 25, fld m 26, fld m 27] HH1.out)
         have BEND := Lib.hid (show Below w.heap.size w (World.setCell (World.setCell U ⟨w.heap.size + 1, 9, none⟩ (.int .i64 (fld m 9))) ⟨w.heap.size + 1, 10, none⟩ (.int .i64 (fld m 10))) from below_sets (Nat.le_succ _) [(9, fld m 9), (10, fld m 10)] U HB1.out)))
    go_ret
    exact ⟨ret_bool HMAY.out.symm, BEND.out⟩
  · have HMAY := Lib.hid (may_no (m := m) fun h => by have h' := may_n11 h HK.out; rw [inS_iff] at h'; omega)
    have b1 : decide (fld m 11 < 1) = false := by simp; omega
    have b2 : decide (8 < fld m 11) = true := by simpa using hn
    clear hn
    go_enter Tryz.func61, Tryz.ntmps61
    have M0 := Lib.hid ((Blk.new w 46 (mc m)).alloc (.cells (mc zM) 46))
    have N0 := Lib.hid (Blk.new_at (w := w.alloc (.cells (mc m) 46)) (n := w.heap.size + 1) (by simp) 46 (mc zM))
    have B0 := Lib.hid (Below.alloc (Below.alloc (Below.refl w.heap.size w) (Nat.le_refl _) (.cells (mc m) 46)) (by simp) (.cells (mc zM) 46))
    rw [mc_zero] at M0 N0 B0
    go_wp2_with (first
      | (refine wpList_store_mid rfl 46 (.tmp 7) (.tmp 77) rfl (w.heap.size + 1) 0 (mc [11, fld m 1, 0, 0, 0, 0, 0, 0, 0, 0, 0, 0, 0, 0, 0, 0, 0, 0, 0, 0, 0, 0, 0, 0, 0, 0, 0, 0]) rfl rfl (mc_there zM_length rfl N0.out) (mc_info rfl) (ints_oneCell _) ?_
         have HH := Lib.hid (mc_put (q := [11, fld m 1, 0, 0, 0, 0, 0, 0, 0, 0, 0, 0, 0, 0, 0, 0, 0, 0, 0, 0, 0, 0, 0, 0, 0, 0, 0, 0]) zM_length rfl N0.out)
         have HM := Lib.hid (M0.out.farCells (b := w.heap.size + 1) (by omega) (mc [11, fld m 1, 0, 0, 0, 0, 0, 0, 0, 0, 0, 0, 0, 0, 0, 0, 0, 0, 0, 0, 0, 0, 0, 0, 0, 0, 0, 0]).toList 0)
         have HB := Lib.hid (Below.setCells (B := w.heap.size) (b := w.heap.size + 1) (Nat.le_succ _) (mc [11, fld m 1, 0, 0, 0, 0, 0, 0, 0, 0, 0, 0, 0, 0, 0, 0, 0, 0, 0, 0, 0, 0, 0, 0, 0, 0, 0, 0]).toList 0 _ B0.out)
         generalize World.setCells _ _ _ _ = V at HH HM HB ⊢
         have hlV := HM.out.lt
         have k0 := (HM.out.cell 0).trans (mc_get HL.out (i := 0) (by omega))
         have k11 := (HM.out.cell 11).trans (mc_get HL.out (i := 11) (by omega))
         rw [HK.out] at k0
         have g11 := HH.out.cell 11
         have z11 := HH.out.frozen 11
         have HP := Lib.hid (mc_path HL.out (HM.out.far (p := ⟨w.heap.size + 1, 11, none⟩) (by simp) (.int .i64 (fld m 11))))
         have HT := Lib.hid (fun (n : Nat) (hn : 12 + n ≤ 28) => mc_there_at (n := n) (HH.out.set_ 11 (.int .i64 (fld m 11))) hn))
      | (refine wpList_load_cells rfl 44 (.tmp 84) rfl ⟨w.heap.size, 12, none⟩ rfl (ints (pathL m)) _ HP.out Tryz.underlying44 rfl (pathL_size HL.out) ?_)
      | (refine wpList_store_mid rfl 44 (.tmp 86) (.tmp 85) rfl (w.heap.size + 1) 12 (ints (pathL m)).toArray rfl rfl (HT.out _ (pathL_cells HL.out)) (pathL_info HL.out) (ints_oneCell _) ?_
         have HH1 := Lib.hid (show Blk ((V.setCell ⟨w.heap.size + 1, 11, none⟩ (.int .i64 (fld m 11))).setCells (w.heap.size + 1) 12 (ints (pathL m)).toArray.toList) (w.heap.size + 1) 46 (mc [11, fld m 1, 0, 0, 0, 0, 0, 0, 0, 0, 0, fld m 11, fld m 12, fld m 13, fld m 14, fld m 15, fld m 16, fld m 17, fld m 18, fld m 19, fld m 20, fld m 21, fld m 22, fld m 23, fld m 24, fld m 25, fld m 26, fld m 27]) from mc_splice (q := [11, fld m 1, 0, 0, 0, 0, 0, 0, 0, 0, 0, 0, 0, 0, 0, 0, 0, 0, 0, 0, 0, 0, 0, 0, 0, 0, 0, 0]) (x := fld m 11) HL.out (HH.out.set_ 11 (.int .i64 (fld m 11))))
         have HM1 := Lib.hid ((HM.out.far (p := ⟨w.heap.size + 1, 11, none⟩) (by simp) (.int .i64 (fld m 11))).farCells (b := w.heap.size + 1) (by omega) (ints (pathL m)).toArray.toList 12)
         have HB1 := Lib.hid (Below.setCells (B := w.heap.size) (b := w.heap.size + 1) (Nat.le_succ _) (ints (pathL m)).toArray.toList 12 _ (HB.out.setCell (p := ⟨w.heap.size + 1, 11, none⟩) (by simp) (.int .i64 (fld m 11))))
         generalize World.setCells _ _ _ _ = U at HH1 HM1 HB1 ⊢
         clear k0 k11 g11 z11 hlV
         have k9 := (HM1.out.cell 9).trans (mc_get HL.out (i := 9) (by omega))
         have k10 := (HM1.out.cell 10).trans (mc_get HL.out (i := 10) (by omega))
         have k11 := (HM1.out.cell 11).trans (mc_get HL.out (i := 11) (by omega))
         have g9 := HH1.out.cell 9
         have z9 := HH1.out.frozen 9
         have g10 := HH1.out.cell 10
         have z10 := HH1.out.frozen 10
         have hlU := HM1.out.lt
         have FEND := Lib.hid (show Blk (World.setCell (World.setCell U ⟨w.heap.size + 1, 9, none⟩ (.int .i64 (fld m 9))) ⟨w.heap.size + 1, 10, none⟩ (.int .i64 (fld m 10))) w.heap.size 46 (mc m) from blk_fars (b := w.heap.size + 1) (by omega) [(9, fld m 9), (10, fld m 10)] U HM1.out)
         have HEND := Lib.hid (show Blk (World.setCell (World.setCell U ⟨w.heap.size + 1, 9, none⟩ (.int .i64 (fld m 9))) ⟨w.heap.size + 1, 10, none⟩ (.int .i64 (fld m 10))) (w.heap.size + 1) 46 (mc [11, fld m 1, 0, 0, 0, 0, 0, 0, 0, fld m 9, fld m 10, fld m 11, fld m 12, fld m 13, fld m 14, fld m 15, fld m 16, fld m 17, fld m 18, fld m 19, fld m 20, fld m 21, fld m 22, fld m 23, fld m 24, fld m 25, fld m 26, fld m 27]) from blk_sets [(9, fld m 9), (10, fld m 10)] U [11, fld m 1, 0, 0, 0, 0, 0, 0, 0, 0, 0, fld m 11, fld m 12, fld m 13, fld m 14, fld m 15, fld m 16, fld m 17, fld m 18, fld m 19, fld m 20, fld m 21, fld m 22, fld m 23, fld m 24, fld m 25, fld m 26, fld m 27] HH1.out)
         have BEND := Lib.hid (show Below w.heap.size w (World.setCell (World.setCell U ⟨w.heap.size + 1, 9, none⟩ (.int .i64 (fld m 9))) ⟨w.heap.size + 1, 10, none⟩ (.int .i64 (fld m 10))) from below_sets (Nat.le_succ _) [(9, fld m 9), (10, fld m 10)] U HB1.out)))
    go_ret
    exact ⟨ret_bool HMAY.out.symm, BEND.out⟩
  have HNN := Lib.hid (inS_iff.2 hn)
  have b1 : decide (fld m 11 < 1) = false := by simp; omega
  have b2 : decide (8 < fld m 11) = false := by simp; omega
  clear hn
  cases hnx : inS 1 1048576 (fld m 9)
  · have HN := Lib.hid hnx
    have HMAY := Lib.hid (may_no (m := m) fun h => by have h' := may_next11 h HK.out; rw [hnx] at h'; cases h')
    clear hnx
    go_enter Tryz.func61, Tryz.ntmps61
    have M0 := Lib.hid ((Blk.new w 46 (mc m)).alloc (.cells (mc zM) 46))
    have N0 := Lib.hid (Blk.new_at (w := w.alloc (.cells (mc m) 46)) (n := w.heap.size + 1) (by simp) 46 (mc zM))
    have B0 := Lib.hid (Below.alloc (Below.alloc (Below.refl w.heap.size w) (Nat.le_refl _) (.cells (mc m) 46)) (by simp) (.cells (mc zM) 46))
    rw [mc_zero] at M0 N0 B0
    go_wp2_with (first
      | (go_at_call 66; with_reducible refine (number_b HN.out _).mono ?_; rintro e w9 ⟨rfl, rfl⟩)
      | (refine wpList_store_mid rfl 46 (.tmp 7) (.tmp 77) rfl (w.heap.size + 1) 0 (mc [11, fld m 1, 0, 0, 0, 0, 0, 0, 0, 0, 0, 0, 0, 0, 0, 0, 0, 0, 0, 0, 0, 0, 0, 0, 0, 0, 0, 0]) rfl rfl (mc_there zM_length rfl N0.out) (mc_info rfl) (ints_oneCell _) ?_
         have HH := Lib.hid (mc_put (q := [11, fld m 1, 0, 0, 0, 0, 0, 0, 0, 0, 0, 0, 0, 0, 0, 0, 0, 0, 0, 0, 0, 0, 0, 0, 0, 0, 0, 0]) zM_length rfl N0.out)
         have HM := Lib.hid (M0.out.farCells (b := w.heap.size + 1) (by omega) (mc [11, fld m 1, 0, 0, 0, 0, 0, 0, 0, 0, 0, 0, 0, 0, 0, 0, 0, 0, 0, 0, 0, 0, 0, 0, 0, 0, 0, 0]).toList 0)
         have HB := Lib.hid (Below.setCells (B := w.heap.size) (b := w.heap.size + 1) (Nat.le_succ _) (mc [11, fld m 1, 0, 0, 0, 0, 0, 0, 0, 0, 0, 0, 0, 0, 0, 0, 0, 0, 0, 0, 0, 0, 0, 0, 0, 0, 0, 0]).toList 0 _ B0.out)
         generalize World.setCells _ _ _ _ = V at HH HM HB ⊢
         have hlV := HM.out.lt
         have k0 := (HM.out.cell 0).trans (mc_get HL.out (i := 0) (by omega))
         have k11 := (HM.out.cell 11).trans (mc_get HL.out (i := 11) (by omega))
         rw [HK.out] at k0
         have g11 := HH.out.cell 11
         have z11 := HH.out.frozen 11
         have HP := Lib.hid (mc_path HL.out (HM.out.far (p := ⟨w.heap.size + 1, 11, none⟩) (by simp) (.int .i64 (fld m 11))))
         have HT := Lib.hid (fun (n : Nat) (hn : 12 + n ≤ 28) => mc_there_at (n := n) (HH.out.set_ 11 (.int .i64 (fld m 11))) hn))
      | (refine wpList_load_cells rfl 44 (.tmp 84) rfl ⟨w.heap.size, 12, none⟩ rfl (ints (pathL m)) _ HP.out Tryz.underlying44 rfl (pathL_size HL.out) ?_)
      | (refine wpList_store_mid rfl 44 (.tmp 86) (.tmp 85) rfl (w.heap.size + 1) 12 (ints (pathL m)).toArray rfl rfl (HT.out _ (pathL_cells HL.out)) (pathL_info HL.out) (ints_oneCell _) ?_
         have HH1 := Lib.hid (show Blk ((V.setCell ⟨w.heap.size + 1, 11, none⟩ (.int .i64 (fld m 11))).setCells (w.heap.size + 1) 12 (ints (pathL m)).toArray.toList) (w.heap.size + 1) 46 (mc [11, fld m 1, 0, 0, 0, 0, 0, 0, 0, 0, 0, fld m 11, fld m 12, fld m 13, fld m 14, fld m 15, fld m 16, fld m 17, fld m 18, fld m 19, fld m 20, fld m 21, fld m 22, fld m 23, fld m 24, fld m 25, fld m 26, fld m 27]) from mc_splice (q := [11, fld m 1, 0, 0, 0, 0, 0, 0, 0, 0, 0, 0, 0, 0, 0, 0, 0, 0, 0, 0, 0, 0, 0, 0, 0, 0, 0, 0]) (x := fld m 11) HL.out (HH.out.set_ 11 (.int .i64 (fld m 11))))
         have HM1 := Lib.hid ((HM.out.far (p := ⟨w.heap.size + 1, 11, none⟩) (by simp) (.int .i64 (fld m 11))).farCells (b := w.heap.size + 1) (by omega) (ints (pathL m)).toArray.toList 12)
         have HB1 := Lib.hid (Below.setCells (B := w.heap.size) (b := w.heap.size + 1) (Nat.le_succ _) (ints (pathL m)).toArray.toList 12 _ (HB.out.setCell (p := ⟨w.heap.size + 1, 11, none⟩) (by simp) (.int .i64 (fld m 11))))
         generalize World.setCells _ _ _ _ = U at HH1 HM1 HB1 ⊢
         clear k0 k11 g11 z11 hlV
         have k9 := (HM1.out.cell 9).trans (mc_get HL.out (i := 9) (by omega))
         have k10 := (HM1.out.cell 10).trans (mc_get HL.out (i := 10) (by omega))
         have k11 := (HM1.out.cell 11).trans (mc_get HL.out (i := 11) (by omega))
         have g9 := HH1.out.cell 9
         have z9 := HH1.out.frozen 9
         have g10 := HH1.out.cell 10
         have z10 := HH1.out.frozen 10
         have hlU := HM1.out.lt
         have FEND := Lib.hid (show Blk (World.setCell (World.setCell U ⟨w.heap.size + 1, 9, none⟩ (.int .i64 (fld m 9))) ⟨w.heap.size + 1, 10, none⟩ (.int .i64 (fld m 10))) w.heap.size 46 (mc m) from blk_fars (b := w.heap.size + 1) (by omega) [(9, fld m 9), (10, fld m 10)] U HM1.out)
         have HEND := Lib.hid (show Blk (World.setCell (World.setCell U ⟨w.heap.size + 1, 9, none⟩ (.int .i64 (fld m 9))) ⟨w.heap.size + 1, 10, none⟩ (.int .i64 (fld m 10))) (w.heap.size + 1) 46 (mc [11, fld m 1, 0, 0, 0, 0, 0, 0, 0, fld m 9, fld m 10, fld m 11, fld m 12, fld m 13, fld m 14, fld m 15, fld m 16, fld m 17, fld m 18, fld m 19, fld m 20, fld m 21, fld m 22, fld m 23, fld m 24, fld m 25, fld m 26, fld m 27]) from blk_sets [(9, fld m 9), (10, fld m 10)] U [11, fld m 1, 0, 0, 0, 0, 0, 0, 0, 0, 0, fld m 11, fld m 12, fld m 13, fld m 14, fld m 15, fld m 16, fld m 17, fld m 18, fld m 19, fld m 20, fld m 21, fld m 22, fld m 23, fld m 24, fld m 25, fld m 26, fld m 27] HH1.out)
         have BEND := Lib.hid (show Below w.heap.size w (World.setCell (World.setCell U ⟨w.heap.size + 1, 9, none⟩ (.int .i64 (fld m 9))) ⟨w.heap.size + 1, 10, none⟩ (.int .i64 (fld m 10))) from below_sets (Nat.le_succ _) [(9, fld m 9), (10, fld m 10)] U HB1.out)))
    go_ret
    exact ⟨ret_bool HMAY.out.symm, BEND.out⟩
  have HN := Lib.hid hnx
  clear hnx
  rcases (show fld m 10 < 0 ∨ 1048576 < fld m 10 ∨ (0 ≤ fld m 10 ∧ fld m 10 ≤ 1048576) by omega) with hq | hq | hq
  · have HMAY := Lib.hid (may_no (m := m) fun h => by have h' := may_nseq11 h HK.out; rw [inS_iff] at h'; omega)
    have b3 : decide (fld m 10 < 0) = true := by simpa using hq
    clear hq
    go_enter Tryz.func61, Tryz.ntmps61
    have M0 := Lib.hid ((Blk.new w 46 (mc m)).alloc (.cells (mc zM) 46))
    have N0 := Lib.hid (Blk.new_at (w := w.alloc (.cells (mc m) 46)) (n := w.heap.size + 1) (by simp) 46 (mc zM))
    have B0 := Lib.hid (Below.alloc (Below.alloc (Below.refl w.heap.size w) (Nat.le_refl _) (.cells (mc m) 46)) (by simp) (.cells (mc zM) 46))
    rw [mc_zero] at M0 N0 B0
    go_wp2_with (first
      | (go_at_call 66; with_reducible refine (number_b HN.out _).mono ?_; rintro e w9 ⟨rfl, rfl⟩)
      | (refine wpList_store_mid rfl 46 (.tmp 7) (.tmp 77) rfl (w.heap.size + 1) 0 (mc [11, fld m 1, 0, 0, 0, 0, 0, 0, 0, 0, 0, 0, 0, 0, 0, 0, 0, 0, 0, 0, 0, 0, 0, 0, 0, 0, 0, 0]) rfl rfl (mc_there zM_length rfl N0.out) (mc_info rfl) (ints_oneCell _) ?_
         have HH := Lib.hid (mc_put (q := [11, fld m 1, 0, 0, 0, 0, 0, 0, 0, 0, 0, 0, 0, 0, 0, 0, 0, 0, 0, 0, 0, 0, 0, 0, 0, 0, 0, 0]) zM_length rfl N0.out)
         have HM := Lib.hid (M0.out.farCells (b := w.heap.size + 1) (by omega) (mc [11, fld m 1, 0, 0, 0, 0, 0, 0, 0, 0, 0, 0, 0, 0, 0, 0, 0, 0, 0, 0, 0, 0, 0, 0, 0, 0, 0, 0]).toList 0)
         have HB := Lib.hid (Below.setCells (B := w.heap.size) (b := w.heap.size + 1) (Nat.le_succ _) (mc [11, fld m 1, 0, 0, 0, 0, 0, 0, 0, 0, 0, 0, 0, 0, 0, 0, 0, 0, 0, 0, 0, 0, 0, 0, 0, 0, 0, 0]).toList 0 _ B0.out)
         generalize World.setCells _ _ _ _ = V at HH HM HB ⊢
         have hlV := HM.out.lt
         have k0 := (HM.out.cell 0).trans (mc_get HL.out (i := 0) (by omega))
         have k11 := (HM.out.cell 11).trans (mc_get HL.out (i := 11) (by omega))
         rw [HK.out] at k0
         have g11 := HH.out.cell 11
         have z11 := HH.out.frozen 11
         have HP := Lib.hid (mc_path HL.out (HM.out.far (p := ⟨w.heap.size + 1, 11, none⟩) (by simp) (.int .i64 (fld m 11))))
         have HT := Lib.hid (fun (n : Nat) (hn : 12 + n ≤ 28) => mc_there_at (n := n) (HH.out.set_ 11 (.int .i64 (fld m 11))) hn))
      | (refine wpList_load_cells rfl 44 (.tmp 84) rfl ⟨w.heap.size, 12, none⟩ rfl (ints (pathL m)) _ HP.out Tryz.underlying44 rfl (pathL_size HL.out) ?_)
      | (refine wpList_store_mid rfl 44 (.tmp 86) (.tmp 85) rfl (w.heap.size + 1) 12 (ints (pathL m)).toArray rfl rfl (HT.out _ (pathL_cells HL.out)) (pathL_info HL.out) (ints_oneCell _) ?_
         have HH1 := Lib.hid (show Blk ((V.setCell ⟨w.heap.size + 1, 11, none⟩ (.int .i64 (fld m 11))).setCells (w.heap.size + 1) 12 (ints (pathL m)).toArray.toList) (w.heap.size + 1) 46 (mc [11, fld m 1, 0, 0, 0, 0, 0, 0, 0, 0, 0, fld m 11, fld m 12, fld m 13, fld m 14, fld m 15, fld m 16, fld m 17, fld m 18, fld m 19, fld m 20, fld m 21, fld m 22, fld m 23, fld m 24, fld m 25, fld m 26, fld m 27]) from mc_splice (q := [11, fld m 1, 0, 0, 0, 0, 0, 0, 0, 0, 0, 0, 0, 0, 0, 0, 0, 0, 0, 0, 0, 0, 0, 0, 0, 0, 0, 0]) (x := fld m 11) HL.out (HH.out.set_ 11 (.int .i64 (fld m 11))))
         have HM1 := Lib.hid ((HM.out.far (p := ⟨w.heap.size + 1, 11, none⟩) (by simp) (.int .i64 (fld m 11))).farCells (b := w.heap.size + 1) (by omega) (ints (pathL m)).toArray.toList 12)
         have HB1 := Lib.hid (Below.setCells (B := w.heap.size) (b := w.heap.size + 1) (Nat.le_succ _) (ints (pathL m)).toArray.toList 12 _ (HB.out.setCell (p := ⟨w.heap.size + 1, 11, none⟩) (by simp) (.int .i64 (fld m 11))))
         generalize World.setCells _ _ _ _ = U at HH1 HM1 HB1 ⊢
         clear k0 k11 g11 z11 hlV
         have k9 := (HM1.out.cell 9).trans (mc_get HL.out (i := 9) (by omega))
         have k10 := (HM1.out.cell 10).trans (mc_get HL.out (i := 10) (by omega))
         have k11 := (HM1.out.cell 11).trans (mc_get HL.out (i := 11) (by omega))
         have g9 := HH1.out.cell 9
         have z9 := HH1.out.frozen 9
         have g10 := HH1.out.cell 10
         have z10 := HH1.out.frozen 10
         have hlU := HM1.out.lt
         have FEND := Lib.hid (show Blk (World.setCell (World.setCell U ⟨w.heap.size + 1, 9, none⟩ (.int .i64 (fld m 9))) ⟨w.heap.size + 1, 10, none⟩ (.int .i64 (fld m 10))) w.heap.size 46 (mc m) from blk_fars (b := w.heap.size + 1) (by omega) [(9, fld m 9), (10, fld m 10)] U HM1.out)
         have HEND := Lib.hid (show Blk (World.setCell (World.setCell U ⟨w.heap.size + 1, 9, none⟩ (.int .i64 (fld m 9))) ⟨w.heap.size + 1, 10, none⟩ (.int .i64 (fld m 10))) (w.heap.size + 1) 46 (mc [11, fld m 1, 0, 0, 0, 0, 0, 0, 0, fld m 9, fld m 10, fld m 11, fld m 12, fld m 13, fld m 14, fld m 15, fld m 16, fld m 17, fld m 18, fld m 19, fld m 20, fld m 21, fld m 22, fld m 23, fld m 24, fld m 25, fld m 26, fld m 27]) from blk_sets [(9, fld m 9), (10, fld m 10)] U [11, fld m 1, 0, 0, 0, 0, 0, 0, 0, 0, 0, fld m 11, fld m 12, fld m 13, fld m 14, fld m 15, fld m 16, fld m 17, fld m 18, fld m 19, fld m 20, fld m 21, fld m 22, fld m 23, fld m 24, fld m 25, fld m 26, fld m 27] HH1.out)
         have BEND := Lib.hid (show Below w.heap.size w (World.setCell (World.setCell U ⟨w.heap.size + 1, 9, none⟩ (.int .i64 (fld m 9))) ⟨w.heap.size + 1, 10, none⟩ (.int .i64 (fld m 10))) from below_sets (Nat.le_succ _) [(9, fld m 9), (10, fld m 10)] U HB1.out)))
    go_ret
    exact ⟨ret_bool HMAY.out.symm, BEND.out⟩
  · have HMAY := Lib.hid (may_no (m := m) fun h => by have h' := may_nseq11 h HK.out; rw [inS_iff] at h'; omega)
    have b3 : decide (fld m 10 < 0) = false := by simp; omega
    have b4 : decide (1048576 < fld m 10) = true := by simpa using hq
    clear hq
    go_enter Tryz.func61, Tryz.ntmps61
    have M0 := Lib.hid ((Blk.new w 46 (mc m)).alloc (.cells (mc zM) 46))
    have N0 := Lib.hid (Blk.new_at (w := w.alloc (.cells (mc m) 46)) (n := w.heap.size + 1) (by simp) 46 (mc zM))
    have B0 := Lib.hid (Below.alloc (Below.alloc (Below.refl w.heap.size w) (Nat.le_refl _) (.cells (mc m) 46)) (by simp) (.cells (mc zM) 46))
    rw [mc_zero] at M0 N0 B0
    go_wp2_with (first
      | (go_at_call 66; with_reducible refine (number_b HN.out _).mono ?_; rintro e w9 ⟨rfl, rfl⟩)
      | (refine wpList_store_mid rfl 46 (.tmp 7) (.tmp 77) rfl (w.heap.size + 1) 0 (mc [11, fld m 1, 0, 0, 0, 0, 0, 0, 0, 0, 0, 0, 0, 0, 0, 0, 0, 0, 0, 0, 0, 0, 0, 0, 0, 0, 0, 0]) rfl rfl (mc_there zM_length rfl N0.out) (mc_info rfl) (ints_oneCell _) ?_
         have HH := Lib.hid (mc_put (q := [11, fld m 1, 0, 0, 0, 0, 0, 0, 0, 0, 0, 0, 0, 0, 0, 0, 0, 0, 0, 0, 0, 0, 0, 0, 0, 0, 0, 0]) zM_length rfl N0.out)
         have HM := Lib.hid (M0.out.farCells (b := w.heap.size + 1) (by omega) (mc [11, fld m 1, 0, 0, 0, 0, 0, 0, 0, 0, 0, 0, 0, 0, 0, 0, 0, 0, 0, 0, 0, 0, 0, 0, 0, 0, 0, 0]).toList 0)
         have HB := Lib.hid (Below.setCells (B := w.heap.size) (b := w.heap.size + 1) (Nat.le_succ _) (mc [11, fld m 1, 0, 0, 0, 0, 0, 0, 0, 0, 0, 0, 0, 0, 0, 0, 0, 0, 0, 0, 0, 0, 0, 0, 0, 0, 0, 0]).toList 0 _ B0.out)
         generalize World.setCells _ _ _ _ = V at HH HM HB ⊢
         have hlV := HM.out.lt
         have k0 := (HM.out.cell 0).trans (mc_get HL.out (i := 0) (by omega))
         have k11 := (HM.out.cell 11).trans (mc_get HL.out (i := 11) (by omega))
         rw [HK.out] at k0
         have g11 := HH.out.cell 11
         have z11 := HH.out.frozen 11
         have HP := Lib.hid (mc_path HL.out (HM.out.far (p := ⟨w.heap.size + 1, 11, none⟩) (by simp) (.int .i64 (fld m 11))))
         have HT := Lib.hid (fun (n : Nat) (hn : 12 + n ≤ 28) => mc_there_at (n := n) (HH.out.set_ 11 (.int .i64 (fld m 11))) hn))
      | (refine wpList_load_cells rfl 44 (.tmp 84) rfl ⟨w.heap.size, 12, none⟩ rfl (ints (pathL m)) _ HP.out Tryz.underlying44 rfl (pathL_size HL.out) ?_)
      | (refine wpList_store_mid rfl 44 (.tmp 86) (.tmp 85) rfl (w.heap.size + 1) 12 (ints (pathL m)).toArray rfl rfl (HT.out _ (pathL_cells HL.out)) (pathL_info HL.out) (ints_oneCell _) ?_
         have HH1 := Lib.hid (show Blk ((V.setCell ⟨w.heap.size + 1, 11, none⟩ (.int .i64 (fld m 11))).setCells (w.heap.size + 1) 12 (ints (pathL m)).toArray.toList) (w.heap.size + 1) 46 (mc [11, fld m 1, 0, 0, 0, 0, 0, 0, 0, 0, 0, fld m 11, fld m 12, fld m 13, fld m 14, fld m 15, fld m 16, fld m 17, fld m 18, fld m 19, fld m 20, fld m 21, fld m 22, fld m 23, fld m 24, fld m 25, fld m 26, fld m 27]) from mc_splice (q := [11, fld m 1, 0, 0, 0, 0, 0, 0, 0, 0, 0, 0, 0, 0, 0, 0, 0, 0, 0, 0, 0, 0, 0, 0, 0, 0, 0, 0]) (x := fld m 11) HL.out (HH.out.set_ 11 (.int .i64 (fld m 11))))
         have HM1 := Lib.hid ((HM.out.far (p := ⟨w.heap.size + 1, 11, none⟩) (by simp) (.int .i64 (fld m 11))).farCells (b := w.heap.size + 1) (by omega) (ints (pathL m)).toArray.toList 12)
         have HB1 := Lib.hid (Below.setCells (B := w.heap.size) (b := w.heap.size + 1) (Nat.le_succ _) (ints (pathL m)).toArray.toList 12 _ (HB.out.setCell (p := ⟨w.heap.size + 1, 11, none⟩) (by simp) (.int .i64 (fld m 11))))
         generalize World.setCells _ _ _ _ = U at HH1 HM1 HB1 ⊢
         clear k0 k11 g11 z11 hlV
         have k9 := (HM1.out.cell 9).trans (mc_get HL.out (i := 9) (by omega))
         have k10 := (HM1.out.cell 10).trans (mc_get HL.out (i := 10) (by omega))
         have k11 := (HM1.out.cell 11).trans (mc_get HL.out (i := 11) (by omega))
         have g9 := HH1.out.cell 9
         have z9 := HH1.out.frozen 9
         have g10 := HH1.out.cell 10
         have z10 := HH1.out.frozen 10
         have hlU := HM1.out.lt
         have FEND := Lib.hid (show Blk (World.setCell (World.setCell U ⟨w.heap.size + 1, 9, none⟩ (.int .i64 (fld m 9))) ⟨w.heap.size + 1, 10, none⟩ (.int .i64 (fld m 10))) w.heap.size 46 (mc m) from blk_fars (b := w.heap.size + 1) (by omega) [(9, fld m 9), (10, fld m 10)] U HM1.out)
         have HEND := Lib.hid (show Blk (World.setCell (World.setCell U ⟨w.heap.size + 1, 9, none⟩ (.int .i64 (fld m 9))) ⟨w.heap.size + 1, 10, none⟩ (.int .i64 (fld m 10))) (w.heap.size + 1) 46 (mc [11, fld m 1, 0, 0, 0, 0, 0, 0, 0, fld m 9, fld m 10, fld m 11, fld m 12, fld m 13, fld m 14, fld m 15, fld m 16, fld m 17, fld m 18, fld m 19, fld m 20, fld m 21, fld m 22, fld m 23, fld m 24, fld m 25, fld m 26, fld m 27]) from blk_sets [(9, fld m 9), (10, fld m 10)] U [11, fld m 1, 0, 0, 0, 0, 0, 0, 0, 0, 0, fld m 11, fld m 12, fld m 13, fld m 14, fld m 15, fld m 16, fld m 17, fld m 18, fld m 19, fld m 20, fld m 21, fld m 22, fld m 23, fld m 24, fld m 25, fld m 26, fld m 27] HH1.out)
         have BEND := Lib.hid (show Below w.heap.size w (World.setCell (World.setCell U ⟨w.heap.size + 1, 9, none⟩ (.int .i64 (fld m 9))) ⟨w.heap.size + 1, 10, none⟩ (.int .i64 (fld m 10))) from below_sets (Nat.le_succ _) [(9, fld m 9), (10, fld m 10)] U HB1.out)))
    go_ret
    exact ⟨ret_bool HMAY.out.symm, BEND.out⟩
  · have HQN := Lib.hid (inS_iff.2 hq)
    have b3 : decide (fld m 10 < 0) = false := by simp; omega
    have b4 : decide (1048576 < fld m 10) = false := by simp; omega
    clear hq
    have HQ := Lib.hid (show [11, fld m 1, 0, 0, 0, 0, 0, 0, 0, fld m 9, fld m 10, fld m 11, fld m 12, fld m 13, fld m 14, fld m 15, fld m 16, fld m 17, fld m 18, fld m 19, fld m 20, fld m 21, fld m 22, fld m 23, fld m 24, fld m 25, fld m 26, fld m 27] = keepL m sF by
      have h : keepL m sF = [fld m 0, fld m 1, fld m 2, 0, 0, 0, 0, 0, 0, fld m 9, fld m 10, fld m 11, fld m 12, fld m 13, fld m 14, fld m 15, fld m 16, fld m 17, fld m 18, fld m 19, fld m 20, fld m 21, fld m 22, fld m 23, fld m 24, fld m 25, fld m 26, fld m 27] := rfl
      rw [HK.out, HF.out] at h
      exact h.symm)
    have HE := Lib.hid (fun (hp : pathB m = true) (W : World) => (show (binOp .eql 46 (.agg (mc m)) (.agg (mc [11, fld m 1, 0, 0, 0, 0, 0, 0, 0, fld m 9, fld m 10, fld m 11, fld m 12, fld m 13, fld m 14, fld m 15, fld m 16, fld m 17, fld m 18, fld m 19, fld m 20, fld m 21, fld m 22, fld m 23, fld m 24, fld m 25, fld m 26, fld m 27]))).run Tryz.prog W = .ok (.bool (mayB m)) W by
      rw [eql_msg HL.out rfl, mayF HL.out HK.out HG.out HN.out HQN.out HNN.out hp, HQ.out]))
    go_enter Tryz.func61, Tryz.ntmps61
    have M0 := Lib.hid ((Blk.new w 46 (mc m)).alloc (.cells (mc zM) 46))
    have N0 := Lib.hid (Blk.new_at (w := w.alloc (.cells (mc m) 46)) (n := w.heap.size + 1) (by simp) 46 (mc zM))
    have B0 := Lib.hid (Below.alloc (Below.alloc (Below.refl w.heap.size w) (Nat.le_refl _) (.cells (mc m) 46)) (by simp) (.cells (mc zM) 46))
    rw [mc_zero] at M0 N0 B0
    go_wp2_with (first
      | (go_at_call 66; with_reducible refine (number_b HN.out _).mono ?_; rintro e w9 ⟨rfl, rfl⟩)
      | (refine wpList_store_mid rfl 46 (.tmp 7) (.tmp 77) rfl (w.heap.size + 1) 0 (mc [11, fld m 1, 0, 0, 0, 0, 0, 0, 0, 0, 0, 0, 0, 0, 0, 0, 0, 0, 0, 0, 0, 0, 0, 0, 0, 0, 0, 0]) rfl rfl (mc_there zM_length rfl N0.out) (mc_info rfl) (ints_oneCell _) ?_
         have HH := Lib.hid (mc_put (q := [11, fld m 1, 0, 0, 0, 0, 0, 0, 0, 0, 0, 0, 0, 0, 0, 0, 0, 0, 0, 0, 0, 0, 0, 0, 0, 0, 0, 0]) zM_length rfl N0.out)
         have HM := Lib.hid (M0.out.farCells (b := w.heap.size + 1) (by omega) (mc [11, fld m 1, 0, 0, 0, 0, 0, 0, 0, 0, 0, 0, 0, 0, 0, 0, 0, 0, 0, 0, 0, 0, 0, 0, 0, 0, 0, 0]).toList 0)
         have HB := Lib.hid (Below.setCells (B := w.heap.size) (b := w.heap.size + 1) (Nat.le_succ _) (mc [11, fld m 1, 0, 0, 0, 0, 0, 0, 0, 0, 0, 0, 0, 0, 0, 0, 0, 0, 0, 0, 0, 0, 0, 0, 0, 0, 0, 0]).toList 0 _ B0.out)
         generalize World.setCells _ _ _ _ = V at HH HM HB ⊢
         have hlV := HM.out.lt
         have k0 := (HM.out.cell 0).trans (mc_get HL.out (i := 0) (by omega))
         have k11 := (HM.out.cell 11).trans (mc_get HL.out (i := 11) (by omega))
         rw [HK.out] at k0
         have g11 := HH.out.cell 11
         have z11 := HH.out.frozen 11
         have HP := Lib.hid (mc_path HL.out (HM.out.far (p := ⟨w.heap.size + 1, 11, none⟩) (by simp) (.int .i64 (fld m 11))))
         have HT := Lib.hid (fun (n : Nat) (hn : 12 + n ≤ 28) => mc_there_at (n := n) (HH.out.set_ 11 (.int .i64 (fld m 11))) hn))
      | (refine wpList_load_cells rfl 44 (.tmp 84) rfl ⟨w.heap.size, 12, none⟩ rfl (ints (pathL m)) _ HP.out Tryz.underlying44 rfl (pathL_size HL.out) ?_)
      | (refine wpList_store_mid rfl 44 (.tmp 86) (.tmp 85) rfl (w.heap.size + 1) 12 (ints (pathL m)).toArray rfl rfl (HT.out _ (pathL_cells HL.out)) (pathL_info HL.out) (ints_oneCell _) ?_
         have HH1 := Lib.hid (show Blk ((V.setCell ⟨w.heap.size + 1, 11, none⟩ (.int .i64 (fld m 11))).setCells (w.heap.size + 1) 12 (ints (pathL m)).toArray.toList) (w.heap.size + 1) 46 (mc [11, fld m 1, 0, 0, 0, 0, 0, 0, 0, 0, 0, fld m 11, fld m 12, fld m 13, fld m 14, fld m 15, fld m 16, fld m 17, fld m 18, fld m 19, fld m 20, fld m 21, fld m 22, fld m 23, fld m 24, fld m 25, fld m 26, fld m 27]) from mc_splice (q := [11, fld m 1, 0, 0, 0, 0, 0, 0, 0, 0, 0, 0, 0, 0, 0, 0, 0, 0, 0, 0, 0, 0, 0, 0, 0, 0, 0, 0]) (x := fld m 11) HL.out (HH.out.set_ 11 (.int .i64 (fld m 11))))
         have HM1 := Lib.hid ((HM.out.far (p := ⟨w.heap.size + 1, 11, none⟩) (by simp) (.int .i64 (fld m 11))).farCells (b := w.heap.size + 1) (by omega) (ints (pathL m)).toArray.toList 12)
         have HB1 := Lib.hid (Below.setCells (B := w.heap.size) (b := w.heap.size + 1) (Nat.le_succ _) (ints (pathL m)).toArray.toList 12 _ (HB.out.setCell (p := ⟨w.heap.size + 1, 11, none⟩) (by simp) (.int .i64 (fld m 11))))
         generalize World.setCells _ _ _ _ = U at HH1 HM1 HB1 ⊢
         clear k0 k11 g11 z11 hlV
         have k9 := (HM1.out.cell 9).trans (mc_get HL.out (i := 9) (by omega))
         have k10 := (HM1.out.cell 10).trans (mc_get HL.out (i := 10) (by omega))
         have k11 := (HM1.out.cell 11).trans (mc_get HL.out (i := 11) (by omega))
         have g9 := HH1.out.cell 9
         have z9 := HH1.out.frozen 9
         have g10 := HH1.out.cell 10
         have z10 := HH1.out.frozen 10
         have hlU := HM1.out.lt
         have FEND := Lib.hid (show Blk (World.setCell (World.setCell U ⟨w.heap.size + 1, 9, none⟩ (.int .i64 (fld m 9))) ⟨w.heap.size + 1, 10, none⟩ (.int .i64 (fld m 10))) w.heap.size 46 (mc m) from blk_fars (b := w.heap.size + 1) (by omega) [(9, fld m 9), (10, fld m 10)] U HM1.out)
         have HEND := Lib.hid (show Blk (World.setCell (World.setCell U ⟨w.heap.size + 1, 9, none⟩ (.int .i64 (fld m 9))) ⟨w.heap.size + 1, 10, none⟩ (.int .i64 (fld m 10))) (w.heap.size + 1) 46 (mc [11, fld m 1, 0, 0, 0, 0, 0, 0, 0, fld m 9, fld m 10, fld m 11, fld m 12, fld m 13, fld m 14, fld m 15, fld m 16, fld m 17, fld m 18, fld m 19, fld m 20, fld m 21, fld m 22, fld m 23, fld m 24, fld m 25, fld m 26, fld m 27]) from blk_sets [(9, fld m 9), (10, fld m 10)] U [11, fld m 1, 0, 0, 0, 0, 0, 0, 0, 0, 0, fld m 11, fld m 12, fld m 13, fld m 14, fld m 15, fld m 16, fld m 17, fld m 18, fld m 19, fld m 20, fld m 21, fld m 22, fld m 23, fld m 24, fld m 25, fld m 26, fld m 27] HH1.out)
         have BEND := Lib.hid (show Below w.heap.size w (World.setCell (World.setCell U ⟨w.heap.size + 1, 9, none⟩ (.int .i64 (fld m 9))) ⟨w.heap.size + 1, 10, none⟩ (.int .i64 (fld m 10))) from below_sets (Nat.le_succ _) [(9, fld m 9), (10, fld m 10)] U HB1.out)))
    clear k9 k10 k11 g9 g10 z9 z10 hlU
    generalize World.setCell _ _ _ = X at FEND HEND BEND ⊢
    go_loopw [8] (fun k W => ∃ (j q : Nat), j ≤ 8 ∧ k = .int .i64 j ∧ PathTill m j ∧ W = X.drewN q) (fun k _ => 8 - (intOf k).toNat)
    case atStart => exact ⟨0, 0, by omega, rfl, PathTill.zero _, rfl⟩
    case round =>
      obtain ⟨j, q, hj, rfl, htl, rfl⟩ := hrel
      have HT := Lib.hid htl
      clear htl
      by_cases hlt : j < 8
      · have x11 : X.cell? ⟨w.heap.size, 11, none⟩ = some (.int .i64 (fld m 11)) := (FEND.out.cell 11).trans (mc_get HL.out (by omega))
        have xt : X.cell? ⟨w.heap.size, 12 + j * 2, none⟩ = some (.int .i64 (stTx m j)) := (FEND.out.cell _).trans (mc_get HL.out (by omega))
        have xs : X.cell? ⟨w.heap.size, 12 + j * 2 + 1, none⟩ = some (.int .i64 (stSeq m j)) := (FEND.out.cell _).trans (mc_get HL.out (by omega))
        cases hc : decide (fld m 11 ≤ (j : Int))
        · have HO := Lib.hid (show okAt m j = isStepB m j by unfold okAt; rw [if_pos (by simp at hc; omega)])
          cases ht : inS 1 1048576 (stTx m j)
          · have HI1 := Lib.hid ht
            have HMAY := Lib.hid (may_no (m := m) fun h => by
              have h' := pathB_no hlt (show okAt m j = false by rw [HO.out]; unfold isStepB; rw [ht]; simp)
              rw [may_path h] at h'; cases h')
            clear ht
            go_wp2_with (go_at_call 66; with_reducible refine (number_b HI1.out _).mono ?_; rintro e w9 ⟨rfl, rfl⟩)
            go_ret
            exact ⟨ret_bool HMAY.out.symm, by first | exact below_drewN BEND.out _ | exact below_drewN (below_drewN BEND.out _) _ | exact below_drewN (below_drewN (below_drewN BEND.out _) _) _ | exact BEND.out⟩
          · have HI1 := Lib.hid ht
            cases hs : inS 1 1048576 (stSeq m j)
            · have HI2 := Lib.hid hs
              have HMAY := Lib.hid (may_no (m := m) fun h => by
                have h' := pathB_no hlt (show okAt m j = false by rw [HO.out]; unfold isStepB; rw [hs]; simp)
                rw [may_path h] at h'; cases h')
              clear ht hs
              go_wp2_with (go_at_call 66; (first | (with_reducible refine (number_b HI1.out _).mono ?_) | (with_reducible refine (number_b HI2.out _).mono ?_)); rintro e w9 ⟨rfl, rfl⟩)
              go_ret
              exact ⟨ret_bool HMAY.out.symm, by first | exact below_drewN BEND.out _ | exact below_drewN (below_drewN BEND.out _) _ | exact below_drewN (below_drewN (below_drewN BEND.out _) _) _ | exact BEND.out⟩
            · have HI2 := Lib.hid hs
              have HFR := Lib.hid (show Fresh m j j → okAt m j = true by intro h; rw [HO.out, isStepB_fresh h, ht, hs]; rfl)
              clear ht hs
              go_wp2_with (go_at_call 66; (first | (with_reducible refine (number_b HI1.out _).mono ?_) | (with_reducible refine (number_b HI2.out _).mono ?_)); rintro e w9 ⟨rfl, rfl⟩)
              go_loopw [9] (fun k W => ∃ (i q : Nat), i ≤ j ∧ k = .int .i64 i ∧ Fresh m j i ∧ W = X.drewN q) (fun k _ => j - (intOf k).toNat)
              case atStart => exact ⟨0, q, by omega, rfl, Fresh.zero _ _, rfl⟩
              case round =>
                obtain ⟨i, r, hi, rfl, hfr, rfl⟩ := hrel
                have HR := Lib.hid hfr
                clear hfr
                by_cases hij : i < j
                · have xi : X.cell? ⟨w.heap.size, 12 + i * 2, none⟩ = some (.int .i64 (stTx m i)) := (FEND.out.cell _).trans (mc_get HL.out (by omega))
                  have hi8 : i < 8 := by omega
                  by_cases he : stTx m i = stTx m j
                  · have HMAY := Lib.hid (may_no (m := m) fun h => by
                      have h' := pathB_no hlt (show okAt m j = false by rw [HO.out]; exact isStepB_dup hij he)
                      rw [may_path h] at h'; cases h')
                    have hee : (stTx m i == stTx m j) = true := by simpa using he
                    clear he
                    go_wp2_with fail
                    go_quiet (fail)
                    go_wp2_with fail
                    go_ret
                    exact ⟨ret_bool HMAY.out.symm, by first | exact below_drewN BEND.out _ | exact below_drewN (below_drewN BEND.out _) _ | exact below_drewN (below_drewN (below_drewN BEND.out _) _) _ | exact BEND.out⟩
                  · have HR2 := Lib.hid (HR.out.succ he)
                    have hee : (stTx m i == stTx m j) = false := by simpa using he
                    clear he
                    go_wp2_with fail
                    go_quiet (fail)
                    go_wp2_with fail
                    go_roundw
                    case rel => exact ⟨i + 1, _, by omega, by go_num, HR2.out, rfl⟩
                    case measure => simp [intOf]; omega
                · obtain rfl : i = j := by omega
                  have HT2 := Lib.hid (HT.out.succ (HFR.out HR.out))
                  go_wp2_with fail
                  go_roundw
                  case rel => exact ⟨i + 1, _, by omega, by go_num, HT2.out, rfl⟩
                  case measure => simp [intOf]; omega
        · have HO := Lib.hid (show okAt m j = decide (stTx m j = 0 ∧ stSeq m j = 0) by unfold okAt; rw [if_neg (by simp at hc; omega)])
          cases ht : (stTx m j != 0)
          · cases hs : (stSeq m j != 0)
            · have HT2 := Lib.hid (HT.out.succ (by rw [HO.out, decide_eq_true_eq]; simp at ht hs; exact ⟨ht, hs⟩))
              go_wp2_with fail
              go_roundw
              case rel => exact ⟨j + 1, _, by omega, by go_num, HT2.out, rfl⟩
              case measure => simp [intOf]; omega
            · have HMAY := Lib.hid (may_no (m := m) fun h => by
                have h' := pathB_no hlt (show okAt m j = false by rw [HO.out, decide_eq_false_iff_not]; simp at hs; exact fun e => hs e.2)
                rw [may_path h] at h'; cases h')
              go_wp2_with fail
              go_ret
              exact ⟨ret_bool HMAY.out.symm, by first | exact below_drewN BEND.out _ | exact below_drewN (below_drewN BEND.out _) _ | exact below_drewN (below_drewN (below_drewN BEND.out _) _) _ | exact BEND.out⟩
          · have HMAY := Lib.hid (may_no (m := m) fun h => by
              have h' := pathB_no hlt (show okAt m j = false by rw [HO.out, decide_eq_false_iff_not]; simp at ht; exact fun e => ht e.1)
              rw [may_path h] at h'; cases h')
            go_wp2_with fail
            go_ret
            exact ⟨ret_bool HMAY.out.symm, by first | exact below_drewN BEND.out _ | exact below_drewN (below_drewN BEND.out _) _ | exact below_drewN (below_drewN (below_drewN BEND.out _) _) _ | exact BEND.out⟩
      · obtain rfl : j = 8 := by omega
        have he := HE.out (pathB_yes HT.out)
        have FE := Lib.hid (FEND.out.drewN q)
        have HD := Lib.hid (HEND.out.drewN q)
        go_wp2_with (first
          | (refine wpList_load_row rfl 46 (.tmp 1) rfl w.heap.size rfl 46 (mc m) (0, 0) _ FE.out Tryz.underlying46 rfl HI.out ?_)
          | (refine wpList_load_row rfl 46 (.tmp 7) rfl (w.heap.size + 1) rfl 46 (mc [11, fld m 1, 0, 0, 0, 0, 0, 0, 0, fld m 9, fld m 10, fld m 11, fld m 12, fld m 13, fld m 14, fld m 15, fld m 16, fld m 17, fld m 18, fld m 19, fld m 20, fld m 21, fld m 22, fld m 23, fld m 24, fld m 25, fld m 26, fld m 27]) (0, 0) _ HD.out Tryz.underlying46 rfl (mc_info rfl) ?_))
        go_ret
        exact ⟨rfl, by first | exact below_drewN BEND.out _ | exact below_drewN (below_drewN BEND.out _) _ | exact below_drewN (below_drewN (below_drewN BEND.out _) _) _ | exact BEND.out⟩
end Go.Proofs.YthfhhapefjideaaGreat
