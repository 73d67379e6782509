/- The document's Ok: a message that goes its kind's way: kind 1. -/
import Derived.Test.YthfhhapefjideaaGreatRefK
namespace Go.Proofs.YthfhhapefjideaaGreat
open Go.RowKit
set_option linter.unusedVariables false
set_option linter.unusedSimpArgs false

set_option maxRecDepth 100000 in
set_option maxHeartbeats 8000000 in
theorem refOk_1p (m : List Int) (hl : m.length = 28) (hk : fld m 0 = 1) (hg : goesB m = true) (htx : inS 1 1048576 (fld m 3) = true) (hsq : inS 1 1048576 (fld m 4) = true) (hpl : resB (fld m 5) (fld m 6) = false) (w : World) :
    Calls Tryz.prog 61 #[.agg (mc m)] w fun e w' => e = .returned (.bool (mayB m)) ∧ Below w.heap.size w w' := by
  have HL := Lib.hid hl
  have HI := Lib.hid (mc_info hl)
  have HI0 := Lib.hid (mc_info zM_length)
  have HK := Lib.hid hk
  have HG := Lib.hid hg
  have hgm := guard_msg
  have c0 := mc_get hl (i := 0) (by omega)
  have c1 := mc_get hl (i := 1) (by omega)
  have c2 := mc_get hl (i := 2) (by omega)
  rw [hk] at c0
  obtain ⟨hf, ht1, ht2⟩ := way_out (by omega) hg
  rw [hf] at c1
  have HF := Lib.hid hf
  have a1 : decide (1 ≤ fld m 2) = true := by simpa using ht1
  have a2 : decide (fld m 2 ≤ 64) = true := by simpa using ht2
  have a3 : (fld m 2 == 0) = false := by simp; omega
  clear hf ht1 ht2 hl hk hg
  have HT := Lib.hid htx
  clear htx
  have HS := Lib.hid hsq
  clear hsq
  have HP := Lib.hid hpl
  have HMAY := Lib.hid (may_no (m := m) fun h => by have h' := may_place h (by have := HK.out; omega); rw [hpl] at h'; cases h')
  clear hpl
  go_enter Tryz.func61, Tryz.ntmps61
  have M0 := Lib.hid ((Blk.new w 46 (mc m)).alloc (.cells (mc zM) 46))
  have N0 := Lib.hid (Blk.new_at (w := w.alloc (.cells (mc m) 46)) (n := w.heap.size + 1) (by simp) 46 (mc zM))
  have B0 := Lib.hid (Below.alloc (Below.alloc (Below.refl w.heap.size w) (Nat.le_refl _) (.cells (mc m) 46)) (by simp) (.cells (mc zM) 46))
  rw [mc_zero] at M0 N0 B0
  go_upto_region 38 with (first
    | (go_at_call 66; (first | (with_reducible refine (number_b HT.out _).mono ?_) | (with_reducible refine (number_b HS.out _).mono ?_)); rintro e w9 ⟨rfl, rfl⟩)
    | (refine wpList_store_mid rfl 46 (.tmp 7) (.tmp 77) rfl (w.heap.size + 1) 0 (mc [1, 0, fld m 2, 0, 0, 0, 0, 0, 0, 0, 0, 0, 0, 0, 0, 0, 0, 0, 0, 0, 0, 0, 0, 0, 0, 0, 0, 0]) rfl rfl (mc_there zM_length rfl N0.out) (mc_info rfl) (ints_oneCell _) ?_
       have HH := Lib.hid (mc_put (q := [1, 0, fld m 2, 0, 0, 0, 0, 0, 0, 0, 0, 0, 0, 0, 0, 0, 0, 0, 0, 0, 0, 0, 0, 0, 0, 0, 0, 0]) zM_length rfl N0.out)
       have HM := Lib.hid (M0.out.farCells (b := w.heap.size + 1) (by omega) (mc [1, 0, fld m 2, 0, 0, 0, 0, 0, 0, 0, 0, 0, 0, 0, 0, 0, 0, 0, 0, 0, 0, 0, 0, 0, 0, 0, 0, 0]).toList 0)
       have HB := Lib.hid (Below.setCells (B := w.heap.size) (b := w.heap.size + 1) (Nat.le_succ _) (mc [1, 0, fld m 2, 0, 0, 0, 0, 0, 0, 0, 0, 0, 0, 0, 0, 0, 0, 0, 0, 0, 0, 0, 0, 0, 0, 0, 0, 0]).toList 0 _ B0.out)
       generalize World.setCells _ _ _ _ = V at HH HM HB ⊢
       have hlV := HM.out.lt
       have k0 := (HM.out.cell 0).trans (mc_get HL.out (i := 0) (by omega))
       have k3 := (HM.out.cell 3).trans (mc_get HL.out (i := 3) (by omega))
       have k4 := (HM.out.cell 4).trans (mc_get HL.out (i := 4) (by omega))
       rw [HK.out] at k0
       have g3 := HH.out.cell 3
       have z3 := HH.out.frozen 3
       have g4 := HH.out.cell 4
       have z4 := HH.out.frozen 4
       have FEND := Lib.hid (show Blk (World.setCell (World.setCell V ⟨w.heap.size + 1, 3, none⟩ (.int .i64 (fld m 3))) ⟨w.heap.size + 1, 4, none⟩ (.int .i64 (fld m 4))) w.heap.size 46 (mc m) from blk_fars (b := w.heap.size + 1) (by omega) [(3, fld m 3), (4, fld m 4)] V HM.out)
       have HEND := Lib.hid (show Blk (World.setCell (World.setCell V ⟨w.heap.size + 1, 3, none⟩ (.int .i64 (fld m 3))) ⟨w.heap.size + 1, 4, none⟩ (.int .i64 (fld m 4))) (w.heap.size + 1) 46 (mc [1, 0, fld m 2, fld m 3, fld m 4, 0, 0, 0, 0, 0, 0, 0, 0, 0, 0, 0, 0, 0, 0, 0, 0, 0, 0, 0, 0, 0, 0, 0]) from blk_sets [(3, fld m 3), (4, fld m 4)] V [1, 0, fld m 2, 0, 0, 0, 0, 0, 0, 0, 0, 0, 0, 0, 0, 0, 0, 0, 0, 0, 0, 0, 0, 0, 0, 0, 0, 0] HH.out)
       have BEND := Lib.hid (show Below w.heap.size w (World.setCell (World.setCell V ⟨w.heap.size + 1, 3, none⟩ (.int .i64 (fld m 3))) ⟨w.heap.size + 1, 4, none⟩ (.int .i64 (fld m 4))) from below_sets (Nat.le_succ _) [(3, fld m 3), (4, fld m 4)] V HB.out)))
  clear k0 k3 k4 g3 g4 z3 z4 hlV
  generalize World.setCell _ _ _ = X at FEND HEND BEND ⊢
  have hlX := FEND.out.lt
  have k0 := (FEND.out.cell 0).trans (mc_get HL.out (i := 0) (by omega))
  have k5 := (FEND.out.cell 5).trans (mc_get HL.out (i := 5) (by omega))
  have k6 := (FEND.out.cell 6).trans (mc_get HL.out (i := 6) (by omega))
  have k7 := (FEND.out.cell 7).trans (mc_get HL.out (i := 7) (by omega))
  rw [HK.out] at k0
  have g5 := HEND.out.cell 5
  have z5 := HEND.out.frozen 5
  have g6 := HEND.out.cell 6
  have z6 := HEND.out.frozen 6
  have g7 := HEND.out.cell 7
  have z7 := HEND.out.frozen 7
  have FE2 := Lib.hid (show Blk (World.setCell (World.setCell (World.setCell X ⟨w.heap.size + 1, 5, none⟩ (.int .i64 (fld m 5))) ⟨w.heap.size + 1, 6, none⟩ (.int .i64 (fld m 6))) ⟨w.heap.size + 1, 7, none⟩ (.int .i64 (fld m 7))) w.heap.size 46 (mc m) from blk_fars (b := w.heap.size + 1) (by omega) [(5, fld m 5), (6, fld m 6), (7, fld m 7)] X FEND.out)
  have HE2 := Lib.hid (show Blk (World.setCell (World.setCell (World.setCell X ⟨w.heap.size + 1, 5, none⟩ (.int .i64 (fld m 5))) ⟨w.heap.size + 1, 6, none⟩ (.int .i64 (fld m 6))) ⟨w.heap.size + 1, 7, none⟩ (.int .i64 (fld m 7))) (w.heap.size + 1) 46 (mc [1, 0, fld m 2, fld m 3, fld m 4, fld m 5, fld m 6, fld m 7, 0, 0, 0, 0, 0, 0, 0, 0, 0, 0, 0, 0, 0, 0, 0, 0, 0, 0, 0, 0]) from blk_sets [(5, fld m 5), (6, fld m 6), (7, fld m 7)] X [1, 0, fld m 2, fld m 3, fld m 4, 0, 0, 0, 0, 0, 0, 0, 0, 0, 0, 0, 0, 0, 0, 0, 0, 0, 0, 0, 0, 0, 0, 0] HEND.out)
  have BE2 := Lib.hid (show Below w.heap.size w (World.setCell (World.setCell (World.setCell X ⟨w.heap.size + 1, 5, none⟩ (.int .i64 (fld m 5))) ⟨w.heap.size + 1, 6, none⟩ (.int .i64 (fld m 6))) ⟨w.heap.size + 1, 7, none⟩ (.int .i64 (fld m 7))) from below_sets (Nat.le_succ _) [(5, fld m 5), (6, fld m 6), (7, fld m 7)] X BEND.out)
  go_upto_region 41 with ((with_reducible show Oper.upon _ _ _ _ _ (Result.andThen (Result.andThen (Result.ok _ _) _) _)); go_simp)
  clear k0 k5 k6 k7 g5 g6 g7 z5 z6 z7 hlX
  generalize World.setCell _ _ _ = Y at FE2 HE2 BE2 ⊢
  have k5 := (FE2.out.cell 5).trans (mc_get HL.out (i := 5) (by omega))
  have k6 := (FE2.out.cell 6).trans (mc_get HL.out (i := 6) (by omega))
  have k7 := (FE2.out.cell 7).trans (mc_get HL.out (i := 7) (by omega))
  go_wp2_with fail
  refine (rokD_any (fld m 5) (fld m 6) _).mono ?_
  rintro e w3 ⟨rfl, hb3⟩
  have HB3 := Lib.hid (stepB BE2.out hb3)
  have HM3 := Lib.hid (FE2.out.here hb3)
  have HH3 := Lib.hid (HE2.out.here hb3)
  have j0 := (HM3.out.cell 0).trans (mc_get HL.out (i := 0) (by omega))
  have j7 := (HM3.out.cell 7).trans (mc_get HL.out (i := 7) (by omega))
  rw [HK.out] at j0
  rw [HP.out]
  clear hb3 k5 k6 k7
  go_wp2_with fail
  go_ret
  exact ⟨ret_bool HMAY.out.symm, HB3.out⟩
end Go.Proofs.YthfhhapefjideaaGreat
