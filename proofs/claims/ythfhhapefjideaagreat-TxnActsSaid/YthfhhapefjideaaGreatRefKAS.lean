/- The document's Ok: a message that goes its kind's way: kind 1. -/
import Derived.Test.YthfhhapefjideaaGreatRefK
namespace Go.Proofs.YthfhhapefjideaaGreat
open Go.RowKit
set_option linter.unusedVariables false
set_option linter.unusedSimpArgs false

set_option maxRecDepth 100000 in
set_option maxHeartbeats 8000000 in
theorem refOk_1t (m : List Int) (hl : m.length = 28) (hk : fld m 0 = 1) (hg : goesB m = true) (htx : inS 1 1048576 (fld m 3) = false) (w : World) :
    Calls Tryz.prog 61 #[.agg (mc m)] w fun e w' => e = .returned (.bool (mayB m)) ∧ Below w.heap.size w w' := by
  have HL := Lib.hid hl
  have HI := Lib.hid (mc_info hl)
  have HI0 := Lib.hid (mc_info zM_length)
  have HK := Lib.hid hk
  have HG := Lib.hid hg
  have hgm := guard_msg
  have c0 := mc_get hl (i := 0) (by omega)
  have c1 := mc_get hl (i := 1) (by omega)
  have c2 := mc_get hl (i := 2) (by omega)
  rw [hk] at c0
  obtain ⟨hf, ht1, ht2⟩ := way_out (by omega) hg
  rw [hf] at c1
  have HF := Lib.hid hf
  have a1 : decide (1 ≤ fld m 2) = true := by simpa using ht1
  have a2 : decide (fld m 2 ≤ 64) = true := by simpa using ht2
  have a3 : (fld m 2 == 0) = false := by simp; omega
  clear hf ht1 ht2 hl hk hg
  have HT := Lib.hid htx
  have HMAY := Lib.hid (may_no (m := m) fun h => by have h' := may_tx h (by have := HK.out; omega); rw [htx] at h'; cases h')
  clear htx
  go_enter Tryz.func61, Tryz.ntmps61
  have M0 := Lib.hid ((Blk.new w 46 (mc m)).alloc (.cells (mc zM) 46))
  have N0 := Lib.hid (Blk.new_at (w := w.alloc (.cells (mc m) 46)) (n := w.heap.size + 1) (by simp) 46 (mc zM))
  have B0 := Lib.hid (Below.alloc (Below.alloc (Below.refl w.heap.size w) (Nat.le_refl _) (.cells (mc m) 46)) (by simp) (.cells (mc zM) 46))
  rw [mc_zero] at M0 N0 B0
  go_wp2_with (first
    | (go_at_call 66; (first | (with_reducible refine (number_b HT.out _).mono ?_)); rintro e w9 ⟨rfl, rfl⟩)
    | (refine wpList_store_mid rfl 46 (.tmp 7) (.tmp 77) rfl (w.heap.size + 1) 0 (mc [1, 0, fld m 2, 0, 0, 0, 0, 0, 0, 0, 0, 0, 0, 0, 0, 0, 0, 0, 0, 0, 0, 0, 0, 0, 0, 0, 0, 0]) rfl rfl (mc_there zM_length rfl N0.out) (mc_info rfl) (ints_oneCell _) ?_
       have HH := Lib.hid (mc_put (q := [1, 0, fld m 2, 0, 0, 0, 0, 0, 0, 0, 0, 0, 0, 0, 0, 0, 0, 0, 0, 0, 0, 0, 0, 0, 0, 0, 0, 0]) zM_length rfl N0.out)
       have HM := Lib.hid (M0.out.farCells (b := w.heap.size + 1) (by omega) (mc [1, 0, fld m 2, 0, 0, 0, 0, 0, 0, 0, 0, 0, 0, 0, 0, 0, 0, 0, 0, 0, 0, 0, 0, 0, 0, 0, 0, 0]).toList 0)
       have HB := Lib.hid (Below.setCells (B := w.heap.size) (b := w.heap.size + 1) (Nat.le_succ _) (mc [1, 0, fld m 2, 0, 0, 0, 0, 0, 0, 0, 0, 0, 0, 0, 0, 0, 0, 0, 0, 0, 0, 0, 0, 0, 0, 0, 0, 0]).toList 0 _ B0.out)
       generalize World.setCells _ _ _ _ = V at HH HM HB ⊢
       have hlV := HM.out.lt
       have k0 := (HM.out.cell 0).trans (mc_get HL.out (i := 0) (by omega))
       have k3 := (HM.out.cell 3).trans (mc_get HL.out (i := 3) (by omega))
       have k4 := (HM.out.cell 4).trans (mc_get HL.out (i := 4) (by omega))
       rw [HK.out] at k0
       have g3 := HH.out.cell 3
       have z3 := HH.out.frozen 3
       have g4 := HH.out.cell 4
       have z4 := HH.out.frozen 4
       have FEND := Lib.hid (show Blk (World.setCell (World.setCell V ⟨w.heap.size + 1, 3, none⟩ (.int .i64 (fld m 3))) ⟨w.heap.size + 1, 4, none⟩ (.int .i64 (fld m 4))) w.heap.size 46 (mc m) from blk_fars (b := w.heap.size + 1) (by omega) [(3, fld m 3), (4, fld m 4)] V HM.out)
       have HEND := Lib.hid (show Blk (World.setCell (World.setCell V ⟨w.heap.size + 1, 3, none⟩ (.int .i64 (fld m 3))) ⟨w.heap.size + 1, 4, none⟩ (.int .i64 (fld m 4))) (w.heap.size + 1) 46 (mc [1, 0, fld m 2, fld m 3, fld m 4, 0, 0, 0, 0, 0, 0, 0, 0, 0, 0, 0, 0, 0, 0, 0, 0, 0, 0, 0, 0, 0, 0, 0]) from blk_sets [(3, fld m 3), (4, fld m 4)] V [1, 0, fld m 2, 0, 0, 0, 0, 0, 0, 0, 0, 0, 0, 0, 0, 0, 0, 0, 0, 0, 0, 0, 0, 0, 0, 0, 0, 0] HH.out)
       have BEND := Lib.hid (show Below w.heap.size w (World.setCell (World.setCell V ⟨w.heap.size + 1, 3, none⟩ (.int .i64 (fld m 3))) ⟨w.heap.size + 1, 4, none⟩ (.int .i64 (fld m 4))) from below_sets (Nat.le_succ _) [(3, fld m 3), (4, fld m 4)] V HB.out)))
  go_ret
  exact ⟨ret_bool HMAY.out.symm, by repeat (first | exact HB.out | refine Below.setCell ?_ (by simp) _)⟩
set_option maxRecDepth 100000 in
set_option maxHeartbeats 8000000 in
theorem refOk_1s (m : List Int) (hl : m.length = 28) (hk : fld m 0 = 1) (hg : goesB m = true) (htx : inS 1 1048576 (fld m 3) = true) (hsq : inS 1 1048576 (fld m 4) = false) (w : World) :
    Calls Tryz.prog 61 #[.agg (mc m)] w fun e w' => e = .returned (.bool (mayB m)) ∧ Below w.heap.size w w' := by
  have HL := Lib.hid hl
  have HI := Lib.hid (mc_info hl)
  have HI0 := Lib.hid (mc_info zM_length)
  have HK := Lib.hid hk
  have HG := Lib.hid hg
  have hgm := guard_msg
  have c0 := mc_get hl (i := 0) (by omega)
  have c1 := mc_get hl (i := 1) (by omega)
  have c2 := mc_get hl (i := 2) (by omega)
  rw [hk] at c0
  obtain ⟨hf, ht1, ht2⟩ := way_out (by omega) hg
  rw [hf] at c1
  have HF := Lib.hid hf
  have a1 : decide (1 ≤ fld m 2) = true := by simpa using ht1
  have a2 : decide (fld m 2 ≤ 64) = true := by simpa using ht2
  have a3 : (fld m 2 == 0) = false := by simp; omega
  clear hf ht1 ht2 hl hk hg
  have HT := Lib.hid htx
  clear htx
  have HS := Lib.hid hsq
  have HMAY := Lib.hid (may_no (m := m) fun h => by have h' := may_seq h (by have := HK.out; omega); rw [hsq] at h'; cases h')
  clear hsq
  go_enter Tryz.func61, Tryz.ntmps61
  have M0 := Lib.hid ((Blk.new w 46 (mc m)).alloc (.cells (mc zM) 46))
  have N0 := Lib.hid (Blk.new_at (w := w.alloc (.cells (mc m) 46)) (n := w.heap.size + 1) (by simp) 46 (mc zM))
  have B0 := Lib.hid (Below.alloc (Below.alloc (Below.refl w.heap.size w) (Nat.le_refl _) (.cells (mc m) 46)) (by simp) (.cells (mc zM) 46))
  rw [mc_zero] at M0 N0 B0
  go_wp2_with (first
    | (go_at_call 66; (first | (with_reducible refine (number_b HT.out _).mono ?_) | (with_reducible refine (number_b HS.out _).mono ?_)); rintro e w9 ⟨rfl, rfl⟩)
    | (refine wpList_store_mid rfl 46 (.tmp 7) (.tmp 77) rfl (w.heap.size + 1) 0 (mc [1, 0, fld m 2, 0, 0, 0, 0, 0, 0, 0, 0, 0, 0, 0, 0, 0, 0, 0, 0, 0, 0, 0, 0, 0, 0, 0, 0, 0]) rfl rfl (mc_there zM_length rfl N0.out) (mc_info rfl) (ints_oneCell _) ?_
       have HH := Lib.hid (mc_put (q := [1, 0, fld m 2, 0, 0, 0, 0, 0, 0, 0, 0, 0, 0, 0, 0, 0, 0, 0, 0, 0, 0, 0, 0, 0, 0, 0, 0, 0]) zM_length rfl N0.out)
       have HM := Lib.hid (M0.out.farCells (b := w.heap.size + 1) (by omega) (mc [1, 0, fld m 2, 0, 0, 0, 0, 0, 0, 0, 0, 0, 0, 0, 0, 0, 0, 0, 0, 0, 0, 0, 0, 0, 0, 0, 0, 0]).toList 0)
       have HB := Lib.hid (Below.setCells (B := w.heap.size) (b := w.heap.size + 1) (Nat.le_succ _) (mc [1, 0, fld m 2, 0, 0, 0, 0, 0, 0, 0, 0, 0, 0, 0, 0, 0, 0, 0, 0, 0, 0, 0, 0, 0, 0, 0, 0, 0]).toList 0 _ B0.out)
       generalize World.setCells _ _ _ _ = V at HH HM HB ⊢
       have hlV := HM.out.lt
       have k0 := (HM.out.cell 0).trans (mc_get HL.out (i := 0) (by omega))
       have k3 := (HM.out.cell 3).trans (mc_get HL.out (i := 3) (by omega))
       have k4 := (HM.out.cell 4).trans (mc_get HL.out (i := 4) (by omega))
       rw [HK.out] at k0
       have g3 := HH.out.cell 3
       have z3 := HH.out.frozen 3
       have g4 := HH.out.cell 4
       have z4 := HH.out.frozen 4
       have FEND := Lib.hid (show Blk (World.setCell (World.setCell V ⟨w.heap.size + 1, 3, none⟩ (.int .i64 (fld m 3))) ⟨w.heap.size + 1, 4, none⟩ (.int .i64 (fld m 4))) w.heap.size 46 (mc m) from blk_fars (b := w.heap.size + 1) (by omega) [(3, fld m 3), (4, fld m 4)] V HM.out)
       have HEND := Lib.hid (show Blk (World.setCell (World.setCell V ⟨w.heap.size + 1, 3, none⟩ (.int .i64 (fld m 3))) ⟨w.heap.size + 1, 4, none⟩ (.int .i64 (fld m 4))) (w.heap.size + 1) 46 (mc [1, 0, fld m 2, fld m 3, fld m 4, 0, 0, 0, 0, 0, 0, 0, 0, 0, 0, 0, 0, 0, 0, 0, 0, 0, 0, 0, 0, 0, 0, 0]) from blk_sets [(3, fld m 3), (4, fld m 4)] V [1, 0, fld m 2, 0, 0, 0, 0, 0, 0, 0, 0, 0, 0, 0, 0, 0, 0, 0, 0, 0, 0, 0, 0, 0, 0, 0, 0, 0] HH.out)
       have BEND := Lib.hid (show Below w.heap.size w (World.setCell (World.setCell V ⟨w.heap.size + 1, 3, none⟩ (.int .i64 (fld m 3))) ⟨w.heap.size + 1, 4, none⟩ (.int .i64 (fld m 4))) from below_sets (Nat.le_succ _) [(3, fld m 3), (4, fld m 4)] V HB.out)))
  go_ret
  exact ⟨ret_bool HMAY.out.symm, by repeat (first | exact HB.out | refine Below.setCell ?_ (by simp) _)⟩
set_option maxRecDepth 100000 in
set_option maxHeartbeats 8000000 in
theorem refOk_2t (m : List Int) (hl : m.length = 28) (hk : fld m 0 = 2) (hg : goesB m = true) (htx : inS 1 1048576 (fld m 3) = false) (w : World) :
    Calls Tryz.prog 61 #[.agg (mc m)] w fun e w' => e = .returned (.bool (mayB m)) ∧ Below w.heap.size w w' := by
  have HL := Lib.hid hl
  have HI := Lib.hid (mc_info hl)
  have HI0 := Lib.hid (mc_info zM_length)
  have HK := Lib.hid hk
  have HG := Lib.hid hg
  have hgm := guard_msg
  have c0 := mc_get hl (i := 0) (by omega)
  have c1 := mc_get hl (i := 1) (by omega)
  have c2 := mc_get hl (i := 2) (by omega)
  rw [hk] at c0
  obtain ⟨⟨ht1, ht2⟩, hf⟩ := way_back (by omega) hg
  rw [hf] at c2
  have HF := Lib.hid hf
  have a1 : decide (1 ≤ fld m 1) = true := by simpa using ht1
  have a2 : decide (fld m 1 ≤ 64) = true := by simpa using ht2
  have a3 : (fld m 1 == 0) = false := by simp; omega
  clear hf ht1 ht2 hl hk hg
  have HT := Lib.hid htx
  have HMAY := Lib.hid (may_no (m := m) fun h => by have h' := may_tx h (by have := HK.out; omega); rw [htx] at h'; cases h')
  clear htx
  go_enter Tryz.func61, Tryz.ntmps61
  have M0 := Lib.hid ((Blk.new w 46 (mc m)).alloc (.cells (mc zM) 46))
  have N0 := Lib.hid (Blk.new_at (w := w.alloc (.cells (mc m) 46)) (n := w.heap.size + 1) (by simp) 46 (mc zM))
  have B0 := Lib.hid (Below.alloc (Below.alloc (Below.refl w.heap.size w) (Nat.le_refl _) (.cells (mc m) 46)) (by simp) (.cells (mc zM) 46))
  rw [mc_zero] at M0 N0 B0
  go_wp2_with (first
    | (go_at_call 66; (first | (with_reducible refine (number_b HT.out _).mono ?_)); rintro e w9 ⟨rfl, rfl⟩)
    | (refine wpList_store_mid rfl 46 (.tmp 7) (.tmp 77) rfl (w.heap.size + 1) 0 (mc [2, fld m 1, 0, 0, 0, 0, 0, 0, 0, 0, 0, 0, 0, 0, 0, 0, 0, 0, 0, 0, 0, 0, 0, 0, 0, 0, 0, 0]) rfl rfl (mc_there zM_length rfl N0.out) (mc_info rfl) (ints_oneCell _) ?_
       have HH := Lib.hid (mc_put (q := [2, fld m 1, 0, 0, 0, 0, 0, 0, 0, 0, 0, 0, 0, 0, 0, 0, 0, 0, 0, 0, 0, 0, 0, 0, 0, 0, 0, 0]) zM_length rfl N0.out)
       have HM := Lib.hid (M0.out.farCells (b := w.heap.size + 1) (by omega) (mc [2, fld m 1, 0, 0, 0, 0, 0, 0, 0, 0, 0, 0, 0, 0, 0, 0, 0, 0, 0, 0, 0, 0, 0, 0, 0, 0, 0, 0]).toList 0)
       have HB := Lib.hid (Below.setCells (B := w.heap.size) (b := w.heap.size + 1) (Nat.le_succ _) (mc [2, fld m 1, 0, 0, 0, 0, 0, 0, 0, 0, 0, 0, 0, 0, 0, 0, 0, 0, 0, 0, 0, 0, 0, 0, 0, 0, 0, 0]).toList 0 _ B0.out)
       generalize World.setCells _ _ _ _ = V at HH HM HB ⊢
       have hlV := HM.out.lt
       have k0 := (HM.out.cell 0).trans (mc_get HL.out (i := 0) (by omega))
       have k3 := (HM.out.cell 3).trans (mc_get HL.out (i := 3) (by omega))
       have k4 := (HM.out.cell 4).trans (mc_get HL.out (i := 4) (by omega))
       rw [HK.out] at k0
       have g3 := HH.out.cell 3
       have z3 := HH.out.frozen 3
       have g4 := HH.out.cell 4
       have z4 := HH.out.frozen 4
       have FEND := Lib.hid (show Blk (World.setCell (World.setCell V ⟨w.heap.size + 1, 3, none⟩ (.int .i64 (fld m 3))) ⟨w.heap.size + 1, 4, none⟩ (.int .i64 (fld m 4))) w.heap.size 46 (mc m) from blk_fars (b := w.heap.size + 1) (by omega) [(3, fld m 3), (4, fld m 4)] V HM.out)
       have HEND := Lib.hid (show Blk (World.setCell (World.setCell V ⟨w.heap.size + 1, 3, none⟩ (.int .i64 (fld m 3))) ⟨w.heap.size + 1, 4, none⟩ (.int .i64 (fld m 4))) (w.heap.size + 1) 46 (mc [2, fld m 1, 0, fld m 3, fld m 4, 0, 0, 0, 0, 0, 0, 0, 0, 0, 0, 0, 0, 0, 0, 0, 0, 0, 0, 0, 0, 0, 0, 0]) from blk_sets [(3, fld m 3), (4, fld m 4)] V [2, fld m 1, 0, 0, 0, 0, 0, 0, 0, 0, 0, 0, 0, 0, 0, 0, 0, 0, 0, 0, 0, 0, 0, 0, 0, 0, 0, 0] HH.out)
       have BEND := Lib.hid (show Below w.heap.size w (World.setCell (World.setCell V ⟨w.heap.size + 1, 3, none⟩ (.int .i64 (fld m 3))) ⟨w.heap.size + 1, 4, none⟩ (.int .i64 (fld m 4))) from below_sets (Nat.le_succ _) [(3, fld m 3), (4, fld m 4)] V HB.out)))
  go_ret
  exact ⟨ret_bool HMAY.out.symm, by repeat (first | exact HB.out | refine Below.setCell ?_ (by simp) _)⟩
set_option maxRecDepth 100000 in
set_option maxHeartbeats 8000000 in
theorem refOk_2s (m : List Int) (hl : m.length = 28) (hk : fld m 0 = 2) (hg : goesB m = true) (htx : inS 1 1048576 (fld m 3) = true) (hsq : inS 1 1048576 (fld m 4) = false) (w : World) :
    Calls Tryz.prog 61 #[.agg (mc m)] w fun e w' => e = .returned (.bool (mayB m)) ∧ Below w.heap.size w w' := by
  have HL := Lib.hid hl
  have HI := Lib.hid (mc_info hl)
  have HI0 := Lib.hid (mc_info zM_length)
  have HK := Lib.hid hk
  have HG := Lib.hid hg
  have hgm := guard_msg
  have c0 := mc_get hl (i := 0) (by omega)
  have c1 := mc_get hl (i := 1) (by omega)
  have c2 := mc_get hl (i := 2) (by omega)
  rw [hk] at c0
  obtain ⟨⟨ht1, ht2⟩, hf⟩ := way_back (by omega) hg
  rw [hf] at c2
  have HF := Lib.hid hf
  have a1 : decide (1 ≤ fld m 1) = true := by simpa using ht1
  have a2 : decide (fld m 1 ≤ 64) = true := by simpa using ht2
  have a3 : (fld m 1 == 0) = false := by simp; omega
  clear hf ht1 ht2 hl hk hg
  have HT := Lib.hid htx
  clear htx
  have HS := Lib.hid hsq
  have HMAY := Lib.hid (may_no (m := m) fun h => by have h' := may_seq h (by have := HK.out; omega); rw [hsq] at h'; cases h')
  clear hsq
  go_enter Tryz.func61, Tryz.ntmps61
  have M0 := Lib.hid ((Blk.new w 46 (mc m)).alloc (.cells (mc zM) 46))
  have N0 := Lib.hid (Blk.new_at (w := w.alloc (.cells (mc m) 46)) (n := w.heap.size + 1) (by simp) 46 (mc zM))
  have B0 := Lib.hid (Below.alloc (Below.alloc (Below.refl w.heap.size w) (Nat.le_refl _) (.cells (mc m) 46)) (by simp) (.cells (mc zM) 46))
  rw [mc_zero] at M0 N0 B0
  go_wp2_with (first
    | (go_at_call 66; (first | (with_reducible refine (number_b HT.out _).mono ?_) | (with_reducible refine (number_b HS.out _).mono ?_)); rintro e w9 ⟨rfl, rfl⟩)
    | (refine wpList_store_mid rfl 46 (.tmp 7) (.tmp 77) rfl (w.heap.size + 1) 0 (mc [2, fld m 1, 0, 0, 0, 0, 0, 0, 0, 0, 0, 0, 0, 0, 0, 0, 0, 0, 0, 0, 0, 0, 0, 0, 0, 0, 0, 0]) rfl rfl (mc_there zM_length rfl N0.out) (mc_info rfl) (ints_oneCell _) ?_
       have HH := Lib.hid (mc_put (q := [2, fld m 1, 0, 0, 0, 0, 0, 0, 0, 0, 0, 0, 0, 0, 0, 0, 0, 0, 0, 0, 0, 0, 0, 0, 0, 0, 0, 0]) zM_length rfl N0.out)
       have HM := Lib.hid (M0.out.farCells (b := w.heap.size + 1) (by omega) (mc [2, fld m 1, 0, 0, 0, 0, 0, 0, 0, 0, 0, 0, 0, 0, 0, 0, 0, 0, 0, 0, 0, 0, 0, 0, 0, 0, 0, 0]).toList 0)
       have HB := Lib.hid (Below.setCells (B := w.heap.size) (b := w.heap.size + 1) (Nat.le_succ _) (mc [2, fld m 1, 0, 0, 0, 0, 0, 0, 0, 0, 0, 0, 0, 0, 0, 0, 0, 0, 0, 0, 0, 0, 0, 0, 0, 0, 0, 0]).toList 0 _ B0.out)
       generalize World.setCells _ _ _ _ = V at HH HM HB ⊢
       have hlV := HM.out.lt
       have k0 := (HM.out.cell 0).trans (mc_get HL.out (i := 0) (by omega))
       have k3 := (HM.out.cell 3).trans (mc_get HL.out (i := 3) (by omega))
       have k4 := (HM.out.cell 4).trans (mc_get HL.out (i := 4) (by omega))
       rw [HK.out] at k0
       have g3 := HH.out.cell 3
       have z3 := HH.out.frozen 3
       have g4 := HH.out.cell 4
       have z4 := HH.out.frozen 4
       have FEND := Lib.hid (show Blk (World.setCell (World.setCell V ⟨w.heap.size + 1, 3, none⟩ (.int .i64 (fld m 3))) ⟨w.heap.size + 1, 4, none⟩ (.int .i64 (fld m 4))) w.heap.size 46 (mc m) from blk_fars (b := w.heap.size + 1) (by omega) [(3, fld m 3), (4, fld m 4)] V HM.out)
       have HEND := Lib.hid (show Blk (World.setCell (World.setCell V ⟨w.heap.size + 1, 3, none⟩ (.int .i64 (fld m 3))) ⟨w.heap.size + 1, 4, none⟩ (.int .i64 (fld m 4))) (w.heap.size + 1) 46 (mc [2, fld m 1, 0, fld m 3, fld m 4, 0, 0, 0, 0, 0, 0, 0, 0, 0, 0, 0, 0, 0, 0, 0, 0, 0, 0, 0, 0, 0, 0, 0]) from blk_sets [(3, fld m 3), (4, fld m 4)] V [2, fld m 1, 0, 0, 0, 0, 0, 0, 0, 0, 0, 0, 0, 0, 0, 0, 0, 0, 0, 0, 0, 0, 0, 0, 0, 0, 0, 0] HH.out)
       have BEND := Lib.hid (show Below w.heap.size w (World.setCell (World.setCell V ⟨w.heap.size + 1, 3, none⟩ (.int .i64 (fld m 3))) ⟨w.heap.size + 1, 4, none⟩ (.int .i64 (fld m 4))) from below_sets (Nat.le_succ _) [(3, fld m 3), (4, fld m 4)] V HB.out)))
  go_ret
  exact ⟨ret_bool HMAY.out.symm, by repeat (first | exact HB.out | refine Below.setCell ?_ (by simp) _)⟩
end Go.Proofs.YthfhhapefjideaaGreat
