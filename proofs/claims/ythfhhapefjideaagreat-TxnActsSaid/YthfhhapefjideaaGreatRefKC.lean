/- The document's Ok: a message that goes its kind's way: kinds 4, 7. -/
import Derived.Test.YthfhhapefjideaaGreatRefK
namespace Go.Proofs.YthfhhapefjideaaGreat
open Go.RowKit
set_option linter.unusedVariables false
set_option linter.unusedSimpArgs false

set_option maxRecDepth 100000 in
set_option maxHeartbeats 8000000 in
theorem refOk_4 (m : List Int) (hl : m.length = 28) (hk : fld m 0 = 4) (hg : goesB m = true) (w : World) :
    Calls Tryz.prog 61 #[.agg (mc m)] w fun e w' => e = .returned (.bool (mayB m)) ∧ Below w.heap.size w w' := by
  have HL := Lib.hid hl
  have HI := Lib.hid (mc_info hl)
  have HI0 := Lib.hid (mc_info zM_length)
  have HK := Lib.hid hk
  have HG := Lib.hid hg
  have hgm := guard_msg
  have c0 := mc_get hl (i := 0) (by omega)
  have c1 := mc_get hl (i := 1) (by omega)
  have c2 := mc_get hl (i := 2) (by omega)
  rw [hk] at c0
  obtain ⟨hf, ht1, ht2⟩ := way_out (by omega) hg
  rw [hf] at c1
  have HF := Lib.hid hf
  have a1 : decide (1 ≤ fld m 2) = true := by simpa using ht1
  have a2 : decide (fld m 2 ≤ 64) = true := by simpa using ht2
  have a3 : (fld m 2 == 0) = false := by simp; omega
  clear hf ht1 ht2 hl hk hg
  cases htx : inS 1 1048576 (fld m 3)
  · have HT := Lib.hid htx
    have HMAY := Lib.hid (may_no (m := m) fun h => by have h' := may_tx h (by have := HK.out; omega); rw [htx] at h'; cases h')
    clear htx
    go_enter Tryz.func61, Tryz.ntmps61
    have M0 := Lib.hid ((Blk.new w 46 (mc m)).alloc (.cells (mc zM) 46))
    have N0 := Lib.hid (Blk.new_at (w := w.alloc (.cells (mc m) 46)) (n := w.heap.size + 1) (by simp) 46 (mc zM))
    have B0 := Lib.hid (Below.alloc (Below.alloc (Below.refl w.heap.size w) (Nat.le_refl _) (.cells (mc m) 46)) (by simp) (.cells (mc zM) 46))
    rw [mc_zero] at M0 N0 B0
    go_wp2_with (first
      | (go_at_call 66; (first | (with_reducible refine (number_b HT.out _).mono ?_)); rintro e w9 ⟨rfl, rfl⟩)
      | (refine wpList_store_mid rfl 46 (.tmp 7) (.tmp 77) rfl (w.heap.size + 1) 0 (mc [4, 0, fld m 2, 0, 0, 0, 0, 0, 0, 0, 0, 0, 0, 0, 0, 0, 0, 0, 0, 0, 0, 0, 0, 0, 0, 0, 0, 0]) rfl rfl (mc_there zM_length rfl N0.out) (mc_info rfl) (ints_oneCell _) ?_
         have HH := Lib.hid (mc_put (q := [4, 0, fld m 2, 0, 0, 0, 0, 0, 0, 0, 0, 0, 0, 0, 0, 0, 0, 0, 0, 0, 0, 0, 0, 0, 0, 0, 0, 0]) zM_length rfl N0.out)
         have HM := Lib.hid (M0.out.farCells (b := w.heap.size + 1) (by omega) (mc [4, 0, fld m 2, 0, 0, 0, 0, 0, 0, 0, 0, 0, 0, 0, 0, 0, 0, 0, 0, 0, 0, 0, 0, 0, 0, 0, 0, 0]).toList 0)
         have HB := Lib.hid (Below.setCells (B := w.heap.size) (b := w.heap.size + 1) (Nat.le_succ _) (mc [4, 0, fld m 2, 0, 0, 0, 0, 0, 0, 0, 0, 0, 0, 0, 0, 0, 0, 0, 0, 0, 0, 0, 0, 0, 0, 0, 0, 0]).toList 0 _ B0.out)
         generalize World.setCells _ _ _ _ = V at HH HM HB ⊢
         have hlV := HM.out.lt
         have k0 := (HM.out.cell 0).trans (mc_get HL.out (i := 0) (by omega))
         have k3 := (HM.out.cell 3).trans (mc_get HL.out (i := 3) (by omega))
         rw [HK.out] at k0
         have g3 := HH.out.cell 3
         have z3 := HH.out.frozen 3
         have FEND := Lib.hid (show Blk (World.setCell V ⟨w.heap.size + 1, 3, none⟩ (.int .i64 (fld m 3))) w.heap.size 46 (mc m) from blk_fars (b := w.heap.size + 1) (by omega) [(3, fld m 3)] V HM.out)
         have HEND := Lib.hid (show Blk (World.setCell V ⟨w.heap.size + 1, 3, none⟩ (.int .i64 (fld m 3))) (w.heap.size + 1) 46 (mc [4, 0, fld m 2, fld m 3, 0, 0, 0, 0, 0, 0, 0, 0, 0, 0, 0, 0, 0, 0, 0, 0, 0, 0, 0, 0, 0, 0, 0, 0]) from blk_sets [(3, fld m 3)] V [4, 0, fld m 2, 0, 0, 0, 0, 0, 0, 0, 0, 0, 0, 0, 0, 0, 0, 0, 0, 0, 0, 0, 0, 0, 0, 0, 0, 0] HH.out)))
    go_ret
    exact ⟨ret_bool HMAY.out.symm, by repeat (first | exact HB.out | refine Below.setCell ?_ (by simp) _)⟩
  · have HT := Lib.hid htx
    clear htx
    have HQ := Lib.hid (show [4, 0, fld m 2, fld m 3, 0, 0, 0, 0, 0, 0, 0, 0, 0, 0, 0, 0, 0, 0, 0, 0, 0, 0, 0, 0, 0, 0, 0, 0] = keepL m sC by
      have h : keepL m sC = [fld m 0, fld m 1, fld m 2, fld m 3, 0, 0, 0, 0, 0, 0, 0, 0, 0, 0, 0, 0, 0, 0, 0, 0, 0, 0, 0, 0, 0, 0, 0, 0] := rfl
      rw [HK.out, HF.out] at h
      exact h.symm)
    have he : ∀ W, (binOp .eql 46 (.agg (mc m)) (.agg (mc [4, 0, fld m 2, fld m 3, 0, 0, 0, 0, 0, 0, 0, 0, 0, 0, 0, 0, 0, 0, 0, 0, 0, 0, 0, 0, 0, 0, 0, 0]))).run Tryz.prog W = .ok (.bool (mayB m)) W := fun W => by
      rw [eql_msg HL.out rfl, mayC HL.out (by have := HK.out; omega) HG.out HT.out, HQ.out]
    go_enter Tryz.func61, Tryz.ntmps61
    have M0 := Lib.hid ((Blk.new w 46 (mc m)).alloc (.cells (mc zM) 46))
    have N0 := Lib.hid (Blk.new_at (w := w.alloc (.cells (mc m) 46)) (n := w.heap.size + 1) (by simp) 46 (mc zM))
    have B0 := Lib.hid (Below.alloc (Below.alloc (Below.refl w.heap.size w) (Nat.le_refl _) (.cells (mc m) 46)) (by simp) (.cells (mc zM) 46))
    rw [mc_zero] at M0 N0 B0
    go_wp2_with (first
      | (go_at_call 66; (first | (with_reducible refine (number_b HT.out _).mono ?_)); rintro e w9 ⟨rfl, rfl⟩)
      | (refine wpList_store_mid rfl 46 (.tmp 7) (.tmp 77) rfl (w.heap.size + 1) 0 (mc [4, 0, fld m 2, 0, 0, 0, 0, 0, 0, 0, 0, 0, 0, 0, 0, 0, 0, 0, 0, 0, 0, 0, 0, 0, 0, 0, 0, 0]) rfl rfl (mc_there zM_length rfl N0.out) (mc_info rfl) (ints_oneCell _) ?_
         have HH := Lib.hid (mc_put (q := [4, 0, fld m 2, 0, 0, 0, 0, 0, 0, 0, 0, 0, 0, 0, 0, 0, 0, 0, 0, 0, 0, 0, 0, 0, 0, 0, 0, 0]) zM_length rfl N0.out)
         have HM := Lib.hid (M0.out.farCells (b := w.heap.size + 1) (by omega) (mc [4, 0, fld m 2, 0, 0, 0, 0, 0, 0, 0, 0, 0, 0, 0, 0, 0, 0, 0, 0, 0, 0, 0, 0, 0, 0, 0, 0, 0]).toList 0)
         have HB := Lib.hid (Below.setCells (B := w.heap.size) (b := w.heap.size + 1) (Nat.le_succ _) (mc [4, 0, fld m 2, 0, 0, 0, 0, 0, 0, 0, 0, 0, 0, 0, 0, 0, 0, 0, 0, 0, 0, 0, 0, 0, 0, 0, 0, 0]).toList 0 _ B0.out)
         generalize World.setCells _ _ _ _ = V at HH HM HB ⊢
         have hlV := HM.out.lt
         have k0 := (HM.out.cell 0).trans (mc_get HL.out (i := 0) (by omega))
         have k3 := (HM.out.cell 3).trans (mc_get HL.out (i := 3) (by omega))
         rw [HK.out] at k0
         have g3 := HH.out.cell 3
         have z3 := HH.out.frozen 3
         have FEND := Lib.hid (show Blk (World.setCell V ⟨w.heap.size + 1, 3, none⟩ (.int .i64 (fld m 3))) w.heap.size 46 (mc m) from blk_fars (b := w.heap.size + 1) (by omega) [(3, fld m 3)] V HM.out)
         have HEND := Lib.hid (show Blk (World.setCell V ⟨w.heap.size + 1, 3, none⟩ (.int .i64 (fld m 3))) (w.heap.size + 1) 46 (mc [4, 0, fld m 2, fld m 3, 0, 0, 0, 0, 0, 0, 0, 0, 0, 0, 0, 0, 0, 0, 0, 0, 0, 0, 0, 0, 0, 0, 0, 0]) from blk_sets [(3, fld m 3)] V [4, 0, fld m 2, 0, 0, 0, 0, 0, 0, 0, 0, 0, 0, 0, 0, 0, 0, 0, 0, 0, 0, 0, 0, 0, 0, 0, 0, 0] HH.out))
      | (refine wpList_load_row rfl 46 (.tmp 1) rfl w.heap.size rfl 46 (mc m) (0, 0) _ FEND.out Tryz.underlying46 rfl HI.out ?_)
      | (refine wpList_load_row rfl 46 (.tmp 7) rfl (w.heap.size + 1) rfl 46 (mc [4, 0, fld m 2, fld m 3, 0, 0, 0, 0, 0, 0, 0, 0, 0, 0, 0, 0, 0, 0, 0, 0, 0, 0, 0, 0, 0, 0, 0, 0]) (0, 0) _ HEND.out Tryz.underlying46 rfl (mc_info rfl) ?_))
    go_ret
    exact ⟨rfl, by repeat (first | exact HB.out | refine Below.setCell ?_ (by simp) _)⟩
set_option maxRecDepth 100000 in
set_option maxHeartbeats 8000000 in
theorem refOk_7 (m : List Int) (hl : m.length = 28) (hk : fld m 0 = 7) (hg : goesB m = true) (w : World) :
    Calls Tryz.prog 61 #[.agg (mc m)] w fun e w' => e = .returned (.bool (mayB m)) ∧ Below w.heap.size w w' := by
  have HL := Lib.hid hl
  have HI := Lib.hid (mc_info hl)
  have HI0 := Lib.hid (mc_info zM_length)
  have HK := Lib.hid hk
  have HG := Lib.hid hg
  have hgm := guard_msg
  have c0 := mc_get hl (i := 0) (by omega)
  have c1 := mc_get hl (i := 1) (by omega)
  have c2 := mc_get hl (i := 2) (by omega)
  rw [hk] at c0
  obtain ⟨⟨ht1, ht2⟩, hf⟩ := way_back (by omega) hg
  rw [hf] at c2
  have HF := Lib.hid hf
  have a1 : decide (1 ≤ fld m 1) = true := by simpa using ht1
  have a2 : decide (fld m 1 ≤ 64) = true := by simpa using ht2
  have a3 : (fld m 1 == 0) = false := by simp; omega
  clear hf ht1 ht2 hl hk hg
  cases htx : inS 1 1048576 (fld m 3)
  · have HT := Lib.hid htx
    have HMAY := Lib.hid (may_no (m := m) fun h => by have h' := may_tx h (by have := HK.out; omega); rw [htx] at h'; cases h')
    clear htx
    go_enter Tryz.func61, Tryz.ntmps61
    have M0 := Lib.hid ((Blk.new w 46 (mc m)).alloc (.cells (mc zM) 46))
    have N0 := Lib.hid (Blk.new_at (w := w.alloc (.cells (mc m) 46)) (n := w.heap.size + 1) (by simp) 46 (mc zM))
    have B0 := Lib.hid (Below.alloc (Below.alloc (Below.refl w.heap.size w) (Nat.le_refl _) (.cells (mc m) 46)) (by simp) (.cells (mc zM) 46))
    rw [mc_zero] at M0 N0 B0
    go_wp2_with (first
      | (go_at_call 66; (first | (with_reducible refine (number_b HT.out _).mono ?_)); rintro e w9 ⟨rfl, rfl⟩)
      | (refine wpList_store_mid rfl 46 (.tmp 7) (.tmp 77) rfl (w.heap.size + 1) 0 (mc [7, fld m 1, 0, 0, 0, 0, 0, 0, 0, 0, 0, 0, 0, 0, 0, 0, 0, 0, 0, 0, 0, 0, 0, 0, 0, 0, 0, 0]) rfl rfl (mc_there zM_length rfl N0.out) (mc_info rfl) (ints_oneCell _) ?_
         have HH := Lib.hid (mc_put (q := [7, fld m 1, 0, 0, 0, 0, 0, 0, 0, 0, 0, 0, 0, 0, 0, 0, 0, 0, 0, 0, 0, 0, 0, 0, 0, 0, 0, 0]) zM_length rfl N0.out)
         have HM := Lib.hid (M0.out.farCells (b := w.heap.size + 1) (by omega) (mc [7, fld m 1, 0, 0, 0, 0, 0, 0, 0, 0, 0, 0, 0, 0, 0, 0, 0, 0, 0, 0, 0, 0, 0, 0, 0, 0, 0, 0]).toList 0)
         have HB := Lib.hid (Below.setCells (B := w.heap.size) (b := w.heap.size + 1) (Nat.le_succ _) (mc [7, fld m 1, 0, 0, 0, 0, 0, 0, 0, 0, 0, 0, 0, 0, 0, 0, 0, 0, 0, 0, 0, 0, 0, 0, 0, 0, 0, 0]).toList 0 _ B0.out)
         generalize World.setCells _ _ _ _ = V at HH HM HB ⊢
         have hlV := HM.out.lt
         have k0 := (HM.out.cell 0).trans (mc_get HL.out (i := 0) (by omega))
         have k3 := (HM.out.cell 3).trans (mc_get HL.out (i := 3) (by omega))
         rw [HK.out] at k0
         have g3 := HH.out.cell 3
         have z3 := HH.out.frozen 3
         have FEND := Lib.hid (show Blk (World.setCell V ⟨w.heap.size + 1, 3, none⟩ (.int .i64 (fld m 3))) w.heap.size 46 (mc m) from blk_fars (b := w.heap.size + 1) (by omega) [(3, fld m 3)] V HM.out)
         have HEND := Lib.hid (show Blk (World.setCell V ⟨w.heap.size + 1, 3, none⟩ (.int .i64 (fld m 3))) (w.heap.size + 1) 46 (mc [7, fld m 1, 0, fld m 3, 0, 0, 0, 0, 0, 0, 0, 0, 0, 0, 0, 0, 0, 0, 0, 0, 0, 0, 0, 0, 0, 0, 0, 0]) from blk_sets [(3, fld m 3)] V [7, fld m 1, 0, 0, 0, 0, 0, 0, 0, 0, 0, 0, 0, 0, 0, 0, 0, 0, 0, 0, 0, 0, 0, 0, 0, 0, 0, 0] HH.out)))
    go_ret
    exact ⟨ret_bool HMAY.out.symm, by repeat (first | exact HB.out | refine Below.setCell ?_ (by simp) _)⟩
  · have HT := Lib.hid htx
    clear htx
    have HQ := Lib.hid (show [7, fld m 1, 0, fld m 3, 0, 0, 0, 0, 0, 0, 0, 0, 0, 0, 0, 0, 0, 0, 0, 0, 0, 0, 0, 0, 0, 0, 0, 0] = keepL m sC by
      have h : keepL m sC = [fld m 0, fld m 1, fld m 2, fld m 3, 0, 0, 0, 0, 0, 0, 0, 0, 0, 0, 0, 0, 0, 0, 0, 0, 0, 0, 0, 0, 0, 0, 0, 0] := rfl
      rw [HK.out, HF.out] at h
      exact h.symm)
    have he : ∀ W, (binOp .eql 46 (.agg (mc m)) (.agg (mc [7, fld m 1, 0, fld m 3, 0, 0, 0, 0, 0, 0, 0, 0, 0, 0, 0, 0, 0, 0, 0, 0, 0, 0, 0, 0, 0, 0, 0, 0]))).run Tryz.prog W = .ok (.bool (mayB m)) W := fun W => by
      rw [eql_msg HL.out rfl, mayC HL.out (by have := HK.out; omega) HG.out HT.out, HQ.out]
    go_enter Tryz.func61, Tryz.ntmps61
    have M0 := Lib.hid ((Blk.new w 46 (mc m)).alloc (.cells (mc zM) 46))
    have N0 := Lib.hid (Blk.new_at (w := w.alloc (.cells (mc m) 46)) (n := w.heap.size + 1) (by simp) 46 (mc zM))
    have B0 := Lib.hid (Below.alloc (Below.alloc (Below.refl w.heap.size w) (Nat.le_refl _) (.cells (mc m) 46)) (by simp) (.cells (mc zM) 46))
    rw [mc_zero] at M0 N0 B0
    go_wp2_with (first
      | (go_at_call 66; (first | (with_reducible refine (number_b HT.out _).mono ?_)); rintro e w9 ⟨rfl, rfl⟩)
      | (refine wpList_store_mid rfl 46 (.tmp 7) (.tmp 77) rfl (w.heap.size + 1) 0 (mc [7, fld m 1, 0, 0, 0, 0, 0, 0, 0, 0, 0, 0, 0, 0, 0, 0, 0, 0, 0, 0, 0, 0, 0, 0, 0, 0, 0, 0]) rfl rfl (mc_there zM_length rfl N0.out) (mc_info rfl) (ints_oneCell _) ?_
         have HH := Lib.hid (mc_put (q := [7, fld m 1, 0, 0, 0, 0, 0, 0, 0, 0, 0, 0, 0, 0, 0, 0, 0, 0, 0, 0, 0, 0, 0, 0, 0, 0, 0, 0]) zM_length rfl N0.out)
         have HM := Lib.hid (M0.out.farCells (b := w.heap.size + 1) (by omega) (mc [7, fld m 1, 0, 0, 0, 0, 0, 0, 0, 0, 0, 0, 0, 0, 0, 0, 0, 0, 0, 0, 0, 0, 0, 0, 0, 0, 0, 0]).toList 0)
         have HB := Lib.hid (Below.setCells (B := w.heap.size) (b := w.heap.size + 1) (Nat.le_succ _) (mc [7, fld m 1, 0, 0, 0, 0, 0, 0, 0, 0, 0, 0, 0, 0, 0, 0, 0, 0, 0, 0, 0, 0, 0, 0, 0, 0, 0, 0]).toList 0 _ B0.out)
         generalize World.setCells _ _ _ _ = V at HH HM HB ⊢
         have hlV := HM.out.lt
         have k0 := (HM.out.cell 0).trans (mc_get HL.out (i := 0) (by omega))
         have k3 := (HM.out.cell 3).trans (mc_get HL.out (i := 3) (by omega))
         rw [HK.out] at k0
         have g3 := HH.out.cell 3
         have z3 := HH.out.frozen 3
         have FEND := Lib.hid (show Blk (World.setCell V ⟨w.heap.size + 1, 3, none⟩ (.int .i64 (fld m 3))) w.heap.size 46 (mc m) from blk_fars (b := w.heap.size + 1) (by omega) [(3, fld m 3)] V HM.out)
         have HEND := Lib.hid (show Blk (World.setCell V ⟨w.heap.size + 1, 3, none⟩ (.int .i64 (fld m 3))) (w.heap.size + 1) 46 (mc [7, fld m 1, 0, fld m 3, 0, 0, 0, 0, 0, 0, 0, 0, 0, 0, 0, 0, 0, 0, 0, 0, 0, 0, 0, 0, 0, 0, 0, 0]) from blk_sets [(3, fld m 3)] V [7, fld m 1, 0, 0, 0, 0, 0, 0, 0, 0, 0, 0, 0, 0, 0, 0, 0, 0, 0, 0, 0, 0, 0, 0, 0, 0, 0, 0] HH.out))
      | (refine wpList_load_row rfl 46 (.tmp 1) rfl w.heap.size rfl 46 (mc m) (0, 0) _ FEND.out Tryz.underlying46 rfl HI.out ?_)
      | (refine wpList_load_row rfl 46 (.tmp 7) rfl (w.heap.size + 1) rfl 46 (mc [7, fld m 1, 0, fld m 3, 0, 0, 0, 0, 0, 0, 0, 0, 0, 0, 0, 0, 0, 0, 0, 0, 0, 0, 0, 0, 0, 0, 0, 0]) (0, 0) _ HEND.out Tryz.underlying46 rfl (mc_info rfl) ?_))
    go_ret
    exact ⟨rfl, by repeat (first | exact HB.out | refine Below.setCell ?_ (by simp) _)⟩
set_option maxRecDepth 100000 in
set_option maxHeartbeats 8000000 in
theorem refOk_8 (m : List Int) (hl : m.length = 28) (hk : fld m 0 = 8) (hg : goesB m = true) (w : World) :
    Calls Tryz.prog 61 #[.agg (mc m)] w fun e w' => e = .returned (.bool (mayB m)) ∧ Below w.heap.size w w' := by
  have HL := Lib.hid hl
  have HI := Lib.hid (mc_info hl)
  have HI0 := Lib.hid (mc_info zM_length)
  have HK := Lib.hid hk
  have HG := Lib.hid hg
  have hgm := guard_msg
  have c0 := mc_get hl (i := 0) (by omega)
  have c1 := mc_get hl (i := 1) (by omega)
  have c2 := mc_get hl (i := 2) (by omega)
  rw [hk] at c0
  obtain ⟨hf, ht1, ht2⟩ := way_out (by omega) hg
  rw [hf] at c1
  have HF := Lib.hid hf
  have a1 : decide (1 ≤ fld m 2) = true := by simpa using ht1
  have a2 : decide (fld m 2 ≤ 64) = true := by simpa using ht2
  have a3 : (fld m 2 == 0) = false := by simp; omega
  clear hf ht1 ht2 hl hk hg
  cases htx : inS 1 1048576 (fld m 3)
  · have HT := Lib.hid htx
    have HMAY := Lib.hid (may_no (m := m) fun h => by have h' := may_tx h (by have := HK.out; omega); rw [htx] at h'; cases h')
    clear htx
    go_enter Tryz.func61, Tryz.ntmps61
    have M0 := Lib.hid ((Blk.new w 46 (mc m)).alloc (.cells (mc zM) 46))
    have N0 := Lib.hid (Blk.new_at (w := w.alloc (.cells (mc m) 46)) (n := w.heap.size + 1) (by simp) 46 (mc zM))
    have B0 := Lib.hid (Below.alloc (Below.alloc (Below.refl w.heap.size w) (Nat.le_refl _) (.cells (mc m) 46)) (by simp) (.cells (mc zM) 46))
    rw [mc_zero] at M0 N0 B0
    go_wp2_with (first
      | (go_at_call 66; (first | (with_reducible refine (number_b HT.out _).mono ?_)); rintro e w9 ⟨rfl, rfl⟩)
      | (refine wpList_store_mid rfl 46 (.tmp 7) (.tmp 77) rfl (w.heap.size + 1) 0 (mc [8, 0, fld m 2, 0, 0, 0, 0, 0, 0, 0, 0, 0, 0, 0, 0, 0, 0, 0, 0, 0, 0, 0, 0, 0, 0, 0, 0, 0]) rfl rfl (mc_there zM_length rfl N0.out) (mc_info rfl) (ints_oneCell _) ?_
         have HH := Lib.hid (mc_put (q := [8, 0, fld m 2, 0, 0, 0, 0, 0, 0, 0, 0, 0, 0, 0, 0, 0, 0, 0, 0, 0, 0, 0, 0, 0, 0, 0, 0, 0]) zM_length rfl N0.out)
         have HM := Lib.hid (M0.out.farCells (b := w.heap.size + 1) (by omega) (mc [8, 0, fld m 2, 0, 0, 0, 0, 0, 0, 0, 0, 0, 0, 0, 0, 0, 0, 0, 0, 0, 0, 0, 0, 0, 0, 0, 0, 0]).toList 0)
         have HB := Lib.hid (Below.setCells (B := w.heap.size) (b := w.heap.size + 1) (Nat.le_succ _) (mc [8, 0, fld m 2, 0, 0, 0, 0, 0, 0, 0, 0, 0, 0, 0, 0, 0, 0, 0, 0, 0, 0, 0, 0, 0, 0, 0, 0, 0]).toList 0 _ B0.out)
         generalize World.setCells _ _ _ _ = V at HH HM HB ⊢
         have hlV := HM.out.lt
         have k0 := (HM.out.cell 0).trans (mc_get HL.out (i := 0) (by omega))
         have k3 := (HM.out.cell 3).trans (mc_get HL.out (i := 3) (by omega))
         rw [HK.out] at k0
         have g3 := HH.out.cell 3
         have z3 := HH.out.frozen 3
         have FEND := Lib.hid (show Blk (World.setCell V ⟨w.heap.size + 1, 3, none⟩ (.int .i64 (fld m 3))) w.heap.size 46 (mc m) from blk_fars (b := w.heap.size + 1) (by omega) [(3, fld m 3)] V HM.out)
         have HEND := Lib.hid (show Blk (World.setCell V ⟨w.heap.size + 1, 3, none⟩ (.int .i64 (fld m 3))) (w.heap.size + 1) 46 (mc [8, 0, fld m 2, fld m 3, 0, 0, 0, 0, 0, 0, 0, 0, 0, 0, 0, 0, 0, 0, 0, 0, 0, 0, 0, 0, 0, 0, 0, 0]) from blk_sets [(3, fld m 3)] V [8, 0, fld m 2, 0, 0, 0, 0, 0, 0, 0, 0, 0, 0, 0, 0, 0, 0, 0, 0, 0, 0, 0, 0, 0, 0, 0, 0, 0] HH.out)))
    go_ret
    exact ⟨ret_bool HMAY.out.symm, by repeat (first | exact HB.out | refine Below.setCell ?_ (by simp) _)⟩
  · have HT := Lib.hid htx
    clear htx
    have HQ := Lib.hid (show [8, 0, fld m 2, fld m 3, 0, 0, 0, 0, 0, 0, 0, 0, 0, 0, 0, 0, 0, 0, 0, 0, 0, 0, 0, 0, 0, 0, 0, 0] = keepL m sC by
      have h : keepL m sC = [fld m 0, fld m 1, fld m 2, fld m 3, 0, 0, 0, 0, 0, 0, 0, 0, 0, 0, 0, 0, 0, 0, 0, 0, 0, 0, 0, 0, 0, 0, 0, 0] := rfl
      rw [HK.out, HF.out] at h
      exact h.symm)
    have he : ∀ W, (binOp .eql 46 (.agg (mc m)) (.agg (mc [8, 0, fld m 2, fld m 3, 0, 0, 0, 0, 0, 0, 0, 0, 0, 0, 0, 0, 0, 0, 0, 0, 0, 0, 0, 0, 0, 0, 0, 0]))).run Tryz.prog W = .ok (.bool (mayB m)) W := fun W => by
      rw [eql_msg HL.out rfl, mayC HL.out (by have := HK.out; omega) HG.out HT.out, HQ.out]
    go_enter Tryz.func61, Tryz.ntmps61
    have M0 := Lib.hid ((Blk.new w 46 (mc m)).alloc (.cells (mc zM) 46))
    have N0 := Lib.hid (Blk.new_at (w := w.alloc (.cells (mc m) 46)) (n := w.heap.size + 1) (by simp) 46 (mc zM))
    have B0 := Lib.hid (Below.alloc (Below.alloc (Below.refl w.heap.size w) (Nat.le_refl _) (.cells (mc m) 46)) (by simp) (.cells (mc zM) 46))
    rw [mc_zero] at M0 N0 B0
    go_wp2_with (first
      | (go_at_call 66; (first | (with_reducible refine (number_b HT.out _).mono ?_)); rintro e w9 ⟨rfl, rfl⟩)
      | (refine wpList_store_mid rfl 46 (.tmp 7) (.tmp 77) rfl (w.heap.size + 1) 0 (mc [8, 0, fld m 2, 0, 0, 0, 0, 0, 0, 0, 0, 0, 0, 0, 0, 0, 0, 0, 0, 0, 0, 0, 0, 0, 0, 0, 0, 0]) rfl rfl (mc_there zM_length rfl N0.out) (mc_info rfl) (ints_oneCell _) ?_
         have HH := Lib.hid (mc_put (q := [8, 0, fld m 2, 0, 0, 0, 0, 0, 0, 0, 0, 0, 0, 0, 0, 0, 0, 0, 0, 0, 0, 0, 0, 0, 0, 0, 0, 0]) zM_length rfl N0.out)
         have HM := Lib.hid (M0.out.farCells (b := w.heap.size + 1) (by omega) (mc [8, 0, fld m 2, 0, 0, 0, 0, 0, 0, 0, 0, 0, 0, 0, 0, 0, 0, 0, 0, 0, 0, 0, 0, 0, 0, 0, 0, 0]).toList 0)
         have HB := Lib.hid (Below.setCells (B := w.heap.size) (b := w.heap.size + 1) (Nat.le_succ _) (mc [8, 0, fld m 2, 0, 0, 0, 0, 0, 0, 0, 0, 0, 0, 0, 0, 0, 0, 0, 0, 0, 0, 0, 0, 0, 0, 0, 0, 0]).toList 0 _ B0.out)
         generalize World.setCells _ _ _ _ = V at HH HM HB ⊢
         have hlV := HM.out.lt
         have k0 := (HM.out.cell 0).trans (mc_get HL.out (i := 0) (by omega))
         have k3 := (HM.out.cell 3).trans (mc_get HL.out (i := 3) (by omega))
         rw [HK.out] at k0
         have g3 := HH.out.cell 3
         have z3 := HH.out.frozen 3
         have FEND := Lib.hid (show Blk (World.setCell V ⟨w.heap.size + 1, 3, none⟩ (.int .i64 (fld m 3))) w.heap.size 46 (mc m) from blk_fars (b := w.heap.size + 1) (by omega) [(3, fld m 3)] V HM.out)
         have HEND := Lib.hid (show Blk (World.setCell V ⟨w.heap.size + 1, 3, none⟩ (.int .i64 (fld m 3))) (w.heap.size + 1) 46 (mc [8, 0, fld m 2, fld m 3, 0, 0, 0, 0, 0, 0, 0, 0, 0, 0, 0, 0, 0, 0, 0, 0, 0, 0, 0, 0, 0, 0, 0, 0]) from blk_sets [(3, fld m 3)] V [8, 0, fld m 2, 0, 0, 0, 0, 0, 0, 0, 0, 0, 0, 0, 0, 0, 0, 0, 0, 0, 0, 0, 0, 0, 0, 0, 0, 0] HH.out))
      | (refine wpList_load_row rfl 46 (.tmp 1) rfl w.heap.size rfl 46 (mc m) (0, 0) _ FEND.out Tryz.underlying46 rfl HI.out ?_)
      | (refine wpList_load_row rfl 46 (.tmp 7) rfl (w.heap.size + 1) rfl 46 (mc [8, 0, fld m 2, fld m 3, 0, 0, 0, 0, 0, 0, 0, 0, 0, 0, 0, 0, 0, 0, 0, 0, 0, 0, 0, 0, 0, 0, 0, 0]) (0, 0) _ HEND.out Tryz.underlying46 rfl (mc_info rfl) ?_))
    go_ret
    exact ⟨rfl, by repeat (first | exact HB.out | refine Below.setCell ?_ (by simp) _)⟩
set_option maxRecDepth 100000 in
set_option maxHeartbeats 8000000 in
theorem refOk_9 (m : List Int) (hl : m.length = 28) (hk : fld m 0 = 9) (hg : goesB m = true) (w : World) :
    Calls Tryz.prog 61 #[.agg (mc m)] w fun e w' => e = .returned (.bool (mayB m)) ∧ Below w.heap.size w w' := by
  have HL := Lib.hid hl
  have HI := Lib.hid (mc_info hl)
  have HI0 := Lib.hid (mc_info zM_length)
  have HK := Lib.hid hk
  have HG := Lib.hid hg
  have hgm := guard_msg
  have c0 := mc_get hl (i := 0) (by omega)
  have c1 := mc_get hl (i := 1) (by omega)
  have c2 := mc_get hl (i := 2) (by omega)
  rw [hk] at c0
  obtain ⟨⟨ht1, ht2⟩, hf⟩ := way_back (by omega) hg
  rw [hf] at c2
  have HF := Lib.hid hf
  have a1 : decide (1 ≤ fld m 1) = true := by simpa using ht1
  have a2 : decide (fld m 1 ≤ 64) = true := by simpa using ht2
  have a3 : (fld m 1 == 0) = false := by simp; omega
  clear hf ht1 ht2 hl hk hg
  cases htx : inS 1 1048576 (fld m 3)
  · have HT := Lib.hid htx
    have HMAY := Lib.hid (may_no (m := m) fun h => by have h' := may_tx h (by have := HK.out; omega); rw [htx] at h'; cases h')
    clear htx
    go_enter Tryz.func61, Tryz.ntmps61
    have M0 := Lib.hid ((Blk.new w 46 (mc m)).alloc (.cells (mc zM) 46))
    have N0 := Lib.hid (Blk.new_at (w := w.alloc (.cells (mc m) 46)) (n := w.heap.size + 1) (by simp) 46 (mc zM))
    have B0 := Lib.hid (Below.alloc (Below.alloc (Below.refl w.heap.size w) (Nat.le_refl _) (.cells (mc m) 46)) (by simp) (.cells (mc zM) 46))
    rw [mc_zero] at M0 N0 B0
    go_wp2_with (first
      | (go_at_call 66; (first | (with_reducible refine (number_b HT.out _).mono ?_)); rintro e w9 ⟨rfl, rfl⟩)
      | (refine wpList_store_mid rfl 46 (.tmp 7) (.tmp 77) rfl (w.heap.size + 1) 0 (mc [9, fld m 1, 0, 0, 0, 0, 0, 0, 0, 0, 0, 0, 0, 0, 0, 0, 0, 0, 0, 0, 0, 0, 0, 0, 0, 0, 0, 0]) rfl rfl (mc_there zM_length rfl N0.out) (mc_info rfl) (ints_oneCell _) ?_
         have HH := Lib.hid (mc_put (q := [9, fld m 1, 0, 0, 0, 0, 0, 0, 0, 0, 0, 0, 0, 0, 0, 0, 0, 0, 0, 0, 0, 0, 0, 0, 0, 0, 0, 0]) zM_length rfl N0.out)
         have HM := Lib.hid (M0.out.farCells (b := w.heap.size + 1) (by omega) (mc [9, fld m 1, 0, 0, 0, 0, 0, 0, 0, 0, 0, 0, 0, 0, 0, 0, 0, 0, 0, 0, 0, 0, 0, 0, 0, 0, 0, 0]).toList 0)
         have HB := Lib.hid (Below.setCells (B := w.heap.size) (b := w.heap.size + 1) (Nat.le_succ _) (mc [9, fld m 1, 0, 0, 0, 0, 0, 0, 0, 0, 0, 0, 0, 0, 0, 0, 0, 0, 0, 0, 0, 0, 0, 0, 0, 0, 0, 0]).toList 0 _ B0.out)
         generalize World.setCells _ _ _ _ = V at HH HM HB ⊢
         have hlV := HM.out.lt
         have k0 := (HM.out.cell 0).trans (mc_get HL.out (i := 0) (by omega))
         have k3 := (HM.out.cell 3).trans (mc_get HL.out (i := 3) (by omega))
         rw [HK.out] at k0
         have g3 := HH.out.cell 3
         have z3 := HH.out.frozen 3
         have FEND := Lib.hid (show Blk (World.setCell V ⟨w.heap.size + 1, 3, none⟩ (.int .i64 (fld m 3))) w.heap.size 46 (mc m) from blk_fars (b := w.heap.size + 1) (by omega) [(3, fld m 3)] V HM.out)
         have HEND := Lib.hid (show Blk (World.setCell V ⟨w.heap.size + 1, 3, none⟩ (.int .i64 (fld m 3))) (w.heap.size + 1) 46 (mc [9, fld m 1, 0, fld m 3, 0, 0, 0, 0, 0, 0, 0, 0, 0, 0, 0, 0, 0, 0, 0, 0, 0, 0, 0, 0, 0, 0, 0, 0]) from blk_sets [(3, fld m 3)] V [9, fld m 1, 0, 0, 0, 0, 0, 0, 0, 0, 0, 0, 0, 0, 0, 0, 0, 0, 0, 0, 0, 0, 0, 0, 0, 0, 0, 0] HH.out)))
    go_ret
    exact ⟨ret_bool HMAY.out.symm, by repeat (first | exact HB.out | refine Below.setCell ?_ (by simp) _)⟩
  · have HT := Lib.hid htx
    clear htx
    have HQ := Lib.hid (show [9, fld m 1, 0, fld m 3, 0, 0, 0, 0, 0, 0, 0, 0, 0, 0, 0, 0, 0, 0, 0, 0, 0, 0, 0, 0, 0, 0, 0, 0] = keepL m sC by
      have h : keepL m sC = [fld m 0, fld m 1, fld m 2, fld m 3, 0, 0, 0, 0, 0, 0, 0, 0, 0, 0, 0, 0, 0, 0, 0, 0, 0, 0, 0, 0, 0, 0, 0, 0] := rfl
      rw [HK.out, HF.out] at h
      exact h.symm)
    have he : ∀ W, (binOp .eql 46 (.agg (mc m)) (.agg (mc [9, fld m 1, 0, fld m 3, 0, 0, 0, 0, 0, 0, 0, 0, 0, 0, 0, 0, 0, 0, 0, 0, 0, 0, 0, 0, 0, 0, 0, 0]))).run Tryz.prog W = .ok (.bool (mayB m)) W := fun W => by
      rw [eql_msg HL.out rfl, mayC HL.out (by have := HK.out; omega) HG.out HT.out, HQ.out]
    go_enter Tryz.func61, Tryz.ntmps61
    have M0 := Lib.hid ((Blk.new w 46 (mc m)).alloc (.cells (mc zM) 46))
    have N0 := Lib.hid (Blk.new_at (w := w.alloc (.cells (mc m) 46)) (n := w.heap.size + 1) (by simp) 46 (mc zM))
    have B0 := Lib.hid (Below.alloc (Below.alloc (Below.refl w.heap.size w) (Nat.le_refl _) (.cells (mc m) 46)) (by simp) (.cells (mc zM) 46))
    rw [mc_zero] at M0 N0 B0
    go_wp2_with (first
      | (go_at_call 66; (first | (with_reducible refine (number_b HT.out _).mono ?_)); rintro e w9 ⟨rfl, rfl⟩)
      | (refine wpList_store_mid rfl 46 (.tmp 7) (.tmp 77) rfl (w.heap.size + 1) 0 (mc [9, fld m 1, 0, 0, 0, 0, 0, 0, 0, 0, 0, 0, 0, 0, 0, 0, 0, 0, 0, 0, 0, 0, 0, 0, 0, 0, 0, 0]) rfl rfl (mc_there zM_length rfl N0.out) (mc_info rfl) (ints_oneCell _) ?_
         have HH := Lib.hid (mc_put (q := [9, fld m 1, 0, 0, 0, 0, 0, 0, 0, 0, 0, 0, 0, 0, 0, 0, 0, 0, 0, 0, 0, 0, 0, 0, 0, 0, 0, 0]) zM_length rfl N0.out)
         have HM := Lib.hid (M0.out.farCells (b := w.heap.size + 1) (by omega) (mc [9, fld m 1, 0, 0, 0, 0, 0, 0, 0, 0, 0, 0, 0, 0, 0, 0, 0, 0, 0, 0, 0, 0, 0, 0, 0, 0, 0, 0]).toList 0)
         have HB := Lib.hid (Below.setCells (B := w.heap.size) (b := w.heap.size + 1) (Nat.le_succ _) (mc [9, fld m 1, 0, 0, 0, 0, 0, 0, 0, 0, 0, 0, 0, 0, 0, 0, 0, 0, 0, 0, 0, 0, 0, 0, 0, 0, 0, 0]).toList 0 _ B0.out)
         generalize World.setCells _ _ _ _ = V at HH HM HB ⊢
         have hlV := HM.out.lt
         have k0 := (HM.out.cell 0).trans (mc_get HL.out (i := 0) (by omega))
         have k3 := (HM.out.cell 3).trans (mc_get HL.out (i := 3) (by omega))
         rw [HK.out] at k0
         have g3 := HH.out.cell 3
         have z3 := HH.out.frozen 3
         have FEND := Lib.hid (show Blk (World.setCell V ⟨w.heap.size + 1, 3, none⟩ (.int .i64 (fld m 3))) w.heap.size 46 (mc m) from blk_fars (b := w.heap.size + 1) (by omega) [(3, fld m 3)] V HM.out)
         have HEND := Lib.hid (show Blk (World.setCell V ⟨w.heap.size + 1, 3, none⟩ (.int .i64 (fld m 3))) (w.heap.size + 1) 46 (mc [9, fld m 1, 0, fld m 3, 0, 0, 0, 0, 0, 0, 0, 0, 0, 0, 0, 0, 0, 0, 0, 0, 0, 0, 0, 0, 0, 0, 0, 0]) from blk_sets [(3, fld m 3)] V [9, fld m 1, 0, 0, 0, 0, 0, 0, 0, 0, 0, 0, 0, 0, 0, 0, 0, 0, 0, 0, 0, 0, 0, 0, 0, 0, 0, 0] HH.out))
      | (refine wpList_load_row rfl 46 (.tmp 1) rfl w.heap.size rfl 46 (mc m) (0, 0) _ FEND.out Tryz.underlying46 rfl HI.out ?_)
      | (refine wpList_load_row rfl 46 (.tmp 7) rfl (w.heap.size + 1) rfl 46 (mc [9, fld m 1, 0, fld m 3, 0, 0, 0, 0, 0, 0, 0, 0, 0, 0, 0, 0, 0, 0, 0, 0, 0, 0, 0, 0, 0, 0, 0, 0]) (0, 0) _ HEND.out Tryz.underlying46 rfl (mc_info rfl) ?_))
    go_ret
    exact ⟨rfl, by repeat (first | exact HB.out | refine Below.setCell ?_ (by simp) _)⟩
end Go.Proofs.YthfhhapefjideaaGreat
