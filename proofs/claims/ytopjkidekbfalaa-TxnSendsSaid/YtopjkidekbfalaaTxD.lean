/- What shards are told of a transaction's state; whether it is decided. -/
import Derived.Test.YtopjkidekbfalaaTxC
namespace Go.Proofs.Ytopjkidekbfalaa
open Go.RowKit
set_option linter.unusedVariables false
set_option linter.unusedSimpArgs false

set_option maxRecDepth 100000 in
set_option maxHeartbeats 4000000 in
theorem decided_any (x : Tr) (s : Sl) (w : World) :
    Calls Try.prog 10 #[.agg (trc x s)] w fun e w' => e = .returned (.bool (decided x)) ∧ Below w.heap.size w w' := by
  have X1 := Lib.hid (Blk.new w 30 (trc x s))
  have B1 := Lib.hid (Joins.below_alloc1 w (.cells (trc x s) 30))
  obtain ⟨d, hd⟩ : ∃ d, decided x = d := ⟨_, rfl⟩
  rw [hd]
  by_cases h3 : x.st = 3
  · obtain rfl : d = true := by rw [← hd]; unfold decided; simp [h3]
    have e3 : (x.st == 3) = true := by simpa using h3
    clear h3 hd
    go_enter Try.func10, Try.ntmps10
    go_upto_region 1 with fail
    generalize w.alloc (.cells (trc x s) 30) = V at X1 B1 ⊢
    have c1 : V.cell? ⟨w.heap.size, 1, none⟩ = some (.int .i64 x.st) := X1.out.cell 1
    generalize x.st = st at c1 e3
    go_wp2_with fail
    go_ret
    exact ⟨rfl, B1.out⟩
  · have e3 : (x.st == 3) = false := by simpa using h3
    have hd' : (x.st == 4) = d := by rw [← hd]; unfold decided; by_cases h4 : x.st = 4 <;> simp [h3, h4]
    clear h3 hd
    go_enter Try.func10, Try.ntmps10
    go_upto_region 1 with fail
    generalize w.alloc (.cells (trc x s) 30) = V at X1 B1 ⊢
    have c1 : V.cell? ⟨w.heap.size, 1, none⟩ = some (.int .i64 x.st) := X1.out.cell 1
    generalize x.st = st at c1 e3 hd'
    go_wp2_with fail
    go_ret
    exact ⟨rfl, B1.out⟩

theorem newsL_2 {x : Tr} (h : x.st = 2) (t : Int) : newsL x t = msgL 4 t x.tx 0 0 0 0 0 := by unfold newsL newsK newsC; rw [if_pos h, if_neg (by omega)]
theorem newsL_3 {x : Tr} (h : x.st = 3) (t : Int) : newsL x t = msgL 6 t x.tx 0 0 0 0 1 := by unfold newsL newsK newsC; rw [if_neg (by omega), if_pos (.inl h), if_pos h]
theorem newsL_4 {x : Tr} (h : x.st = 4) (t : Int) : newsL x t = msgL 6 t x.tx 0 0 0 0 0 := by unfold newsL newsK newsC; rw [if_neg (by omega), if_pos (.inr h), if_neg (by omega)]
theorem newsL_1 {x : Tr} (h2 : ¬ x.st = 2) (h3 : ¬ x.st = 3) (h4 : ¬ x.st = 4) (t : Int) : newsL x t = msgL 8 t x.tx 0 0 0 0 0 := by unfold newsL newsK newsC; rw [if_neg h2, if_neg (by omega), if_neg h3]
set_option maxRecDepth 100000 in
set_option maxHeartbeats 8000000 in
theorem news_any (x : Tr) (s : Sl) (w : World) :
    Calls Try.prog 25 #[.agg (trc x s)] w fun e w' => e = .returned (.agg (mc (newsL x 0))) ∧ Below w.heap.size w w' := by
  have X1 := Lib.hid ((Blk.new w 30 (trc x s)).alloc (.cells zMs 42))
  have Z1 := Lib.hid (show Blk ((w.alloc (.cells (trc x s) 30)).alloc (.cells zMs 42)) (w.heap.size + 1) 42 (mc zM) from Blk.new_at (by simp) _ _)
  have B1 := Lib.hid ((Joins.below_alloc1 w (.cells (trc x s) 30)).alloc (by simp) (.cells zMs 42))
  have SZ := Lib.hid (show ((w.alloc (.cells (trc x s) 30)).alloc (.cells zMs 42)).heap.size = w.heap.size + 2 from by simp)
  have HI8 := Lib.hid (mc_info (m := msgL 8 0 x.tx 0 0 0 0 0) rfl)
  have BU8 := Lib.hid (ints_oneCell (msgL 8 0 x.tx 0 0 0 0 0))
  go_enter Try.func25, Try.ntmps25
  go_upto_region 1 with fail
  obtain ⟨g, hg⟩ : ∃ g, g = w.heap.size := ⟨_, rfl⟩
  have HG := Lib.hid hg
  rw [← hg] at X1 Z1 SZ ⊢
  clear hg
  generalize (w.alloc (.cells (trc x s) 30)).alloc (.cells zMs 42) = V at X1 Z1 B1 SZ ⊢
  have c0 : V.cell? ⟨g, 0, none⟩ = some (.int .i64 x.tx) := X1.out.cell 0
  have X2 := Lib.hid (X1.out.alloc (.cells zMs 42))
  have Z2 := Lib.hid (Z1.out.alloc (.cells zMs 42))
  have M2 := Lib.hid (show Blk (V.alloc (.cells zMs 42)) V.heap.size 42 (mc zM) from Blk.new V _ _)
  have B2 := Lib.hid (stepA B1.out (.cells zMs 42))
  go_upto_region 2 with (refine wpList_store_mid (by rfl) 42 (.tmp 3) (.tmp 6) (by rfl) V.heap.size 0 (mc (msgL 8 0 x.tx 0 0 0 0 0)) (by rfl) (by rfl) (mc_there zM_length rfl M2.out) HI8.out BU8.out ?_)
  obtain ⟨r, hr⟩ : ∃ r, r = V.heap.size := ⟨_, rfl⟩
  have HR := Lib.hid (hr.trans SZ.out)
  rw [← hr] at M2 ⊢
  have X3 := Lib.hid (X2.out.farCells (b := r) (by have := HR.out; omega) (mc (msgL 8 0 x.tx 0 0 0 0 0)).toList 0)
  have Z3 := Lib.hid (Z2.out.farCells (b := r) (by have := HR.out; omega) (mc (msgL 8 0 x.tx 0 0 0 0 0)).toList 0)
  have M3 := Lib.hid (mc_put zM_length (q := msgL 8 0 x.tx 0 0 0 0 0) rfl M2.out)
  have B3 := Lib.hid (Below.setCells (b := r) (by have := HR.out; have := HG.out; omega) (mc (msgL 8 0 x.tx 0 0 0 0 0)).toList 0 _ B2.out)
  clear hr c0 X1 Z1 B1 X2 Z2 M2 B2 HI8 BU8 SZ
  generalize (V.alloc (.cells zMs 42)).setCells r 0 (mc (msgL 8 0 x.tx 0 0 0 0 0)).toList = V3 at X3 Z3 M3 B3 ⊢
  have c1 : V3.cell? ⟨g, 1, none⟩ = some (.int .i64 x.st) := X3.out.cell 1
  have m0 : V3.cell? ⟨r, 0, none⟩ = some (.int .i64 8) := M3.out.cell 0
  have m7 : V3.cell? ⟨r, 7, none⟩ = some (.int .i64 0) := M3.out.cell 7
  have m8 : V3.cell? ⟨r, 8, none⟩ = some (.int .i64 0) := M3.out.cell 8
  have f0 := M3.out.frozen 0
  have f7 := M3.out.frozen 7
  have f8 := M3.out.frozen 8
  have HNL := Lib.hid (mc_info (m := newsL x 0) rfl)
  have HNO := Lib.hid (ints_oneCell (newsL x 0))
  by_cases h2 : x.st = 2
  · have e2 : (x.st == 2) = true := by simpa using h2
    have EQ := Lib.hid (newsL_2 h2 0)
    clear h2
    have M4 := Lib.hid (show Blk (V3.setCell ⟨r, 0, none⟩ (.int .i64 4)) r 42 (mc (newsL x 0)) from by rw [EQ.out]; exact M3.out.set_ 0 _)
    have Z4 := Lib.hid (Z3.out.far (p := ⟨r, 0, none⟩) (by have := HR.out; simp only; omega) (.int .i64 4))
    have B4 := Lib.hid (B3.out.setCell (p := ⟨r, 0, none⟩) (by have := HR.out; have := HG.out; simp only; omega) (.int .i64 4))
    clear EQ
    go_upto_region 9 with fail
    generalize V3.setCell ⟨r, 0, none⟩ (.int .i64 4) = V4 at M4 Z4 B4 ⊢
    clear m0 m7 m8 f0 f7 f8 c1
    go_wp2_with (first
      | (refine wpList_load_row rfl 42 (.tmp 3) rfl r rfl 42 (mc (newsL x 0)) (0, 0) _ M4.out Try.underlying42 rfl HNL.out ?_)
      | (refine wpList_store_mid (by rfl) 42 (.tmp 2) (.tmp 18) (by rfl) (g + 1) 0 (mc (newsL x 0)) (by rfl) (by rfl) (mc_there zM_length rfl Z4.out) HNL.out HNO.out ?_))
    exact bodyPost_ret (v := .agg (mc (newsL x 0))) (results_one rfl rfl (results_msg rfl (mc_put zM_length rfl Z4.out))) rfl ⟨rfl, Below.setCells (by have := HG.out; omega) _ _ _ B4.out⟩
  · have e2 : (x.st == 2) = false := by simpa using h2
    by_cases h3 : x.st = 3
    · have e3 : (x.st == 3) = true := by simpa using h3
      have EQ := Lib.hid (newsL_3 h3 0)
      clear h2 h3
      have M4 := Lib.hid (show Blk ((V3.setCell ⟨r, 8, none⟩ (.int .i64 1)).setCell ⟨r, 0, none⟩ (.int .i64 6)) r 42 (mc (newsL x 0)) from by rw [EQ.out]; exact (M3.out.set_ 8 _).set_ 0 _)
      have Z4 := Lib.hid ((Z3.out.far (p := ⟨r, 8, none⟩) (by have := HR.out; simp only; omega) (.int .i64 1)).far (p := ⟨r, 0, none⟩) (by have := HR.out; simp only; omega) (.int .i64 6))
      have B4 := Lib.hid ((B3.out.setCell (p := ⟨r, 8, none⟩) (by have := HR.out; have := HG.out; simp only; omega) (.int .i64 1)).setCell (p := ⟨r, 0, none⟩) (by have := HR.out; have := HG.out; simp only; omega) (.int .i64 6))
      clear EQ
      go_upto_region 9 with fail
      generalize (V3.setCell ⟨r, 8, none⟩ (.int .i64 1)).setCell ⟨r, 0, none⟩ (.int .i64 6) = V4 at M4 Z4 B4 ⊢
      clear m0 m7 m8 f0 f7 f8 c1
      go_wp2_with (first
        | (refine wpList_load_row rfl 42 (.tmp 3) rfl r rfl 42 (mc (newsL x 0)) (0, 0) _ M4.out Try.underlying42 rfl HNL.out ?_)
        | (refine wpList_store_mid (by rfl) 42 (.tmp 2) (.tmp 18) (by rfl) (g + 1) 0 (mc (newsL x 0)) (by rfl) (by rfl) (mc_there zM_length rfl Z4.out) HNL.out HNO.out ?_))
      exact bodyPost_ret (v := .agg (mc (newsL x 0))) (results_one rfl rfl (results_msg rfl (mc_put zM_length rfl Z4.out))) rfl ⟨rfl, Below.setCells (by have := HG.out; omega) _ _ _ B4.out⟩
    · have e3 : (x.st == 3) = false := by simpa using h3
      by_cases h4 : x.st = 4
      · have e4 : (x.st == 4) = true := by simpa using h4
        have EQ := Lib.hid (newsL_4 h4 0)
        clear h2 h3 h4
        have M4 := Lib.hid (show Blk (V3.setCell ⟨r, 0, none⟩ (.int .i64 6)) r 42 (mc (newsL x 0)) from by rw [EQ.out]; exact M3.out.set_ 0 _)
        have Z4 := Lib.hid (Z3.out.far (p := ⟨r, 0, none⟩) (by have := HR.out; simp only; omega) (.int .i64 6))
        have B4 := Lib.hid (B3.out.setCell (p := ⟨r, 0, none⟩) (by have := HR.out; have := HG.out; simp only; omega) (.int .i64 6))
        clear EQ
        go_upto_region 9 with fail
        generalize V3.setCell ⟨r, 0, none⟩ (.int .i64 6) = V4 at M4 Z4 B4 ⊢
        clear m0 m7 m8 f0 f7 f8 c1
        go_wp2_with (first
          | (refine wpList_load_row rfl 42 (.tmp 3) rfl r rfl 42 (mc (newsL x 0)) (0, 0) _ M4.out Try.underlying42 rfl HNL.out ?_)
          | (refine wpList_store_mid (by rfl) 42 (.tmp 2) (.tmp 18) (by rfl) (g + 1) 0 (mc (newsL x 0)) (by rfl) (by rfl) (mc_there zM_length rfl Z4.out) HNL.out HNO.out ?_))
        exact bodyPost_ret (v := .agg (mc (newsL x 0))) (results_one rfl rfl (results_msg rfl (mc_put zM_length rfl Z4.out))) rfl ⟨rfl, Below.setCells (by have := HG.out; omega) _ _ _ B4.out⟩
      · have e4 : (x.st == 4) = false := by simpa using h4
        have EQ := Lib.hid (newsL_1 h2 h3 h4 0)
        clear h2 h3 h4
        have M4 := Lib.hid (show Blk V3 r 42 (mc (newsL x 0)) from by rw [EQ.out]; exact M3.out)
        have Z4 := Z3
        have B4 := B3
        clear EQ
        clear m0 m7 m8 f0 f7 f8
        go_wp2_with (first
          | (refine wpList_load_row rfl 42 (.tmp 3) rfl r rfl 42 (mc (newsL x 0)) (0, 0) _ M4.out Try.underlying42 rfl HNL.out ?_)
          | (refine wpList_store_mid (by rfl) 42 (.tmp 2) (.tmp 18) (by rfl) (g + 1) 0 (mc (newsL x 0)) (by rfl) (by rfl) (mc_there zM_length rfl Z4.out) HNL.out HNO.out ?_))
        exact bodyPost_ret (v := .agg (mc (newsL x 0))) (results_one rfl rfl (results_msg rfl (mc_put zM_length rfl Z4.out))) rfl ⟨rfl, Below.setCells (by have := HG.out; omega) _ _ _ B4.out⟩
end Go.Proofs.Ytopjkidekbfalaa
