/- The law of no coordinator. -/
import Derived.Test.YtmfoffigmojdcaaGreatCoX
namespace Go.Proofs.YtmfoffigmojdcaaGreat
open Go.RowKit
set_option linter.unusedVariables false
set_option linter.unusedSimpArgs false

set_option maxRecDepth 100000 in
set_option maxHeartbeats 16000000 in
theorem coordNone_walk (m : List Int) (id : Int) (hm : m.length = 28) (w : World) : Calls Tryz.prog 7 #[.agg (mc m), .int .i64 id] w fun e w' => e = .returned (.bool true) ∧ Below w.heap.size w w' := by
  have HI := Lib.hid (mc_info hm)
  have M1 := Lib.hid (show Blk (w.alloc (.cells (mc m) 45)) w.heap.size 45 (mc m) from Blk.new w _ _)
  have B1 := Lib.hid (Joins.below_alloc1 w (.cells (mc m) 45))
  clear hm
  go_enter Tryz.func7, Tryz.ntmps7
  go_upto_region 1 with fail
  generalize w.heap.size = g at M1 ⊢
  generalize w.alloc (.cells (mc m) 45) = V1 at M1 B1 ⊢
  go_upto_region 4 with (first
    | (go_at_call 10; go_loud (refine (coordAlive _).mono ?_; rintro e V2 ⟨rfl, hb⟩; have M2 := Lib.hid (M1.out.here hb); have B2 := Lib.hid (stepB B1.out hb); clear hb))
    | fail)
  go_upto_region 5 with (go_at_call 22; refine (begin_nil id _).mono ?_; rintro e w' ⟨rfl, rfl⟩)
  go_upto_region 6 with (first
    | (go_at_call 23; go_loud (refine (lock_nil id 1 0 3 _).mono ?_; rintro e V3 ⟨rfl, hb⟩; have M3 := Lib.hid (M2.out.here hb); have B3 := Lib.hid (stepB B2.out hb); clear hb))
    | fail)
  go_upto_region 7 with (first
    | (go_at_call 24; go_loud (refine (commit_nil id _).mono ?_; rintro e V4 ⟨rfl, hb⟩; have M4 := Lib.hid (M3.out.here hb); have B4 := Lib.hid (stepB B3.out hb); clear hb))
    | fail)
  go_upto_region 8 with (first
    | (go_at_call 25; go_loud (refine (abrt_nil id _).mono ?_; rintro e V5 ⟨rfl, hb⟩; have M5 := Lib.hid (M4.out.here hb); have B5 := Lib.hid (stepB B4.out hb); clear hb))
    | fail)
  go_upto_region 9 with (first
    | (refine wpList_load_row rfl 45 (.tmp 2) rfl g rfl 45 (mc m) (0, 0) _ M5.out Tryz.underlying45 rfl HI.out ?_)
    | (go_at_call 26; go_loud (refine (handle_nil m _).mono ?_; rintro e V6 ⟨rfl, hb⟩; have M6 := Lib.hid (M5.out.here hb); have B6 := Lib.hid (stepB B5.out hb); clear hb))
    | fail)
  have CD := Lib.hid (fun W => code_errV 1 (.inr rfl) W)
  go_wp2_with (first
    | (go_at_call 20; refine (view_nil _).mono ?_; rintro e V7 ⟨rfl, hb⟩; have B7 := Lib.hid (stepB B6.out hb); clear hb)
    | (refine wpList_store_mid (by rfl) 56 (.tmp 16) (.tmp 51) (by rfl) V7.heap.size 0 zVw (by rfl) (by rfl) ((show Blk (V7.alloc (.cells zVw 56)) V7.heap.size 56 zVw from Blk.new V7 _ _).there (Nat.le_refl 4)) info_view (by kernel_rfl) ?_
       have Z8 := Lib.hid ((show Blk (V7.alloc (.cells zVw 56)) V7.heap.size 56 zVw from Blk.new V7 _ _).put zVw rfl)
       have B8 := Lib.hid (show Below w.heap.size w ((V7.alloc (.cells zVw 56)).setCells V7.heap.size 0 zVw.toList) from Below.setCells (b := V7.heap.size) (show w.heap.size ≤ V7.heap.size from B7.out.size) zVw.toList 0 _ (stepA B7.out (.cells zVw 56)))
       generalize (V7.alloc (.cells zVw 56)).setCells V7.heap.size 0 zVw.toList = V8 at Z8 B8 ⊢
       generalize V7.heap.size = r at Z8 ⊢
       have c0 : V8.cell? ⟨r, 0, none⟩ = some (.int .i64 0) := Z8.out.cell 0
       have c2 : V8.cell? ⟨r, 2, none⟩ = some (.slice none 0 0) := Z8.out.cell 2
       have c3 : V8.cell? ⟨r, 3, none⟩ = some (.slice none 0 0) := Z8.out.cell 3)
    | (go_at_call 13; refine (CD.out _).mono ?_; rintro e w' ⟨rfl, rfl⟩)
    | (go_at_call 27; refine (crash_nil id _).mono ?_; rintro e w' ⟨rfl, rfl⟩)
    | (go_at_call 28; refine (tick_nil _).mono ?_; rintro e w' ⟨rfl, rfl⟩))
  go_ret
  exact ⟨rfl, B8.out⟩
end Go.Proofs.YtmfoffigmojdcaaGreat
