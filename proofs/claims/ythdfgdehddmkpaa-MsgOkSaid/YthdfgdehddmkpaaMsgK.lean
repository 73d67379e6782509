/- The contract of package msg's Decode. -/
import Derived.Test.YthdfgdehddmkpaaMsgI
import Derived.Test.YthdfgdehddmkpaaMsgJ
namespace Go.Proofs.Ythdfgdehddmkpaa
open Go.RowKit
set_option linter.unusedVariables false
set_option linter.unusedSimpArgs false

/-- No message. -/
def zM : List Int := List.replicate 28 0
theorem zM_length : zM.length = 28 := by simp [zM]
theorem mc_there {w : World} {g : Nat} {m q : List Int} (hm : m.length = 28) (hq : q.length = 28) (h : Blk w g 29 (mc m)) : w.there g 0 (mc q).size := h.there (by rw [mc_size hm, mc_size hq]; exact Nat.le_refl _)
theorem mc_put {w : World} {g : Nat} {m q : List Int} (hm : m.length = 28) (hq : q.length = 28) (h : Blk w g 29 (mc m)) : Blk (w.setCells g 0 (mc q).toList) g 29 (mc q) := h.put _ (by rw [mc_size hm, mc_size hq])
theorem mc_zero : mc zM = #[.int .i64 0, .int .i64 0, .int .i64 0, .int .i64 0, .int .i64 0, .int .i64 0, .int .i64 0, .int .i64 0, .int .i64 0, .int .i64 0, .int .i64 0, .int .i64 0, .int .i64 0, .int .i64 0, .int .i64 0, .int .i64 0, .int .i64 0, .int .i64 0, .int .i64 0, .int .i64 0, .int .i64 0, .int .i64 0, .int .i64 0, .int .i64 0, .int .i64 0, .int .i64 0, .int .i64 0, .int .i64 0] := rfl
theorem loadM {w : World} {g : Nat} {m : List Int} (hm : m.length = 28) (h : Blk w g 29 (mc m)) : (loadVar 29 ⟨g, 0, none⟩).run Try.prog w = .ok (.agg (mc m)) w :=
  run_loadVar_row w g _ 29 (mc m) (0, 0) _ h Try.underlying29 rfl (mc_info hm)

set_option maxRecDepth 100000 in
set_option maxHeartbeats 4000000 in
theorem decode_short (A : Option Addr) (n cap : Nat) (hn : n < 88) (w : World) :
    Calls Try.prog 15 #[.slice A n cap] w fun e w' => e = .returned (.tuple #[.agg (mc zM), errno 3]) ∧ Below w.heap.size w w' := by
  have d1 : decide ((n : Int) < 88) = true := by simp; omega
  have d2 : decide (n < 88) = true := by simp; omega
  have HZ := Lib.hid (mc_info zM_length)
  have H0 := Lib.hid (Blk.new w 29 (mc zM))
  go_enter Try.func15, Try.ntmps15
  rw [mc_zero] at H0
  go_wp2_with (refine wpList_store_mid rfl 29 (.tmp 2) (.tmp 10) rfl w.heap.size 0 (mc zM) rfl rfl (mc_there zM_length zM_length H0.out) HZ.out (ints_oneCell _) ?_)
  exact bodyPost_ret (v := .tuple #[.agg (mc zM), errno 3]) (results_cell_and rfl rfl rfl (loadM zM_length (mc_put zM_length zM_length H0.out))) rfl ⟨rfl, Below.setCells (Nat.le_refl _) _ _ _ (stepA (Below.refl _ _) _)⟩
set_option maxRecDepth 100000 in
set_option maxHeartbeats 4000000 in
theorem decode_long (A : Option Addr) (n cap : Nat) (hn : 88 < n) (w : World) :
    Calls Try.prog 15 #[.slice A n cap] w fun e w' => e = .returned (.tuple #[.agg (mc zM), errno 4]) ∧ Below w.heap.size w w' := by
  have d1 : decide ((n : Int) < 88) = false := by simp; omega
  have d2 : decide (n < 88) = false := by simp; omega
  have d3 : decide ((88 : Int) < n) = true := by simp; omega
  have d4 : decide (88 < n) = true := by simp; omega
  have HZ := Lib.hid (mc_info zM_length)
  have H0 := Lib.hid (Blk.new w 29 (mc zM))
  go_enter Try.func15, Try.ntmps15
  rw [mc_zero] at H0
  go_wp2_with (refine wpList_store_mid rfl 29 (.tmp 2) (.tmp 16) rfl w.heap.size 0 (mc zM) rfl rfl (mc_there zM_length zM_length H0.out) HZ.out (ints_oneCell _) ?_)
  exact bodyPost_ret (v := .tuple #[.agg (mc zM), errno 4]) (results_cell_and rfl rfl rfl (loadM zM_length (mc_put zM_length zM_length H0.out))) rfl ⟨rfl, Below.setCells (Nat.le_refl _) _ _ _ (stepA (Below.refl _ _) _)⟩

/-- What Decode answers of as many bytes as a message has. -/
def ansM (l : List UInt8) : List Int := if mayB (decM l) then decM l else zM
theorem ansM_length (l : List UInt8) : (ansM l).length = 28 := by unfold ansM; split <;> simp [zM]
set_option maxRecDepth 100000 in
set_option maxHeartbeats 8000000 in
theorem decode_88 (A : Option Addr) (cap : Nat) (l : List UInt8) (w : World) (hr : Reads w w.heap.size 1 A 88 (u8s l)) :
    Calls Try.prog 15 #[.slice A 88 cap] w fun e w' => e = .returned (.tuple #[.agg (mc (ansM l)), if mayB (decM l) then .nilIface else errno 5]) ∧ Below w.heap.size w w' := by
  have HZ := Lib.hid (mc_info zM_length)
  have HD := Lib.hid (mc_info (decM_length l))
  have HR := Lib.hid hr
  have H0 := Lib.hid (Blk.new w 29 (mc zM))
  have hn := fun W => run_eql_nil_nil (P := Try.prog) W 33 Try.underlying33
  have hmf : ∀ (fn : Fn) (first cap : Array Value) (w : World), (Instr.makeFunc fn first cap).run Try.prog w = .ok (.func fn first cap) w := fun _ _ _ _ => rfl
  clear hr
  cases hm : mayB (decM l)
  · have HM := Lib.hid hm
    clear hm
    go_enter Try.func15, Try.ntmps15
    rw [mc_zero] at H0
    go_wp2_with fail
    refine (new_any A 88 cap l (by omega) _ ((HR.out.alloc (Nat.le_refl _) _).more (by simp))).mono ?_
    rintro e w1 ⟨r, A1, c1, rfl, hr1, hR1, hA1, hlr, hb1⟩
    have B1 := Lib.hid (stepB (stepA (Below.refl w.heap.size w) _) hb1)
    have T1 := Lib.hid (H0.out.here hb1)
    have R1 := Lib.hid hr1
    have S1 := Lib.hid hR1
    have hlr1 : w.heap.size + 1 ≤ r := by simpa using hlr
    clear hr1 hR1 hA1 hlr hb1
    go_wp2_with fail
    refine (read_any r c1 A1 l _ R1.out S1.out).mono ?_
    rintro e w2 ⟨rfl, hb2⟩
    have B2 := Lib.hid (B1.out.trans (hb2.mono (by omega)))
    have T2 := Lib.hid (show Blk w2 w.heap.size 29 (mc zM) from T1.out.below hb2 (by omega))
    have hw2 : w.heap.size < w2.heap.size := T2.out.lt
    have hg2 : w.heap.size ≠ w2.heap.size := by omega
    clear hb2
    have N2 := Lib.hid (Blk.new w2 29 (mc zM))
    rw [mc_zero] at N2
    go_wp2_with (first
      | (refine wpList_store_mid rfl 29 (.tmp 4) (.tmp 23) rfl w2.heap.size 0 (mc (decM l)) rfl rfl (mc_there zM_length (decM_length l) N2.out) HD.out (ints_oneCell _) ?_
         have N3 := Lib.hid (mc_put zM_length (decM_length l) N2.out)
         have T3 := Lib.hid ((T2.out.alloc (.cells (mc zM) 29)).farCells hg2 (mc (decM l)).toList 0)
         have B3 := Lib.hid (Below.setCells (B := w.heap.size) (b := w2.heap.size) (Nat.le_of_lt hw2) (mc (decM l)).toList 0 _ (stepA B2.out (.cells (mc zM) 29)))
         rw [mc_zero] at T3 B3
         generalize World.setCells _ _ _ _ = V at N3 T3 B3 ⊢)
      | (refine wpList_load_row_g (by rfl) 29 (.tmp 4) rfl w2.heap.size rfl 29 (mc (decM l)) (0, 0) _ N3.out Try.underlying29 rfl HD.out ?_))
    refine (mayBe_msg (decM l) (decM_length l) _).mono ?_
    rintro e w4 ⟨rfl, hb4⟩
    rw [HM.out]
    have B4 := Lib.hid (stepB B3.out hb4)
    have T4 := Lib.hid (T3.out.here hb4)
    have N4 := Lib.hid (N3.out.here hb4)
    clear hb4
    have HA := Lib.hid (show ansM l = zM by unfold ansM; rw [HM.out]; rfl)
    go_wp2_with (refine wpList_store_mid rfl 29 (.tmp 2) (.tmp 32) rfl w.heap.size 0 (mc zM) rfl rfl (mc_there zM_length zM_length T4.out) HZ.out (ints_oneCell _) ?_)
    exact bodyPost_ret (v := .tuple #[.agg (mc zM), errno 5]) (results_cell_and rfl rfl rfl (loadM zM_length (mc_put zM_length zM_length T4.out))) rfl ⟨by rw [HA.out], Below.setCells (Nat.le_refl _) _ _ _ B4.out⟩
  · have HM := Lib.hid hm
    clear hm
    go_enter Try.func15, Try.ntmps15
    rw [mc_zero] at H0
    go_wp2_with fail
    refine (new_any A 88 cap l (by omega) _ ((HR.out.alloc (Nat.le_refl _) _).more (by simp))).mono ?_
    rintro e w1 ⟨r, A1, c1, rfl, hr1, hR1, hA1, hlr, hb1⟩
    have B1 := Lib.hid (stepB (stepA (Below.refl w.heap.size w) _) hb1)
    have T1 := Lib.hid (H0.out.here hb1)
    have R1 := Lib.hid hr1
    have S1 := Lib.hid hR1
    have hlr1 : w.heap.size + 1 ≤ r := by simpa using hlr
    clear hr1 hR1 hA1 hlr hb1
    go_wp2_with fail
    refine (read_any r c1 A1 l _ R1.out S1.out).mono ?_
    rintro e w2 ⟨rfl, hb2⟩
    have B2 := Lib.hid (B1.out.trans (hb2.mono (by omega)))
    have T2 := Lib.hid (show Blk w2 w.heap.size 29 (mc zM) from T1.out.below hb2 (by omega))
    have hw2 : w.heap.size < w2.heap.size := T2.out.lt
    have hg2 : w.heap.size ≠ w2.heap.size := by omega
    clear hb2
    have N2 := Lib.hid (Blk.new w2 29 (mc zM))
    rw [mc_zero] at N2
    go_wp2_with (first
      | (refine wpList_store_mid rfl 29 (.tmp 4) (.tmp 23) rfl w2.heap.size 0 (mc (decM l)) rfl rfl (mc_there zM_length (decM_length l) N2.out) HD.out (ints_oneCell _) ?_
         have N3 := Lib.hid (mc_put zM_length (decM_length l) N2.out)
         have T3 := Lib.hid ((T2.out.alloc (.cells (mc zM) 29)).farCells hg2 (mc (decM l)).toList 0)
         have B3 := Lib.hid (Below.setCells (B := w.heap.size) (b := w2.heap.size) (Nat.le_of_lt hw2) (mc (decM l)).toList 0 _ (stepA B2.out (.cells (mc zM) 29)))
         rw [mc_zero] at T3 B3
         generalize World.setCells _ _ _ _ = V at N3 T3 B3 ⊢)
      | (refine wpList_load_row_g (by rfl) 29 (.tmp 4) rfl w2.heap.size rfl 29 (mc (decM l)) (0, 0) _ N3.out Try.underlying29 rfl HD.out ?_))
    refine (mayBe_msg (decM l) (decM_length l) _).mono ?_
    rintro e w4 ⟨rfl, hb4⟩
    rw [HM.out]
    have B4 := Lib.hid (stepB B3.out hb4)
    have T4 := Lib.hid (T3.out.here hb4)
    have N4 := Lib.hid (N3.out.here hb4)
    clear hb4
    have HA := Lib.hid (show ansM l = decM l by unfold ansM; rw [HM.out]; rfl)
    go_wp2_with (first
      | (refine wpList_load_row rfl 29 (.tmp 4) rfl w2.heap.size rfl 29 (mc (decM l)) (0, 0) _ N4.out Try.underlying29 rfl HD.out ?_)
      | (refine wpList_store_mid rfl 29 (.tmp 2) (.tmp 34) rfl w.heap.size 0 (mc (decM l)) rfl rfl (mc_there zM_length (decM_length l) T4.out) HD.out (ints_oneCell _) ?_))
    exact bodyPost_ret (v := .tuple #[.agg (mc (decM l)), .nilIface]) (results_cell_and rfl rfl rfl (loadM (decM_length l) (mc_put zM_length (decM_length l) T4.out))) rfl ⟨by rw [HA.out], Below.setCells (Nat.le_refl _) _ _ _ B4.out⟩
end Go.Proofs.Ythdfgdehddmkpaa
