/- The contracts of package msg's isPlace, isStep, isPath. -/
import Derived.Test.YtadnlannbafjpaaGreatQMsgA
import Derived.Test.YtadnlannbafjpaaGreatQCliP
import Derived.Deep.QuietTactic
import Derived.BigQuiet
import Derived.Deep.RegionHeld
import Derived.Deep.DeepCutAuto
namespace Go.Proofs.YtadnlannbafjpaaGreat
open Go.RowKit
set_option linter.unusedVariables false
set_option linter.unusedSimpArgs false
set_option maxRecDepth 100000 in
set_option maxHeartbeats 1000000 in
theorem isPlace_any (t r : Int) (named : Bool) (w : World) :
   Calls Tryz.prog 135 #[resV t r, .bool named] w fun e w' => e = .returned (.bool (placeB named t r)) ∧ Below w.heap.size w w' := by
 have hg := guard_res
 have he := eql_res t r 0 0
 cases named
 · have HR : ∀ b : Bool, decide (t = 0 ∧ r = 0) = b → Hid (b = placeB false t r) := fun b h => h.symm
   cases hd : decide (t = 0 ∧ r = 0)
   all_goals
     have HQ := HR _ hd
     rw [hd] at he
     clear HR hd
     go_enter Tryz.func135, Tryz.ntmps135
     go_wp2
     go_ret
     refine ⟨ret_bool HQ.out, ?_⟩
     repeat (first | exact Below.refl _ _ | refine Below.setCell ?_ (by simp) _ | refine Below.alloc ?_ (by simp <;> omega) _)
 · clear he
   go_enter Tryz.func135, Tryz.ntmps135
   go_wp2_with (go_at_call 88; refine (rok_any t r _).mono ?_; rintro e w' ⟨rfl, rfl⟩)
   go_ret
   refine ⟨rfl, ?_⟩
   repeat (first | exact Below.refl _ _ | refine Below.setCell ?_ (by simp) _ | refine Below.alloc ?_ (by simp <;> omega) _)
theorem held_step {w w9 : World} {b B : Nat} {u v : Value} (h : w9.cell? ⟨b, 0, none⟩ = some u ∧ w9.cell? ⟨b, 1, none⟩ = some v ∧ Below B w w9 ∧ b < w9.heap.size) (o : Obj) (hB : B ≤ b := by omega) :
   (w9.alloc o).cell? ⟨b, 0, none⟩ = some u ∧ (w9.alloc o).cell? ⟨b, 1, none⟩ = some v ∧ Below B w (w9.alloc o) ∧ b < (w9.alloc o).heap.size := by
 obtain ⟨h1, h2, h3, h4⟩ := h
 exact ⟨by rw [World.cell?_alloc_lt _ _ ⟨b, 0, none⟩ h4]; exact h1, by rw [World.cell?_alloc_lt _ _ ⟨b, 1, none⟩ h4]; exact h2, h3.alloc (by omega) _, by simp; omega⟩
structure StepRel (w : World) (m : List Int) (i j : Nat) (W : World) : Prop where
 fresh : Fresh m i j
 msg : Blk W w.heap.size 45 (mc m)
 step : Blk W (w.heap.size + 1) 42 #[.int .i64 (stTx m i), .int .i64 (stSeq m i)]
 bel : Below w.heap.size w W
set_option maxRecDepth 100000 in
set_option maxHeartbeats 4000000 in
theorem isStep_any (m : List Int) (hl : m.length = 28) (i : Nat) (hi : i < 8) (w : World) :
   Calls Tryz.prog 154 #[.agg (mc m), .int .i64 i] w fun e w' => e = .returned (.bool (isStepB m i)) ∧ Below w.heap.size w w' := by
 have HL := Lib.hid hl
 have c0 : (mc m)[12 + i * 2]? = some (.int .i64 (stTx m i)) := mc_get hl (by omega)
 have c1 : (mc m)[12 + i * 2 + 1]? = some (.int .i64 (stSeq m i)) := mc_get hl (by omega)
 clear hl
 go_enter Tryz.func154, Tryz.ntmps154
 go_wp2_with fail
 go_loopw [12] (fun k W => ∃ j : Nat, j ≤ i ∧ k = .int .i64 j ∧ StepRel w m i j W) (fun k _ => i - (intOf k).toNat)
 case atStart => exact ⟨0, Nat.zero_le _, rfl, Fresh.zero _ _, ((Blk.new _ _ _).alloc _), Blk.new_at (by simp) _ _, Below.alloc (Below.alloc (Below.refl _ _) (Nat.le_refl _) _) (by simp) _⟩
 case round =>
   obtain ⟨j, hj, rfl, hfr, hmsg, hst, hbel⟩ := hrel
   rename World => W
   have HF := Lib.hid hfr
   have HM := Lib.hid hmsg
   have HS := Lib.hid hst
   have HB := Lib.hid hbel
   clear hfr hmsg hst hbel c0 c1
   have s0 := HS.out.cell 0
   have s1 := HS.out.cell 1
   by_cases hlt : j < i
   · have k0 : W.cell? ⟨w.heap.size, 12 + j * 2, none⟩ = some (.int .i64 (stTx m j)) := (HM.out.cell _).trans (mc_get HL.out (by omega))
     by_cases he : stTx m j = stTx m i
     · have HD := Lib.hid (isStepB_dup hlt he)
       rw [he] at k0
       clear he
       go_wp2_with fail
       go_quiet (fail)
       go_wp2_with fail
       go_ret
       exact ⟨ret_bool HD.out.symm, below_drewN HB.out _⟩
     · have hne : (stTx m j == stTx m i) = false := by simpa using he
       have HN := Lib.hid (HF.out.succ he)
       clear he
       go_wp2_with fail
       go_quiet (fail)
       go_wp2_with fail
       go_roundw
       case rel => exact ⟨j + 1, by omega, by go_num, HN.out, HM.out.drewN _, HS.out.drewN _, below_drewN HB.out _⟩
       case measure => simp [intOf]; omega
   · obtain rfl : j = i := by omega
     have HV := Lib.hid (isStepB_fresh HF.out)
     have hlw : w.heap.size + 1 < W.heap.size := HS.out.lt
     cases ht : inS 1 1048576 (stTx m j)
     · have HT := Lib.hid ht
       clear ht
       go_wp2_with fail
       refine wp_region_held_drew (S := fun w' => w'.cell? ⟨w.heap.size + 1, 0, none⟩ = some (.int .i64 (stTx m j)) ∧ w'.cell? ⟨w.heap.size + 1, 1, none⟩ = some (.int .i64 (stSeq m j)) ∧ Below w.heap.size w w' ∧ w.heap.size + 1 < w'.heap.size) (by kernel_rfl) ?_ (fun hHeld => ?_)
       · exact ⟨s0, s1, HB.out.drew, by simpa using hlw⟩
       refine wpAnyH_take (i := 1) (v := ?_) rfl (by kernel_rfl) (by kernel_rfl) (by kernel_rfl) (fun _ _ _ h => h) (Or.inl ⟨by rfl, ?_⟩) (by assumption) ?_
       rotate_left
       · (intro w0 hSw; (try dsimp only at hSw); go_simp; try with_reducible rfl)
       try simp only [List.getElem_toArray, List.getElem_cons_succ, List.getElem_cons_zero, Act.put, List.setIfInBounds_toArray, List.set_cons_zero, List.set_cons_succ]
       refine wpAnyH_take (i := 2) (v := ?_) rfl (by kernel_rfl) (by kernel_rfl) (by kernel_rfl) (fun _ _ _ h => h) (Or.inl ⟨by rfl, ?_⟩) (by assumption) ?_
       rotate_left
       · (intro w0 hSw; (try dsimp only at hSw); go_simp; try with_reducible rfl)
       try simp only [List.getElem_toArray, List.getElem_cons_succ, List.getElem_cons_zero, Act.put, List.setIfInBounds_toArray, List.set_cons_zero, List.set_cons_succ]
       refine wpAnyH_ready (rs := [0]) (by kernel_rfl) (by simp) ?_
       refine AllReadyH.cons rfl (fun K hK => ?_) AllReadyH.nil
       go_simp
       refine (anyTx_any _).mono ?_
       rintro e w9 ⟨rfl, rfl⟩
       try go_simp
       refine hK.out _ _ ?_ (fun hHeld => ?_)
       · exact held_step (by assumption) _
       clear hK K
       refine wpAnyH_ready (rs := [3]) (by kernel_rfl) (by simp) ?_
       refine AllReadyH.cons rfl (fun K hK => ?_) AllReadyH.nil
       go_simp
       refine (has_any _ _ _ _).mono ?_
       rintro e w9 ⟨rfl, rfl⟩
       try go_simp
       refine hK.out _ _ ?_ (fun hHeld => ?_)
       · exact held_step (by assumption) _
       clear hK K
       rw [HT.out]
       refine wpAnyH_take (i := 4) (v := ?_) rfl (by kernel_rfl) (by kernel_rfl) (by kernel_rfl) (fun _ _ _ h => h) (Or.inl ⟨by rfl, ?_⟩) (by assumption) ?_
       rotate_left
       · (intro w0 hSw; (try dsimp only at hSw); go_simp; try with_reducible rfl)
       try simp only [List.getElem_toArray, List.getElem_cons_succ, List.getElem_cons_zero, Act.put, List.setIfInBounds_toArray, List.set_cons_zero, List.set_cons_succ]
       refine wpAnyH_take (i := 5) (v := undef) rfl (by kernel_rfl) (by kernel_rfl) (by kernel_rfl) (fun _ _ _ h => h) (Or.inr ⟨by rfl, rfl⟩) (by assumption) ?_
       try simp only [List.getElem_toArray, List.getElem_cons_succ, List.getElem_cons_zero, Act.put, List.setIfInBounds_toArray, List.set_cons_zero, List.set_cons_succ]
       refine wpAnyH_take (i := 6) (v := undef) rfl (by kernel_rfl) (by kernel_rfl) (by kernel_rfl) (fun _ _ _ h => h) (Or.inr ⟨by rfl, rfl⟩) (by assumption) ?_
       try simp only [List.getElem_toArray, List.getElem_cons_succ, List.getElem_cons_zero, Act.put, List.setIfInBounds_toArray, List.set_cons_zero, List.set_cons_succ]
       refine wpAnyH_take (i := 7) (v := undef) rfl (by kernel_rfl) (by kernel_rfl) (by kernel_rfl) (fun _ _ _ h => h) (Or.inr ⟨by rfl, rfl⟩) (by assumption) ?_
       try simp only [List.getElem_toArray, List.getElem_cons_succ, List.getElem_cons_zero, Act.put, List.setIfInBounds_toArray, List.set_cons_zero, List.set_cons_succ]
       refine wpAnyH_take (i := 8) (v := undef) rfl (by kernel_rfl) (by kernel_rfl) (by kernel_rfl) (fun _ _ _ h => h) (Or.inr ⟨by rfl, rfl⟩) (by assumption) ?_
       try simp only [List.getElem_toArray, List.getElem_cons_succ, List.getElem_cons_zero, Act.put, List.setIfInBounds_toArray, List.set_cons_zero, List.set_cons_succ]
       refine wpAnyH_take (i := 9) (v := ?_) rfl (by kernel_rfl) (by kernel_rfl) (by kernel_rfl) (fun _ _ _ h => h) (Or.inl ⟨by rfl, ?_⟩) (by assumption) ?_
       rotate_left
       · (intro w0 hSw; (try dsimp only at hSw); go_simp; try with_reducible rfl)
       try simp only [List.getElem_toArray, List.getElem_cons_succ, List.getElem_cons_zero, Act.put, List.setIfInBounds_toArray, List.set_cons_zero, List.set_cons_succ]
       refine wpAnyH_take (i := 10) (v := ?_) rfl (by kernel_rfl) (by kernel_rfl) (by kernel_rfl) (fun _ _ _ h => h) (Or.inl ⟨by rfl, ?_⟩) (by assumption) ?_
       rotate_left
       · (intro w0 hSw; (try dsimp only at hSw); go_simp; try with_reducible rfl)
       try simp only [List.getElem_toArray, List.getElem_cons_succ, List.getElem_cons_zero, Act.put, List.setIfInBounds_toArray, List.set_cons_zero, List.set_cons_succ]
       refine wpAnyH_done (by kernel_rfl) ?_ _
       obtain ⟨_, _, hbl, _⟩ := hHeld
       have HBL := Lib.hid hbl
       clear hbl
       go_wp2_with fail
       go_ret
       exact ⟨ret_bool (by rw [HV.out, HT.out]; rfl), HBL.out⟩
     · have HT := Lib.hid ht
       clear ht
       go_wp2_with fail
       refine wp_region_held_drew (S := fun w' => w'.cell? ⟨w.heap.size + 1, 0, none⟩ = some (.int .i64 (stTx m j)) ∧ w'.cell? ⟨w.heap.size + 1, 1, none⟩ = some (.int .i64 (stSeq m j)) ∧ Below w.heap.size w w' ∧ w.heap.size + 1 < w'.heap.size) (by kernel_rfl) ?_ (fun hHeld => ?_)
       · exact ⟨s0, s1, HB.out.drew, by simpa using hlw⟩
       refine wpAnyH_take (i := 1) (v := ?_) rfl (by kernel_rfl) (by kernel_rfl) (by kernel_rfl) (fun _ _ _ h => h) (Or.inl ⟨by rfl, ?_⟩) (by assumption) ?_
       rotate_left
       · (intro w0 hSw; (try dsimp only at hSw); go_simp; try with_reducible rfl)
       try simp only [List.getElem_toArray, List.getElem_cons_succ, List.getElem_cons_zero, Act.put, List.setIfInBounds_toArray, List.set_cons_zero, List.set_cons_succ]
       refine wpAnyH_take (i := 2) (v := ?_) rfl (by kernel_rfl) (by kernel_rfl) (by kernel_rfl) (fun _ _ _ h => h) (Or.inl ⟨by rfl, ?_⟩) (by assumption) ?_
       rotate_left
       · (intro w0 hSw; (try dsimp only at hSw); go_simp; try with_reducible rfl)
       try simp only [List.getElem_toArray, List.getElem_cons_succ, List.getElem_cons_zero, Act.put, List.setIfInBounds_toArray, List.set_cons_zero, List.set_cons_succ]
       refine wpAnyH_ready (rs := [0]) (by kernel_rfl) (by simp) ?_
       refine AllReadyH.cons rfl (fun K hK => ?_) AllReadyH.nil
       go_simp
       refine (anyTx_any _).mono ?_
       rintro e w9 ⟨rfl, rfl⟩
       try go_simp
       refine hK.out _ _ ?_ (fun hHeld => ?_)
       · exact held_step (by assumption) _
       clear hK K
       refine wpAnyH_ready (rs := [3]) (by kernel_rfl) (by simp) ?_
       refine AllReadyH.cons rfl (fun K hK => ?_) AllReadyH.nil
       go_simp
       refine (has_any _ _ _ _).mono ?_
       rintro e w9 ⟨rfl, rfl⟩
       try go_simp
       refine hK.out _ _ ?_ (fun hHeld => ?_)
       · exact held_step (by assumption) _
       clear hK K
       rw [HT.out]
       refine wpAnyH_take (i := 4) (v := ?_) rfl (by kernel_rfl) (by kernel_rfl) (by kernel_rfl) (fun _ _ _ h => h) (Or.inl ⟨by rfl, ?_⟩) (by assumption) ?_
       rotate_left
       · (intro w0 hSw; (try dsimp only at hSw); go_simp; try with_reducible rfl)
       try simp only [List.getElem_toArray, List.getElem_cons_succ, List.getElem_cons_zero, Act.put, List.setIfInBounds_toArray, List.set_cons_zero, List.set_cons_succ]
       refine wpAnyH_take (i := 6) (v := ?_) rfl (by kernel_rfl) (by kernel_rfl) (by kernel_rfl) (fun _ _ _ h => h) (Or.inl ⟨by rfl, ?_⟩) (by assumption) ?_
       rotate_left
       · (intro w0 hSw; (try dsimp only at hSw); go_simp; try with_reducible rfl)
       try simp only [List.getElem_toArray, List.getElem_cons_succ, List.getElem_cons_zero, Act.put, List.setIfInBounds_toArray, List.set_cons_zero, List.set_cons_succ]
       refine wpAnyH_take (i := 7) (v := ?_) rfl (by kernel_rfl) (by kernel_rfl) (by kernel_rfl) (fun _ _ _ h => h) (Or.inl ⟨by rfl, ?_⟩) (by assumption) ?_
       rotate_left
       · (intro w0 hSw; (try dsimp only at hSw); go_simp; try with_reducible rfl)
       try simp only [List.getElem_toArray, List.getElem_cons_succ, List.getElem_cons_zero, Act.put, List.setIfInBounds_toArray, List.set_cons_zero, List.set_cons_succ]
       refine wpAnyH_ready (rs := [5]) (by kernel_rfl) (by simp) ?_
       refine AllReadyH.cons rfl (fun K hK => ?_) AllReadyH.nil
       go_simp
       refine (anySeq_any _).mono ?_
       rintro e w9 ⟨rfl, rfl⟩
       try go_simp
       refine hK.out _ _ ?_ (fun hHeld => ?_)
       · exact held_step (by assumption) _
       clear hK K
       refine wpAnyH_ready (rs := [8]) (by kernel_rfl) (by simp) ?_
       refine AllReadyH.cons rfl (fun K hK => ?_) AllReadyH.nil
       go_simp
       refine (has_any _ _ _ _).mono ?_
       rintro e w9 ⟨rfl, rfl⟩
       try go_simp
       refine hK.out _ _ ?_ (fun hHeld => ?_)
       · exact held_step (by assumption) _
       clear hK K
       refine wpAnyH_take (i := 9) (v := ?_) rfl (by kernel_rfl) (by kernel_rfl) (by kernel_rfl) (fun _ _ _ h => h) (Or.inl ⟨by rfl, ?_⟩) (by assumption) ?_
       rotate_left
       · (intro w0 hSw; (try dsimp only at hSw); go_simp; try with_reducible rfl)
       try simp only [List.getElem_toArray, List.getElem_cons_succ, List.getElem_cons_zero, Act.put, List.setIfInBounds_toArray, List.set_cons_zero, List.set_cons_succ]
       refine wpAnyH_take (i := 10) (v := ?_) rfl (by kernel_rfl) (by kernel_rfl) (by kernel_rfl) (fun _ _ _ h => h) (Or.inl ⟨by rfl, ?_⟩) (by assumption) ?_
       rotate_left
       · (intro w0 hSw; (try dsimp only at hSw); go_simp; try with_reducible rfl)
       try simp only [List.getElem_toArray, List.getElem_cons_succ, List.getElem_cons_zero, Act.put, List.setIfInBounds_toArray, List.set_cons_zero, List.set_cons_succ]
       refine wpAnyH_done (by kernel_rfl) ?_ _
       obtain ⟨_, _, hbl, _⟩ := hHeld
       have HBL := Lib.hid hbl
       clear hbl
       go_wp2_with fail
       go_ret
       exact ⟨ret_bool (by rw [HV.out, HT.out]; rfl), HBL.out⟩
end Go.Proofs.YtadnlannbafjpaaGreat
/- The contract of package msg's isPath. -/
namespace Go.Proofs.YtadnlannbafjpaaGreat
open Go.RowKit
set_option linter.unusedVariables false
set_option linter.unusedSimpArgs false
theorem index_path {m : List Int} (hl : m.length = 28) {i : Nat} (hi : i < 8) (w : World) :
   (Instr.index 43 (.agg (ints (pathL m)).toArray) (.int .i64 (i : Int))).run Tryz.prog w = .ok (.agg #[.int .i64 (stTx m i), .int .i64 (stSeq m i)]) w := by
 rw [index_flat (len := 8) (k := 2) (by kernel_rfl) flat_step hi (by simp [pathL, hl]) w, pathL_step hl hi]
 rfl
structure PathRel (w : World) (m : List Int) (k : Nat) (W : World) : Prop where
 till : PathTill m k
 msg : Blk W w.heap.size 45 (mc m)
 bel : Below w.heap.size w W
set_option maxRecDepth 100000 in
set_option maxHeartbeats 4000000 in
theorem isPath_any (m : List Int) (hl : m.length = 28) (w : World) :
   Calls Tryz.prog 136 #[.agg (mc m)] w fun e w' => e = .returned (.bool (pathB m)) ∧ Below w.heap.size w w' := by
 have HL := Lib.hid hl
 have HP := Lib.hid (mc_path hl (Blk.new w 45 (mc m)))
 have HZ := Lib.hid (pathL_size hl)
 clear hl
 go_enter Tryz.func136, Tryz.ntmps136
 go_wp2_with (refine wpList_load_cells rfl 43 _ rfl ⟨w.heap.size, 12, none⟩ rfl (ints (pathL m)) _ HP.out Tryz.underlying43 rfl HZ.out ?_)
 go_loopw [7] (fun k W => ∃ j : Nat, j ≤ 8 ∧ k = .int .i64 j ∧ PathRel w m j W) (fun k _ => 8 - (intOf k).toNat)
 case atStart => exact ⟨0, by omega, rfl, PathTill.zero _, Blk.new _ _ _, Below.alloc (Below.refl _ _) (Nat.le_refl _) _⟩
 case round =>
   obtain ⟨k, hk, rfl, htl, hmsg, hbel⟩ := hrel
   rename World => W
   have HT := Lib.hid htl
   have HM := Lib.hid hmsg
   have HB := Lib.hid hbel
   clear htl hmsg hbel
   by_cases hlt : k < 8
   · have hix := fun w => index_path HL.out hlt w
     have k0 : W.cell? ⟨w.heap.size, 11, none⟩ = some (.int .i64 (fld m 11)) := (HM.out.cell _).trans (mc_get HL.out (by omega))
     have hlw : w.heap.size < W.heap.size := HM.out.lt
     have hgs := guard_step
     have hne := fun w => neq_step (stTx m k) (stSeq m k) 0 0 w
     cases hc : decide ((k : Int) < fld m 11)
     · have HO := Lib.hid (show okAt m k = decide (stTx m k = 0 ∧ stSeq m k = 0) by unfold okAt; rw [if_neg (by simpa using hc)])
       have hc2 : decide (fld m 11 ≤ (k : Int)) = true := by simp at hc ⊢; omega
       generalize fld m 11 = N at k0 hc hc2
       cases hz : decide (stTx m k = 0 ∧ stSeq m k = 0)
       · have HZ2 := Lib.hid hz
         rw [hz] at hne
         clear hz
         go_wp2_with fail
         go_ret
         refine ⟨ret_bool ?_, ?_⟩
         · rw [pathB_no hlt (by rw [HO.out, HZ2.out])]
         · exact HB.out.alloc (by omega) _
       · have HZ2 := Lib.hid hz
         rw [hz] at hne
         clear hz
         go_wp2_with fail
         go_roundw
         case rel => exact ⟨k + 1, by omega, by go_num, HT.out.succ (by rw [HO.out, HZ2.out]), HM.out.alloc _, HB.out.alloc (by omega) _⟩
         case measure => simp [intOf]; omega
     · have HO := Lib.hid (show okAt m k = isStepB m k by unfold okAt; rw [if_pos (by simpa using hc)])
       have hc2 : decide (fld m 11 ≤ (k : Int)) = false := by simp at hc ⊢; omega
       have HI := Lib.hid (mc_info HL.out)
       have HN := Lib.hid (mc_get HL.out (i := 11) (by omega))
       generalize fld m 11 = N at k0 hc hc2 HN
       cases hz : isStepB m k
       · have HZ2 := Lib.hid hz
         clear hz
         go_wp2_with (first
           | (refine wpList_load_row_g (by rfl) 45 (.tmp 1) rfl w.heap.size rfl 45 (mc m) (0, 0) _ (HM.out.alloc _) Tryz.underlying45 rfl HI.out ?_)
           | (go_at_call 154
              refine (isStep_any m HL.out k hlt _).mono ?_
              rintro e w5 ⟨rfl, hb5⟩
              have HB5 := Lib.hid (stepB (HB.out.alloc (by omega) _) hb5)
              have HM5 := Lib.hid ((HM.out.alloc _).here hb5)
              have k5 := (((HM.out.alloc _).here hb5).cell 11).trans HN.out
              rw [HZ2.out]
              clear hb5))
         go_ret
         exact ⟨ret_bool (by rw [pathB_no hlt (by rw [HO.out, HZ2.out])]), HB5.out⟩
       · have HZ2 := Lib.hid hz
         clear hz
         go_wp2_with (first
           | (refine wpList_load_row_g (by rfl) 45 (.tmp 1) rfl w.heap.size rfl 45 (mc m) (0, 0) _ (HM.out.alloc _) Tryz.underlying45 rfl HI.out ?_)
           | (go_at_call 154
              refine (isStep_any m HL.out k hlt _).mono ?_
              rintro e w5 ⟨rfl, hb5⟩
              have HB5 := Lib.hid (stepB (HB.out.alloc (by omega) _) hb5)
              have HM5 := Lib.hid ((HM.out.alloc _).here hb5)
              have k5 := (((HM.out.alloc _).here hb5).cell 11).trans HN.out
              rw [HZ2.out]
              clear hb5))
         go_roundw
         case rel => exact ⟨k + 1, by omega, by go_num, HT.out.succ (by rw [HO.out, HZ2.out]), HM5.out, HB5.out⟩
         case measure => simp [intOf]; omega
   · obtain rfl : k = 8 := by omega
     go_wp2_with fail
     go_ret
     exact ⟨ret_bool (by rw [pathB_yes HT.out]), HB.out⟩
end Go.Proofs.YtadnlannbafjpaaGreat
/- The contract of package msg's goes. -/
namespace Go.Proofs.YtadnlannbafjpaaGreat
open Go.RowKit
set_option linter.unusedVariables false
set_option linter.unusedSimpArgs false
def Keeps (w : World) (m : List Int) (w' : World) : Prop := Blk w' w.heap.size 45 (mc m) ∧ Below w.heap.size w w'
theorem Keeps.alloc {w w' : World} {m : List Int} (h : Keeps w m w') (o : Obj) : Keeps w m (w'.alloc o) := ⟨h.1.alloc o, h.2.alloc h.2.size o⟩
theorem Keeps.drew {w w' : World} {m : List Int} (h : Keeps w m w') : Keeps w m w'.drew := ⟨h.1.drew, h.2.drew⟩
theorem Keeps.from_ {w w' : World} {m : List Int} (hl : m.length = 28) (h : Keeps w m w') : w'.cell? ⟨w.heap.size, 1, none⟩ = some (.int .i64 (fld m 1)) := (h.1.cell 1).trans (mc_get hl (by omega))
theorem Keeps.to_ {w w' : World} {m : List Int} (hl : m.length = 28) (h : Keeps w m w') : w'.cell? ⟨w.heap.size, 2, none⟩ = some (.int .i64 (fld m 2)) := (h.1.cell 2).trans (mc_get hl (by omega))
theorem keepsS {w w' : World} {m : List Int} (hl : m.length = 28) (h : Keeps w m w') : w'.cell? ⟨w.heap.size, 1, none⟩ = some (.int .i64 (fld m 1)) ∧ w'.cell? ⟨w.heap.size, 2, none⟩ = some (.int .i64 (fld m 2)) ∧ Keeps w m w' := ⟨h.from_ hl, h.to_ hl, h⟩
structure CutG (w : World) (m : List Int) (b : Bool) (v : Value) (wx : World) : Prop where
 val : v = .bool b
 keeps : Keeps w m wx
set_option maxRecDepth 100000 in
set_option maxHeartbeats 4000000 in
theorem goes_any (m : List Int) (hl : m.length = 28) (w : World) :
   Calls Tryz.prog 133 #[.agg (mc m)] w fun e w' => e = .returned (.bool (goesB m)) ∧ Below w.heap.size w w' := by
 have HL := Lib.hid hl
 clear hl
 go_enter Tryz.func133, Tryz.ntmps133
 go_wp2_with fail
 go_cut [3] (fun v wx => CutG w m (downB m) v wx)
 case first =>
   cases hf : (fld m 1 == 0)
   · have HF := Lib.hid hf
     refine wp_region_held_drew (S := fun w' => w'.cell? ⟨w.heap.size, 1, none⟩ = some (.int .i64 (fld m 1)) ∧ w'.cell? ⟨w.heap.size, 2, none⟩ = some (.int .i64 (fld m 2)) ∧ Keeps w m w') (by kernel_rfl) ?_ (fun hHeld => ?_)
     · exact keepsS HL.out (Keeps.drew ⟨Blk.new _ _ _, Below.alloc (Below.refl _ _) (Nat.le_refl _) _⟩)
     refine wpAnyH_take (i := 0) (v := ?_) rfl (by kernel_rfl) (by kernel_rfl) (by kernel_rfl) (fun _ _ _ h => h) (Or.inl ⟨by rfl, ?_⟩) (by assumption) ?_
     rotate_left
     · (intro w0 hSw; (try dsimp only at hSw); go_simp; try with_reducible rfl)
     try simp only [List.getElem_toArray, List.getElem_cons_succ, List.getElem_cons_zero, Act.put, List.setIfInBounds_toArray, List.set_cons_zero, List.set_cons_succ]
     refine wpAnyH_take (i := 1) (v := ?_) rfl (by kernel_rfl) (by kernel_rfl) (by kernel_rfl) (fun _ _ _ h => h) (Or.inl ⟨by rfl, ?_⟩) (by assumption) ?_
     rotate_left
     · (intro w0 hSw; (try dsimp only at hSw); go_simp; try with_reducible rfl)
     try simp only [List.getElem_toArray, List.getElem_cons_succ, List.getElem_cons_zero, Act.put, List.setIfInBounds_toArray, List.set_cons_zero, List.set_cons_succ]
     refine wpAnyH_take (i := 2) (v := ?_) rfl (by kernel_rfl) (by kernel_rfl) (by kernel_rfl) (fun _ _ _ h => h) (Or.inl ⟨by rfl, ?_⟩) (by assumption) ?_
     rotate_left
     · (intro w0 hSw; (try dsimp only at hSw); go_simp; try with_reducible rfl)
     try simp only [List.getElem_toArray, List.getElem_cons_succ, List.getElem_cons_zero, Act.put, List.setIfInBounds_toArray, List.set_cons_zero, List.set_cons_succ]
     refine wpAnyH_take (i := 3) (v := ?_) rfl (by kernel_rfl) (by kernel_rfl) (by kernel_rfl) (fun _ _ _ h => h) (Or.inl ⟨by rfl, ?_⟩) (by assumption) ?_
     rotate_left
     · (intro w0 hSw; (try dsimp only at hSw); go_simp; try with_reducible rfl)
     try simp only [List.getElem_toArray, List.getElem_cons_succ, List.getElem_cons_zero, Act.put, List.setIfInBounds_toArray, List.set_cons_zero, List.set_cons_succ]
     refine wpAnyH_take (i := 4) (v := undef) rfl (by kernel_rfl) (by kernel_rfl) (by kernel_rfl) (fun _ _ _ h => h) (Or.inr ⟨by rfl, rfl⟩) (by assumption) ?_
     try simp only [List.getElem_toArray, List.getElem_cons_succ, List.getElem_cons_zero, Act.put, List.setIfInBounds_toArray, List.set_cons_zero, List.set_cons_succ]
     refine wpAnyH_take (i := 5) (v := undef) rfl (by kernel_rfl) (by kernel_rfl) (by kernel_rfl) (fun _ _ _ h => h) (Or.inr ⟨by rfl, rfl⟩) (by assumption) ?_
     try simp only [List.getElem_toArray, List.getElem_cons_succ, List.getElem_cons_zero, Act.put, List.setIfInBounds_toArray, List.set_cons_zero, List.set_cons_succ]
     refine wpAnyH_take (i := 6) (v := undef) rfl (by kernel_rfl) (by kernel_rfl) (by kernel_rfl) (fun _ _ _ h => h) (Or.inr ⟨by rfl, rfl⟩) (by assumption) ?_
     try simp only [List.getElem_toArray, List.getElem_cons_succ, List.getElem_cons_zero, Act.put, List.setIfInBounds_toArray, List.set_cons_zero, List.set_cons_succ]
     refine wpAnyH_take (i := 7) (v := undef) rfl (by kernel_rfl) (by kernel_rfl) (by kernel_rfl) (fun _ _ _ h => h) (Or.inr ⟨by rfl, rfl⟩) (by assumption) ?_
     try simp only [List.getElem_toArray, List.getElem_cons_succ, List.getElem_cons_zero, Act.put, List.setIfInBounds_toArray, List.set_cons_zero, List.set_cons_succ]
     refine wpAnyH_take (i := 8) (v := ?_) rfl (by kernel_rfl) (by kernel_rfl) (by kernel_rfl) (fun _ _ _ h => h) (Or.inl ⟨by rfl, ?_⟩) (by assumption) ?_
     rotate_left
     · (intro w0 hSw; (try dsimp only at hSw); go_simp; try with_reducible rfl)
     try simp only [List.getElem_toArray, List.getElem_cons_succ, List.getElem_cons_zero, Act.put, List.setIfInBounds_toArray, List.set_cons_zero, List.set_cons_succ]
     refine wpAnyH_take (i := 9) (v := ?_) rfl (by kernel_rfl) (by kernel_rfl) (by kernel_rfl) (fun _ _ _ h => h) (Or.inl ⟨by rfl, ?_⟩) (by assumption) ?_
     rotate_left
     · (intro w0 hSw; (try dsimp only at hSw); go_simp; try with_reducible rfl)
     try simp only [List.getElem_toArray, List.getElem_cons_succ, List.getElem_cons_zero, Act.put, List.setIfInBounds_toArray, List.set_cons_zero, List.set_cons_succ]
     refine wpAnyH_done (by kernel_rfl) ?_ _
     have HK1 := Lib.hid hHeld.2.2
     clear hHeld
     go_wp2_with fail
     go_meet
     exact ⟨by unfold downB; rw [HF.out]; try rfl, HK1.out⟩
   · have HF := Lib.hid hf
     refine wp_region_held_drew (S := fun w' => w'.cell? ⟨w.heap.size, 1, none⟩ = some (.int .i64 (fld m 1)) ∧ w'.cell? ⟨w.heap.size, 2, none⟩ = some (.int .i64 (fld m 2)) ∧ Keeps w m w') (by kernel_rfl) ?_ (fun hHeld => ?_)
     · exact keepsS HL.out (Keeps.drew ⟨Blk.new _ _ _, Below.alloc (Below.refl _ _) (Nat.le_refl _) _⟩)
     refine wpAnyH_take (i := 0) (v := ?_) rfl (by kernel_rfl) (by kernel_rfl) (by kernel_rfl) (fun _ _ _ h => h) (Or.inl ⟨by rfl, ?_⟩) (by assumption) ?_
     rotate_left
     · (intro w0 hSw; (try dsimp only at hSw); go_simp; try with_reducible rfl)
     try simp only [List.getElem_toArray, List.getElem_cons_succ, List.getElem_cons_zero, Act.put, List.setIfInBounds_toArray, List.set_cons_zero, List.set_cons_succ]
     refine wpAnyH_take (i := 1) (v := ?_) rfl (by kernel_rfl) (by kernel_rfl) (by kernel_rfl) (fun _ _ _ h => h) (Or.inl ⟨by rfl, ?_⟩) (by assumption) ?_
     rotate_left
     · (intro w0 hSw; (try dsimp only at hSw); go_simp; try with_reducible rfl)
     try simp only [List.getElem_toArray, List.getElem_cons_succ, List.getElem_cons_zero, Act.put, List.setIfInBounds_toArray, List.set_cons_zero, List.set_cons_succ]
     refine wpAnyH_take (i := 2) (v := ?_) rfl (by kernel_rfl) (by kernel_rfl) (by kernel_rfl) (fun _ _ _ h => h) (Or.inl ⟨by rfl, ?_⟩) (by assumption) ?_
     rotate_left
     · (intro w0 hSw; (try dsimp only at hSw); go_simp; try with_reducible rfl)
     try simp only [List.getElem_toArray, List.getElem_cons_succ, List.getElem_cons_zero, Act.put, List.setIfInBounds_toArray, List.set_cons_zero, List.set_cons_succ]
     refine wpAnyH_take (i := 3) (v := ?_) rfl (by kernel_rfl) (by kernel_rfl) (by kernel_rfl) (fun _ _ _ h => h) (Or.inl ⟨by rfl, ?_⟩) (by assumption) ?_
     rotate_left
     · (intro w0 hSw; (try dsimp only at hSw); go_simp; try with_reducible rfl)
     try simp only [List.getElem_toArray, List.getElem_cons_succ, List.getElem_cons_zero, Act.put, List.setIfInBounds_toArray, List.set_cons_zero, List.set_cons_succ]
     refine wpAnyH_take (i := 5) (v := ?_) rfl (by kernel_rfl) (by kernel_rfl) (by kernel_rfl) (fun _ _ _ h => h) (Or.inl ⟨by rfl, ?_⟩) (by assumption) ?_
     rotate_left
     · (intro w0 hSw; (try dsimp only at hSw); go_simp; try with_reducible rfl)
     try simp only [List.getElem_toArray, List.getElem_cons_succ, List.getElem_cons_zero, Act.put, List.setIfInBounds_toArray, List.set_cons_zero, List.set_cons_succ]
     refine wpAnyH_take (i := 6) (v := ?_) rfl (by kernel_rfl) (by kernel_rfl) (by kernel_rfl) (fun _ _ _ h => h) (Or.inl ⟨by rfl, ?_⟩) (by assumption) ?_
     rotate_left
     · (intro w0 hSw; (try dsimp only at hSw); go_simp; try with_reducible rfl)
     try simp only [List.getElem_toArray, List.getElem_cons_succ, List.getElem_cons_zero, Act.put, List.setIfInBounds_toArray, List.set_cons_zero, List.set_cons_succ]
     refine wpAnyH_ready (rs := [4]) (by kernel_rfl) (by simp) ?_
     refine AllReadyH.cons rfl (fun K hK => ?_) AllReadyH.nil
     go_simp
     refine (anyShard_any _).mono ?_
     rintro e w9 ⟨rfl, rfl⟩
     try go_simp
     refine hK.out _ _ ?_ (fun hHeld => ?_)
     · exact keepsS HL.out (hHeld.2.2.alloc _)
     clear hK K
     refine wpAnyH_ready (rs := [7]) (by kernel_rfl) (by simp) ?_
     refine AllReadyH.cons rfl (fun K hK => ?_) AllReadyH.nil
     go_simp
     refine (has_any _ _ _ _).mono ?_
     rintro e w9 ⟨rfl, rfl⟩
     try go_simp
     refine hK.out _ _ ?_ (fun hHeld => ?_)
     · exact keepsS HL.out (hHeld.2.2.alloc _)
     clear hK K
     refine wpAnyH_take (i := 8) (v := ?_) rfl (by kernel_rfl) (by kernel_rfl) (by kernel_rfl) (fun _ _ _ h => h) (Or.inl ⟨by rfl, ?_⟩) (by assumption) ?_
     rotate_left
     · (intro w0 hSw; (try dsimp only at hSw); go_simp; try with_reducible rfl)
     try simp only [List.getElem_toArray, List.getElem_cons_succ, List.getElem_cons_zero, Act.put, List.setIfInBounds_toArray, List.set_cons_zero, List.set_cons_succ]
     refine wpAnyH_take (i := 9) (v := ?_) rfl (by kernel_rfl) (by kernel_rfl) (by kernel_rfl) (fun _ _ _ h => h) (Or.inl ⟨by rfl, ?_⟩) (by assumption) ?_
     rotate_left
     · (intro w0 hSw; (try dsimp only at hSw); go_simp; try with_reducible rfl)
     try simp only [List.getElem_toArray, List.getElem_cons_succ, List.getElem_cons_zero, Act.put, List.setIfInBounds_toArray, List.set_cons_zero, List.set_cons_succ]
     refine wpAnyH_done (by kernel_rfl) ?_ _
     have HK1 := Lib.hid hHeld.2.2
     clear hHeld
     go_wp2_with fail
     go_meet
     exact ⟨by unfold downB; rw [HF.out]; try rfl, HK1.out⟩
 case rest =>
   obtain ⟨rfl, hkp⟩ := hcut
   have HK0 := Lib.hid hkp
   clear hkp
   have HD := Lib.hid (show goesB m = wayB (fld m 0) (downB m) (upB m) from rfl)
   generalize downB m = d at HD ⊢
   go_wp2_with fail
   go_cut [4] (fun v wx => CutG w m (upB m) v wx)
   case first =>
     cases hs : inS 1 64 (fld m 1)
     · have HS := Lib.hid hs
       clear hs
       refine wp_region_held_drew (S := fun w' => w'.cell? ⟨w.heap.size, 1, none⟩ = some (.int .i64 (fld m 1)) ∧ w'.cell? ⟨w.heap.size, 2, none⟩ = some (.int .i64 (fld m 2)) ∧ Keeps w m w') (by kernel_rfl) ?_ (fun hHeld => ?_)
       · exact keepsS HL.out HK0.out.drew
       refine wpAnyH_take (i := 1) (v := ?_) rfl (by kernel_rfl) (by kernel_rfl) (by kernel_rfl) (fun _ _ _ h => h) (Or.inl ⟨by rfl, ?_⟩) (by assumption) ?_
       rotate_left
       · (intro w0 hSw; (try dsimp only at hSw); go_simp; try with_reducible rfl)
       try simp only [List.getElem_toArray, List.getElem_cons_succ, List.getElem_cons_zero, Act.put, List.setIfInBounds_toArray, List.set_cons_zero, List.set_cons_succ]
       refine wpAnyH_take (i := 2) (v := ?_) rfl (by kernel_rfl) (by kernel_rfl) (by kernel_rfl) (fun _ _ _ h => h) (Or.inl ⟨by rfl, ?_⟩) (by assumption) ?_
       rotate_left
       · (intro w0 hSw; (try dsimp only at hSw); go_simp; try with_reducible rfl)
       try simp only [List.getElem_toArray, List.getElem_cons_succ, List.getElem_cons_zero, Act.put, List.setIfInBounds_toArray, List.set_cons_zero, List.set_cons_succ]
       refine wpAnyH_ready (rs := [0]) (by kernel_rfl) (by simp) ?_
       refine AllReadyH.cons rfl (fun K hK => ?_) AllReadyH.nil
       go_simp
       refine (anyShard_any _).mono ?_
       rintro e w9 ⟨rfl, rfl⟩
       try go_simp
       refine hK.out _ _ ?_ (fun hHeld => ?_)
       · exact keepsS HL.out (hHeld.2.2.alloc _)
       clear hK K
       refine wpAnyH_ready (rs := [3]) (by kernel_rfl) (by simp) ?_
       refine AllReadyH.cons rfl (fun K hK => ?_) AllReadyH.nil
       go_simp
       refine (has_any _ _ _ _).mono ?_
       rintro e w9 ⟨rfl, rfl⟩
       try go_simp
       refine hK.out _ _ ?_ (fun hHeld => ?_)
       · exact keepsS HL.out (hHeld.2.2.alloc _)
       clear hK K
       rw [HS.out]
       refine wpAnyH_take (i := 4) (v := ?_) rfl (by kernel_rfl) (by kernel_rfl) (by kernel_rfl) (fun _ _ _ h => h) (Or.inl ⟨by rfl, ?_⟩) (by assumption) ?_
       rotate_left
       · (intro w0 hSw; (try dsimp only at hSw); go_simp; try with_reducible rfl)
       try simp only [List.getElem_toArray, List.getElem_cons_succ, List.getElem_cons_zero, Act.put, List.setIfInBounds_toArray, List.set_cons_zero, List.set_cons_succ]
       refine wpAnyH_take (i := 5) (v := undef) rfl (by kernel_rfl) (by kernel_rfl) (by kernel_rfl) (fun _ _ _ h => h) (Or.inr ⟨by rfl, rfl⟩) (by assumption) ?_
       try simp only [List.getElem_toArray, List.getElem_cons_succ, List.getElem_cons_zero, Act.put, List.setIfInBounds_toArray, List.set_cons_zero, List.set_cons_succ]
       refine wpAnyH_take (i := 6) (v := undef) rfl (by kernel_rfl) (by kernel_rfl) (by kernel_rfl) (fun _ _ _ h => h) (Or.inr ⟨by rfl, rfl⟩) (by assumption) ?_
       try simp only [List.getElem_toArray, List.getElem_cons_succ, List.getElem_cons_zero, Act.put, List.setIfInBounds_toArray, List.set_cons_zero, List.set_cons_succ]
       refine wpAnyH_take (i := 7) (v := undef) rfl (by kernel_rfl) (by kernel_rfl) (by kernel_rfl) (fun _ _ _ h => h) (Or.inr ⟨by rfl, rfl⟩) (by assumption) ?_
       try simp only [List.getElem_toArray, List.getElem_cons_succ, List.getElem_cons_zero, Act.put, List.setIfInBounds_toArray, List.set_cons_zero, List.set_cons_succ]
       refine wpAnyH_take (i := 8) (v := ?_) rfl (by kernel_rfl) (by kernel_rfl) (by kernel_rfl) (fun _ _ _ h => h) (Or.inl ⟨by rfl, ?_⟩) (by assumption) ?_
       rotate_left
       · (intro w0 hSw; (try dsimp only at hSw); go_simp; try with_reducible rfl)
       try simp only [List.getElem_toArray, List.getElem_cons_succ, List.getElem_cons_zero, Act.put, List.setIfInBounds_toArray, List.set_cons_zero, List.set_cons_succ]
       refine wpAnyH_take (i := 9) (v := ?_) rfl (by kernel_rfl) (by kernel_rfl) (by kernel_rfl) (fun _ _ _ h => h) (Or.inl ⟨by rfl, ?_⟩) (by assumption) ?_
       rotate_left
       · (intro w0 hSw; (try dsimp only at hSw); go_simp; try with_reducible rfl)
       try simp only [List.getElem_toArray, List.getElem_cons_succ, List.getElem_cons_zero, Act.put, List.setIfInBounds_toArray, List.set_cons_zero, List.set_cons_succ]
       refine wpAnyH_done (by kernel_rfl) ?_ _
       have HK2 := Lib.hid hHeld.2.2
       clear hHeld
       go_wp2_with fail
       go_meet
       exact ⟨by unfold upB; rw [HS.out]; try rfl, HK2.out⟩
     · have HS := Lib.hid hs
       clear hs
       refine wp_region_held_drew (S := fun w' => w'.cell? ⟨w.heap.size, 1, none⟩ = some (.int .i64 (fld m 1)) ∧ w'.cell? ⟨w.heap.size, 2, none⟩ = some (.int .i64 (fld m 2)) ∧ Keeps w m w') (by kernel_rfl) ?_ (fun hHeld => ?_)
       · exact keepsS HL.out HK0.out.drew
       refine wpAnyH_take (i := 1) (v := ?_) rfl (by kernel_rfl) (by kernel_rfl) (by kernel_rfl) (fun _ _ _ h => h) (Or.inl ⟨by rfl, ?_⟩) (by assumption) ?_
       rotate_left
       · (intro w0 hSw; (try dsimp only at hSw); go_simp; try with_reducible rfl)
       try simp only [List.getElem_toArray, List.getElem_cons_succ, List.getElem_cons_zero, Act.put, List.setIfInBounds_toArray, List.set_cons_zero, List.set_cons_succ]
       refine wpAnyH_take (i := 2) (v := ?_) rfl (by kernel_rfl) (by kernel_rfl) (by kernel_rfl) (fun _ _ _ h => h) (Or.inl ⟨by rfl, ?_⟩) (by assumption) ?_
       rotate_left
       · (intro w0 hSw; (try dsimp only at hSw); go_simp; try with_reducible rfl)
       try simp only [List.getElem_toArray, List.getElem_cons_succ, List.getElem_cons_zero, Act.put, List.setIfInBounds_toArray, List.set_cons_zero, List.set_cons_succ]
       refine wpAnyH_ready (rs := [0]) (by kernel_rfl) (by simp) ?_
       refine AllReadyH.cons rfl (fun K hK => ?_) AllReadyH.nil
       go_simp
       refine (anyShard_any _).mono ?_
       rintro e w9 ⟨rfl, rfl⟩
       try go_simp
       refine hK.out _ _ ?_ (fun hHeld => ?_)
       · exact keepsS HL.out (hHeld.2.2.alloc _)
       clear hK K
       refine wpAnyH_ready (rs := [3]) (by kernel_rfl) (by simp) ?_
       refine AllReadyH.cons rfl (fun K hK => ?_) AllReadyH.nil
       go_simp
       refine (has_any _ _ _ _).mono ?_
       rintro e w9 ⟨rfl, rfl⟩
       try go_simp
       refine hK.out _ _ ?_ (fun hHeld => ?_)
       · exact keepsS HL.out (hHeld.2.2.alloc _)
       clear hK K
       rw [HS.out]
       refine wpAnyH_take (i := 4) (v := ?_) rfl (by kernel_rfl) (by kernel_rfl) (by kernel_rfl) (fun _ _ _ h => h) (Or.inl ⟨by rfl, ?_⟩) (by assumption) ?_
       rotate_left
       · (intro w0 hSw; (try dsimp only at hSw); go_simp; try with_reducible rfl)
       try simp only [List.getElem_toArray, List.getElem_cons_succ, List.getElem_cons_zero, Act.put, List.setIfInBounds_toArray, List.set_cons_zero, List.set_cons_succ]
       refine wpAnyH_take (i := 5) (v := ?_) rfl (by kernel_rfl) (by kernel_rfl) (by kernel_rfl) (fun _ _ _ h => h) (Or.inl ⟨by rfl, ?_⟩) (by assumption) ?_
       rotate_left
       · (intro w0 hSw; (try dsimp only at hSw); go_simp; try with_reducible rfl)
       try simp only [List.getElem_toArray, List.getElem_cons_succ, List.getElem_cons_zero, Act.put, List.setIfInBounds_toArray, List.set_cons_zero, List.set_cons_succ]
       refine wpAnyH_take (i := 6) (v := ?_) rfl (by kernel_rfl) (by kernel_rfl) (by kernel_rfl) (fun _ _ _ h => h) (Or.inl ⟨by rfl, ?_⟩) (by assumption) ?_
       rotate_left
       · (intro w0 hSw; (try dsimp only at hSw); go_simp; try with_reducible rfl)
       try simp only [List.getElem_toArray, List.getElem_cons_succ, List.getElem_cons_zero, Act.put, List.setIfInBounds_toArray, List.set_cons_zero, List.set_cons_succ]
       refine wpAnyH_take (i := 7) (v := ?_) rfl (by kernel_rfl) (by kernel_rfl) (by kernel_rfl) (fun _ _ _ h => h) (Or.inl ⟨by rfl, ?_⟩) (by assumption) ?_
       rotate_left
       · (intro w0 hSw; (try dsimp only at hSw); go_simp; try with_reducible rfl)
       try simp only [List.getElem_toArray, List.getElem_cons_succ, List.getElem_cons_zero, Act.put, List.setIfInBounds_toArray, List.set_cons_zero, List.set_cons_succ]
       refine wpAnyH_take (i := 8) (v := ?_) rfl (by kernel_rfl) (by kernel_rfl) (by kernel_rfl) (fun _ _ _ h => h) (Or.inl ⟨by rfl, ?_⟩) (by assumption) ?_
       rotate_left
       · (intro w0 hSw; (try dsimp only at hSw); go_simp; try with_reducible rfl)
       try simp only [List.getElem_toArray, List.getElem_cons_succ, List.getElem_cons_zero, Act.put, List.setIfInBounds_toArray, List.set_cons_zero, List.set_cons_succ]
       refine wpAnyH_take (i := 9) (v := ?_) rfl (by kernel_rfl) (by kernel_rfl) (by kernel_rfl) (fun _ _ _ h => h) (Or.inl ⟨by rfl, ?_⟩) (by assumption) ?_
       rotate_left
       · (intro w0 hSw; (try dsimp only at hSw); go_simp; try with_reducible rfl)
       try simp only [List.getElem_toArray, List.getElem_cons_succ, List.getElem_cons_zero, Act.put, List.setIfInBounds_toArray, List.set_cons_zero, List.set_cons_succ]
       refine wpAnyH_done (by kernel_rfl) ?_ _
       have HK2 := Lib.hid hHeld.2.2
       clear hHeld
       go_wp2_with fail
       go_meet
       exact ⟨by unfold upB; rw [HS.out]; try rfl, HK2.out⟩
   case rest =>
     obtain ⟨rfl, hkp⟩ := hcut
     have HK := Lib.hid hkp
     have k0 := (hkp.1.cell 0).trans (mc_get HL.out (by omega))
     have HG := HD
     clear hkp HD
     generalize fld m 0 = k at k0 HG
     generalize upB m = u at HG ⊢
     rcases kind_cases k with h | h | h | h | h | h | h | h | h | h | h | h
     case inr.inr.inr.inr.inr.inr.inr.inr.inr.inr.inr =>
       have HW := Lib.hid (HG.out.trans (wayB_out h d u))
       have e1 : (k == 1) = false := by simp; omega
       have e2 : (k == 2) = false := by simp; omega
       have e3 : (k == 3) = false := by simp; omega
       have e4 : (k == 4) = false := by simp; omega
       have e5 : (k == 5) = false := by simp; omega
       have e6 : (k == 6) = false := by simp; omega
       have e7 : (k == 7) = false := by simp; omega
       have e8 : (k == 8) = false := by simp; omega
       have e9 : (k == 9) = false := by simp; omega
       have e10 : (k == 10) = false := by simp; omega
       have e11 : (k == 11) = false := by simp; omega
       clear h
       go_wp2_with fail
       go_ret
       exact ⟨ret_bool HW.out.symm, HK.out.2⟩
     case inr.inr.inr.inr.inr.inr.inr.inr.inr.inr.inl =>
       subst h
       cases d <;> cases u
       all_goals
         have HW := Lib.hid HG.out
         go_wp2_with fail
         go_ret
         exact ⟨ret_bool (by rw [HW.out]; rfl), HK.out.2⟩
     all_goals
       subst h
       go_wp2_with fail
       go_ret
       exact ⟨ret_bool (by rw [HG.out]; rfl), HK.out.2⟩
end Go.Proofs.YtadnlannbafjpaaGreat
/- The contract of package msg's mayBe. -/
namespace Go.Proofs.YtadnlannbafjpaaGreat
open Go.RowKit
set_option linter.unusedVariables false
set_option linter.unusedSimpArgs false
theorem asked_any (m : List Int) (hl : m.length = 28) (w : World) :
   Calls Tryz.prog 132 #[.agg (mc m)] w fun e w' => e = .returned (askV (fld m 0) (fld m 3)) ∧ Below w.heap.size w w' := by
 rcases kind_cases (fld m 0) with h | h | h | h | h | h | h | h | h | h | h | h
 · exact asked_1 m hl h w
 · exact asked_2 m hl h w
 · exact asked_3 m hl h w
 · exact asked_4 m hl h w
 · exact asked_5 m hl h w
 · exact asked_6 m hl h w
 · exact asked_7 m hl h w
 · exact asked_8 m hl h w
 · exact asked_9 m hl h w
 · exact asked_10 m hl h w
 · exact asked_11 m hl h w
 · exact asked_out m hl h w
theorem has_b {lo hi x : Int} {b : Bool} (h : inS lo hi x = b) (w : World) :
   Calls Tryz.prog 134 #[spanV lo hi, .int .i64 x] w fun e w' => e = .returned (.bool b) ∧ w' = w.alloc (.cells #[.int .i64 lo, .int .i64 hi] 194) :=
 (has_any lo hi x w).mono fun _ _ ⟨he, hw⟩ => ⟨by rw [he, h], hw⟩
structure AskIs (m : List Int) (at_ : Bool) (l : List Int) : Prop where
 len : l.length = 14
 val : askV (fld m 0) (fld m 3) = .agg #[.bool at_, .int .i64 (fld l 0), .int .i64 (fld l 1), .int .i64 (fld l 2), .int .i64 (fld l 3), .int .i64 (fld l 4), .int .i64 (fld l 5), .int .i64 (fld l 6), .int .i64 (fld l 7), .int .i64 (fld l 8), .int .i64 (fld l 9), .int .i64 (fld l 10), .int .i64 (fld l 11), .int .i64 (fld l 12), .int .i64 (fld l 13)]
 may : mayB m = (goesB m && (inS (fld l 0) (fld l 1) (fld m 3) && (inS (fld l 2) (fld l 3) (fld m 4) && (placeB at_ (fld m 5) (fld m 6) && (inS (fld l 4) (fld l 5) (fld m 7) && (inS (fld l 6) (fld l 7) (fld m 8) && (inS (fld l 8) (fld l 9) (fld m 9) && (inS (fld l 10) (fld l 11) (fld m 10) && (inS (fld l 12) (fld l 13) (fld m 11) && pathB m)))))))))
theorem askIs (m : List Int) : ∃ at_ l, AskIs m at_ l :=
 ⟨sAt (fld m 0), [(sTx (fld m 0)).1, (sTx (fld m 0)).2, (sSeq (fld m 0)).1, (sSeq (fld m 0)).2, (sMode (fld m 0)).1, (sMode (fld m 0)).2, (sCode (fld m 0)).1, (sCode (fld m 0)).2, (sNext (fld m 0) (fld m 3)).1, (sNext (fld m 0) (fld m 3)).2, (sNseq (fld m 0)).1, (sNseq (fld m 0)).2, (sN (fld m 0)).1, (sN (fld m 0)).2],
  rfl, rfl, rfl⟩
set_option maxRecDepth 100000 in
set_option maxHeartbeats 8000000 in
theorem mayBe_msg (m : List Int) (hl : m.length = 28) (w : World) :
   Calls Tryz.prog 98 #[.agg (mc m)] w fun e w' => e = .returned (.bool (mayB m)) ∧ Below w.heap.size w w' := by
 obtain ⟨at_, l, hall, hval, hmay⟩ := askIs m
 have HL := Lib.hid hl
 have HV := Lib.hid hval
 have HY := Lib.hid hmay
 have HI := Lib.hid (mc_info hl)
 clear hl hall hval hmay
 go_enter Tryz.func98, Tryz.ntmps98
 go_wp2_with (refine wpList_load_row rfl 45 (.tmp 1) rfl w.heap.size rfl 45 (mc m) (0, 0) _ (Blk.new _ _ _) Tryz.underlying45 rfl HI.out ?_)
 refine (asked_any m HL.out _).mono ?_
 rintro e w1 ⟨rfl, hb1⟩
 rw [HV.out]
 have HB1 := Lib.hid (stepB (Below.alloc (Below.refl w.heap.size w) (Nat.le_refl _) (.cells (mc m) 45)) hb1)
 have HM1 := Lib.hid ((Blk.new w 45 (mc m)).here hb1)
 clear hb1
 generalize fld l 0 = l0 at HY ⊢
 generalize fld l 1 = l1 at HY ⊢
 generalize fld l 2 = l2 at HY ⊢
 generalize fld l 3 = l3 at HY ⊢
 generalize fld l 4 = l4 at HY ⊢
 generalize fld l 5 = l5 at HY ⊢
 generalize fld l 6 = l6 at HY ⊢
 generalize fld l 7 = l7 at HY ⊢
 generalize fld l 8 = l8 at HY ⊢
 generalize fld l 9 = l9 at HY ⊢
 generalize fld l 10 = l10 at HY ⊢
 generalize fld l 11 = l11 at HY ⊢
 generalize fld l 12 = l12 at HY ⊢
 generalize fld l 13 = l13 at HY ⊢
 have hlw1 : w.heap.size < w1.heap.size := HM1.out.lt
 go_wp2_with (refine wpList_load_row rfl 45 (.tmp 1) rfl w.heap.size rfl 45 (mc m) (0, 0) _ (HM1.out.alloc _) Tryz.underlying45 rfl HI.out ?_)
 refine (goes_any m HL.out _).mono ?_
 rintro e w2 ⟨rfl, hb2⟩
 have HB2 := Lib.hid (stepB (stepA HB1.out _) hb2)
 have HM2 := Lib.hid ((HM1.out.alloc _).here hb2)
 have HA2 := Lib.hid ((Blk.new w1 196 #[.bool at_, .int .i64 l0, .int .i64 l1, .int .i64 l2, .int .i64 l3, .int .i64 l4, .int .i64 l5, .int .i64 l6, .int .i64 l7, .int .i64 l8, .int .i64 l9, .int .i64 l10, .int .i64 l11, .int .i64 l12, .int .i64 l13]).here hb2)
 have hlw2 : w1.heap.size < w2.heap.size := HA2.out.lt
 have hlm2 : w.heap.size < w2.heap.size := HM2.out.lt
 clear hb2
 have k3 := (HM2.out.cell 3).trans (mc_get HL.out (i := 3) (by omega))
 have k4 := (HM2.out.cell 4).trans (mc_get HL.out (i := 4) (by omega))
 have k5 := (HM2.out.cell 5).trans (mc_get HL.out (i := 5) (by omega))
 have k6 := (HM2.out.cell 6).trans (mc_get HL.out (i := 6) (by omega))
 have f0 := HA2.out.cell 0
 have f1 := HA2.out.cell 1
 have f2 := HA2.out.cell 2
 have f3 := HA2.out.cell 3
 have f4 := HA2.out.cell 4
 cases hg : goesB m
 · have HG := Lib.hid hg
   clear hg
   go_wp2_with fail
   go_ret
   exact ⟨ret_bool (by rw [HY.out, HG.out]; rfl), HB2.out⟩
 have HG := Lib.hid hg
 clear hg
 cases htx : inS l0 l1 (fld m 3)
 · have Htx := Lib.hid htx
   clear htx
   go_wp2_with (first | (go_at_call 134; with_reducible refine (has_b Htx.out _).mono ?_; rintro e w9 ⟨rfl, rfl⟩))
   go_ret
   exact ⟨ret_bool (by rw [HY.out, HG.out, Htx.out]; rfl), (stepA HB2.out _)⟩
 have Htx := Lib.hid htx
 clear htx
 cases hseq : inS l2 l3 (fld m 4)
 · have Hseq := Lib.hid hseq
   clear hseq
   go_wp2_with (first | (go_at_call 134; with_reducible refine (has_b Htx.out _).mono ?_; rintro e w9 ⟨rfl, rfl⟩) | (go_at_call 134; with_reducible refine (has_b Hseq.out _).mono ?_; rintro e w9 ⟨rfl, rfl⟩))
   go_ret
   exact ⟨ret_bool (by rw [HY.out, HG.out, Htx.out, Hseq.out]; rfl), (stepA (stepA HB2.out _) _)⟩
 have Hseq := Lib.hid hseq
 clear hseq
 go_wp2_with (first | (go_at_call 134; with_reducible refine (has_b Htx.out _).mono ?_; rintro e w9 ⟨rfl, rfl⟩) | (go_at_call 134; with_reducible refine (has_b Hseq.out _).mono ?_; rintro e w9 ⟨rfl, rfl⟩))
 refine (isPlace_any (fld m 5) (fld m 6) at_ _).mono ?_
 rintro e w3 ⟨rfl, hb3⟩
 have HB3 := Lib.hid (stepB (stepA (stepA HB2.out _) _) hb3)
 have HM3 := Lib.hid (((HM2.out.alloc _).alloc _).here hb3)
 have HA3 := Lib.hid (((HA2.out.alloc _).alloc _).here hb3)
 have hlw3 : w1.heap.size < w3.heap.size := HA3.out.lt
 have hlm3 : w.heap.size < w3.heap.size := HM3.out.lt
 have p1 : w1.heap.size < w3.heap.size + 1 := by omega
 have p2 : w1.heap.size < w3.heap.size + 1 + 1 := by omega
 have p3 : w1.heap.size < w3.heap.size + 1 + 1 + 1 := by omega
 have p4 : w1.heap.size < w3.heap.size + 1 + 1 + 1 + 1 := by omega
 have q1 : w.heap.size < w3.heap.size + 1 := by omega
 have q2 : w.heap.size < w3.heap.size + 1 + 1 := by omega
 have q3 : w.heap.size < w3.heap.size + 1 + 1 + 1 := by omega
 have q4 : w.heap.size < w3.heap.size + 1 + 1 + 1 + 1 := by omega
 clear hb3 k3 k4 k5 k6 f0 f1 f2 f3 f4 hlw2 hlm2
 have k7 := (HM3.out.cell 7).trans (mc_get HL.out (i := 7) (by omega))
 have k8 := (HM3.out.cell 8).trans (mc_get HL.out (i := 8) (by omega))
 have k9 := (HM3.out.cell 9).trans (mc_get HL.out (i := 9) (by omega))
 have k10 := (HM3.out.cell 10).trans (mc_get HL.out (i := 10) (by omega))
 have k11 := (HM3.out.cell 11).trans (mc_get HL.out (i := 11) (by omega))
 have f5 := HA3.out.cell 5
 have f6 := HA3.out.cell 6
 have f7 := HA3.out.cell 7
 have f8 := HA3.out.cell 8
 have f9 := HA3.out.cell 9
 have f10 := HA3.out.cell 10
 have f11 := HA3.out.cell 11
 have f12 := HA3.out.cell 12
 have f13 := HA3.out.cell 13
 have f14 := HA3.out.cell 14
 cases hpl : placeB at_ (fld m 5) (fld m 6)
 · have HPL := Lib.hid hpl
   clear hpl
   go_wp2_with fail
   go_ret
   exact ⟨ret_bool (by rw [HY.out, HG.out, Htx.out, Hseq.out, HPL.out]; rfl), HB3.out⟩
 have HPL := Lib.hid hpl
 clear hpl
 cases hmode : inS l4 l5 (fld m 7)
 · have Hmode := Lib.hid hmode
   clear hmode
   go_wp2_with (first | (go_at_call 134; with_reducible refine (has_b Hmode.out _).mono ?_; rintro e w9 ⟨rfl, rfl⟩))
   go_ret
   exact ⟨ret_bool (by rw [HY.out, HG.out, Htx.out, Hseq.out, HPL.out, Hmode.out]; rfl), (stepA HB3.out _)⟩
 have Hmode := Lib.hid hmode
 clear hmode
 cases hcode : inS l6 l7 (fld m 8)
 · have Hcode := Lib.hid hcode
   clear hcode
   go_wp2_with (first | (go_at_call 134; with_reducible refine (has_b Hmode.out _).mono ?_; rintro e w9 ⟨rfl, rfl⟩) | (go_at_call 134; with_reducible refine (has_b Hcode.out _).mono ?_; rintro e w9 ⟨rfl, rfl⟩))
   go_ret
   exact ⟨ret_bool (by rw [HY.out, HG.out, Htx.out, Hseq.out, HPL.out, Hmode.out, Hcode.out]; rfl), (stepA (stepA HB3.out _) _)⟩
 have Hcode := Lib.hid hcode
 clear hcode
 cases hnext : inS l8 l9 (fld m 9)
 · have Hnext := Lib.hid hnext
   clear hnext
   go_wp2_with (first | (go_at_call 134; with_reducible refine (has_b Hmode.out _).mono ?_; rintro e w9 ⟨rfl, rfl⟩) | (go_at_call 134; with_reducible refine (has_b Hcode.out _).mono ?_; rintro e w9 ⟨rfl, rfl⟩) | (go_at_call 134; with_reducible refine (has_b Hnext.out _).mono ?_; rintro e w9 ⟨rfl, rfl⟩))
   go_ret
   exact ⟨ret_bool (by rw [HY.out, HG.out, Htx.out, Hseq.out, HPL.out, Hmode.out, Hcode.out, Hnext.out]; rfl), (stepA (stepA (stepA HB3.out _) _) _)⟩
 have Hnext := Lib.hid hnext
 clear hnext
 cases hnseq : inS l10 l11 (fld m 10)
 · have Hnseq := Lib.hid hnseq
   clear hnseq
   go_wp2_with (first | (go_at_call 134; with_reducible refine (has_b Hmode.out _).mono ?_; rintro e w9 ⟨rfl, rfl⟩) | (go_at_call 134; with_reducible refine (has_b Hcode.out _).mono ?_; rintro e w9 ⟨rfl, rfl⟩) | (go_at_call 134; with_reducible refine (has_b Hnext.out _).mono ?_; rintro e w9 ⟨rfl, rfl⟩) | (go_at_call 134; with_reducible refine (has_b Hnseq.out _).mono ?_; rintro e w9 ⟨rfl, rfl⟩))
   go_ret
   exact ⟨ret_bool (by rw [HY.out, HG.out, Htx.out, Hseq.out, HPL.out, Hmode.out, Hcode.out, Hnext.out, Hnseq.out]; rfl), (stepA (stepA (stepA (stepA HB3.out _) _) _) _)⟩
 have Hnseq := Lib.hid hnseq
 clear hnseq
 cases hn : inS l12 l13 (fld m 11)
 · have Hn := Lib.hid hn
   clear hn
   go_wp2_with (first | (go_at_call 134; with_reducible refine (has_b Hmode.out _).mono ?_; rintro e w9 ⟨rfl, rfl⟩) | (go_at_call 134; with_reducible refine (has_b Hcode.out _).mono ?_; rintro e w9 ⟨rfl, rfl⟩) | (go_at_call 134; with_reducible refine (has_b Hnext.out _).mono ?_; rintro e w9 ⟨rfl, rfl⟩) | (go_at_call 134; with_reducible refine (has_b Hnseq.out _).mono ?_; rintro e w9 ⟨rfl, rfl⟩) | (go_at_call 134; with_reducible refine (has_b Hn.out _).mono ?_; rintro e w9 ⟨rfl, rfl⟩))
   go_ret
   exact ⟨ret_bool (by rw [HY.out, HG.out, Htx.out, Hseq.out, HPL.out, Hmode.out, Hcode.out, Hnext.out, Hnseq.out, Hn.out]; rfl), (stepA (stepA (stepA (stepA (stepA HB3.out _) _) _) _) _)⟩
 have HM9 := Lib.hid (show Blk (((((w3.alloc (.cells #[.int .i64 l4, .int .i64 l5] 194)).alloc (.cells #[.int .i64 l6, .int .i64 l7] 194)).alloc (.cells #[.int .i64 l8, .int .i64 l9] 194)).alloc (.cells #[.int .i64 l10, .int .i64 l11] 194)).alloc (.cells #[.int .i64 l12, .int .i64 l13] 194)) w.heap.size 45 (mc m) from (((((HM3.out.alloc _).alloc _).alloc _).alloc _).alloc _))
 have Hn := Lib.hid hn
 clear hn
 go_wp2_with (first | (go_at_call 134; with_reducible refine (has_b Hmode.out _).mono ?_; rintro e w9 ⟨rfl, rfl⟩) | (go_at_call 134; with_reducible refine (has_b Hcode.out _).mono ?_; rintro e w9 ⟨rfl, rfl⟩) | (go_at_call 134; with_reducible refine (has_b Hnext.out _).mono ?_; rintro e w9 ⟨rfl, rfl⟩) | (go_at_call 134; with_reducible refine (has_b Hnseq.out _).mono ?_; rintro e w9 ⟨rfl, rfl⟩) | (go_at_call 134; with_reducible refine (has_b Hn.out _).mono ?_; rintro e w9 ⟨rfl, rfl⟩) | (refine wpList_load_row_g (by rfl) 45 (.tmp 1) rfl w.heap.size rfl 45 (mc m) (0, 0) _ HM9.out Tryz.underlying45 rfl HI.out ?_))
 refine (isPath_any m HL.out _).mono ?_
 rintro e w4 ⟨rfl, hb4⟩
 have HB4 := Lib.hid (stepB (stepA (stepA (stepA (stepA (stepA HB3.out _) _) _) _) _) hb4)
 clear hb4 k7 k8 k9 k10 k11 f5 f6 f7 f8 f9 f10 f11 f12 f13 f14 hlw3 hlm3 p1 p2 p3 p4 q1 q2 q3 q4
 go_wp2_with fail
 go_ret
 exact ⟨ret_bool (by rw [HY.out, HG.out, Htx.out, Hseq.out, HPL.out, Hmode.out, Hcode.out, Hnext.out, Hnseq.out, Hn.out]; rfl), HB4.out⟩
end Go.Proofs.YtadnlannbafjpaaGreat
