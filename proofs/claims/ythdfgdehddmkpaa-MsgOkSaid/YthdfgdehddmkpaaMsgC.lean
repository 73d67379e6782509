/- The contracts of package msg's isPlace, isStep, isPath. -/
import Derived.Test.YthdfgdehddmkpaaMsgA
import Derived.Test.YthdfgdehddmkpaaRes
import Derived.Deep.QuietTactic
import Derived.BigQuiet
import Derived.Deep.RegionHeld
namespace Go.Proofs.Ythdfgdehddmkpaa
open Go.RowKit
set_option linter.unusedVariables false
set_option linter.unusedSimpArgs false

theorem flat_res : flatB Try.prog 3 23 = some (true, 2) := by kernel_rfl
theorem flat_step : flatB Try.prog 3 26 = some (true, 2) := by kernel_rfl
theorem flat_msg : flatB Try.prog 5 29 = some (true, 28) := by kernel_rfl
theorem guard_res : Try.prog.eqGuardType Try.prog.depth 23 = false := by kernel_rfl
theorem guard_step : Try.prog.eqGuardType Try.prog.depth 26 = false := by kernel_rfl
theorem guard_msg : Try.prog.eqGuardType Try.prog.depth 29 = false := by kernel_rfl

theorem eql_res (a b a' b' : Int) (w : World) : (binOp .eql 23 (.agg #[.int .i64 a, .int .i64 b]) (.agg #[.int .i64 a', .int .i64 b'])).run Try.prog w = .ok (.bool (decide (a = a' ∧ b = b'))) w :=
  eql_two flat_res (by omega) a b a' b' w
theorem neq_step (a b a' b' : Int) (w : World) : (binOp .neq 26 (.agg #[.int .i64 a, .int .i64 b]) (.agg #[.int .i64 a', .int .i64 b'])).run Try.prog w = .ok (.bool (!decide (a = a' ∧ b = b'))) w :=
  neq_two flat_step (by omega) a b a' b' w

set_option maxRecDepth 100000 in
set_option maxHeartbeats 1000000 in
theorem isPlace_any (t r : Int) (named : Bool) (w : World) :
    Calls Try.prog 35 #[resV t r, .bool named] w fun e w' => e = .returned (.bool (placeB named t r)) ∧ Below w.heap.size w w' := by
  have hg := guard_res
  have he := eql_res t r 0 0
  cases named
  · have HR : ∀ b : Bool, decide (t = 0 ∧ r = 0) = b → Hid (b = placeB false t r) := fun b h => h.symm
    cases hd : decide (t = 0 ∧ r = 0)
    all_goals
      have HQ := HR _ hd
      rw [hd] at he
      clear HR hd
      go_enter Try.func35, Try.ntmps35
      go_wp2
      go_ret
      refine ⟨ret_bool HQ.out, ?_⟩
      repeat (first | exact Below.refl _ _ | refine Below.setCell ?_ (by simp) _ | refine Below.alloc ?_ (by simp <;> omega) _)
  · clear he
    go_enter Try.func35, Try.ntmps35
    go_wp2_with (go_at_call 45; refine (rok_any t r _).mono ?_; rintro e w' ⟨rfl, rfl⟩)
    go_ret
    refine ⟨rfl, ?_⟩
    repeat (first | exact Below.refl _ _ | refine Below.setCell ?_ (by simp) _ | refine Below.alloc ?_ (by simp <;> omega) _)

theorem held_step {w w9 : World} {b B : Nat} {u v : Value} (h : w9.cell? ⟨b, 0, none⟩ = some u ∧ w9.cell? ⟨b, 1, none⟩ = some v ∧ Below B w w9 ∧ b < w9.heap.size) (o : Obj) (hB : B ≤ b := by omega) :
    (w9.alloc o).cell? ⟨b, 0, none⟩ = some u ∧ (w9.alloc o).cell? ⟨b, 1, none⟩ = some v ∧ Below B w (w9.alloc o) ∧ b < (w9.alloc o).heap.size := by
  obtain ⟨h1, h2, h3, h4⟩ := h
  exact ⟨by rw [World.cell?_alloc_lt _ _ ⟨b, 0, none⟩ h4]; exact h1, by rw [World.cell?_alloc_lt _ _ ⟨b, 1, none⟩ h4]; exact h2, h3.alloc (by omega) _, by simp; omega⟩
/-- What holds at the head of isStep's loop. -/
structure StepRel (w : World) (m : List Int) (i j : Nat) (W : World) : Prop where
  fresh : Fresh m i j
  msg : Blk W w.heap.size 29 (mc m)
  step : Blk W (w.heap.size + 1) 26 #[.int .i64 (stTx m i), .int .i64 (stSeq m i)]
  bel : Below w.heap.size w W

set_option maxRecDepth 100000 in
set_option maxHeartbeats 4000000 in
theorem isStep_any (m : List Int) (hl : m.length = 28) (i : Nat) (hi : i < 8) (w : World) :
    Calls Try.prog 46 #[.agg (mc m), .int .i64 i] w fun e w' => e = .returned (.bool (isStepB m i)) ∧ Below w.heap.size w w' := by
  have HL := Lib.hid hl
  have c0 : (mc m)[12 + i * 2]? = some (.int .i64 (stTx m i)) := mc_get hl (by omega)
  have c1 : (mc m)[12 + i * 2 + 1]? = some (.int .i64 (stSeq m i)) := mc_get hl (by omega)
  clear hl
  go_enter Try.func46, Try.ntmps46
  go_wp2_with fail
  go_loopw [12] (fun k W => ∃ j : Nat, j ≤ i ∧ k = .int .i64 j ∧ StepRel w m i j W) (fun k _ => i - (intOf k).toNat)
  case atStart => exact ⟨0, Nat.zero_le _, rfl, Fresh.zero _ _, ((Blk.new _ _ _).alloc _), Blk.new_at (by simp) _ _, Below.alloc (Below.alloc (Below.refl _ _) (Nat.le_refl _) _) (by simp) _⟩
  case round =>
    obtain ⟨j, hj, rfl, hfr, hmsg, hst, hbel⟩ := hrel
    rename World => W
    have HF := Lib.hid hfr
    have HM := Lib.hid hmsg
    have HS := Lib.hid hst
    have HB := Lib.hid hbel
    clear hfr hmsg hst hbel c0 c1
    have s0 := HS.out.cell 0
    have s1 := HS.out.cell 1
    by_cases hlt : j < i
    · have k0 : W.cell? ⟨w.heap.size, 12 + j * 2, none⟩ = some (.int .i64 (stTx m j)) := (HM.out.cell _).trans (mc_get HL.out (by omega))
      by_cases he : stTx m j = stTx m i
      · have HD := Lib.hid (isStepB_dup hlt he)
        rw [he] at k0
        clear he
        go_wp2_with fail
        go_quiet (fail)
        go_wp2_with fail
        go_ret
        exact ⟨ret_bool HD.out.symm, below_drewN HB.out _⟩
      · have hne : (stTx m j == stTx m i) = false := by simpa using he
        have HN := Lib.hid (HF.out.succ he)
        clear he
        go_wp2_with fail
        go_quiet (fail)
        go_wp2_with fail
        go_roundw
        case rel => exact ⟨j + 1, by omega, by go_num, HN.out, HM.out.drewN _, HS.out.drewN _, below_drewN HB.out _⟩
        case measure => simp [intOf]; omega
    · obtain rfl : j = i := by omega
      have HV := Lib.hid (isStepB_fresh HF.out)
      have hlw : w.heap.size + 1 < W.heap.size := HS.out.lt
      cases ht : inS 1 1048576 (stTx m j)
      · have HT := Lib.hid ht
        clear ht
        go_wp2_with fail
        refine wp_region_held_drew (S := fun w' => w'.cell? ⟨w.heap.size + 1, 0, none⟩ = some (.int .i64 (stTx m j)) ∧ w'.cell? ⟨w.heap.size + 1, 1, none⟩ = some (.int .i64 (stSeq m j)) ∧ Below w.heap.size w w' ∧ w.heap.size + 1 < w'.heap.size) (by kernel_rfl) ?_ (fun hHeld => ?_)
        · exact ⟨s0, s1, HB.out.drew, by simpa using hlw⟩
        refine wpAnyH_take (i := 1) (v := ?_) rfl (by kernel_rfl) (by kernel_rfl) (by kernel_rfl) (fun _ _ _ h => h) (Or.inl ⟨by rfl, ?_⟩) (by assumption) ?_
        rotate_left
        · (intro w0 hSw; (try dsimp only at hSw); go_simp; try with_reducible rfl)
        try simp only [List.getElem_toArray, List.getElem_cons_succ, List.getElem_cons_zero, Act.put, List.setIfInBounds_toArray, List.set_cons_zero, List.set_cons_succ]
        refine wpAnyH_take (i := 2) (v := ?_) rfl (by kernel_rfl) (by kernel_rfl) (by kernel_rfl) (fun _ _ _ h => h) (Or.inl ⟨by rfl, ?_⟩) (by assumption) ?_
        rotate_left
        · (intro w0 hSw; (try dsimp only at hSw); go_simp; try with_reducible rfl)
        try simp only [List.getElem_toArray, List.getElem_cons_succ, List.getElem_cons_zero, Act.put, List.setIfInBounds_toArray, List.set_cons_zero, List.set_cons_succ]
        refine wpAnyH_ready (rs := [0]) (by kernel_rfl) (by simp) ?_
        refine AllReadyH.cons rfl (fun K hK => ?_) AllReadyH.nil
        go_simp
        refine (anyTx_any _).mono ?_
        rintro e w9 ⟨rfl, rfl⟩
        try go_simp
        refine hK.out _ _ ?_ (fun hHeld => ?_)
        · exact held_step (by assumption) _
        clear hK K
        refine wpAnyH_ready (rs := [3]) (by kernel_rfl) (by simp) ?_
        refine AllReadyH.cons rfl (fun K hK => ?_) AllReadyH.nil
        go_simp
        refine (has_any _ _ _ _).mono ?_
        rintro e w9 ⟨rfl, rfl⟩
        try go_simp
        refine hK.out _ _ ?_ (fun hHeld => ?_)
        · exact held_step (by assumption) _
        clear hK K
        rw [HT.out]
        refine wpAnyH_take (i := 4) (v := ?_) rfl (by kernel_rfl) (by kernel_rfl) (by kernel_rfl) (fun _ _ _ h => h) (Or.inl ⟨by rfl, ?_⟩) (by assumption) ?_
        rotate_left
        · (intro w0 hSw; (try dsimp only at hSw); go_simp; try with_reducible rfl)
        try simp only [List.getElem_toArray, List.getElem_cons_succ, List.getElem_cons_zero, Act.put, List.setIfInBounds_toArray, List.set_cons_zero, List.set_cons_succ]
        refine wpAnyH_take (i := 5) (v := undef) rfl (by kernel_rfl) (by kernel_rfl) (by kernel_rfl) (fun _ _ _ h => h) (Or.inr ⟨by rfl, rfl⟩) (by assumption) ?_
        try simp only [List.getElem_toArray, List.getElem_cons_succ, List.getElem_cons_zero, Act.put, List.setIfInBounds_toArray, List.set_cons_zero, List.set_cons_succ]
        refine wpAnyH_take (i := 6) (v := undef) rfl (by kernel_rfl) (by kernel_rfl) (by kernel_rfl) (fun _ _ _ h => h) (Or.inr ⟨by rfl, rfl⟩) (by assumption) ?_
        try simp only [List.getElem_toArray, List.getElem_cons_succ, List.getElem_cons_zero, Act.put, List.setIfInBounds_toArray, List.set_cons_zero, List.set_cons_succ]
        refine wpAnyH_take (i := 7) (v := undef) rfl (by kernel_rfl) (by kernel_rfl) (by kernel_rfl) (fun _ _ _ h => h) (Or.inr ⟨by rfl, rfl⟩) (by assumption) ?_
        try simp only [List.getElem_toArray, List.getElem_cons_succ, List.getElem_cons_zero, Act.put, List.setIfInBounds_toArray, List.set_cons_zero, List.set_cons_succ]
        refine wpAnyH_take (i := 8) (v := undef) rfl (by kernel_rfl) (by kernel_rfl) (by kernel_rfl) (fun _ _ _ h => h) (Or.inr ⟨by rfl, rfl⟩) (by assumption) ?_
        try simp only [List.getElem_toArray, List.getElem_cons_succ, List.getElem_cons_zero, Act.put, List.setIfInBounds_toArray, List.set_cons_zero, List.set_cons_succ]
        refine wpAnyH_take (i := 9) (v := ?_) rfl (by kernel_rfl) (by kernel_rfl) (by kernel_rfl) (fun _ _ _ h => h) (Or.inl ⟨by rfl, ?_⟩) (by assumption) ?_
        rotate_left
        · (intro w0 hSw; (try dsimp only at hSw); go_simp; try with_reducible rfl)
        try simp only [List.getElem_toArray, List.getElem_cons_succ, List.getElem_cons_zero, Act.put, List.setIfInBounds_toArray, List.set_cons_zero, List.set_cons_succ]
        refine wpAnyH_take (i := 10) (v := ?_) rfl (by kernel_rfl) (by kernel_rfl) (by kernel_rfl) (fun _ _ _ h => h) (Or.inl ⟨by rfl, ?_⟩) (by assumption) ?_
        rotate_left
        · (intro w0 hSw; (try dsimp only at hSw); go_simp; try with_reducible rfl)
        try simp only [List.getElem_toArray, List.getElem_cons_succ, List.getElem_cons_zero, Act.put, List.setIfInBounds_toArray, List.set_cons_zero, List.set_cons_succ]
        refine wpAnyH_done (by kernel_rfl) ?_ _
        obtain ⟨_, _, hbl, _⟩ := hHeld
        have HBL := Lib.hid hbl
        clear hbl
        go_wp2_with fail
        go_ret
        exact ⟨ret_bool (by rw [HV.out, HT.out]; rfl), HBL.out⟩
      · have HT := Lib.hid ht
        clear ht
        go_wp2_with fail
        refine wp_region_held_drew (S := fun w' => w'.cell? ⟨w.heap.size + 1, 0, none⟩ = some (.int .i64 (stTx m j)) ∧ w'.cell? ⟨w.heap.size + 1, 1, none⟩ = some (.int .i64 (stSeq m j)) ∧ Below w.heap.size w w' ∧ w.heap.size + 1 < w'.heap.size) (by kernel_rfl) ?_ (fun hHeld => ?_)
        · exact ⟨s0, s1, HB.out.drew, by simpa using hlw⟩
        refine wpAnyH_take (i := 1) (v := ?_) rfl (by kernel_rfl) (by kernel_rfl) (by kernel_rfl) (fun _ _ _ h => h) (Or.inl ⟨by rfl, ?_⟩) (by assumption) ?_
        rotate_left
        · (intro w0 hSw; (try dsimp only at hSw); go_simp; try with_reducible rfl)
        try simp only [List.getElem_toArray, List.getElem_cons_succ, List.getElem_cons_zero, Act.put, List.setIfInBounds_toArray, List.set_cons_zero, List.set_cons_succ]
        refine wpAnyH_take (i := 2) (v := ?_) rfl (by kernel_rfl) (by kernel_rfl) (by kernel_rfl) (fun _ _ _ h => h) (Or.inl ⟨by rfl, ?_⟩) (by assumption) ?_
        rotate_left
        · (intro w0 hSw; (try dsimp only at hSw); go_simp; try with_reducible rfl)
        try simp only [List.getElem_toArray, List.getElem_cons_succ, List.getElem_cons_zero, Act.put, List.setIfInBounds_toArray, List.set_cons_zero, List.set_cons_succ]
        refine wpAnyH_ready (rs := [0]) (by kernel_rfl) (by simp) ?_
        refine AllReadyH.cons rfl (fun K hK => ?_) AllReadyH.nil
        go_simp
        refine (anyTx_any _).mono ?_
        rintro e w9 ⟨rfl, rfl⟩
        try go_simp
        refine hK.out _ _ ?_ (fun hHeld => ?_)
        · exact held_step (by assumption) _
        clear hK K
        refine wpAnyH_ready (rs := [3]) (by kernel_rfl) (by simp) ?_
        refine AllReadyH.cons rfl (fun K hK => ?_) AllReadyH.nil
        go_simp
        refine (has_any _ _ _ _).mono ?_
        rintro e w9 ⟨rfl, rfl⟩
        try go_simp
        refine hK.out _ _ ?_ (fun hHeld => ?_)
        · exact held_step (by assumption) _
        clear hK K
        rw [HT.out]
        refine wpAnyH_take (i := 4) (v := ?_) rfl (by kernel_rfl) (by kernel_rfl) (by kernel_rfl) (fun _ _ _ h => h) (Or.inl ⟨by rfl, ?_⟩) (by assumption) ?_
        rotate_left
        · (intro w0 hSw; (try dsimp only at hSw); go_simp; try with_reducible rfl)
        try simp only [List.getElem_toArray, List.getElem_cons_succ, List.getElem_cons_zero, Act.put, List.setIfInBounds_toArray, List.set_cons_zero, List.set_cons_succ]
        refine wpAnyH_take (i := 6) (v := ?_) rfl (by kernel_rfl) (by kernel_rfl) (by kernel_rfl) (fun _ _ _ h => h) (Or.inl ⟨by rfl, ?_⟩) (by assumption) ?_
        rotate_left
        · (intro w0 hSw; (try dsimp only at hSw); go_simp; try with_reducible rfl)
        try simp only [List.getElem_toArray, List.getElem_cons_succ, List.getElem_cons_zero, Act.put, List.setIfInBounds_toArray, List.set_cons_zero, List.set_cons_succ]
        refine wpAnyH_take (i := 7) (v := ?_) rfl (by kernel_rfl) (by kernel_rfl) (by kernel_rfl) (fun _ _ _ h => h) (Or.inl ⟨by rfl, ?_⟩) (by assumption) ?_
        rotate_left
        · (intro w0 hSw; (try dsimp only at hSw); go_simp; try with_reducible rfl)
        try simp only [List.getElem_toArray, List.getElem_cons_succ, List.getElem_cons_zero, Act.put, List.setIfInBounds_toArray, List.set_cons_zero, List.set_cons_succ]
        refine wpAnyH_ready (rs := [5]) (by kernel_rfl) (by simp) ?_
        refine AllReadyH.cons rfl (fun K hK => ?_) AllReadyH.nil
        go_simp
        refine (anySeq_any _).mono ?_
        rintro e w9 ⟨rfl, rfl⟩
        try go_simp
        refine hK.out _ _ ?_ (fun hHeld => ?_)
        · exact held_step (by assumption) _
        clear hK K
        refine wpAnyH_ready (rs := [8]) (by kernel_rfl) (by simp) ?_
        refine AllReadyH.cons rfl (fun K hK => ?_) AllReadyH.nil
        go_simp
        refine (has_any _ _ _ _).mono ?_
        rintro e w9 ⟨rfl, rfl⟩
        try go_simp
        refine hK.out _ _ ?_ (fun hHeld => ?_)
        · exact held_step (by assumption) _
        clear hK K
        refine wpAnyH_take (i := 9) (v := ?_) rfl (by kernel_rfl) (by kernel_rfl) (by kernel_rfl) (fun _ _ _ h => h) (Or.inl ⟨by rfl, ?_⟩) (by assumption) ?_
        rotate_left
        · (intro w0 hSw; (try dsimp only at hSw); go_simp; try with_reducible rfl)
        try simp only [List.getElem_toArray, List.getElem_cons_succ, List.getElem_cons_zero, Act.put, List.setIfInBounds_toArray, List.set_cons_zero, List.set_cons_succ]
        refine wpAnyH_take (i := 10) (v := ?_) rfl (by kernel_rfl) (by kernel_rfl) (by kernel_rfl) (fun _ _ _ h => h) (Or.inl ⟨by rfl, ?_⟩) (by assumption) ?_
        rotate_left
        · (intro w0 hSw; (try dsimp only at hSw); go_simp; try with_reducible rfl)
        try simp only [List.getElem_toArray, List.getElem_cons_succ, List.getElem_cons_zero, Act.put, List.setIfInBounds_toArray, List.set_cons_zero, List.set_cons_succ]
        refine wpAnyH_done (by kernel_rfl) ?_ _
        obtain ⟨_, _, hbl, _⟩ := hHeld
        have HBL := Lib.hid hbl
        clear hbl
        go_wp2_with fail
        go_ret
        exact ⟨ret_bool (by rw [HV.out, HT.out]; rfl), HBL.out⟩
end Go.Proofs.Ythdfgdehddmkpaa
