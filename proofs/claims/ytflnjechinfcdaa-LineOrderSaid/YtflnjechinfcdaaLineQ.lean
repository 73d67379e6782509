/- The contract of Push, where one comes to wait. -/
import Derived.Test.YtflnjechinfcdaaLineP
namespace Go.Proofs.Ytflnjechinfcdaa
open Go.RowKit
set_option linter.unusedVariables false
set_option linter.unusedSimpArgs false

section
variable {B g : Nat} {r0 r1 : Option Nat} {lim : Int} {U D : List Wt}
set_option maxRecDepth 100000 in
set_option maxHeartbeats 8000000 in
theorem push_up (a b c : Int) (w : World) (h : Line w B g r0 r1 lim U D) (hm : mayW ⟨a, b, c, true⟩ = true) (hx : idx a (U ++ D) = none) {n : Nat} (hn : n = U.length + D.length) (hl : (n : Int) < lim) : Calls Try.prog 20 #[.pointer (some ⟨g, 0, none⟩), .agg #[.int .i64 a, .int .i64 b, .int .i64 c, .bool true]] w fun e w' => e = .returned .nilIface ∧ ∃ r0' r1', Line w' B g r0' r1' lim (U ++ [⟨a, b, c, true⟩]) D ∧ Turn (LS g r0 r1) w w' ∧ LNext w r0 r1 r0' r1' := by
  have hn1 := fun W => run_eql_held_nil (P := Try.prog) W 26 55 (.int .i64 10) Try.underlying26
  have HM := Lib.hid hm
  have H := Lib.hid h
  have HN := Lib.hid hn
  have d1 : decide (lim ≤ (n : Int)) = false := by simp; omega
  have HV := Lib.hid (show findV a U D = .tuple #[.agg #[.int .i64 0, .int .i64 0, .int .i64 0, .bool false], errno 10] by unfold findV; rw [hx]; rfl)
  have HOK := Lib.hid (show LinOk lim (U ++ [⟨a, b, c, true⟩]) D from h.ok.push (q := ⟨a, b, c, true⟩) hm hx (by rw [← hn]; exact hl))
  have HLT := Lib.hid h.ls_lt
  have HGW := Lib.hid (show g < w.heap.size from (h.ls_lt g (.inl rfl)).2)
  have hlen := h.ok.len
  obtain ⟨i0, hi0, hz0, hz1, hz2⟩ := info_parts info_wait
  clear h hm hx hn hl
  have H0 := Lib.hid (show Blk (w.alloc (.cells #[.int .i64 a, .int .i64 b, .int .i64 c, .bool true] 33)) w.heap.size 33 (wc ⟨a, b, c, true⟩) from Blk.new _ _ _)
  go_enter Try.func20, Try.ntmps20
  go_wp2_with (go_at_call 27; refine (mayBe_any ⟨a, b, c, true⟩ _).mono ?_; rintro e w1 ⟨rfl, hb⟩; rw [HM.out]; have B1 := Lib.hid (stepB (Joins.below_alloc1 w _) hb); have H1 := Lib.hid (H0.out.here hb); have k0 : w1.cell? ⟨w.heap.size, 0, none⟩ = some (.int .i64 a) := H1.out.cell 0; clear hb)
  refine (find_any a _ (H.out.step B1.out)).mono ?_
  rintro e w2 ⟨rfl, hb⟩
  rw [HV.out]
  obtain ⟨W, hW⟩ : ∃ W, W = w2.alloc (.cells #[.int .i64 0, .int .i64 0, .int .i64 0, .bool false] 33) := ⟨_, rfl⟩
  have B2 := Lib.hid (show Below w.heap.size w W by rw [hW]; exact stepA (stepB B1.out hb) _)
  have X2 := Lib.hid (show Blk W w.heap.size 33 (wc ⟨a, b, c, true⟩) by rw [hW]; exact (H1.out.here hb).alloc _)
  have H2 := Lib.hid (H.out.step B2.out)
  have kL : W.cell? ⟨g, 0, none⟩ = some (.int .i64 lim) := by obtain ⟨_, _, hl, _⟩ := H2.out; exact hl.box.cell 0
  clear hb k0
  go_wp2_with fail
  rw [← hW]
  clear hW
  go_quiet ((go_at_call 24; exact Calls.quiet_of (many_n HN.out _ (H2.out.step (below_drewN (Below.refl _ _) _)))))
  have B3 := Lib.hid (below_drewN B2.out nq)
  have X3 := Lib.hid (X2.out.drewN nq)
  clear kL
  generalize W.drewN nq = V at B3 X3 ⊢
  go_wp2_with (first
    | (refine wpList_load_row rfl 33 (.tmp 3) rfl w.heap.size rfl 33 (wc ⟨a, b, c, true⟩) (0, 0) _ X3.out Try.underlying33 rfl (wc_info _) ?_)
    | (go_at_call 28; refine (lot_any ⟨a, b, c, true⟩ _).mono ?_; rintro e w4 ⟨rfl, hb⟩; have B4 := Lib.hid (stepB B3.out hb); have X4 := Lib.hid (X3.out.here hb); clear hb; simp only [if_true, if_false, Bool.false_eq_true]))
  obtain ⟨v0, v1, hl, hr0', hr1'⟩ := (H.out.step B4.out).step (below_drewN (Below.refl _ _) 1)
  obtain ⟨A0, c0, A1, c1, rfl, rfl, hr0, hr1, hc0, hc1, k0, k1, k2⟩ := hl.cells
  have LY := Lib.hid hl
  have HR0 := Lib.hid hr0'
  have HR1 := Lib.hid hr1'
  have BY := Lib.hid (below_drewN B4.out 1)
  have XY := Lib.hid (X4.out.drewN 1)
  clear hl hr0 hr1 hr0' hr1' hc0 hc1 k0
  refine wp_region_held_drew (S := fun w' => ∀ j v, (wv ⟨a, b, c, true⟩)[j]? = some v → w'.cell? ((⟨w.heap.size, 0, none⟩ : Addr).add j) = some v) (by kernel_rfl) (four_at XY.out) (fun hHeld => ?_)
  refine wpAnyH_take (i := 0) (v := ?_) rfl (by kernel_rfl) (by kernel_rfl) (by kernel_rfl) (fun _ _ _ h => h) (Or.inl ⟨by rfl, ?_⟩) (by assumption) ?_
  rotate_left
  · (intro w0 hSw; (try dsimp only at hSw); go_simp; try with_reducible rfl)
  try simp only [List.getElem_toArray, List.getElem_cons_succ, List.getElem_cons_zero, Act.put, List.setIfInBounds_toArray, List.set_cons_zero, List.set_cons_succ]
  refine wpAnyH_take (i := 1) (v := ?_) rfl (by kernel_rfl) (by kernel_rfl) (by kernel_rfl) (fun _ _ _ h => h) (Or.inl ⟨by rfl, ?_⟩) (by assumption) ?_
  rotate_left
  · (intro w0 hSw; (try dsimp only at hSw); go_simp; try with_reducible rfl)
  try simp only [List.getElem_toArray, List.getElem_cons_succ, List.getElem_cons_zero, Act.put, List.setIfInBounds_toArray, List.set_cons_zero, List.set_cons_succ]
  refine wpAnyH_take (i := 2) (v := ?_) rfl (by kernel_rfl) (by kernel_rfl) (by kernel_rfl) (fun _ _ _ h => h) (Or.inl ⟨by rfl, ?_⟩) (by assumption) ?_
  rotate_left
  · (intro w0 hSw; (try dsimp only at hSw); go_simp; try with_reducible rfl)
  try simp only [List.getElem_toArray, List.getElem_cons_succ, List.getElem_cons_zero, Act.put, List.setIfInBounds_toArray, List.set_cons_zero, List.set_cons_succ]
  refine wpAnyH_take (i := 3) (v := ?_) rfl (by kernel_rfl) (by kernel_rfl) (by kernel_rfl) (fun _ _ _ h => h) (Or.inl ⟨by rfl, ?_⟩) (by assumption) ?_
  rotate_left
  · (intro w0 hSw; (try dsimp only at hSw); go_simp; try with_reducible rfl)
  try simp only [List.getElem_toArray, List.getElem_cons_succ, List.getElem_cons_zero, Act.put, List.setIfInBounds_toArray, List.set_cons_zero, List.set_cons_succ]
  refine wpAnyH_take (i := 4) (v := ?_) rfl (by kernel_rfl) (by kernel_rfl) (by kernel_rfl) (fun _ _ _ h => h) (Or.inl ⟨by rfl, ?_⟩) (by assumption) ?_
  rotate_left
  · (intro w0 hSw; (try dsimp only at hSw); go_simp; try with_reducible rfl)
  try simp only [List.getElem_toArray, List.getElem_cons_succ, List.getElem_cons_zero, Act.put, List.setIfInBounds_toArray, List.set_cons_zero, List.set_cons_succ]
  refine wpAnyH_take (i := 5) (v := ?_) rfl (by kernel_rfl) (by kernel_rfl) (by kernel_rfl) (fun _ _ _ h => h) (Or.inl ⟨by rfl, ?_⟩) (by assumption) ?_
  rotate_left
  · (intro w0 hSw; (try dsimp only at hSw); go_simp; try with_reducible rfl)
  try simp only [List.getElem_toArray, List.getElem_cons_succ, List.getElem_cons_zero, Act.put, List.setIfInBounds_toArray, List.set_cons_zero, List.set_cons_succ]
  refine wpAnyH_take (i := 6) (v := ?_) rfl (by kernel_rfl) (by kernel_rfl) (by kernel_rfl) (fun _ _ _ h => h) (Or.inl ⟨by rfl, ?_⟩) (by assumption) ?_
  rotate_left
  · (intro w0 hSw; (try dsimp only at hSw); go_simp; try with_reducible rfl)
  try simp only [List.getElem_toArray, List.getElem_cons_succ, List.getElem_cons_zero, Act.put, List.setIfInBounds_toArray, List.set_cons_zero, List.set_cons_succ]
  refine wpAnyH_take (i := 8) (v := .agg (wc ⟨a, b, c, true⟩)) rfl (by kernel_rfl) (by kernel_rfl) (by kernel_rfl) (fun _ _ _ h => h) (Or.inl ⟨by rfl, fun w0 hSw => exec_load (x := .tmp 3) rfl (ad := ⟨w.heap.size, 0, none⟩) rfl (run_loadVar_cells w0 _ _ (wv ⟨a, b, c, true⟩) _ hSw Try.underlying33 rfl info_wait4)⟩) (by assumption) ?_
  try simp only [List.getElem_toArray, List.getElem_cons_succ, List.getElem_cons_zero, Act.put, List.setIfInBounds_toArray, List.set_cons_zero, List.set_cons_succ]
  refine wpAnyH_take (i := 11) (v := ?_) rfl (by kernel_rfl) (by kernel_rfl) (by kernel_rfl) (fun _ _ _ h => h) (Or.inl ⟨by rfl, ?_⟩) (by assumption) ?_
  rotate_left
  · (intro w0 hSw; (try dsimp only at hSw); go_simp; try with_reducible rfl)
  try simp only [List.getElem_toArray, List.getElem_cons_succ, List.getElem_cons_zero, Act.put, List.setIfInBounds_toArray, List.set_cons_zero, List.set_cons_succ]
  refine wpAnyH_take (i := 12) (v := ?_) rfl (by kernel_rfl) (by kernel_rfl) (by kernel_rfl) (fun _ _ _ h => h) (Or.inl ⟨by rfl, ?_⟩) (by assumption) ?_
  rotate_left
  · (intro w0 hSw; (try dsimp only at hSw); go_simp; try with_reducible rfl)
  try simp only [List.getElem_toArray, List.getElem_cons_succ, List.getElem_cons_zero, Act.put, List.setIfInBounds_toArray, List.set_cons_zero, List.set_cons_succ]
  have HYD : w4.drew = w4.drewN 1 := rfl
  rw [HYD] at hHeld ⊢
  generalize w4.drewN 1 = Y at LY BY XY k1 k2 hHeld ⊢
  clear HYD
  have NZ := Lib.hid (Blk.new Y 33 (wc ⟨a, b, c, true⟩))
  have RZ := Lib.hid (reads_new Y 33 ⟨a, b, c, true⟩)
  have OZ := Lib.hid (show ∀ u ∈ wv ⟨a, b, c, true⟩, u.oneCell' = true from fun v hv => wvs_one [⟨a, b, c, true⟩] v (by rw [wvs_single]; exact hv))
  have LZ := Lib.hid (LY.out.turn (S := fun _ => False) (Turn.of_below (Joins.below_alloc1 Y (.cells (wc ⟨a, b, c, true⟩) 33))) id (fun _ _ => id) (fun _ _ => id))
  have ZB := Lib.hid (stepA BY.out (.cells (wc ⟨a, b, c, true⟩) 33))
  have HZ := Lib.hid (XY.out.alloc (.cells (wc ⟨a, b, c, true⟩) 33))
  have HBZ := Lib.hid (show B ≤ (Y.alloc (.cells (wc ⟨a, b, c, true⟩) 33)).heap.size from by have := LZ.out.geB; have := LZ.out.box.lt; omega)
  have kz : (Y.alloc (.cells (wc ⟨a, b, c, true⟩) 33)).cell? ⟨g, 1, none⟩ = some (.slice A0 U.length c0) := LZ.out.box.cell 1
  refine wpAnyH_ready (rs := [7, 9]) (by kernel_rfl) (by simp) ?_
  refine AllReadyH.cons rfl (fun K hK => ?_) (AllReadyH.cons rfl (fun K hK => ?_) AllReadyH.nil)
  · go_simp
    refine hK.out _ _ hHeld (fun hHeld => ?_)
    clear hK K
    refine wpAnyH_ready (rs := [9]) (by kernel_rfl) (by simp) ?_
    refine AllReadyH.cons rfl (fun K hK => ?_) AllReadyH.nil
    refine step_build_w (by rfl) 1 _ rfl (builds1 ⟨a, b, c, true⟩) (by rfl) ?_
    have hHeld := four_at HZ.out
    generalize Y.alloc (.cells (wc ⟨a, b, c, true⟩) 33) = Z at NZ RZ LZ ZB HZ HBZ kz hHeld ⊢
    refine hK.out _ _ hHeld (fun hHeld => ?_)
    clear hK K
    refine wpAnyH_ready (rs := [10]) (by kernel_rfl) (by simp) ?_
    refine AllReadyH.cons rfl (fun K hK => ?_) AllReadyH.nil
    refine step_append_any _ rfl (.tmp 43) (.tmp 45) _ rfl B 33 i0 _ 4 32 Try.underlying30 hi0 hz0 hz1 hz2 rfl (by omega) (.slice A0 U.length c0) U.length (wvs U) rfl
      LZ.out.r0 (Y.heap.size + 1) (some ⟨Y.heap.size, 0, none⟩) 1 1 (wv ⟨a, b, c, true⟩) rfl RZ.out OZ.out (by simp only [maxLen]; omega) (by omega) HBZ.out ?_
    intro v9 W9 hown9 hg9 hv9
    rw [← wvs_single, ← wvs_append] at hown9
    obtain ⟨A9, c9, rfl, _, _, _⟩ := own_w hown9
    obtain ⟨hb3, hl3, ht3⟩ := LZ.out.set0 (L := U ++ [⟨a, b, c, true⟩]) (v := .slice A9 (U.length + 1) c9) ((Turn.refl _ _).grown hg9 (fun x hx _ => hx)) (by rw [List.length_append]; exact hown9) (fun x hx => by
      rcases hv9 with h9 | h9
      · exact .inl (by rw [← h9]; exact hx)
      · rw [hx] at h9; injection h9 with h9; exact .inr (by omega)) HOK.out
    have k3 : W9.cell? ⟨g, 1, none⟩ = some (.slice A0 U.length c0) := hb3.cell 1
    have k4 := hb3.frozen 1
    have L3 := Lib.hid hl3
    have T3 := Lib.hid ht3
    have V9 := Lib.hid hv9
    have S9 := Lib.hid (show w.heap.size ≤ W9.heap.size from Nat.le_trans ZB.out.size hg9.size)
    have X9 := Lib.hid (show Blk W9 w.heap.size 33 (wc ⟨a, b, c, true⟩) from HZ.out.grown hg9 (fun e => by
      obtain ⟨cur, hh, _⟩ := own_heap LZ.out.r0 _ e
      have := (HLT.out w.heap.size (.inr (.inl (by rw [← HR0.out]; exact e)))).2
      omega))
    clear hown9 hg9 hv9 hb3 hl3 ht3 hHeld
    refine hK.out _ _ (four_at X9.out) (fun hHeld => ?_)
    clear hK K
    refine wpAnyH_take (i := 13) (v := ?_) rfl (by kernel_rfl) (by kernel_rfl) (by kernel_rfl) (fun _ _ _ h => h) (Or.inl ⟨by rfl, ?_⟩) (by assumption) ?_
    rotate_left
    · (intro w0 hSw; (try dsimp only at hSw); go_simp; try with_reducible rfl)
    try simp only [List.getElem_toArray, List.getElem_cons_succ, List.getElem_cons_zero, Act.put, List.setIfInBounds_toArray, List.set_cons_zero, List.set_cons_succ]
    refine wpAnyH_ready (rs := [14]) (by kernel_rfl) (by simp) ?_
    refine AllReadyH.cons rfl (fun K hK => ?_) AllReadyH.nil
    go_simp
    refine hK.out _ _ (four_at (X9.out.far (p := ⟨g, 1, none⟩) (by show w.heap.size ≠ g; have := HGW.out; omega) _)) (fun hHeld => ?_)
    clear hK K hHeld k3 k4
    refine wpAnyH_done (by kernel_rfl) ?_ _
    go_wp2_with fail
    go_ret
    refine ⟨rfl, _, _, ⟨_, _, L3.out, rfl, rfl⟩, ?_, ?_⟩
    · rw [← HR0.out, ← HR1.out]
      exact (Turn.of_below ZB.out).trans T3.out (fun _ _ h => h)
    · intro x hx
      rw [← HR0.out, ← HR1.out]
      rcases hx with hx | hx
      · rcases V9.out with h9 | h9
        · exact .inl (.inl (by rw [← h9]; exact hx))
        · rw [hx] at h9; injection h9 with h9; exact .inr (by have := ZB.out.size; omega)
      · exact .inl (.inr hx)
  · refine step_build_w (by rfl) 1 _ rfl (builds1 ⟨a, b, c, true⟩) (by rfl) ?_
    have hHeld := four_at HZ.out
    generalize Y.alloc (.cells (wc ⟨a, b, c, true⟩) 33) = Z at NZ RZ LZ ZB HZ HBZ kz hHeld ⊢
    refine hK.out _ _ hHeld (fun hHeld => ?_)
    clear hK K
    refine wpAnyH_ready (rs := [7]) (by kernel_rfl) (by simp) ?_
    refine AllReadyH.cons rfl (fun K hK => ?_) AllReadyH.nil
    go_simp
    refine hK.out _ _ hHeld (fun hHeld => ?_)
    clear hK K
    refine wpAnyH_ready (rs := [10]) (by kernel_rfl) (by simp) ?_
    refine AllReadyH.cons rfl (fun K hK => ?_) AllReadyH.nil
    refine step_append_any _ rfl (.tmp 43) (.tmp 45) _ rfl B 33 i0 _ 4 32 Try.underlying30 hi0 hz0 hz1 hz2 rfl (by omega) (.slice A0 U.length c0) U.length (wvs U) rfl
      LZ.out.r0 (Y.heap.size + 1) (some ⟨Y.heap.size, 0, none⟩) 1 1 (wv ⟨a, b, c, true⟩) rfl RZ.out OZ.out (by simp only [maxLen]; omega) (by omega) HBZ.out ?_
    intro v9 W9 hown9 hg9 hv9
    rw [← wvs_single, ← wvs_append] at hown9
    obtain ⟨A9, c9, rfl, _, _, _⟩ := own_w hown9
    obtain ⟨hb3, hl3, ht3⟩ := LZ.out.set0 (L := U ++ [⟨a, b, c, true⟩]) (v := .slice A9 (U.length + 1) c9) ((Turn.refl _ _).grown hg9 (fun x hx _ => hx)) (by rw [List.length_append]; exact hown9) (fun x hx => by
      rcases hv9 with h9 | h9
      · exact .inl (by rw [← h9]; exact hx)
      · rw [hx] at h9; injection h9 with h9; exact .inr (by omega)) HOK.out
    have k3 : W9.cell? ⟨g, 1, none⟩ = some (.slice A0 U.length c0) := hb3.cell 1
    have k4 := hb3.frozen 1
    have L3 := Lib.hid hl3
    have T3 := Lib.hid ht3
    have V9 := Lib.hid hv9
    have S9 := Lib.hid (show w.heap.size ≤ W9.heap.size from Nat.le_trans ZB.out.size hg9.size)
    have X9 := Lib.hid (show Blk W9 w.heap.size 33 (wc ⟨a, b, c, true⟩) from HZ.out.grown hg9 (fun e => by
      obtain ⟨cur, hh, _⟩ := own_heap LZ.out.r0 _ e
      have := (HLT.out w.heap.size (.inr (.inl (by rw [← HR0.out]; exact e)))).2
      omega))
    clear hown9 hg9 hv9 hb3 hl3 ht3 hHeld
    refine hK.out _ _ (four_at X9.out) (fun hHeld => ?_)
    clear hK K
    refine wpAnyH_take (i := 13) (v := ?_) rfl (by kernel_rfl) (by kernel_rfl) (by kernel_rfl) (fun _ _ _ h => h) (Or.inl ⟨by rfl, ?_⟩) (by assumption) ?_
    rotate_left
    · (intro w0 hSw; (try dsimp only at hSw); go_simp; try with_reducible rfl)
    try simp only [List.getElem_toArray, List.getElem_cons_succ, List.getElem_cons_zero, Act.put, List.setIfInBounds_toArray, List.set_cons_zero, List.set_cons_succ]
    refine wpAnyH_ready (rs := [14]) (by kernel_rfl) (by simp) ?_
    refine AllReadyH.cons rfl (fun K hK => ?_) AllReadyH.nil
    go_simp
    refine hK.out _ _ (four_at (X9.out.far (p := ⟨g, 1, none⟩) (by show w.heap.size ≠ g; have := HGW.out; omega) _)) (fun hHeld => ?_)
    clear hK K hHeld k3 k4
    refine wpAnyH_done (by kernel_rfl) ?_ _
    go_wp2_with fail
    go_ret
    refine ⟨rfl, _, _, ⟨_, _, L3.out, rfl, rfl⟩, ?_, ?_⟩
    · rw [← HR0.out, ← HR1.out]
      exact (Turn.of_below ZB.out).trans T3.out (fun _ _ h => h)
    · intro x hx
      rw [← HR0.out, ← HR1.out]
      rcases hx with hx | hx
      · rcases V9.out with h9 | h9
        · exact .inl (.inl (by rw [← h9]; exact hx))
        · rw [hx] at h9; injection h9 with h9; exact .inr (by have := ZB.out.size; omega)
      · exact .inl (.inr hx)
set_option maxRecDepth 100000 in
set_option maxHeartbeats 8000000 in
theorem push_down (a b c : Int) (w : World) (h : Line w B g r0 r1 lim U D) (hm : mayW ⟨a, b, c, false⟩ = true) (hx : idx a (U ++ D) = none) {n : Nat} (hn : n = U.length + D.length) (hl : (n : Int) < lim) : Calls Try.prog 20 #[.pointer (some ⟨g, 0, none⟩), .agg #[.int .i64 a, .int .i64 b, .int .i64 c, .bool false]] w fun e w' => e = .returned .nilIface ∧ ∃ r0' r1', Line w' B g r0' r1' lim U (D ++ [⟨a, b, c, false⟩]) ∧ Turn (LS g r0 r1) w w' ∧ LNext w r0 r1 r0' r1' := by
  have hn1 := fun W => run_eql_held_nil (P := Try.prog) W 26 55 (.int .i64 10) Try.underlying26
  have HM := Lib.hid hm
  have H := Lib.hid h
  have HN := Lib.hid hn
  have d1 : decide (lim ≤ (n : Int)) = false := by simp; omega
  have HV := Lib.hid (show findV a U D = .tuple #[.agg #[.int .i64 0, .int .i64 0, .int .i64 0, .bool false], errno 10] by unfold findV; rw [hx]; rfl)
  have HOK := Lib.hid (show LinOk lim U (D ++ [⟨a, b, c, false⟩]) from h.ok.push (q := ⟨a, b, c, false⟩) hm hx (by rw [← hn]; exact hl))
  have HLT := Lib.hid h.ls_lt
  have HGW := Lib.hid (show g < w.heap.size from (h.ls_lt g (.inl rfl)).2)
  have hlen := h.ok.len
  obtain ⟨i0, hi0, hz0, hz1, hz2⟩ := info_parts info_wait
  clear h hm hx hn hl
  have H0 := Lib.hid (show Blk (w.alloc (.cells #[.int .i64 a, .int .i64 b, .int .i64 c, .bool false] 33)) w.heap.size 33 (wc ⟨a, b, c, false⟩) from Blk.new _ _ _)
  go_enter Try.func20, Try.ntmps20
  go_wp2_with (go_at_call 27; refine (mayBe_any ⟨a, b, c, false⟩ _).mono ?_; rintro e w1 ⟨rfl, hb⟩; rw [HM.out]; have B1 := Lib.hid (stepB (Joins.below_alloc1 w _) hb); have H1 := Lib.hid (H0.out.here hb); have k0 : w1.cell? ⟨w.heap.size, 0, none⟩ = some (.int .i64 a) := H1.out.cell 0; clear hb)
  refine (find_any a _ (H.out.step B1.out)).mono ?_
  rintro e w2 ⟨rfl, hb⟩
  rw [HV.out]
  obtain ⟨W, hW⟩ : ∃ W, W = w2.alloc (.cells #[.int .i64 0, .int .i64 0, .int .i64 0, .bool false] 33) := ⟨_, rfl⟩
  have B2 := Lib.hid (show Below w.heap.size w W by rw [hW]; exact stepA (stepB B1.out hb) _)
  have X2 := Lib.hid (show Blk W w.heap.size 33 (wc ⟨a, b, c, false⟩) by rw [hW]; exact (H1.out.here hb).alloc _)
  have H2 := Lib.hid (H.out.step B2.out)
  have kL : W.cell? ⟨g, 0, none⟩ = some (.int .i64 lim) := by obtain ⟨_, _, hl, _⟩ := H2.out; exact hl.box.cell 0
  clear hb k0
  go_wp2_with fail
  rw [← hW]
  clear hW
  go_quiet ((go_at_call 24; exact Calls.quiet_of (many_n HN.out _ (H2.out.step (below_drewN (Below.refl _ _) _)))))
  have B3 := Lib.hid (below_drewN B2.out nq)
  have X3 := Lib.hid (X2.out.drewN nq)
  clear kL
  generalize W.drewN nq = V at B3 X3 ⊢
  go_wp2_with (first
    | (refine wpList_load_row rfl 33 (.tmp 3) rfl w.heap.size rfl 33 (wc ⟨a, b, c, false⟩) (0, 0) _ X3.out Try.underlying33 rfl (wc_info _) ?_)
    | (go_at_call 28; refine (lot_any ⟨a, b, c, false⟩ _).mono ?_; rintro e w4 ⟨rfl, hb⟩; have B4 := Lib.hid (stepB B3.out hb); have X4 := Lib.hid (X3.out.here hb); clear hb; simp only [if_true, if_false, Bool.false_eq_true]))
  obtain ⟨v0, v1, hl, hr0', hr1'⟩ := (H.out.step B4.out).step (below_drewN (Below.refl _ _) 1)
  obtain ⟨A0, c0, A1, c1, rfl, rfl, hr0, hr1, hc0, hc1, k0, k1, k2⟩ := hl.cells
  have LY := Lib.hid hl
  have HR0 := Lib.hid hr0'
  have HR1 := Lib.hid hr1'
  have BY := Lib.hid (below_drewN B4.out 1)
  have XY := Lib.hid (X4.out.drewN 1)
  clear hl hr0 hr1 hr0' hr1' hc0 hc1 k0
  refine wp_region_held_drew (S := fun w' => ∀ j v, (wv ⟨a, b, c, false⟩)[j]? = some v → w'.cell? ((⟨w.heap.size, 0, none⟩ : Addr).add j) = some v) (by kernel_rfl) (four_at XY.out) (fun hHeld => ?_)
  refine wpAnyH_take (i := 0) (v := ?_) rfl (by kernel_rfl) (by kernel_rfl) (by kernel_rfl) (fun _ _ _ h => h) (Or.inl ⟨by rfl, ?_⟩) (by assumption) ?_
  rotate_left
  · (intro w0 hSw; (try dsimp only at hSw); go_simp; try with_reducible rfl)
  try simp only [List.getElem_toArray, List.getElem_cons_succ, List.getElem_cons_zero, Act.put, List.setIfInBounds_toArray, List.set_cons_zero, List.set_cons_succ]
  refine wpAnyH_take (i := 1) (v := ?_) rfl (by kernel_rfl) (by kernel_rfl) (by kernel_rfl) (fun _ _ _ h => h) (Or.inl ⟨by rfl, ?_⟩) (by assumption) ?_
  rotate_left
  · (intro w0 hSw; (try dsimp only at hSw); go_simp; try with_reducible rfl)
  try simp only [List.getElem_toArray, List.getElem_cons_succ, List.getElem_cons_zero, Act.put, List.setIfInBounds_toArray, List.set_cons_zero, List.set_cons_succ]
  refine wpAnyH_take (i := 2) (v := ?_) rfl (by kernel_rfl) (by kernel_rfl) (by kernel_rfl) (fun _ _ _ h => h) (Or.inl ⟨by rfl, ?_⟩) (by assumption) ?_
  rotate_left
  · (intro w0 hSw; (try dsimp only at hSw); go_simp; try with_reducible rfl)
  try simp only [List.getElem_toArray, List.getElem_cons_succ, List.getElem_cons_zero, Act.put, List.setIfInBounds_toArray, List.set_cons_zero, List.set_cons_succ]
  refine wpAnyH_take (i := 3) (v := ?_) rfl (by kernel_rfl) (by kernel_rfl) (by kernel_rfl) (fun _ _ _ h => h) (Or.inl ⟨by rfl, ?_⟩) (by assumption) ?_
  rotate_left
  · (intro w0 hSw; (try dsimp only at hSw); go_simp; try with_reducible rfl)
  try simp only [List.getElem_toArray, List.getElem_cons_succ, List.getElem_cons_zero, Act.put, List.setIfInBounds_toArray, List.set_cons_zero, List.set_cons_succ]
  refine wpAnyH_take (i := 4) (v := ?_) rfl (by kernel_rfl) (by kernel_rfl) (by kernel_rfl) (fun _ _ _ h => h) (Or.inl ⟨by rfl, ?_⟩) (by assumption) ?_
  rotate_left
  · (intro w0 hSw; (try dsimp only at hSw); go_simp; try with_reducible rfl)
  try simp only [List.getElem_toArray, List.getElem_cons_succ, List.getElem_cons_zero, Act.put, List.setIfInBounds_toArray, List.set_cons_zero, List.set_cons_succ]
  refine wpAnyH_take (i := 5) (v := ?_) rfl (by kernel_rfl) (by kernel_rfl) (by kernel_rfl) (fun _ _ _ h => h) (Or.inl ⟨by rfl, ?_⟩) (by assumption) ?_
  rotate_left
  · (intro w0 hSw; (try dsimp only at hSw); go_simp; try with_reducible rfl)
  try simp only [List.getElem_toArray, List.getElem_cons_succ, List.getElem_cons_zero, Act.put, List.setIfInBounds_toArray, List.set_cons_zero, List.set_cons_succ]
  refine wpAnyH_take (i := 6) (v := ?_) rfl (by kernel_rfl) (by kernel_rfl) (by kernel_rfl) (fun _ _ _ h => h) (Or.inl ⟨by rfl, ?_⟩) (by assumption) ?_
  rotate_left
  · (intro w0 hSw; (try dsimp only at hSw); go_simp; try with_reducible rfl)
  try simp only [List.getElem_toArray, List.getElem_cons_succ, List.getElem_cons_zero, Act.put, List.setIfInBounds_toArray, List.set_cons_zero, List.set_cons_succ]
  refine wpAnyH_take (i := 8) (v := .agg (wc ⟨a, b, c, false⟩)) rfl (by kernel_rfl) (by kernel_rfl) (by kernel_rfl) (fun _ _ _ h => h) (Or.inl ⟨by rfl, fun w0 hSw => exec_load (x := .tmp 3) rfl (ad := ⟨w.heap.size, 0, none⟩) rfl (run_loadVar_cells w0 _ _ (wv ⟨a, b, c, false⟩) _ hSw Try.underlying33 rfl info_wait4)⟩) (by assumption) ?_
  try simp only [List.getElem_toArray, List.getElem_cons_succ, List.getElem_cons_zero, Act.put, List.setIfInBounds_toArray, List.set_cons_zero, List.set_cons_succ]
  refine wpAnyH_take (i := 11) (v := ?_) rfl (by kernel_rfl) (by kernel_rfl) (by kernel_rfl) (fun _ _ _ h => h) (Or.inl ⟨by rfl, ?_⟩) (by assumption) ?_
  rotate_left
  · (intro w0 hSw; (try dsimp only at hSw); go_simp; try with_reducible rfl)
  try simp only [List.getElem_toArray, List.getElem_cons_succ, List.getElem_cons_zero, Act.put, List.setIfInBounds_toArray, List.set_cons_zero, List.set_cons_succ]
  refine wpAnyH_take (i := 12) (v := ?_) rfl (by kernel_rfl) (by kernel_rfl) (by kernel_rfl) (fun _ _ _ h => h) (Or.inl ⟨by rfl, ?_⟩) (by assumption) ?_
  rotate_left
  · (intro w0 hSw; (try dsimp only at hSw); go_simp; try with_reducible rfl)
  try simp only [List.getElem_toArray, List.getElem_cons_succ, List.getElem_cons_zero, Act.put, List.setIfInBounds_toArray, List.set_cons_zero, List.set_cons_succ]
  have HYD : w4.drew = w4.drewN 1 := rfl
  rw [HYD] at hHeld ⊢
  generalize w4.drewN 1 = Y at LY BY XY k1 k2 hHeld ⊢
  clear HYD
  have NZ := Lib.hid (Blk.new Y 33 (wc ⟨a, b, c, false⟩))
  have RZ := Lib.hid (reads_new Y 33 ⟨a, b, c, false⟩)
  have OZ := Lib.hid (show ∀ u ∈ wv ⟨a, b, c, false⟩, u.oneCell' = true from fun v hv => wvs_one [⟨a, b, c, false⟩] v (by rw [wvs_single]; exact hv))
  have LZ := Lib.hid (LY.out.turn (S := fun _ => False) (Turn.of_below (Joins.below_alloc1 Y (.cells (wc ⟨a, b, c, false⟩) 33))) id (fun _ _ => id) (fun _ _ => id))
  have ZB := Lib.hid (stepA BY.out (.cells (wc ⟨a, b, c, false⟩) 33))
  have HZ := Lib.hid (XY.out.alloc (.cells (wc ⟨a, b, c, false⟩) 33))
  have HBZ := Lib.hid (show B ≤ (Y.alloc (.cells (wc ⟨a, b, c, false⟩) 33)).heap.size from by have := LZ.out.geB; have := LZ.out.box.lt; omega)
  have kz : (Y.alloc (.cells (wc ⟨a, b, c, false⟩) 33)).cell? ⟨g, 2, none⟩ = some (.slice A1 D.length c1) := LZ.out.box.cell 2
  refine wpAnyH_ready (rs := [7, 9]) (by kernel_rfl) (by simp) ?_
  refine AllReadyH.cons rfl (fun K hK => ?_) (AllReadyH.cons rfl (fun K hK => ?_) AllReadyH.nil)
  · go_simp
    refine hK.out _ _ hHeld (fun hHeld => ?_)
    clear hK K
    refine wpAnyH_ready (rs := [9]) (by kernel_rfl) (by simp) ?_
    refine AllReadyH.cons rfl (fun K hK => ?_) AllReadyH.nil
    refine step_build_w (by rfl) 1 _ rfl (builds1 ⟨a, b, c, false⟩) (by rfl) ?_
    have hHeld := four_at HZ.out
    generalize Y.alloc (.cells (wc ⟨a, b, c, false⟩) 33) = Z at NZ RZ LZ ZB HZ HBZ kz hHeld ⊢
    refine hK.out _ _ hHeld (fun hHeld => ?_)
    clear hK K
    refine wpAnyH_ready (rs := [10]) (by kernel_rfl) (by simp) ?_
    refine AllReadyH.cons rfl (fun K hK => ?_) AllReadyH.nil
    refine step_append_any _ rfl (.tmp 43) (.tmp 45) _ rfl B 33 i0 _ 4 32 Try.underlying30 hi0 hz0 hz1 hz2 rfl (by omega) (.slice A1 D.length c1) D.length (wvs D) rfl
      LZ.out.r1 (Y.heap.size + 1) (some ⟨Y.heap.size, 0, none⟩) 1 1 (wv ⟨a, b, c, false⟩) rfl RZ.out OZ.out (by simp only [maxLen]; omega) (by omega) HBZ.out ?_
    intro v9 W9 hown9 hg9 hv9
    rw [← wvs_single, ← wvs_append] at hown9
    obtain ⟨A9, c9, rfl, _, _, _⟩ := own_w hown9
    obtain ⟨hb3, hl3, ht3⟩ := LZ.out.set1 (L := D ++ [⟨a, b, c, false⟩]) (v := .slice A9 (D.length + 1) c9) ((Turn.refl _ _).grown hg9 (fun x hx _ => hx)) (by rw [List.length_append]; exact hown9) (fun x hx => by
      rcases hv9 with h9 | h9
      · exact .inl (by rw [← h9]; exact hx)
      · rw [hx] at h9; injection h9 with h9; exact .inr (by omega)) HOK.out
    have k3 : W9.cell? ⟨g, 2, none⟩ = some (.slice A1 D.length c1) := hb3.cell 2
    have k4 := hb3.frozen 2
    have L3 := Lib.hid hl3
    have T3 := Lib.hid ht3
    have V9 := Lib.hid hv9
    have S9 := Lib.hid (show w.heap.size ≤ W9.heap.size from Nat.le_trans ZB.out.size hg9.size)
    have X9 := Lib.hid (show Blk W9 w.heap.size 33 (wc ⟨a, b, c, false⟩) from HZ.out.grown hg9 (fun e => by
      obtain ⟨cur, hh, _⟩ := own_heap LZ.out.r1 _ e
      have := (HLT.out w.heap.size (.inr (.inr (by rw [← HR1.out]; exact e)))).2
      omega))
    clear hown9 hg9 hv9 hb3 hl3 ht3 hHeld
    refine hK.out _ _ (four_at X9.out) (fun hHeld => ?_)
    clear hK K
    refine wpAnyH_take (i := 13) (v := ?_) rfl (by kernel_rfl) (by kernel_rfl) (by kernel_rfl) (fun _ _ _ h => h) (Or.inl ⟨by rfl, ?_⟩) (by assumption) ?_
    rotate_left
    · (intro w0 hSw; (try dsimp only at hSw); go_simp; try with_reducible rfl)
    try simp only [List.getElem_toArray, List.getElem_cons_succ, List.getElem_cons_zero, Act.put, List.setIfInBounds_toArray, List.set_cons_zero, List.set_cons_succ]
    refine wpAnyH_ready (rs := [14]) (by kernel_rfl) (by simp) ?_
    refine AllReadyH.cons rfl (fun K hK => ?_) AllReadyH.nil
    go_simp
    refine hK.out _ _ (four_at (X9.out.far (p := ⟨g, 2, none⟩) (by show w.heap.size ≠ g; have := HGW.out; omega) _)) (fun hHeld => ?_)
    clear hK K hHeld k3 k4
    refine wpAnyH_done (by kernel_rfl) ?_ _
    go_wp2_with fail
    go_ret
    refine ⟨rfl, _, _, ⟨_, _, L3.out, rfl, rfl⟩, ?_, ?_⟩
    · rw [← HR0.out, ← HR1.out]
      exact (Turn.of_below ZB.out).trans T3.out (fun _ _ h => h)
    · intro x hx
      rw [← HR0.out, ← HR1.out]
      rcases hx with hx | hx
      · exact .inl (.inl hx)
      · rcases V9.out with h9 | h9
        · exact .inl (.inr (by rw [← h9]; exact hx))
        · rw [hx] at h9; injection h9 with h9; exact .inr (by have := ZB.out.size; omega)
  · refine step_build_w (by rfl) 1 _ rfl (builds1 ⟨a, b, c, false⟩) (by rfl) ?_
    have hHeld := four_at HZ.out
    generalize Y.alloc (.cells (wc ⟨a, b, c, false⟩) 33) = Z at NZ RZ LZ ZB HZ HBZ kz hHeld ⊢
    refine hK.out _ _ hHeld (fun hHeld => ?_)
    clear hK K
    refine wpAnyH_ready (rs := [7]) (by kernel_rfl) (by simp) ?_
    refine AllReadyH.cons rfl (fun K hK => ?_) AllReadyH.nil
    go_simp
    refine hK.out _ _ hHeld (fun hHeld => ?_)
    clear hK K
    refine wpAnyH_ready (rs := [10]) (by kernel_rfl) (by simp) ?_
    refine AllReadyH.cons rfl (fun K hK => ?_) AllReadyH.nil
    refine step_append_any _ rfl (.tmp 43) (.tmp 45) _ rfl B 33 i0 _ 4 32 Try.underlying30 hi0 hz0 hz1 hz2 rfl (by omega) (.slice A1 D.length c1) D.length (wvs D) rfl
      LZ.out.r1 (Y.heap.size + 1) (some ⟨Y.heap.size, 0, none⟩) 1 1 (wv ⟨a, b, c, false⟩) rfl RZ.out OZ.out (by simp only [maxLen]; omega) (by omega) HBZ.out ?_
    intro v9 W9 hown9 hg9 hv9
    rw [← wvs_single, ← wvs_append] at hown9
    obtain ⟨A9, c9, rfl, _, _, _⟩ := own_w hown9
    obtain ⟨hb3, hl3, ht3⟩ := LZ.out.set1 (L := D ++ [⟨a, b, c, false⟩]) (v := .slice A9 (D.length + 1) c9) ((Turn.refl _ _).grown hg9 (fun x hx _ => hx)) (by rw [List.length_append]; exact hown9) (fun x hx => by
      rcases hv9 with h9 | h9
      · exact .inl (by rw [← h9]; exact hx)
      · rw [hx] at h9; injection h9 with h9; exact .inr (by omega)) HOK.out
    have k3 : W9.cell? ⟨g, 2, none⟩ = some (.slice A1 D.length c1) := hb3.cell 2
    have k4 := hb3.frozen 2
    have L3 := Lib.hid hl3
    have T3 := Lib.hid ht3
    have V9 := Lib.hid hv9
    have S9 := Lib.hid (show w.heap.size ≤ W9.heap.size from Nat.le_trans ZB.out.size hg9.size)
    have X9 := Lib.hid (show Blk W9 w.heap.size 33 (wc ⟨a, b, c, false⟩) from HZ.out.grown hg9 (fun e => by
      obtain ⟨cur, hh, _⟩ := own_heap LZ.out.r1 _ e
      have := (HLT.out w.heap.size (.inr (.inr (by rw [← HR1.out]; exact e)))).2
      omega))
    clear hown9 hg9 hv9 hb3 hl3 ht3 hHeld
    refine hK.out _ _ (four_at X9.out) (fun hHeld => ?_)
    clear hK K
    refine wpAnyH_take (i := 13) (v := ?_) rfl (by kernel_rfl) (by kernel_rfl) (by kernel_rfl) (fun _ _ _ h => h) (Or.inl ⟨by rfl, ?_⟩) (by assumption) ?_
    rotate_left
    · (intro w0 hSw; (try dsimp only at hSw); go_simp; try with_reducible rfl)
    try simp only [List.getElem_toArray, List.getElem_cons_succ, List.getElem_cons_zero, Act.put, List.setIfInBounds_toArray, List.set_cons_zero, List.set_cons_succ]
    refine wpAnyH_ready (rs := [14]) (by kernel_rfl) (by simp) ?_
    refine AllReadyH.cons rfl (fun K hK => ?_) AllReadyH.nil
    go_simp
    refine hK.out _ _ (four_at (X9.out.far (p := ⟨g, 2, none⟩) (by show w.heap.size ≠ g; have := HGW.out; omega) _)) (fun hHeld => ?_)
    clear hK K hHeld k3 k4
    refine wpAnyH_done (by kernel_rfl) ?_ _
    go_wp2_with fail
    go_ret
    refine ⟨rfl, _, _, ⟨_, _, L3.out, rfl, rfl⟩, ?_, ?_⟩
    · rw [← HR0.out, ← HR1.out]
      exact (Turn.of_below ZB.out).trans T3.out (fun _ _ h => h)
    · intro x hx
      rw [← HR0.out, ← HR1.out]
      rcases hx with hx | hx
      · exact .inl (.inl hx)
      · rcases V9.out with h9 | h9
        · exact .inl (.inr (by rw [← h9]; exact hx))
        · rw [hx] at h9; injection h9 with h9; exact .inr (by have := ZB.out.size; omega)
/-- What Push answers. -/
def pushV (lim : Int) (q : Wt) (U D : List Wt) : Value := if pushC lim q U D = 0 then .nilIface else errno (pushC lim q U D)
theorem push_any (q : Wt) (w : World) (h : Line w B g r0 r1 lim U D) : Calls Try.prog 20 #[.pointer (some ⟨g, 0, none⟩), .agg (wc q)] w fun e w' => e = .returned (pushV lim q U D) ∧ ∃ r0' r1', Line w' B g r0' r1' lim (putU lim q U D) (putD lim q U D) ∧ Turn (LS g r0 r1) w w' ∧ LNext w r0 r1 r0' r1' := by
  have same : ∀ c : Int, c ≠ 0 → pushC lim q U D = c → ∀ (e : Ending) (w' : World), e = .returned (errno c) ∧ Below w.heap.size w w' → e = .returned (pushV lim q U D) ∧ ∃ r0' r1', Line w' B g r0' r1' lim (putU lim q U D) (putD lim q U D) ∧ Turn (LS g r0 r1) w w' ∧ LNext w r0 r1 r0' r1' := by
    rintro c hc he e w' ⟨rfl, hb⟩
    refine ⟨by unfold pushV; rw [he, if_neg hc], r0, r1, ?_, Turn.of_below hb, LNext.refl _ _ _⟩
    unfold putU putD
    rw [he, if_neg hc, if_neg hc]
    exact h.step hb
  cases hm : mayW q with
  | false => exact (push_bad q w g hm).mono (same 1 (by decide) (by unfold pushC; rw [if_pos hm]))
  | true =>
    cases hx : idx q.tx (U ++ D) with
    | some k => exact (push_busy q w h hm hx).mono (same 8 (by decide) (by unfold pushC; rw [if_neg (by rw [hm]; decide), if_pos (by rw [hx]; rfl)]))
    | none =>
      by_cases hl : lim ≤ ((U.length + D.length : Nat) : Int)
      · exact (push_long q w h hm hx rfl hl).mono (same 7 (by decide) (by unfold pushC; rw [if_neg (by rw [hm]; decide), if_neg (by rw [hx]; decide), if_pos hl]))
      · have he : pushC lim q U D = 0 := by unfold pushC; rw [if_neg (by rw [hm]; decide), if_neg (by rw [hx]; decide), if_neg hl]
        have e1 : pushV lim q U D = .nilIface := by unfold pushV; rw [if_pos he]
        have e2 : putU lim q U D = pushU q U := by unfold putU; rw [if_pos he]
        have e3 : putD lim q U D = pushD q D := by unfold putD; rw [if_pos he]
        rw [e1, e2, e3]
        obtain ⟨a, b, c, d⟩ := q
        cases d with
        | true => exact push_up (U := U) (D := D) a b c w h hm hx rfl (by omega)
        | false => exact push_down (U := U) (D := D) a b c w h hm hx rfl (by omega)
end
end Go.Proofs.Ytflnjechinfcdaa
