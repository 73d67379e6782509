/- The contract of Leave. -/
import Derived.Test.YtflnjechinfcdaaLineW
import Derived.Test.YtflnjechinfcdaaLineD
namespace Go.Proofs.Ytflnjechinfcdaa
open Go.RowKit
set_option linter.unusedVariables false
set_option linter.unusedSimpArgs false

section
variable {B g : Nat} {r0 r1 : Option Nat} {lim : Int} {U D : List Wt}
set_option maxRecDepth 100000 in
set_option maxHeartbeats 4000000 in
theorem leave_nil (tx : Int) (w : World) : Calls Try.prog 19 #[.pointer none, .int .i64 tx] w fun e w' => e = .returned (.tuple #[.agg (wc zW), errno 1]) ∧ Below w.heap.size w w' := by
  have hn := fun W => run_neq_held_nil (P := Try.prog) W 26 55 (.int .i64 1) Try.underlying26
  have H0 := Lib.hid (Blk.new w 33 (wc zW))
  go_enter Try.func19, Try.ntmps19
  rw [wc_zero] at H0
  go_wp2_with (first
    | (go_at_call 25; refine (seek_nil _ _).mono ?_; rintro e w' ⟨rfl, rfl⟩)
    | (refine wpList_store_mid (by rfl) 33 (.tmp 4) (.tmp 19) (by rfl) w.heap.size 0 (wc zW) (by rfl) (by rfl) (wc_there (p := zW) zW H0.out) (wc_info _) (wc_one _) ?_))
  exact bodyPost_ret (v := .tuple #[.agg (wc zW), errno 1]) (results_cell_and rfl rfl rfl (loadW (wc_put (p := zW) zW H0.out))) rfl ⟨rfl, Below.setCells (Nat.le_refl _) _ _ _ (Joins.below_alloc1 _ _)⟩
set_option maxRecDepth 100000 in
set_option maxHeartbeats 4000000 in
theorem leave_none (tx : Int) (w : World) (h : Line w B g r0 r1 lim U D) (hU : idx tx U = none) (hD : idx tx D = none) : Calls Try.prog 19 #[.pointer (some ⟨g, 0, none⟩), .int .i64 tx] w fun e w' => e = .returned (findV tx U D) ∧ Line w' B g r0 r1 lim (levU tx U) (levD tx U D) ∧ Turn (LS g r0 r1) w w' := by
  have hn := fun W => run_neq_held_nil (P := Try.prog) W 26 55 (.int .i64 10) Try.underlying26
  have HV := Lib.hid (findV_none hU hD)
  have HS := Lib.hid (show seekV tx U D = .tuple #[.int .i64 0, .int .i64 0, errno 10] by unfold seekV; rw [hU]; simp only []; rw [hD])
  have HEU := Lib.hid (show levU tx U = U by unfold levU; rw [hU])
  have HED := Lib.hid (show levD tx U D = D by unfold levD; rw [hU]; simp only []; rw [hD])
  have H0 := Lib.hid (Blk.new w 33 (wc zW))
  have H := Lib.hid (h.step (Joins.below_alloc1 w (.cells (wc zW) 33)))
  have HL := Lib.hid h
  clear h hU hD
  go_enter Try.func19, Try.ntmps19
  rw [wc_zero] at H0 H
  go_wp2_with fail
  refine (seek_any tx _ H.out).mono ?_
  rintro e w1 ⟨rfl, hb⟩
  rw [HS.out]
  have B1 := Lib.hid (stepB (Joins.below_alloc1 w _) hb)
  have H1 := Lib.hid (H0.out.here hb)
  clear hb
  go_wp2_with (refine wpList_store_mid (by rfl) 33 (.tmp 4) (.tmp 19) (by rfl) w.heap.size 0 (wc zW) (by rfl) (by rfl) (wc_there (p := zW) zW H1.out) (wc_info _) (wc_one _) ?_)
  have B2 : Below w.heap.size w (w1.setCells w.heap.size 0 (wc zW).toList) := Below.setCells (Nat.le_refl _) _ _ _ B1.out
  exact bodyPost_ret (v := .tuple #[.agg (wc zW), errno 10]) (results_cell_and rfl rfl rfl (loadW (wc_put (p := zW) zW H1.out))) rfl ⟨by rw [HV.out], by rw [HEU.out, HED.out]; exact HL.out.step B2, Turn.of_below B2⟩
set_option maxRecDepth 100000 in
set_option maxHeartbeats 4000000 in
theorem leave_left (tx : Int) (w : World) {k : Nat} (h : Line w B g r0 r1 lim U D) (hU : idx tx U = some k) : Calls Try.prog 19 #[.pointer (some ⟨g, 0, none⟩), .int .i64 tx] w fun e w' => e = .returned (findV tx U D) ∧ Line w' B g r0 r1 lim (levU tx U) (levD tx U D) ∧ Turn (LS g r0 r1) w w' := by
  have hn := fun W => run_neq_nil_nil (P := Try.prog) W 26 Try.underlying26
  have hlt : k < U.length := idx_lt hU
  have HV := Lib.hid (show findV tx U D = .tuple #[.agg (wc (U[k]'hlt)), .nilIface] from findV_left (D := D) hU)
  have HS := Lib.hid (show seekV tx U D = .tuple #[.int .i64 0, .int .i64 k, .nilIface] by unfold seekV; rw [hU])
  have HEU := Lib.hid (show levU tx U = U.eraseIdx k by unfold levU; rw [hU])
  have HED := Lib.hid (show levD tx U D = D by unfold levD; rw [hU])
  have HOK := Lib.hid (h.ok.leave tx)
  rw [HEU.out, HED.out] at HOK ⊢
  have H0 := Lib.hid (Blk.new w 33 (wc zW))
  have H := Lib.hid (h.step (Joins.below_alloc1 w (.cells (wc zW) 33)))
  have HL := Lib.hid h
  have HLT := Lib.hid h.ls_lt
  clear h hU HEU HED
  go_enter Try.func19, Try.ntmps19
  rw [wc_zero] at H0 H
  go_wp2_with fail
  refine (seek_any tx _ H.out).mono ?_
  rintro e w1 ⟨rfl, hb⟩
  rw [HS.out]
  have B1 := Lib.hid (stepB (Joins.below_alloc1 w _) hb)
  have H1 := Lib.hid (H0.out.here hb)
  obtain ⟨v0, v1, hl, hr0', hr1'⟩ := HL.out.step B1.out
  obtain ⟨A0, c0, A1, c1, rfl, rfl, hr0, hr1, hc0, hc1, k0, k1, k2⟩ := hl.cells
  have hlen := hl.ok.len
  have s1 : IntKind.i64.wrap ((k : Int) + 1) = (k : Int) + 1 := IntWalk.i64_in _ (by omega)
  obtain ⟨b, off, rfl, hbl, hc⟩ := hr0.w_cells hlt
  have HI4 := Lib.hid info_wait4
  have HV2 := Lib.hid (show findV tx U D = .tuple #[.agg (wc U[k]), .nilIface] from HV.out)
  have HC := Lib.hid (fun j v hv => (congrArg w1.cell? (add_lit b (off + k * 4) j)).trans (hc j v hv))
  have HLN := Lib.hid hl
  have HR0 := Lib.hid hr0'
  have HR1 := Lib.hid hr1'
  clear hb hl hr0 hr1 hc hbl HV HL H0 H HS hr0' hr1'
  generalize hq : U[k] = q at HC HV2
  clear hq
  obtain ⟨qa, qb, qc, qd⟩ := q
  go_wp2_with (refine wpList_load_cells rfl 33 (.tmp 28) rfl ⟨b, off + k * 4, none⟩ rfl [.int .i64 qa, .int .i64 qb, .int .i64 qc, .bool qd] _ HC.out Try.underlying33 rfl HI4.out ?_)
  obtain ⟨W, hW⟩ : ∃ W, W = w1.alloc (.cells #[.int .i64 qa, .int .i64 qb, .int .i64 qc, .bool qd] 33) := ⟨_, rfl⟩
  have BW : Below w1.heap.size w1 W := by rw [hW]; exact Joins.below_alloc1 w1 _
  have B2 := Lib.hid (stepB B1.out BW)
  have HN := Lib.hid (show Blk W w1.heap.size 33 (wc ⟨qa, qb, qc, qd⟩) by rw [hW]; exact Blk.new w1 _ _)
  have H2 := Lib.hid (H1.out.here BW)
  have L2 := Lib.hid (HLN.out.turn (S := fun _ => False) (Turn.of_below BW) id (fun _ _ => id) (fun _ _ => id))
  have HNE := Lib.hid (show w.heap.size ≠ w1.heap.size from Nat.ne_of_lt H1.out.lt)
  have HSZ := Lib.hid B1.out.size
  rw [← hW]
  clear hW BW HC B1 H1 k0 k1 k2 HLN
  have k1 := L2.out.box.cell 1
  have HRB := Lib.hid (show b ≠ g from fun e => L2.out.g_ne0 (by rw [← e]; rfl))
  have HBW := Lib.hid (show b < w.heap.size from (HLT.out b (.inr (.inl (by rw [← HR0.out]; rfl)))).2)
  have HGW := Lib.hid (show g < w.heap.size from (HLT.out g (.inl rfl)).2)
  go_wp2_with fail
  have LD := Lib.hid (show Lin W.drew B g lim _ _ U D from L2.out.turn (S := fun _ => False) (Turn.refl _ _).drew id (fun _ _ => id) (fun _ _ => id))
  refine wp_region_held_drew (S := fun _ => True) (by kernel_rfl) trivial (fun hHeld => ?_)
  refine wpAnyH_take (i := 0) (v := ?_) rfl (by kernel_rfl) (by kernel_rfl) (by kernel_rfl) (fun _ _ _ h => h) (Or.inl ⟨by rfl, ?_⟩) (by assumption) ?_
  rotate_left
  · (intro w0 hSw; (try dsimp only at hSw); go_simp; try with_reducible rfl)
  try simp only [List.getElem_toArray, List.getElem_cons_succ, List.getElem_cons_zero, Act.put, List.setIfInBounds_toArray, List.set_cons_zero, List.set_cons_succ]
  refine wpAnyH_take (i := 1) (v := ?_) rfl (by kernel_rfl) (by kernel_rfl) (by kernel_rfl) (fun _ _ _ h => h) (Or.inl ⟨by rfl, ?_⟩) (by assumption) ?_
  rotate_left
  · (intro w0 hSw; (try dsimp only at hSw); go_simp; try with_reducible rfl)
  try simp only [List.getElem_toArray, List.getElem_cons_succ, List.getElem_cons_zero, Act.put, List.setIfInBounds_toArray, List.set_cons_zero, List.set_cons_succ]
  refine wpAnyH_take (i := 2) (v := ?_) rfl (by kernel_rfl) (by kernel_rfl) (by kernel_rfl) (fun _ _ _ h => h) (Or.inl ⟨by rfl, ?_⟩) (by assumption) ?_
  rotate_left
  · (intro w0 hSw; (try dsimp only at hSw); go_simp; try with_reducible rfl)
  try simp only [List.getElem_toArray, List.getElem_cons_succ, List.getElem_cons_zero, Act.put, List.setIfInBounds_toArray, List.set_cons_zero, List.set_cons_succ]
  refine wpAnyH_take (i := 3) (v := ?_) rfl (by kernel_rfl) (by kernel_rfl) (by kernel_rfl) (fun _ _ _ h => h) (Or.inl ⟨by rfl, ?_⟩) (by assumption) ?_
  rotate_left
  · (intro w0 hSw; (try dsimp only at hSw); go_simp; try with_reducible rfl)
  try simp only [List.getElem_toArray, List.getElem_cons_succ, List.getElem_cons_zero, Act.put, List.setIfInBounds_toArray, List.set_cons_zero, List.set_cons_succ]
  refine wpAnyH_take (i := 4) (v := ?_) rfl (by kernel_rfl) (by kernel_rfl) (by kernel_rfl) (fun _ _ _ h => h) (Or.inl ⟨by rfl, ?_⟩) (by assumption) ?_
  rotate_left
  · (intro w0 hSw; (try dsimp only at hSw); go_simp; try with_reducible rfl)
  try simp only [List.getElem_toArray, List.getElem_cons_succ, List.getElem_cons_zero, Act.put, List.setIfInBounds_toArray, List.set_cons_zero, List.set_cons_succ]
  refine wpAnyH_take (i := 5) (v := ?_) rfl (by kernel_rfl) (by kernel_rfl) (by kernel_rfl) (fun _ _ _ h => h) (Or.inl ⟨by rfl, ?_⟩) (by assumption) ?_
  rotate_left
  · (intro w0 hSw; (try dsimp only at hSw); go_simp; try with_reducible rfl)
  try simp only [List.getElem_toArray, List.getElem_cons_succ, List.getElem_cons_zero, Act.put, List.setIfInBounds_toArray, List.set_cons_zero, List.set_cons_succ]
  refine wpAnyH_take (i := 6) (v := ?_) rfl (by kernel_rfl) (by kernel_rfl) (by kernel_rfl) (fun _ _ _ h => h) (Or.inl ⟨by rfl, ?_⟩) (by assumption) ?_
  rotate_left
  · (intro w0 hSw; (try dsimp only at hSw); go_simp; try with_reducible rfl)
  try simp only [List.getElem_toArray, List.getElem_cons_succ, List.getElem_cons_zero, Act.put, List.setIfInBounds_toArray, List.set_cons_zero, List.set_cons_succ]
  refine wpAnyH_take (i := 8) (v := ?_) rfl (by kernel_rfl) (by kernel_rfl) (by kernel_rfl) (fun _ _ _ h => h) (Or.inl ⟨by rfl, ?_⟩) (by assumption) ?_
  rotate_left
  · (intro w0 hSw; (try dsimp only at hSw); go_simp; try with_reducible rfl)
  try simp only [List.getElem_toArray, List.getElem_cons_succ, List.getElem_cons_zero, Act.put, List.setIfInBounds_toArray, List.set_cons_zero, List.set_cons_succ]
  refine wpAnyH_take (i := 9) (v := ?_) rfl (by kernel_rfl) (by kernel_rfl) (by kernel_rfl) (fun _ _ _ h => h) (Or.inl ⟨by rfl, ?_⟩) (by assumption) ?_
  rotate_left
  · (intro w0 hSw; (try dsimp only at hSw); go_simp; try with_reducible rfl)
  try simp only [List.getElem_toArray, List.getElem_cons_succ, List.getElem_cons_zero, Act.put, List.setIfInBounds_toArray, List.set_cons_zero, List.set_cons_succ]
  refine wpAnyH_take (i := 10) (v := ?_) rfl (by kernel_rfl) (by kernel_rfl) (by kernel_rfl) (fun _ _ _ h => h) (Or.inl ⟨by rfl, ?_⟩) (by assumption) ?_
  rotate_left
  · (intro w0 hSw; (try dsimp only at hSw); go_simp; try with_reducible rfl)
  try simp only [List.getElem_toArray, List.getElem_cons_succ, List.getElem_cons_zero, Act.put, List.setIfInBounds_toArray, List.set_cons_zero, List.set_cons_succ]
  refine wpAnyH_take (i := 12) (v := ?_) rfl (by kernel_rfl) (by kernel_rfl) (by kernel_rfl) (fun _ _ _ h => h) (Or.inl ⟨by rfl, ?_⟩) (by assumption) ?_
  rotate_left
  · (intro w0 hSw; (try dsimp only at hSw); go_simp; try with_reducible rfl)
  try simp only [List.getElem_toArray, List.getElem_cons_succ, List.getElem_cons_zero, Act.put, List.setIfInBounds_toArray, List.set_cons_zero, List.set_cons_succ]
  refine wpAnyH_take (i := 13) (v := ?_) rfl (by kernel_rfl) (by kernel_rfl) (by kernel_rfl) (fun _ _ _ h => h) (Or.inl ⟨by rfl, ?_⟩) (by assumption) ?_
  rotate_left
  · (intro w0 hSw; (try dsimp only at hSw); go_simp; try with_reducible rfl)
  try simp only [List.getElem_toArray, List.getElem_cons_succ, List.getElem_cons_zero, Act.put, List.setIfInBounds_toArray, List.set_cons_zero, List.set_cons_succ]
  refine wpAnyH_ready (rs := [7]) (by kernel_rfl) (by simp) ?_
  refine AllReadyH.cons rfl (fun K hK => ?_) AllReadyH.nil
  go_simp
  refine hK.out _ _ hHeld (fun hHeld => ?_)
  clear hK K
  refine wpAnyH_ready (rs := [11]) (by kernel_rfl) (by simp) ?_
  refine AllReadyH.cons rfl (fun K hK => ?_) AllReadyH.nil
  go_simp
  refine (delete_w W.drew LD.out.r0 hlt (j := k + 1) rfl).mono ?_
  rintro e w3 ⟨rfl, hown3, ht3⟩
  try go_simp
  obtain ⟨hb3, hl3, ht4⟩ := LD.out.set0 (L := U.eraseIdx k) ht3 (v := .slice (some ⟨b, off, none⟩) (U.length - 1) c0) (by rw [show (U.eraseIdx k).length = U.length - 1 by rw [List.length_eraseIdx, if_pos hlt]]; exact hown3) (fun x hx => .inl hx) HOK.out
  have k3 : w3.cell? ⟨g, 1, none⟩ = some (.slice (some ⟨b, off, none⟩) U.length c0) := hb3.cell 1
  have k4 := hb3.frozen 1
  have L3 := Lib.hid hl3
  have T4 := Lib.hid ht4
  have H3 := Lib.hid ((show Blk W.drew w.heap.size _ _ from H2.out).turn ht3 (fun e => by simp [Value.ownBlock] at e; have := HBW.out; omega))
  have HN3 := Lib.hid ((show Blk W.drew w1.heap.size _ _ from HN.out).turn ht3 (fun e => by simp [Value.ownBlock] at e; have := HBW.out; have := HSZ.out; omega))
  clear hown3 ht3 hb3 hl3 ht4 hHeld
  refine hK.out _ _ trivial (fun hHeld => ?_)
  clear hK K
  refine wpAnyH_take (i := 14) (v := ?_) rfl (by kernel_rfl) (by kernel_rfl) (by kernel_rfl) (fun _ _ _ h => h) (Or.inl ⟨by rfl, ?_⟩) (by assumption) ?_
  rotate_left
  · (intro w0 hSw; (try dsimp only at hSw); go_simp; try with_reducible rfl)
  try simp only [List.getElem_toArray, List.getElem_cons_succ, List.getElem_cons_zero, Act.put, List.setIfInBounds_toArray, List.set_cons_zero, List.set_cons_succ]
  refine wpAnyH_ready (rs := [15]) (by kernel_rfl) (by simp) ?_
  refine AllReadyH.cons rfl (fun K hK => ?_) AllReadyH.nil
  go_simp
  refine hK.out _ _ trivial (fun hHeld => ?_)
  clear hK K hHeld k3 k4
  refine wpAnyH_done (by kernel_rfl) ?_ _
  have H4 := Lib.hid (H3.out.far (p := ⟨g, 1, none⟩) (by show w.heap.size ≠ g; have := HGW.out; omega) (.slice (some ⟨b, off, none⟩) (U.length - 1) c0))
  have HN4 := Lib.hid (HN3.out.far (p := ⟨g, 1, none⟩) (by show w1.heap.size ≠ g; have := HGW.out; have := HSZ.out; omega) (.slice (some ⟨b, off, none⟩) (U.length - 1) c0))
  generalize w3.setCell ⟨g, 1, none⟩ (.slice (some ⟨b, off, none⟩) (U.length - 1) c0) = W5 at L3 T4 H4 HN4 ⊢
  go_wp2_with (first
    | (refine wpList_load_row rfl 33 (.tmp 9) rfl w1.heap.size rfl 33 (wc ⟨qa, qb, qc, qd⟩) (0, 0) _ HN4.out Try.underlying33 rfl (wc_info _) ?_)
    | (refine wpList_store_mid (by rfl) 33 (.tmp 4) (.tmp 45) (by rfl) w.heap.size 0 (wc ⟨qa, qb, qc, qd⟩) (by rfl) (by rfl) (wc_there (p := zW) _ H4.out) (wc_info _) (wc_one _) ?_))
  refine bodyPost_ret (v := .tuple #[.agg (wc ⟨qa, qb, qc, qd⟩), .nilIface]) (results_cell_and rfl rfl rfl (loadW (wc_put (p := zW) ⟨qa, qb, qc, qd⟩ H4.out))) rfl ⟨by rw [HV2.out], ?_, ?_⟩
  · refine ⟨_, _, L3.out.turn (S := fun x => x = w.heap.size) (Turn.setCells (S := fun x => x = w.heap.size) (fun _ => rfl) _ _ _ (Turn.refl _ _)) ?_ ?_ ?_, HR0.out, HR1.out⟩
    · have := HGW.out; omega
    · intro x hx e
      have := (HLT.out x (.inr (.inl (by rw [← HR0.out]; exact hx)))).2
      omega
    · intro x hx e
      have := (HLT.out x (.inr (.inr (by rw [← HR1.out]; exact hx)))).2
      omega
  · refine Turn.setCells (fun h => absurd h (Nat.lt_irrefl _)) _ _ _ ?_
    have T5 := T4.out
    rw [← HR0.out, ← HR1.out]
    exact (Turn.of_below (below_drewN B2.out 1)).trans T5 (fun _ _ h => h)
set_option maxRecDepth 100000 in
set_option maxHeartbeats 4000000 in
theorem leave_right (tx : Int) (w : World) {k : Nat} (h : Line w B g r0 r1 lim U D) (hU : idx tx U = none) (hD : idx tx D = some k) : Calls Try.prog 19 #[.pointer (some ⟨g, 0, none⟩), .int .i64 tx] w fun e w' => e = .returned (findV tx U D) ∧ Line w' B g r0 r1 lim (levU tx U) (levD tx U D) ∧ Turn (LS g r0 r1) w w' := by
  have hn := fun W => run_neq_nil_nil (P := Try.prog) W 26 Try.underlying26
  have hlt : k < D.length := idx_lt hD
  have HV := Lib.hid (show findV tx U D = .tuple #[.agg (wc (D[k]'hlt)), .nilIface] from findV_right hU hD)
  have HS := Lib.hid (show seekV tx U D = .tuple #[.int .i64 1, .int .i64 k, .nilIface] by unfold seekV; rw [hU]; simp only []; rw [hD])
  have HEU := Lib.hid (show levU tx U = U by unfold levU; rw [hU])
  have HED := Lib.hid (show levD tx U D = D.eraseIdx k by unfold levD; rw [hU]; simp only []; rw [hD])
  have HOK := Lib.hid (h.ok.leave tx)
  rw [HEU.out, HED.out] at HOK ⊢
  have H0 := Lib.hid (Blk.new w 33 (wc zW))
  have H := Lib.hid (h.step (Joins.below_alloc1 w (.cells (wc zW) 33)))
  have HL := Lib.hid h
  have HLT := Lib.hid h.ls_lt
  clear h hU hD HEU HED
  go_enter Try.func19, Try.ntmps19
  rw [wc_zero] at H0 H
  go_wp2_with fail
  refine (seek_any tx _ H.out).mono ?_
  rintro e w1 ⟨rfl, hb⟩
  rw [HS.out]
  have B1 := Lib.hid (stepB (Joins.below_alloc1 w _) hb)
  have H1 := Lib.hid (H0.out.here hb)
  obtain ⟨v0, v1, hl, hr0', hr1'⟩ := HL.out.step B1.out
  obtain ⟨A0, c0, A1, c1, rfl, rfl, hr0, hr1, hc0, hc1, k0, k1, k2⟩ := hl.cells
  have hlen := hl.ok.len
  have s1 : IntKind.i64.wrap ((k : Int) + 1) = (k : Int) + 1 := IntWalk.i64_in _ (by omega)
  obtain ⟨b, off, rfl, hbl, hc⟩ := hr1.w_cells hlt
  have HI4 := Lib.hid info_wait4
  have HV2 := Lib.hid (show findV tx U D = .tuple #[.agg (wc D[k]), .nilIface] from HV.out)
  have HC := Lib.hid (fun j v hv => (congrArg w1.cell? (add_lit b (off + k * 4) j)).trans (hc j v hv))
  have HLN := Lib.hid hl
  have HR0 := Lib.hid hr0'
  have HR1 := Lib.hid hr1'
  clear hb hl hr0 hr1 hc hbl HV HL H0 H HS hr0' hr1'
  generalize hq : D[k] = q at HC HV2
  clear hq
  obtain ⟨qa, qb, qc, qd⟩ := q
  go_wp2_with (refine wpList_load_cells rfl 33 (.tmp 28) rfl ⟨b, off + k * 4, none⟩ rfl [.int .i64 qa, .int .i64 qb, .int .i64 qc, .bool qd] _ HC.out Try.underlying33 rfl HI4.out ?_)
  obtain ⟨W, hW⟩ : ∃ W, W = w1.alloc (.cells #[.int .i64 qa, .int .i64 qb, .int .i64 qc, .bool qd] 33) := ⟨_, rfl⟩
  have BW : Below w1.heap.size w1 W := by rw [hW]; exact Joins.below_alloc1 w1 _
  have B2 := Lib.hid (stepB B1.out BW)
  have HN := Lib.hid (show Blk W w1.heap.size 33 (wc ⟨qa, qb, qc, qd⟩) by rw [hW]; exact Blk.new w1 _ _)
  have H2 := Lib.hid (H1.out.here BW)
  have L2 := Lib.hid (HLN.out.turn (S := fun _ => False) (Turn.of_below BW) id (fun _ _ => id) (fun _ _ => id))
  have HNE := Lib.hid (show w.heap.size ≠ w1.heap.size from Nat.ne_of_lt H1.out.lt)
  have HSZ := Lib.hid B1.out.size
  rw [← hW]
  clear hW BW HC B1 H1 k0 k1 k2 HLN
  have k1 := L2.out.box.cell 2
  have HRB := Lib.hid (show b ≠ g from fun e => L2.out.g_ne1 (by rw [← e]; rfl))
  have HBW := Lib.hid (show b < w.heap.size from (HLT.out b (.inr (.inr (by rw [← HR1.out]; rfl)))).2)
  have HGW := Lib.hid (show g < w.heap.size from (HLT.out g (.inl rfl)).2)
  go_wp2_with fail
  have LD := Lib.hid (show Lin W.drew B g lim _ _ U D from L2.out.turn (S := fun _ => False) (Turn.refl _ _).drew id (fun _ _ => id) (fun _ _ => id))
  refine wp_region_held_drew (S := fun _ => True) (by kernel_rfl) trivial (fun hHeld => ?_)
  refine wpAnyH_take (i := 0) (v := ?_) rfl (by kernel_rfl) (by kernel_rfl) (by kernel_rfl) (fun _ _ _ h => h) (Or.inl ⟨by rfl, ?_⟩) (by assumption) ?_
  rotate_left
  · (intro w0 hSw; (try dsimp only at hSw); go_simp; try with_reducible rfl)
  try simp only [List.getElem_toArray, List.getElem_cons_succ, List.getElem_cons_zero, Act.put, List.setIfInBounds_toArray, List.set_cons_zero, List.set_cons_succ]
  refine wpAnyH_take (i := 1) (v := ?_) rfl (by kernel_rfl) (by kernel_rfl) (by kernel_rfl) (fun _ _ _ h => h) (Or.inl ⟨by rfl, ?_⟩) (by assumption) ?_
  rotate_left
  · (intro w0 hSw; (try dsimp only at hSw); go_simp; try with_reducible rfl)
  try simp only [List.getElem_toArray, List.getElem_cons_succ, List.getElem_cons_zero, Act.put, List.setIfInBounds_toArray, List.set_cons_zero, List.set_cons_succ]
  refine wpAnyH_take (i := 2) (v := ?_) rfl (by kernel_rfl) (by kernel_rfl) (by kernel_rfl) (fun _ _ _ h => h) (Or.inl ⟨by rfl, ?_⟩) (by assumption) ?_
  rotate_left
  · (intro w0 hSw; (try dsimp only at hSw); go_simp; try with_reducible rfl)
  try simp only [List.getElem_toArray, List.getElem_cons_succ, List.getElem_cons_zero, Act.put, List.setIfInBounds_toArray, List.set_cons_zero, List.set_cons_succ]
  refine wpAnyH_take (i := 3) (v := ?_) rfl (by kernel_rfl) (by kernel_rfl) (by kernel_rfl) (fun _ _ _ h => h) (Or.inl ⟨by rfl, ?_⟩) (by assumption) ?_
  rotate_left
  · (intro w0 hSw; (try dsimp only at hSw); go_simp; try with_reducible rfl)
  try simp only [List.getElem_toArray, List.getElem_cons_succ, List.getElem_cons_zero, Act.put, List.setIfInBounds_toArray, List.set_cons_zero, List.set_cons_succ]
  refine wpAnyH_take (i := 4) (v := ?_) rfl (by kernel_rfl) (by kernel_rfl) (by kernel_rfl) (fun _ _ _ h => h) (Or.inl ⟨by rfl, ?_⟩) (by assumption) ?_
  rotate_left
  · (intro w0 hSw; (try dsimp only at hSw); go_simp; try with_reducible rfl)
  try simp only [List.getElem_toArray, List.getElem_cons_succ, List.getElem_cons_zero, Act.put, List.setIfInBounds_toArray, List.set_cons_zero, List.set_cons_succ]
  refine wpAnyH_take (i := 5) (v := ?_) rfl (by kernel_rfl) (by kernel_rfl) (by kernel_rfl) (fun _ _ _ h => h) (Or.inl ⟨by rfl, ?_⟩) (by assumption) ?_
  rotate_left
  · (intro w0 hSw; (try dsimp only at hSw); go_simp; try with_reducible rfl)
  try simp only [List.getElem_toArray, List.getElem_cons_succ, List.getElem_cons_zero, Act.put, List.setIfInBounds_toArray, List.set_cons_zero, List.set_cons_succ]
  refine wpAnyH_take (i := 6) (v := ?_) rfl (by kernel_rfl) (by kernel_rfl) (by kernel_rfl) (fun _ _ _ h => h) (Or.inl ⟨by rfl, ?_⟩) (by assumption) ?_
  rotate_left
  · (intro w0 hSw; (try dsimp only at hSw); go_simp; try with_reducible rfl)
  try simp only [List.getElem_toArray, List.getElem_cons_succ, List.getElem_cons_zero, Act.put, List.setIfInBounds_toArray, List.set_cons_zero, List.set_cons_succ]
  refine wpAnyH_take (i := 8) (v := ?_) rfl (by kernel_rfl) (by kernel_rfl) (by kernel_rfl) (fun _ _ _ h => h) (Or.inl ⟨by rfl, ?_⟩) (by assumption) ?_
  rotate_left
  · (intro w0 hSw; (try dsimp only at hSw); go_simp; try with_reducible rfl)
  try simp only [List.getElem_toArray, List.getElem_cons_succ, List.getElem_cons_zero, Act.put, List.setIfInBounds_toArray, List.set_cons_zero, List.set_cons_succ]
  refine wpAnyH_take (i := 9) (v := ?_) rfl (by kernel_rfl) (by kernel_rfl) (by kernel_rfl) (fun _ _ _ h => h) (Or.inl ⟨by rfl, ?_⟩) (by assumption) ?_
  rotate_left
  · (intro w0 hSw; (try dsimp only at hSw); go_simp; try with_reducible rfl)
  try simp only [List.getElem_toArray, List.getElem_cons_succ, List.getElem_cons_zero, Act.put, List.setIfInBounds_toArray, List.set_cons_zero, List.set_cons_succ]
  refine wpAnyH_take (i := 10) (v := ?_) rfl (by kernel_rfl) (by kernel_rfl) (by kernel_rfl) (fun _ _ _ h => h) (Or.inl ⟨by rfl, ?_⟩) (by assumption) ?_
  rotate_left
  · (intro w0 hSw; (try dsimp only at hSw); go_simp; try with_reducible rfl)
  try simp only [List.getElem_toArray, List.getElem_cons_succ, List.getElem_cons_zero, Act.put, List.setIfInBounds_toArray, List.set_cons_zero, List.set_cons_succ]
  refine wpAnyH_take (i := 12) (v := ?_) rfl (by kernel_rfl) (by kernel_rfl) (by kernel_rfl) (fun _ _ _ h => h) (Or.inl ⟨by rfl, ?_⟩) (by assumption) ?_
  rotate_left
  · (intro w0 hSw; (try dsimp only at hSw); go_simp; try with_reducible rfl)
  try simp only [List.getElem_toArray, List.getElem_cons_succ, List.getElem_cons_zero, Act.put, List.setIfInBounds_toArray, List.set_cons_zero, List.set_cons_succ]
  refine wpAnyH_take (i := 13) (v := ?_) rfl (by kernel_rfl) (by kernel_rfl) (by kernel_rfl) (fun _ _ _ h => h) (Or.inl ⟨by rfl, ?_⟩) (by assumption) ?_
  rotate_left
  · (intro w0 hSw; (try dsimp only at hSw); go_simp; try with_reducible rfl)
  try simp only [List.getElem_toArray, List.getElem_cons_succ, List.getElem_cons_zero, Act.put, List.setIfInBounds_toArray, List.set_cons_zero, List.set_cons_succ]
  refine wpAnyH_ready (rs := [7]) (by kernel_rfl) (by simp) ?_
  refine AllReadyH.cons rfl (fun K hK => ?_) AllReadyH.nil
  go_simp
  refine hK.out _ _ hHeld (fun hHeld => ?_)
  clear hK K
  refine wpAnyH_ready (rs := [11]) (by kernel_rfl) (by simp) ?_
  refine AllReadyH.cons rfl (fun K hK => ?_) AllReadyH.nil
  go_simp
  refine (delete_w W.drew LD.out.r1 hlt (j := k + 1) rfl).mono ?_
  rintro e w3 ⟨rfl, hown3, ht3⟩
  try go_simp
  obtain ⟨hb3, hl3, ht4⟩ := LD.out.set1 (L := D.eraseIdx k) ht3 (v := .slice (some ⟨b, off, none⟩) (D.length - 1) c1) (by rw [show (D.eraseIdx k).length = D.length - 1 by rw [List.length_eraseIdx, if_pos hlt]]; exact hown3) (fun x hx => .inl hx) HOK.out
  have k3 : w3.cell? ⟨g, 2, none⟩ = some (.slice (some ⟨b, off, none⟩) D.length c1) := hb3.cell 2
  have k4 := hb3.frozen 2
  have L3 := Lib.hid hl3
  have T4 := Lib.hid ht4
  have H3 := Lib.hid ((show Blk W.drew w.heap.size _ _ from H2.out).turn ht3 (fun e => by simp [Value.ownBlock] at e; have := HBW.out; omega))
  have HN3 := Lib.hid ((show Blk W.drew w1.heap.size _ _ from HN.out).turn ht3 (fun e => by simp [Value.ownBlock] at e; have := HBW.out; have := HSZ.out; omega))
  clear hown3 ht3 hb3 hl3 ht4 hHeld
  refine hK.out _ _ trivial (fun hHeld => ?_)
  clear hK K
  refine wpAnyH_take (i := 14) (v := ?_) rfl (by kernel_rfl) (by kernel_rfl) (by kernel_rfl) (fun _ _ _ h => h) (Or.inl ⟨by rfl, ?_⟩) (by assumption) ?_
  rotate_left
  · (intro w0 hSw; (try dsimp only at hSw); go_simp; try with_reducible rfl)
  try simp only [List.getElem_toArray, List.getElem_cons_succ, List.getElem_cons_zero, Act.put, List.setIfInBounds_toArray, List.set_cons_zero, List.set_cons_succ]
  refine wpAnyH_ready (rs := [15]) (by kernel_rfl) (by simp) ?_
  refine AllReadyH.cons rfl (fun K hK => ?_) AllReadyH.nil
  go_simp
  refine hK.out _ _ trivial (fun hHeld => ?_)
  clear hK K hHeld k3 k4
  refine wpAnyH_done (by kernel_rfl) ?_ _
  have H4 := Lib.hid (H3.out.far (p := ⟨g, 2, none⟩) (by show w.heap.size ≠ g; have := HGW.out; omega) (.slice (some ⟨b, off, none⟩) (D.length - 1) c1))
  have HN4 := Lib.hid (HN3.out.far (p := ⟨g, 2, none⟩) (by show w1.heap.size ≠ g; have := HGW.out; have := HSZ.out; omega) (.slice (some ⟨b, off, none⟩) (D.length - 1) c1))
  generalize w3.setCell ⟨g, 2, none⟩ (.slice (some ⟨b, off, none⟩) (D.length - 1) c1) = W5 at L3 T4 H4 HN4 ⊢
  go_wp2_with (first
    | (refine wpList_load_row rfl 33 (.tmp 9) rfl w1.heap.size rfl 33 (wc ⟨qa, qb, qc, qd⟩) (0, 0) _ HN4.out Try.underlying33 rfl (wc_info _) ?_)
    | (refine wpList_store_mid (by rfl) 33 (.tmp 4) (.tmp 45) (by rfl) w.heap.size 0 (wc ⟨qa, qb, qc, qd⟩) (by rfl) (by rfl) (wc_there (p := zW) _ H4.out) (wc_info _) (wc_one _) ?_))
  refine bodyPost_ret (v := .tuple #[.agg (wc ⟨qa, qb, qc, qd⟩), .nilIface]) (results_cell_and rfl rfl rfl (loadW (wc_put (p := zW) ⟨qa, qb, qc, qd⟩ H4.out))) rfl ⟨by rw [HV2.out], ?_, ?_⟩
  · refine ⟨_, _, L3.out.turn (S := fun x => x = w.heap.size) (Turn.setCells (S := fun x => x = w.heap.size) (fun _ => rfl) _ _ _ (Turn.refl _ _)) ?_ ?_ ?_, HR0.out, HR1.out⟩
    · have := HGW.out; omega
    · intro x hx e
      have := (HLT.out x (.inr (.inl (by rw [← HR0.out]; exact hx)))).2
      omega
    · intro x hx e
      have := (HLT.out x (.inr (.inr (by rw [← HR1.out]; exact hx)))).2
      omega
  · refine Turn.setCells (fun h => absurd h (Nat.lt_irrefl _)) _ _ _ ?_
    have T5 := T4.out
    rw [← HR0.out, ← HR1.out]
    exact (Turn.of_below (below_drewN B2.out 1)).trans T5 (fun _ _ h => h)
theorem leave_any (tx : Int) (w : World) (h : Line w B g r0 r1 lim U D) : Calls Try.prog 19 #[.pointer (some ⟨g, 0, none⟩), .int .i64 tx] w fun e w' => e = .returned (findV tx U D) ∧ Line w' B g r0 r1 lim (levU tx U) (levD tx U D) ∧ Turn (LS g r0 r1) w w' := by
  cases hU : idx tx U with
  | some k => exact leave_left tx w h hU
  | none => cases hD : idx tx D with
    | some k => exact leave_right tx w h hU hD
    | none => exact leave_none tx w h hU hD
end
end Go.Proofs.Ytflnjechinfcdaa
