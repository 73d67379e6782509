/- The document's example of a net. -/
import Derived.Test.YtmjmplkhngpgnaaNetK
import Derived.Deep.RegionHeld
namespace Go.Proofs.Ytmjmplkhngpgnaa
open Go.RowKit
set_option linter.unusedVariables false
set_option linter.unusedSimpArgs false

theorem ex_s1 : sendMs 9 [] (lett 1) = [lett 1] ∧ sendE 9 [] (lett 1) = .nilIface := ⟨by decide +kernel, by unfold sendE addE; rw [show mayB (lett 1) = true by decide +kernel, if_pos rfl, if_neg (by decide)]⟩
theorem ex_s2 : sendMs 9 [lett 1] (lett 2) = [lett 1, lett 2] ∧ sendE 9 [lett 1] (lett 2) = .nilIface := ⟨by decide +kernel, by unfold sendE addE; rw [show mayB (lett 2) = true by decide +kernel, if_pos rfl, if_neg (by decide)]⟩
theorem ex_s3 : sendMs 9 [lett 1, lett 2] (lett 3) = [lett 1, lett 2, lett 3] ∧ sendE 9 [lett 1, lett 2] (lett 3) = .nilIface := ⟨by decide +kernel, by unfold sendE addE; rw [show mayB (lett 3) = true by decide +kernel, if_pos rfl, if_neg (by decide)]⟩
theorem ex_d : dlvM [lett 1, lett 2, lett 3] 4 = lett 2 ∧ dlvMs [lett 1, lett 2, lett 3] 4 = [lett 1, lett 3] ∧ pickE [lett 1, lett 2, lett 3] = .nilIface := ⟨by decide +kernel, by decide +kernel, rfl⟩
theorem ex_t : twMs 9 [lett 1, lett 3] (-1) = [lett 1, lett 3, lett 3] ∧ twE 9 [lett 1, lett 3] = .nilIface := ⟨by decide +kernel, by unfold twE addE; rw [if_neg (by decide), if_neg (by decide)]⟩
theorem ex_all : ∀ m ∈ [lett 1, lett 3, lett 3], m.length = 28 := by intro m hm; simp at hm; rcases hm with rfl | rfl <;> rfl

theorem stepA' {w W : World} (h : Below w.heap.size w W) (o : Obj) : Below w.heap.size w (W.alloc o) := h.alloc h.size o
set_option maxRecDepth 100000 in
set_option maxHeartbeats 8000000 in
theorem netAlive (w : World) : Calls Try.prog 13 #[] w fun e w' => e = .returned (.bool true) ∧ Below w.heap.size w w' := by
  have hn0 := fun W => run_eql_nil_nil (P := Try.prog) W 33 Try.underlying33
  have hgm := guard_msg
  go_enter Try.func13, Try.ntmps13
  go_wp2_with fail
  refine (new_ok 9 (by omega) _).mono ?_
  rintro e w1 ⟨rfl, hn1, hb1⟩
  have N1 := Lib.hid hn1
  have B1 := Lib.hid hb1
  clear hn1 hb1
  go_wp2_with fail
  refine (letter_any 1 _).mono ?_
  rintro e w2 ⟨rfl, hb⟩
  have N2 := Lib.hid (N1.out.step hb)
  have B2 := Lib.hid (stepB B1.out hb)
  clear hb
  go_wp2_with fail
  refine (send_any _ N2.out (lett_length 1)).mono ?_
  rintro e w3 ⟨rfl, r3, hn, ht, _⟩
  rw [ex_s1.1] at hn
  rw [ex_s1.2]
  have N3 := Lib.hid hn
  have B3 := Lib.hid (B2.out.trans (N2.out.below_of ht))
  clear hn ht
  go_wp2_with fail
  refine (letter_any 2 _).mono ?_
  rintro e w4 ⟨rfl, hb⟩
  have N4 := Lib.hid (N3.out.step hb)
  have B4 := Lib.hid (stepB B3.out hb)
  clear hb
  go_wp2_with fail
  refine (send_any _ N4.out (lett_length 2)).mono ?_
  rintro e w5 ⟨rfl, r5, hn, ht, _⟩
  rw [ex_s2.1] at hn
  rw [ex_s2.2]
  have N5 := Lib.hid hn
  have B5 := Lib.hid (B4.out.trans (N4.out.below_of ht))
  clear hn ht
  go_wp2_with fail
  refine (letter_any 3 _).mono ?_
  rintro e w6 ⟨rfl, hb⟩
  have N6 := Lib.hid (N5.out.step hb)
  have B6 := Lib.hid (stepB B5.out hb)
  clear hb
  go_wp2_with fail
  refine (send_any _ N6.out (lett_length 3)).mono ?_
  rintro e w7 ⟨rfl, r7, hn, ht, _⟩
  rw [ex_s3.1] at hn
  rw [ex_s3.2]
  have N7 := Lib.hid hn
  have B7 := Lib.hid (B6.out.trans (N6.out.below_of ht))
  clear hn ht
  go_wp2_with fail
  refine (deliver_any _ N7.out.upto (by decide)).mono ?_
  rintro e w8 ⟨rfl, hn, ht⟩
  rw [ex_d.2.1] at hn
  rw [ex_d.2.2]
  generalize hq : dlvM [lett 1, lett 2, lett 3] 4 = q
  have HQ := Lib.hid (show q = lett 2 from hq.symm.trans ex_d.1)
  clear hq
  have HQL := Lib.hid (show q.length = 28 by rw [HQ.out]; rfl)
  have HZ := Lib.hid (mc_info HQL.out)
  have he : ∀ W, (binOp .eql 31 (.agg (mc q)) (.agg (mc (lett 2)))).run Try.prog W = .ok (.bool true) W := fun W => by rw [HQ.out, eql_msg (lett_length 2) (lett_length 2)]; simp
  have N8 := Lib.hid hn.net
  have B8 := Lib.hid (B7.out.trans (N7.out.below_of ht))
  clear hn ht
  have M8 := Lib.hid (Blk.new w8 31 (mc zM))
  rw [mc_zero] at M8
  go_wp2_with (refine wpList_store_mid (by rfl) 31 (.tmp 3) (.tmp 37) (by rfl) w8.heap.size 0 (mc q) (by rfl) (by rfl) (mc_there zM_length HQL.out M8.out) HZ.out (ints_oneCell _) ?_)
  have M9 := Lib.hid (mc_put zM_length HQL.out M8.out)
  have hb9 : Below w8.heap.size w8 ((w8.alloc (.cells (mc zM) 31)).setCells w8.heap.size 0 (mc q).toList) := Below.setCells (Nat.le_refl _) _ _ _ (stepA (Below.refl _ _) _)
  have N9 := Lib.hid (N8.out.step hb9)
  have B9 := Lib.hid (stepB B8.out hb9)
  clear hb9
  rw [mc_zero] at N9 B9
  generalize World.setCells _ _ _ _ = w9 at M9 N9 B9 ⊢
  refine (twice_any _ N9.out (by decide)).mono ?_
  rintro e w10 ⟨rfl, r10, hn, ht, _⟩
  rw [ex_t.1] at hn
  rw [ex_t.2]
  have N10 := Lib.hid hn
  have B10 := Lib.hid (B9.out.trans (N9.out.below_of ht))
  have M10 := Lib.hid (N9.out.kept ht M9.out (by decide) (by decide))
  clear hn ht
  go_wp2_with fail
  have N11 := Lib.hid (N10.out.step (Below.drew (Below.refl _ _)))
  have B11 := Lib.hid (Below.drew B10.out)
  have M11 := Lib.hid M10.out.drew
  refine wp_region_held_drew (S := fun w' => Below w10.drew.heap.size w10.drew w') (by kernel_rfl) ?_ (fun hHeld => ?_)
  · exact Below.refl _ _
  generalize w10.drew = W at N11 B11 M11 hHeld ⊢
  refine wpAnyH_take (i := 0) (v := .agg (mc q)) rfl (by kernel_rfl) (by kernel_rfl) (by kernel_rfl) (fun _ _ _ h => h) (Or.inl ⟨by rfl, fun w0 hSw => exec_load (x := .tmp 3) rfl (ad := ⟨w8.heap.size, 0, none⟩) rfl (loadM HQL.out (M11.out.here hSw))⟩) (by assumption) ?_
  try simp only [List.getElem_toArray, List.getElem_cons_succ, List.getElem_cons_zero, Act.put, List.setIfInBounds_toArray, List.set_cons_zero, List.set_cons_succ]
  refine wpAnyH_ready (rs := [1]) (by kernel_rfl) (by simp) ?_
  refine AllReadyH.cons rfl (fun K hK => ?_) AllReadyH.nil
  go_simp
  refine (letter_any 2 _).mono ?_
  rintro e x1 ⟨rfl, hb⟩
  try go_simp
  have hx1 := stepB hHeld hb
  clear hb hHeld
  refine hK.out _ _ hx1 (fun hHeld => ?_)
  clear hK K hx1
  refine wpAnyH_take (i := 2) (v := ?_) rfl (by kernel_rfl) (by kernel_rfl) (by kernel_rfl) (fun _ _ _ h => h) (Or.inl ⟨by rfl, ?_⟩) (by assumption) ?_
  rotate_left
  · (intro w0 hSw; (try dsimp only at hSw); go_simp; try with_reducible rfl)
  try simp only [List.getElem_toArray, List.getElem_cons_succ, List.getElem_cons_zero, Act.put, List.setIfInBounds_toArray, List.set_cons_zero, List.set_cons_succ]
  refine wpAnyH_take (i := 3) (v := ?_) rfl (by kernel_rfl) (by kernel_rfl) (by kernel_rfl) (fun _ _ _ h => h) (Or.inl ⟨by rfl, ?_⟩) (by assumption) ?_
  rotate_left
  · (intro w0 hSw; (try dsimp only at hSw); go_simp; try with_reducible rfl)
  try simp only [List.getElem_toArray, List.getElem_cons_succ, List.getElem_cons_zero, Act.put, List.setIfInBounds_toArray, List.set_cons_zero, List.set_cons_succ]
  refine wpAnyH_take (i := 4) (v := ?_) rfl (by kernel_rfl) (by kernel_rfl) (by kernel_rfl) (fun _ _ _ h => h) (Or.inl ⟨by rfl, ?_⟩) (by assumption) ?_
  rotate_left
  · (intro w0 hSw; (try dsimp only at hSw); go_simp; try with_reducible rfl)
  try simp only [List.getElem_toArray, List.getElem_cons_succ, List.getElem_cons_zero, Act.put, List.setIfInBounds_toArray, List.set_cons_zero, List.set_cons_succ]
  go_simp
  refine wpAnyH_take (i := 5) (v := ?_) rfl (by kernel_rfl) (by kernel_rfl) (by kernel_rfl) (fun _ _ _ h => h) (Or.inl ⟨by rfl, ?_⟩) (by assumption) ?_
  rotate_left
  · (intro w0 hSw; (try dsimp only at hSw); go_simp; try with_reducible rfl)
  try simp only [List.getElem_toArray, List.getElem_cons_succ, List.getElem_cons_zero, Act.put, List.setIfInBounds_toArray, List.set_cons_zero, List.set_cons_succ]
  refine wpAnyH_take (i := 6) (v := ?_) rfl (by kernel_rfl) (by kernel_rfl) (by kernel_rfl) (fun _ _ _ h => h) (Or.inl ⟨by rfl, ?_⟩) (by assumption) ?_
  rotate_left
  · (intro w0 hSw; (try dsimp only at hSw); go_simp; try with_reducible rfl)
  try simp only [List.getElem_toArray, List.getElem_cons_succ, List.getElem_cons_zero, Act.put, List.setIfInBounds_toArray, List.set_cons_zero, List.set_cons_succ]
  refine wpAnyH_take (i := 7) (v := ?_) rfl (by kernel_rfl) (by kernel_rfl) (by kernel_rfl) (fun _ _ _ h => h) (Or.inl ⟨by rfl, ?_⟩) (by assumption) ?_
  rotate_left
  · (intro w0 hSw; (try dsimp only at hSw); go_simp; try with_reducible rfl)
  try simp only [List.getElem_toArray, List.getElem_cons_succ, List.getElem_cons_zero, Act.put, List.setIfInBounds_toArray, List.set_cons_zero, List.set_cons_succ]
  refine wpAnyH_take (i := 8) (v := ?_) rfl (by kernel_rfl) (by kernel_rfl) (by kernel_rfl) (fun _ _ _ h => h) (Or.inl ⟨by rfl, ?_⟩) (by assumption) ?_
  rotate_left
  · (intro w0 hSw; (try dsimp only at hSw); go_simp; try with_reducible rfl)
  try simp only [List.getElem_toArray, List.getElem_cons_succ, List.getElem_cons_zero, Act.put, List.setIfInBounds_toArray, List.set_cons_zero, List.set_cons_succ]
  go_simp
  refine wpAnyH_take (i := 9) (v := ?_) rfl (by kernel_rfl) (by kernel_rfl) (by kernel_rfl) (fun _ _ _ h => h) (Or.inl ⟨by rfl, ?_⟩) (by assumption) ?_
  rotate_left
  · (intro w0 hSw; (try dsimp only at hSw); go_simp; try with_reducible rfl)
  try simp only [List.getElem_toArray, List.getElem_cons_succ, List.getElem_cons_zero, Act.put, List.setIfInBounds_toArray, List.set_cons_zero, List.set_cons_succ]
  refine wpAnyH_take (i := 10) (v := ?_) rfl (by kernel_rfl) (by kernel_rfl) (by kernel_rfl) (fun _ _ _ h => h) (Or.inl ⟨by rfl, ?_⟩) (by assumption) ?_
  rotate_left
  · (intro w0 hSw; (try dsimp only at hSw); go_simp; try with_reducible rfl)
  try simp only [List.getElem_toArray, List.getElem_cons_succ, List.getElem_cons_zero, Act.put, List.setIfInBounds_toArray, List.set_cons_zero, List.set_cons_succ]
  refine wpAnyH_take (i := 11) (v := ?_) rfl (by kernel_rfl) (by kernel_rfl) (by kernel_rfl) (fun _ _ _ h => h) (Or.inl ⟨by rfl, ?_⟩) (by assumption) ?_
  rotate_left
  · (intro w0 hSw; (try dsimp only at hSw); go_simp; try with_reducible rfl)
  try simp only [List.getElem_toArray, List.getElem_cons_succ, List.getElem_cons_zero, Act.put, List.setIfInBounds_toArray, List.set_cons_zero, List.set_cons_succ]
  refine wpAnyH_take (i := 12) (v := ?_) rfl (by kernel_rfl) (by kernel_rfl) (by kernel_rfl) (fun _ _ _ h => h) (Or.inl ⟨by rfl, ?_⟩) (by assumption) ?_
  rotate_left
  · (intro w0 hSw; (try dsimp only at hSw); go_simp; try with_reducible rfl)
  try simp only [List.getElem_toArray, List.getElem_cons_succ, List.getElem_cons_zero, Act.put, List.setIfInBounds_toArray, List.set_cons_zero, List.set_cons_succ]
  go_simp
  refine wpAnyH_ready (rs := [13]) (by kernel_rfl) (by simp) ?_
  refine AllReadyH.cons rfl (fun K hK => ?_) AllReadyH.nil
  go_simp
  refine (nall_any _ (N11.out.step hHeld)).mono ?_
  rintro e x2 ⟨rfl, hk2, hb⟩
  try go_simp
  have hx2 := stepB hHeld hb
  have R2 := Lib.hid hk2
  clear hb hHeld hk2
  refine hK.out _ _ hx2 (fun hHeld => ?_)
  clear hK K hx2
  refine wpAnyH_ready (rs := [14]) (by kernel_rfl) (by simp) ?_
  refine AllReadyH.cons rfl (fun K hK => ?_) AllReadyH.nil
  go_simp
  refine (letter_any 1 _).mono ?_
  rintro e x3 ⟨rfl, hb⟩
  try go_simp
  have hx3 := stepB hHeld hb
  have R3 := Lib.hid (R2.out.here hb)
  clear hb hHeld
  refine hK.out _ _ hx3 (fun hHeld => ?_)
  clear hK K hx3
  refine wpAnyH_ready (rs := [15]) (by kernel_rfl) (by simp) ?_
  refine AllReadyH.cons rfl (fun K hK => ?_) AllReadyH.nil
  go_simp
  refine (letter_any 3 _).mono ?_
  rintro e x4 ⟨rfl, hb⟩
  try go_simp
  have hx4 := stepB hHeld hb
  have R4 := Lib.hid (R3.out.here hb)
  clear hb hHeld
  refine hK.out _ _ hx4 (fun hHeld => ?_)
  clear hK K hx4
  refine wpAnyH_ready (rs := [16]) (by kernel_rfl) (by simp) ?_
  refine AllReadyH.cons rfl (fun K hK => ?_) AllReadyH.nil
  go_simp
  refine (letter_any 3 _).mono ?_
  rintro e x5 ⟨rfl, hb⟩
  try go_simp
  have hx5 := stepB hHeld hb
  have R5 := Lib.hid (R4.out.here hb)
  clear hb hHeld
  refine hK.out _ _ hx5 (fun hHeld => ?_)
  clear hK K hx5
  refine wpAnyH_ready (rs := [17]) (by kernel_rfl) (by simp) ?_
  refine AllReadyH.cons rfl (fun K hK => ?_) AllReadyH.nil
  refine step_build_msgs (by rfl) 3 _ rfl [lett 1, lett 3, lett 3] ex_all rfl (by omega) (by rfl) ?_
  have R6 := Lib.hid (R5.out.alloc (.cells (ints [lett 1, lett 3, lett 3].flatten).toArray 31))
  have S6 := Lib.hid (Blk.new x5 31 (ints [lett 1, lett 3, lett 3].flatten).toArray)
  have hx6 := stepA' hHeld (.cells (ints [lett 1, lett 3, lett 3].flatten).toArray 31)
  clear hHeld
  refine hK.out _ _ hx6 (fun hHeld => ?_)
  clear hK K hx6
  generalize x5.alloc (.cells (ints [lett 1, lett 3, lett 3].flatten).toArray 31) = x6 at R6 S6 hHeld ⊢
  refine wpAnyH_ready (rs := [18]) (by kernel_rfl) (by simp) ?_
  refine AllReadyH.cons rfl (fun K hK => ?_) AllReadyH.nil
  go_simp
  refine (msgs_any _ _ 3 3 _ _ _ _ _ _ _ (by omega) rfl rfl ex_all ex_all (reads_msgs R6.out ex_all rfl) (reads_msgs S6.out ex_all rfl)).mono ?_
  rintro e x7 ⟨rfl, q, rfl⟩
  rw [decide_eq_true rfl]
  try go_simp
  have hx7 := below_drewN hHeld q
  clear hHeld
  refine hK.out _ _ hx7 (fun hHeld => ?_)
  clear hK K hx7
  refine wpAnyH_take (i := 19) (v := ?_) rfl (by kernel_rfl) (by kernel_rfl) (by kernel_rfl) (fun _ _ _ h => h) (Or.inl ⟨by rfl, ?_⟩) (by assumption) ?_
  rotate_left
  · (intro w0 hSw; (try dsimp only at hSw); go_simp; try with_reducible rfl)
  try simp only [List.getElem_toArray, List.getElem_cons_succ, List.getElem_cons_zero, Act.put, List.setIfInBounds_toArray, List.set_cons_zero, List.set_cons_succ]
  refine wpAnyH_take (i := 20) (v := ?_) rfl (by kernel_rfl) (by kernel_rfl) (by kernel_rfl) (fun _ _ _ h => h) (Or.inl ⟨by rfl, ?_⟩) (by assumption) ?_
  rotate_left
  · (intro w0 hSw; (try dsimp only at hSw); go_simp; try with_reducible rfl)
  try simp only [List.getElem_toArray, List.getElem_cons_succ, List.getElem_cons_zero, Act.put, List.setIfInBounds_toArray, List.set_cons_zero, List.set_cons_succ]
  refine wpAnyH_done (by kernel_rfl) ?_ _
  have HH := Lib.hid hHeld
  clear hHeld
  go_wp2_with fail
  go_ret
  exact ⟨rfl, stepB B11.out HH.out⟩
end Go.Proofs.Ytmjmplkhngpgnaa
