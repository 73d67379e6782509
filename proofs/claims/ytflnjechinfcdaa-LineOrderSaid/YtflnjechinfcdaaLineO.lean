/- The contract of Pop. -/
import Derived.Test.YtflnjechinfcdaaLineL
import Derived.Test.YtflnjechinfcdaaLineP
namespace Go.Proofs.Ytflnjechinfcdaa
open Go.RowKit
set_option linter.unusedVariables false
set_option linter.unusedSimpArgs false

section
variable {B g : Nat} {r0 r1 : Option Nat} {lim : Int} {U D : List Wt}
set_option maxRecDepth 100000 in
set_option maxHeartbeats 4000000 in
theorem pop_nil (w : World) : Calls Try.prog 18 #[.pointer none] w fun e w' => e = .returned (.tuple #[.agg (wc zW), errno 1]) ∧ Below w.heap.size w w' := by
  have H0 := Lib.hid (Blk.new w 33 (wc zW))
  go_enter Try.func18, Try.ntmps18
  rw [wc_zero] at H0
  go_wp2_with (refine wpList_store_mid (by rfl) 33 (.tmp 2) (.tmp 6) (by rfl) w.heap.size 0 (wc zW) (by rfl) (by rfl) (wc_there (p := zW) zW H0.out) (wc_info _) (wc_one _) ?_)
  exact bodyPost_ret (v := .tuple #[.agg (wc zW), errno 1]) (results_cell_and rfl rfl rfl (loadW (wc_put (p := zW) zW H0.out))) rfl ⟨rfl, Below.setCells (Nat.le_refl _) _ _ _ (Joins.below_alloc1 _ _)⟩
set_option maxRecDepth 100000 in
set_option maxHeartbeats 4000000 in
theorem pop_none (w : World) (h : Line w B g r0 r1 lim U D) (h0 : 0 = U.length + D.length) : Calls Try.prog 18 #[.pointer (some ⟨g, 0, none⟩)] w fun e w' => e = .returned (.tuple #[.agg (wc zW), errno 10]) ∧ Below w.heap.size w w' := by
  have H0 := Lib.hid (Blk.new w 33 (wc zW))
  have H := Lib.hid (h.step (Joins.below_alloc1 w (.cells (wc zW) 33)))
  have HN := Lib.hid h0
  clear h h0
  go_enter Try.func18, Try.ntmps18
  rw [wc_zero] at H0 H
  go_wp2_with fail
  refine (many_n HN.out _ H.out).mono ?_
  rintro e w1 ⟨rfl, q, rfl⟩
  have B1 := Lib.hid (below_drewN (Joins.below_alloc1 w (.cells #[.int .i64 0, .int .i64 0, .int .i64 0, .bool false] 33)) q)
  have H1 := Lib.hid (H0.out.drewN q)
  generalize (w.alloc (.cells #[.int .i64 0, .int .i64 0, .int .i64 0, .bool false] 33)).drewN q = W at B1 H1 ⊢
  go_wp2_with (refine wpList_store_mid (by rfl) 33 (.tmp 2) (.tmp 11) (by rfl) w.heap.size 0 (wc zW) (by rfl) (by rfl) (wc_there (p := zW) zW H1.out) (wc_info _) (wc_one _) ?_)
  exact bodyPost_ret (v := .tuple #[.agg (wc zW), errno 10]) (results_cell_and rfl rfl rfl (loadW (wc_put (p := zW) zW H1.out))) rfl ⟨rfl, Below.setCells (Nat.le_refl _) _ _ _ B1.out⟩
theorem fst_idx {U D : List Wt} (h : 0 < U.length + D.length) : idx (fstT U D) (U ++ D) = some 0 := by
  have h1 : 0 < (U ++ D).length := by simpa using h
  have e : (U ++ D).getD 0 zW = (U ++ D)[0] := by simp [List.getD, List.getElem?_eq_getElem h1]
  unfold fstT
  rw [e]
  exact idx_hit h1 (by simp) rfl
set_option maxRecDepth 100000 in
set_option maxHeartbeats 4000000 in
theorem pop_some (w : World) (h : Line w B g r0 r1 lim U D) {n : Nat} (hn : n = U.length + D.length) (h0 : 0 < n) : Calls Try.prog 18 #[.pointer (some ⟨g, 0, none⟩)] w fun e w' => e = .returned (findV (fstT U D) U D) ∧ Line w' B g r0 r1 lim (levU (fstT U D) U) (levD (fstT U D) U D) ∧ Turn (LS g r0 r1) w w' := by
  have hlen := h.ok.len
  have H0 := Lib.hid (Blk.new w 33 (wc zW))
  have H := Lib.hid (h.step (Joins.below_alloc1 w (.cells (wc zW) 33)))
  have HN := Lib.hid hn
  have HLT := Lib.hid h.ls_lt
  have e1 : ((n : Int) == 0) = false := by rw [beq_eq_false_iff_ne]; omega
  have e2 : (n == 0) = false := by rw [beq_eq_false_iff_ne]; omega
  have HI := Lib.hid (fst_idx (U := U) (D := D) (by omega))
  have HV := Lib.hid (show findV (fstT U D) U D = .tuple #[.agg (wc ((U ++ D).getD 0 zW)), .nilIface] by unfold findV; rw [HI.out])
  have HF := Lib.hid (show ((U ++ D).getD 0 zW).tx = fstT U D from rfl)
  clear h
  go_enter Try.func18, Try.ntmps18
  rw [wc_zero] at H0 H
  go_wp2_with fail
  refine (many_n HN.out _ H.out).mono ?_
  rintro e w1 ⟨rfl, q, rfl⟩
  have B1 := Lib.hid (below_drewN (Joins.below_alloc1 w (.cells #[.int .i64 0, .int .i64 0, .int .i64 0, .bool false] 33)) q)
  have H1 := Lib.hid (H0.out.drewN q)
  have L1 := Lib.hid (H.out.step (below_drewN (Below.refl _ _) q))
  generalize (w.alloc (.cells #[.int .i64 0, .int .i64 0, .int .i64 0, .bool false] 33)).drewN q = W at B1 H1 L1 ⊢
  clear hn H
  go_wp2_with fail
  refine (first_any _ L1.out (m := 1) (by have := HN.out; omega)).mono ?_
  rintro e w2 ⟨A, rfl, hT, hb⟩
  have hl1 : 0 < ((U ++ D).take 1).length := by rw [List.length_take, List.length_append]; have := HN.out; omega
  obtain ⟨b, off, rfl, hbl, hc0, _⟩ := hT.reads.w_at hl1
  have hq : ((U ++ D).take 1)[0].tx = fstT U D := by
    rw [List.getElem_take]
    have h1 : 0 < (U ++ D).length := by rw [List.length_append]; have := HN.out; omega
    rw [← HF.out]
    simp [List.getD, List.getElem?_eq_getElem h1]
  rw [hq] at hc0
  rw [Nat.zero_mul, Nat.add_zero] at hc0
  have B2 := Lib.hid (stepB B1.out hb)
  have H2 := Lib.hid (H1.out.here hb)
  have L2 := Lib.hid (L1.out.step hb)
  clear hT hb hbl hq
  go_wp2_with fail
  refine (leave_any (fstT U D) _ L2.out).mono ?_
  rintro e w3 ⟨rfl, hl3, ht3⟩
  rw [HV.out]
  have L3 := Lib.hid hl3
  have H3 := Lib.hid (H2.out.turn ht3 (fun hs => by have := (HLT.out _ hs).2; omega))
  have T3 := Lib.hid ((Turn.of_below B2.out).trans (S := LS g r0 r1) ht3 (fun _ _ h => h))
  clear hc0 hl3 ht3
  generalize (U ++ D).getD 0 zW = q0 at HV
  go_wp2_with (refine wpList_store_mid (by rfl) 33 (.tmp 2) (.tmp 20) (by rfl) w.heap.size 0 (wc q0) (by rfl) (by rfl) (wc_there (p := zW) q0 H3.out) (wc_info _) (wc_one _) ?_)
  refine bodyPost_ret (v := .tuple #[.agg (wc q0), .nilIface]) (results_cell_and rfl rfl rfl (loadW (wc_put (p := zW) q0 H3.out))) rfl ⟨by rw [HV.out], ?_, ?_⟩
  · exact L3.out.turn (S := fun x => x = w.heap.size) (Turn.setCells (S := fun x => x = w.heap.size) (fun _ => rfl) _ _ _ (Turn.refl _ _)) (fun x hx e => by have := (HLT.out _ hx).2; omega)
  · exact Turn.setCells (fun h => absurd h (Nat.lt_irrefl _)) _ _ _ T3.out
theorem pop_any (w : World) (h : Line w B g r0 r1 lim U D) : Calls Try.prog 18 #[.pointer (some ⟨g, 0, none⟩)] w fun e w' => e = .returned (findV (fstT U D) U D) ∧ Line w' B g r0 r1 lim (levU (fstT U D) U) (levD (fstT U D) U D) ∧ Turn (LS g r0 r1) w w' := by
  rcases Nat.eq_zero_or_pos (U.length + D.length) with h0 | h0
  · have hU : U = [] := List.eq_nil_of_length_eq_zero (by omega)
    have hD : D = [] := List.eq_nil_of_length_eq_zero (by omega)
    refine (pop_none w h h0.symm).mono ?_
    subst hU hD
    rintro e w' ⟨rfl, hb⟩
    exact ⟨rfl, h.step hb, Turn.of_below hb⟩
  · exact pop_some w h rfl h0
end
end Go.Proofs.Ytflnjechinfcdaa
