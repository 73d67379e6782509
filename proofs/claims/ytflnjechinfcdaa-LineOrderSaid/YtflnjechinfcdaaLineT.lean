/- The law's act: what is done on a line. -/
import Derived.Test.YtflnjechinfcdaaLineO
import Derived.Test.YtflnjechinfcdaaLineQ
import Derived.Deep.RegionHeld
namespace Go.Proofs.Ytflnjechinfcdaa
open Go.RowKit
set_option linter.unusedVariables false
set_option linter.unusedSimpArgs false

def levE (tx : Int) (U D : List Wt) : Value := match idx tx (U ++ D) with | some _ => .nilIface | none => errno 10
theorem findV_lev (tx : Int) (U D : List Wt) : findV tx U D = .tuple #[.agg (wc (levW tx U D)), levE tx U D] := by
  unfold findV levW levE
  cases idx tx (U ++ D) <;> rfl
theorem code_lev (tx : Int) (U D : List Wt) (w : World) : Calls Try.prog 9 #[levE tx U D] w fun e w' => e = .returned (.int .i64 (levC tx U D)) ∧ w = w' := by
  unfold levE levC
  cases idx tx (U ++ D) with
  | some k => exact code_nil w
  | none => exact code_errno 10 (by decide) w
theorem pushC_cases (lim : Int) (q : Wt) (U D : List Wt) : pushC lim q U D = 0 ∨ pushC lim q U D = 1 ∨ pushC lim q U D = 7 ∨ pushC lim q U D = 8 := by
  unfold pushC
  split
  · simp
  · split
    · simp
    · split <;> simp
theorem code_push (lim : Int) (q : Wt) (U D : List Wt) (w : World) : Calls Try.prog 9 #[pushV lim q U D] w fun e w' => e = .returned (.int .i64 (pushC lim q U D)) ∧ w = w' := by
  unfold pushV
  rcases pushC_cases lim q U D with h | h | h | h <;> rw [h]
  · exact code_nil w
  · exact code_errno 1 (by decide) w
  · exact code_errno 7 (by decide) w
  · exact code_errno 8 (by decide) w
/-- What is done: its code, who left, the lots then. -/
def actC (lim K : Int) (q : Wt) (U D : List Wt) : Int := if K = 0 then pushC lim q U D else if K = 1 then levC (fstT U D) U D else if K = 2 then levC q.tx U D else 0
def actW (K : Int) (q : Wt) (U D : List Wt) : Wt := if K = 0 then zW else if K = 1 then levW (fstT U D) U D else if K = 2 then levW q.tx U D else zW
def actU (lim K : Int) (q : Wt) (U D : List Wt) : List Wt := if K = 0 then putU lim q U D else if K = 1 then levU (fstT U D) U else if K = 2 then levU q.tx U else U
def actD (lim K : Int) (q : Wt) (U D : List Wt) : List Wt := if K = 0 then putD lim q U D else if K = 1 then levD (fstT U D) U D else if K = 2 then levD q.tx U D else D
theorem LinOk.act {lim : Int} {U D : List Wt} (h : LinOk lim U D) (K : Int) (q : Wt) : LinOk lim (actU lim K q U D) (actD lim K q U D) := by
  unfold actU actD
  split
  · exact h.put q
  · split
    · exact h.leave _
    · split
      · exact h.leave _
      · exact h
section
variable {B g : Nat} {r0 r1 : Option Nat} {lim : Int} {U D : List Wt}
set_option maxRecDepth 100000 in
set_option maxHeartbeats 4000000 in
theorem act_push (a b c : Int) (d : Bool) (w : World) (h : Line w B g r0 r1 lim U D) : Calls Try.prog 10 #[.pointer (some ⟨g, 0, none⟩), .agg #[.int .i64 0, .int .i64 a, .int .i64 b, .int .i64 c, .bool d]] w fun e w' => e = .returned (.tuple #[.agg (wc zW), .int .i64 (pushC lim ⟨a, b, c, d⟩ U D)]) ∧
    ∃ r0' r1', Line w' B g r0' r1' lim (putU lim ⟨a, b, c, d⟩ U D) (putD lim ⟨a, b, c, d⟩ U D) ∧ Turn (LS g r0 r1) w w' ∧ LNext w r0 r1 r0' r1' := by
  have H0 := Lib.hid (show Blk ((w.alloc (.cells #[.int .i64 0, .int .i64 a, .int .i64 b, .int .i64 c, .bool d] 35)).alloc (.cells (wc zW) 33)) (w.heap.size + 1) 33 (wc zW) from Blk.new_at (by simp) _ _)
  have H := Lib.hid (h.step (Joins.below_alloc2 w (.cells #[.int .i64 0, .int .i64 a, .int .i64 b, .int .i64 c, .bool d] 35) (.cells (wc zW) 33)))
  have HLT := Lib.hid h.ls_lt
  have BA := Lib.hid (show Below w.heap.size w ((w.alloc (.cells #[.int .i64 0, .int .i64 a, .int .i64 b, .int .i64 c, .bool d] 35)).alloc (.cells (wc zW) 33)) from Joins.below_alloc2 w _ _)
  clear h
  go_enter Try.func10, Try.ntmps10
  rw [wc_zero] at H0 H BA
  go_wp2_with (refine wpList_load_cells rfl 33 (.tmp 16) rfl ⟨w.heap.size, 1, none⟩ rfl [.int .i64 a, .int .i64 b, .int .i64 c, .bool d] _ (by
    have hA : Blk ((w.alloc (.cells #[.int .i64 0, .int .i64 a, .int .i64 b, .int .i64 c, .bool d] 35)).alloc (.cells #[.int .i64 0, .int .i64 0, .int .i64 0, .bool false] 33)) w.heap.size 35 #[.int .i64 0, .int .i64 a, .int .i64 b, .int .i64 c, .bool d] := (Blk.new w _ _).alloc _
    exact four_cells (q := ⟨a, b, c, d⟩) (hA.cell 1) (hA.cell 2) (hA.cell 3) (hA.cell 4)) Try.underlying33 rfl info_wait4 ?_)
  refine (push_any ⟨a, b, c, d⟩ _ H.out).mono ?_
  rintro e w2 ⟨rfl, r0', r1', hl, ht, hx⟩
  have L2 := Lib.hid hl
  have T2 := Lib.hid ht
  have X2 := Lib.hid hx
  have H2 := Lib.hid (H0.out.turn ht (fun hs => by have := (HLT.out _ hs).2; omega))
  have hln : LNext w r0 r1 r0' r1' := fun k hk => by
    rcases hx k hk with h1 | h1
    · exact .inl h1
    · exact .inr (Nat.le_trans BA.out.size h1)
  have LN := Lib.hid hln
  clear hl ht hx hln
  go_wp2_with fail
  refine (code_push lim ⟨a, b, c, d⟩ U D _).mono ?_
  rintro e w' ⟨rfl, rfl⟩
  go_wp2_with (refine wpList_store_mid (by rfl) 33 (.tmp 4) (.tmp 14) (by rfl) (w.heap.size + 1) 0 (wc zW) (by rfl) (by rfl) (wc_there (p := zW) zW H2.out) (wc_info _) (wc_one _) ?_)
  refine bodyPost_ret (v := .tuple #[.agg (wc zW), .int .i64 (pushC lim ⟨a, b, c, d⟩ U D)]) (results_cell_and rfl rfl rfl (loadW (wc_put (p := zW) zW H2.out))) rfl ⟨rfl, r0', r1', ?_, ?_, LN.out⟩
  · refine L2.out.turn (S := fun x => x = w.heap.size + 1) (Turn.setCells (S := fun x => x = w.heap.size + 1) (fun _ => rfl) _ _ _ (Turn.refl _ _)) (fun x hx e => ?_)
    rcases hx with rfl | hx
    · have := (HLT.out x (.inl rfl)).2; omega
    · rcases X2.out x hx with h1 | h1
      · have := (HLT.out x (.inr h1)).2; omega
      · have := BA.out.size; have : (w.alloc (.cells #[.int .i64 0, .int .i64 a, .int .i64 b, .int .i64 c, .bool d] 35)).heap.size = w.heap.size + 1 := by simp
        simp at h1; omega
  · exact Turn.setCells (fun h => absurd h (by omega)) _ _ _ ((Turn.of_below BA.out).trans T2.out (fun _ _ h => h))
set_option maxRecDepth 100000 in
set_option maxHeartbeats 4000000 in
theorem act_else (K a b c : Int) (d : Bool) (w : World) (h0 : K ≠ 0) (h1 : K ≠ 1) (h2 : K ≠ 2) (h : Line w B g r0 r1 lim U D) : Calls Try.prog 10 #[.pointer (some ⟨g, 0, none⟩), .agg #[.int .i64 K, .int .i64 a, .int .i64 b, .int .i64 c, .bool d]] w fun e w' => e = .returned (.tuple #[.agg (wc zW), .int .i64 0]) ∧ Below w.heap.size w w' := by
  have H0 := Lib.hid (show Blk ((w.alloc (.cells #[.int .i64 K, .int .i64 a, .int .i64 b, .int .i64 c, .bool d] 35)).alloc (.cells (wc zW) 33)) (w.heap.size + 1) 33 (wc zW) from Blk.new_at (by simp) _ _)
  have BA := Lib.hid (show Below w.heap.size w ((w.alloc (.cells #[.int .i64 K, .int .i64 a, .int .i64 b, .int .i64 c, .bool d] 35)).alloc (.cells (wc zW) 33)) from Joins.below_alloc2 w _ _)
  have e0 : (K == 0) = false := by simpa using h0
  have e1 : (K == 1) = false := by simpa using h1
  have e2 : (K == 2) = false := by simpa using h2
  clear h h0 h1 h2
  go_enter Try.func10, Try.ntmps10
  rw [wc_zero] at H0 BA
  go_wp2_with (refine wpList_store_mid (by rfl) 33 (.tmp 4) (.tmp 43) (by rfl) (w.heap.size + 1) 0 (wc zW) (by rfl) (by rfl) (wc_there (p := zW) zW H0.out) (wc_info _) (wc_one _) ?_)
  exact bodyPost_ret (v := .tuple #[.agg (wc zW), .int .i64 0]) (results_cell_and rfl rfl rfl (loadW (wc_put (p := zW) zW H0.out))) rfl ⟨rfl, Below.setCells (Nat.le_succ _) _ _ _ BA.out⟩
set_option maxRecDepth 100000 in
set_option maxHeartbeats 4000000 in
theorem act_pop (a b c : Int) (d : Bool) (w : World) (h : Line w B g r0 r1 lim U D) : Calls Try.prog 10 #[.pointer (some ⟨g, 0, none⟩), .agg #[.int .i64 1, .int .i64 a, .int .i64 b, .int .i64 c, .bool d]] w fun e w' => e = .returned (.tuple #[.agg (wc (levW (fstT U D) U D)), .int .i64 (levC (fstT U D) U D)]) ∧
    Line w' B g r0 r1 lim (levU (fstT U D) U) (levD (fstT U D) U D) ∧ Turn (LS g r0 r1) w w' := by
  have H0 := Lib.hid (show Blk ((w.alloc (.cells #[.int .i64 1, .int .i64 a, .int .i64 b, .int .i64 c, .bool d] 35)).alloc (.cells (wc zW) 33)) (w.heap.size + 1) 33 (wc zW) from Blk.new_at (by simp) _ _)
  have H := Lib.hid (h.step (Joins.below_alloc2 w (.cells #[.int .i64 1, .int .i64 a, .int .i64 b, .int .i64 c, .bool d] 35) (.cells (wc zW) 33)))
  have HLT := Lib.hid h.ls_lt
  have BA := Lib.hid (show Below w.heap.size w ((w.alloc (.cells #[.int .i64 1, .int .i64 a, .int .i64 b, .int .i64 c, .bool d] 35)).alloc (.cells (wc zW) 33)) from Joins.below_alloc2 w _ _)
  clear h
  go_enter Try.func10, Try.ntmps10
  rw [wc_zero] at H0 H BA
  go_wp2_with fail
  refine (pop_any _ H.out).mono ?_
  rintro e w2 ⟨rfl, hl, ht⟩
  have HV := Lib.hid (findV_lev (fstT U D) U D)
  have HCD := Lib.hid (code_lev (fstT U D) U D)
  rw [HV.out]
  have H2 := Lib.hid (H0.out.turn ht (fun hs => by have := (HLT.out _ hs).2; omega))
  have T2 := Lib.hid ((Turn.of_below BA.out).trans (S := LS g r0 r1) ht (fun _ _ h => h))
  have L2 := Lib.hid hl
  clear hl ht
  generalize hp1 : levW (fstT U D) U D = p at HV ⊢
  generalize levE (fstT U D) U D = er at HV HCD ⊢
  generalize hp2 : levC (fstT U D) U D = cd at HCD ⊢
  obtain ⟨pa, pb, pc, pd⟩ := p
  have HP := Lib.hid (And.intro hp1 hp2)
  clear hp1 hp2
  rw [show wc ⟨pa, pb, pc, pd⟩ = #[.int .i64 pa, .int .i64 pb, .int .i64 pc, .bool pd] from rfl]
  obtain ⟨V, hV⟩ : ∃ V, V = w2.alloc (.cells #[.int .i64 pa, .int .i64 pb, .int .i64 pc, .bool pd] 33) := ⟨_, rfl⟩
  have BV : Below w2.heap.size w2 V := by rw [hV]; exact Joins.below_alloc1 w2 _
  have XV := Lib.hid (show Blk V w2.heap.size 33 (wc ⟨pa, pb, pc, pd⟩) by rw [hV]; exact Blk.new w2 _ _)
  have H3 := Lib.hid (H2.out.here BV)
  have T3 := Lib.hid (T2.out.step BV)
  have L3 := Lib.hid (L2.out.step BV)
  have HNE := Lib.hid (show w.heap.size + 1 < w2.heap.size from H2.out.lt)
  clear HV H H0 H2 T2 L2
  go_wp2_with fail
  rw [← hV]
  clear hV BV
  refine wp_region_held_drew (S := fun w' => ∀ j v, (wv ⟨pa, pb, pc, pd⟩)[j]? = some v → w'.cell? ((⟨w2.heap.size, 0, none⟩ : Addr).add j) = some v) (by kernel_rfl) (four_at XV.out.drew) (fun hHeld => ?_)
  refine wpAnyH_take (i := 0) (v := .agg (wc ⟨pa, pb, pc, pd⟩)) rfl (by kernel_rfl) (by kernel_rfl) (by kernel_rfl) (fun _ _ _ h => h) (Or.inl ⟨by rfl, fun w0 hSw => exec_load (x := .tmp 6) rfl (ad := ⟨w2.heap.size, 0, none⟩) rfl (run_loadVar_cells w0 _ _ (wv ⟨pa, pb, pc, pd⟩) _ hSw Try.underlying33 rfl info_wait4)⟩) (by assumption) ?_
  try simp only [List.getElem_toArray, List.getElem_cons_succ, List.getElem_cons_zero, Act.put, List.setIfInBounds_toArray, List.set_cons_zero, List.set_cons_succ]
  refine wpAnyH_take (i := 1) (v := ?_) rfl (by kernel_rfl) (by kernel_rfl) (by kernel_rfl) (fun _ _ _ h => h) (Or.inl ⟨by rfl, ?_⟩) (by assumption) ?_
  rotate_left
  · (intro w0 hSw; (try dsimp only at hSw); go_simp; try with_reducible rfl)
  try simp only [List.getElem_toArray, List.getElem_cons_succ, List.getElem_cons_zero, Act.put, List.setIfInBounds_toArray, List.set_cons_zero, List.set_cons_succ]
  refine wpAnyH_ready (rs := [2]) (by kernel_rfl) (by simp) ?_
  refine AllReadyH.cons rfl (fun K hK => ?_) AllReadyH.nil
  go_simp
  refine (HCD.out _).mono ?_
  rintro e w' ⟨rfl, rfl⟩
  try go_simp
  refine hK.out _ _ hHeld (fun hHeld => ?_)
  clear hK K
  have H4 := Lib.hid H3.out.drew
  have X4 := Lib.hid XV.out.drew
  have T4 := Lib.hid T3.out.drew
  have L4 := Lib.hid (show Line V.drew B g r0 r1 lim _ _ from L3.out.step (w' := V.drew) (below_drewN (Below.refl _ _) 1))
  generalize V.drew = Y at H4 X4 T4 L4 hHeld ⊢
  refine wpAnyH_ready (rs := [3]) (by kernel_rfl) (by simp) ?_
  refine AllReadyH.cons rfl (fun K hK => ?_) AllReadyH.nil
  refine step_store_mid (by rfl) 33 (.tmp 4) (.tmp 27) (by rfl) (w.heap.size + 1) 0 (wc ⟨pa, pb, pc, pd⟩) (by rfl) (by rfl) (wc_there (p := zW) _ H4.out) (wc_info _) (wc_one _) ?_
  have X5 := Lib.hid (X4.out.farCells (b := w.heap.size + 1) (by have := HNE.out; omega) (wc ⟨pa, pb, pc, pd⟩).toList 0)
  have H5 := Lib.hid (wc_put (p := zW) ⟨pa, pb, pc, pd⟩ H4.out)
  have L5 := Lib.hid (L4.out.turn (S := fun x => x = w.heap.size + 1) (Turn.setCells (S := fun x => x = w.heap.size + 1) (fun _ => rfl) (wc ⟨pa, pb, pc, pd⟩).toList 0 _ (Turn.refl _ _)) (fun x hx e => by have := (HLT.out x hx).2; omega))
  have T5 := Lib.hid (Turn.setCells (S := LS g r0 r1) (w := w) (b := w.heap.size + 1) (fun h => absurd h (by omega)) (wc ⟨pa, pb, pc, pd⟩).toList 0 _ T4.out)
  refine hK.out _ _ (four_at X5.out) (fun hHeld => ?_)
  clear hK K
  generalize Y.setCells (w.heap.size + 1) 0 (wc ⟨pa, pb, pc, pd⟩).toList = Z at X5 H5 L5 T5 hHeld ⊢
  refine wpAnyH_take (i := 4) (v := ?_) rfl (by kernel_rfl) (by kernel_rfl) (by kernel_rfl) (fun _ _ _ h => h) (Or.inl ⟨by rfl, ?_⟩) (by assumption) ?_
  rotate_left
  · (intro w0 hSw; (try dsimp only at hSw); go_simp; try with_reducible rfl)
  try simp only [List.getElem_toArray, List.getElem_cons_succ, List.getElem_cons_zero, Act.put, List.setIfInBounds_toArray, List.set_cons_zero, List.set_cons_succ]
  refine wpAnyH_done (by kernel_rfl) ?_ _
  clear hHeld
  go_wp2_with fail
  exact bodyPost_ret (v := .tuple #[.agg (wc ⟨pa, pb, pc, pd⟩), .int .i64 cd]) (results_cell_and rfl rfl rfl (loadW H5.out)) rfl ⟨by rw [HP.out.1, HP.out.2], L5.out, T5.out⟩
set_option maxRecDepth 100000 in
set_option maxHeartbeats 4000000 in
theorem act_leave (a b c : Int) (d : Bool) (w : World) (h : Line w B g r0 r1 lim U D) : Calls Try.prog 10 #[.pointer (some ⟨g, 0, none⟩), .agg #[.int .i64 2, .int .i64 a, .int .i64 b, .int .i64 c, .bool d]] w fun e w' => e = .returned (.tuple #[.agg (wc (levW (a) U D)), .int .i64 (levC (a) U D)]) ∧
    Line w' B g r0 r1 lim (levU (a) U) (levD (a) U D) ∧ Turn (LS g r0 r1) w w' := by
  have H0 := Lib.hid (show Blk ((w.alloc (.cells #[.int .i64 2, .int .i64 a, .int .i64 b, .int .i64 c, .bool d] 35)).alloc (.cells (wc zW) 33)) (w.heap.size + 1) 33 (wc zW) from Blk.new_at (by simp) _ _)
  have H := Lib.hid (h.step (Joins.below_alloc2 w (.cells #[.int .i64 2, .int .i64 a, .int .i64 b, .int .i64 c, .bool d] 35) (.cells (wc zW) 33)))
  have HLT := Lib.hid h.ls_lt
  have BA := Lib.hid (show Below w.heap.size w ((w.alloc (.cells #[.int .i64 2, .int .i64 a, .int .i64 b, .int .i64 c, .bool d] 35)).alloc (.cells (wc zW) 33)) from Joins.below_alloc2 w _ _)
  clear h
  go_enter Try.func10, Try.ntmps10
  rw [wc_zero] at H0 H BA
  go_wp2_with fail
  refine (leave_any a _ H.out).mono ?_
  rintro e w2 ⟨rfl, hl, ht⟩
  have HV := Lib.hid (findV_lev (a) U D)
  have HCD := Lib.hid (code_lev (a) U D)
  rw [HV.out]
  have H2 := Lib.hid (H0.out.turn ht (fun hs => by have := (HLT.out _ hs).2; omega))
  have T2 := Lib.hid ((Turn.of_below BA.out).trans (S := LS g r0 r1) ht (fun _ _ h => h))
  have L2 := Lib.hid hl
  clear hl ht
  generalize hp1 : levW (a) U D = p at HV ⊢
  generalize levE (a) U D = er at HV HCD ⊢
  generalize hp2 : levC (a) U D = cd at HCD ⊢
  obtain ⟨pa, pb, pc, pd⟩ := p
  have HP := Lib.hid (And.intro hp1 hp2)
  clear hp1 hp2
  rw [show wc ⟨pa, pb, pc, pd⟩ = #[.int .i64 pa, .int .i64 pb, .int .i64 pc, .bool pd] from rfl]
  obtain ⟨V, hV⟩ : ∃ V, V = w2.alloc (.cells #[.int .i64 pa, .int .i64 pb, .int .i64 pc, .bool pd] 33) := ⟨_, rfl⟩
  have BV : Below w2.heap.size w2 V := by rw [hV]; exact Joins.below_alloc1 w2 _
  have XV := Lib.hid (show Blk V w2.heap.size 33 (wc ⟨pa, pb, pc, pd⟩) by rw [hV]; exact Blk.new w2 _ _)
  have H3 := Lib.hid (H2.out.here BV)
  have T3 := Lib.hid (T2.out.step BV)
  have L3 := Lib.hid (L2.out.step BV)
  have HNE := Lib.hid (show w.heap.size + 1 < w2.heap.size from H2.out.lt)
  clear HV H H0 H2 T2 L2
  go_wp2_with fail
  rw [← hV]
  clear hV BV
  refine wp_region_held_drew (S := fun w' => ∀ j v, (wv ⟨pa, pb, pc, pd⟩)[j]? = some v → w'.cell? ((⟨w2.heap.size, 0, none⟩ : Addr).add j) = some v) (by kernel_rfl) (four_at XV.out.drew) (fun hHeld => ?_)
  refine wpAnyH_take (i := 0) (v := .agg (wc ⟨pa, pb, pc, pd⟩)) rfl (by kernel_rfl) (by kernel_rfl) (by kernel_rfl) (fun _ _ _ h => h) (Or.inl ⟨by rfl, fun w0 hSw => exec_load (x := .tmp 8) rfl (ad := ⟨w2.heap.size, 0, none⟩) rfl (run_loadVar_cells w0 _ _ (wv ⟨pa, pb, pc, pd⟩) _ hSw Try.underlying33 rfl info_wait4)⟩) (by assumption) ?_
  try simp only [List.getElem_toArray, List.getElem_cons_succ, List.getElem_cons_zero, Act.put, List.setIfInBounds_toArray, List.set_cons_zero, List.set_cons_succ]
  refine wpAnyH_take (i := 1) (v := ?_) rfl (by kernel_rfl) (by kernel_rfl) (by kernel_rfl) (fun _ _ _ h => h) (Or.inl ⟨by rfl, ?_⟩) (by assumption) ?_
  rotate_left
  · (intro w0 hSw; (try dsimp only at hSw); go_simp; try with_reducible rfl)
  try simp only [List.getElem_toArray, List.getElem_cons_succ, List.getElem_cons_zero, Act.put, List.setIfInBounds_toArray, List.set_cons_zero, List.set_cons_succ]
  refine wpAnyH_ready (rs := [2]) (by kernel_rfl) (by simp) ?_
  refine AllReadyH.cons rfl (fun K hK => ?_) AllReadyH.nil
  go_simp
  refine (HCD.out _).mono ?_
  rintro e w' ⟨rfl, rfl⟩
  try go_simp
  refine hK.out _ _ hHeld (fun hHeld => ?_)
  clear hK K
  have H4 := Lib.hid H3.out.drew
  have X4 := Lib.hid XV.out.drew
  have T4 := Lib.hid T3.out.drew
  have L4 := Lib.hid (show Line V.drew B g r0 r1 lim _ _ from L3.out.step (w' := V.drew) (below_drewN (Below.refl _ _) 1))
  generalize V.drew = Y at H4 X4 T4 L4 hHeld ⊢
  refine wpAnyH_ready (rs := [3]) (by kernel_rfl) (by simp) ?_
  refine AllReadyH.cons rfl (fun K hK => ?_) AllReadyH.nil
  refine step_store_mid (by rfl) 33 (.tmp 4) (.tmp 40) (by rfl) (w.heap.size + 1) 0 (wc ⟨pa, pb, pc, pd⟩) (by rfl) (by rfl) (wc_there (p := zW) _ H4.out) (wc_info _) (wc_one _) ?_
  have X5 := Lib.hid (X4.out.farCells (b := w.heap.size + 1) (by have := HNE.out; omega) (wc ⟨pa, pb, pc, pd⟩).toList 0)
  have H5 := Lib.hid (wc_put (p := zW) ⟨pa, pb, pc, pd⟩ H4.out)
  have L5 := Lib.hid (L4.out.turn (S := fun x => x = w.heap.size + 1) (Turn.setCells (S := fun x => x = w.heap.size + 1) (fun _ => rfl) (wc ⟨pa, pb, pc, pd⟩).toList 0 _ (Turn.refl _ _)) (fun x hx e => by have := (HLT.out x hx).2; omega))
  have T5 := Lib.hid (Turn.setCells (S := LS g r0 r1) (w := w) (b := w.heap.size + 1) (fun h => absurd h (by omega)) (wc ⟨pa, pb, pc, pd⟩).toList 0 _ T4.out)
  refine hK.out _ _ (four_at X5.out) (fun hHeld => ?_)
  clear hK K
  generalize Y.setCells (w.heap.size + 1) 0 (wc ⟨pa, pb, pc, pd⟩).toList = Z at X5 H5 L5 T5 hHeld ⊢
  refine wpAnyH_take (i := 4) (v := ?_) rfl (by kernel_rfl) (by kernel_rfl) (by kernel_rfl) (fun _ _ _ h => h) (Or.inl ⟨by rfl, ?_⟩) (by assumption) ?_
  rotate_left
  · (intro w0 hSw; (try dsimp only at hSw); go_simp; try with_reducible rfl)
  try simp only [List.getElem_toArray, List.getElem_cons_succ, List.getElem_cons_zero, Act.put, List.setIfInBounds_toArray, List.set_cons_zero, List.set_cons_succ]
  refine wpAnyH_done (by kernel_rfl) ?_ _
  clear hHeld
  go_wp2_with fail
  exact bodyPost_ret (v := .tuple #[.agg (wc ⟨pa, pb, pc, pd⟩), .int .i64 cd]) (results_cell_and rfl rfl rfl (loadW H5.out)) rfl ⟨by rw [HP.out.1, HP.out.2], L5.out, T5.out⟩
theorem act_any (K : Int) (q : Wt) (w : World) (h : Line w B g r0 r1 lim U D) : Calls Try.prog 10 #[.pointer (some ⟨g, 0, none⟩), .agg #[.int .i64 K, .int .i64 q.tx, .int .i64 q.sq, .int .i64 q.md, .bool q.up]] w fun e w' => e = .returned (.tuple #[.agg (wc (actW K q U D)), .int .i64 (actC lim K q U D)]) ∧
    ∃ r0' r1', Line w' B g r0' r1' lim (actU lim K q U D) (actD lim K q U D) ∧ Turn (LS g r0 r1) w w' ∧ LNext w r0 r1 r0' r1' := by
  obtain ⟨a, b, c, d⟩ := q
  unfold actW actC actU actD
  by_cases h0 : K = 0
  · subst h0
    simp only [if_true]
    exact act_push a b c d w h
  · by_cases h1 : K = 1
    · subst h1
      simp only [if_neg h0, if_true]
      refine (act_pop a b c d w h).mono ?_
      rintro e w' ⟨rfl, hl, ht⟩
      exact ⟨rfl, r0, r1, hl, ht, LNext.refl _ _ _⟩
    · by_cases h2 : K = 2
      · subst h2
        simp only [if_neg h0, if_neg h1, if_true]
        refine (act_leave a b c d w h).mono ?_
        rintro e w' ⟨rfl, hl, ht⟩
        exact ⟨rfl, r0, r1, hl, ht, LNext.refl _ _ _⟩
      · simp only [if_neg h0, if_neg h1, if_neg h2]
        refine (act_else K a b c d w h0 h1 h2 h).mono ?_
        rintro e w' ⟨rfl, hb⟩
        exact ⟨rfl, r0, r1, h.step hb, Turn.of_below hb, LNext.refl _ _ _⟩
end
end Go.Proofs.Ytflnjechinfcdaa
