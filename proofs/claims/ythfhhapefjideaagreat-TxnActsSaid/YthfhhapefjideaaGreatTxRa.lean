/- The document's answers for a transaction: has, Decided, Over, form, lock. -/
import Derived.Test.YthfhhapefjideaaGreatTxQ
import Derived.Test.YthfhhapefjideaaGreatLaw4L
namespace Go.Proofs.YthfhhapefjideaaGreat
open Go.RowKit
set_option linter.unusedVariables false
set_option linter.unusedSimpArgs false

set_option maxRecDepth 100000 in
set_option maxHeartbeats 8000000 in
theorem refHas_any {B : Nat} {v : Value} {l : List Int} (n : Int) (w : World) (h : NumR w B v l) (hn : l.length ≤ 1000) :
    Calls Tryz.prog 39 #[v, .int .i64 n] w fun e w' => e = .returned (.bool (l.contains n)) ∧ w' = w := by
  obtain ⟨A, c, rfl, rd, _, _⟩ := own_rd h
  have RD := Lib.hid rd
  clear rd h
  go_enter Tryz.func39, Tryz.ntmps39
  go_wp2_with fail
  go_loopw [5] (fun s5 wr => ∃ i : Nat, s5 = .int .i64 i ∧ i ≤ l.length ∧ (∀ j : Nat, j < i → gd l j ≠ n) ∧ wr = w) (fun s5 _ => l.length - (RowKit.intOf s5).toNat)
  case atStart => exact ⟨0, rfl, Nat.zero_le _, fun j hj => by omega, rfl⟩
  case round =>
    obtain ⟨i, rfl, hi, hno, hw⟩ := hrel
    subst hw
    have HNO := Lib.hid hno
    clear hno
    by_cases hin : i < l.length
    · obtain ⟨b, off, rfl, _, hct⟩ := int_cells RD.out (by omega)
      have k1 := hct i hin
      clear hct
      have d1 : decide ((i : Int) < (l.length : Int)) = true := by simp; omega
      cases he : (gd l i == n) with
      | false =>
        have HE := Lib.hid (show gd l i ≠ n from by simpa using he)
        generalize gd l i = y at k1 he
        go_wp2_with fail
        go_roundw
        case rel =>
          refine ⟨i + 1, by go_num, by omega, fun j hj => ?_, by first | rfl | trivial⟩
          rcases Nat.lt_or_ge j i with h | h
          · exact HNO.out j h
          · obtain rfl : j = i := by omega
            exact HE.out
        case measure => simp [RowKit.intOf]; omega
      | true =>
        have HM := Lib.hid (show l.contains n = true from by
          have e : gd l i = n := by simpa using he
          rw [gd_get hin] at e
          rw [← e]; simp)
        generalize gd l i = y at k1 he
        go_wp2_with fail
        go_ret
        rw [HM.out]
        exact ⟨rfl, rfl⟩
    · obtain rfl : i = l.length := by omega
      have d1 : decide ((l.length : Int) < (l.length : Int)) = false := by simp
      have HM := Lib.hid (show l.contains n = false from by
        cases hc : l.contains n with
        | false => rfl
        | true =>
          obtain ⟨j, hj, e⟩ := List.getElem_of_mem (show n ∈ l from by simpa using hc)
          exact absurd (by rw [gd_get hj]; exact e) (HNO.out j hj))
      go_wp2_with fail
      go_ret
      rw [HM.out]
      exact ⟨rfl, rfl⟩
set_option maxRecDepth 100000 in
set_option maxHeartbeats 8000000 in
theorem refDecided_b (x : Tr) (s : Sl) (w : World) (b : Bool) (hb : decided x = b) :
    Calls Tryz.prog 15 #[.agg (trc x s)] w fun e w' => e = .returned (.bool b) ∧ Below w.heap.size w w' := by
  have XV := Lib.hid (Blk.new w 37 (trc x s))
  have BV := Lib.hid (Joins.below_alloc1 w (.cells (trc x s) 37))
  have HB := Lib.hid hb
  clear hb
  go_enter Tryz.func15, Tryz.ntmps15
  go_upto_region 1 with fail
  obtain ⟨g, hg⟩ : ∃ g, g = w.heap.size := ⟨_, rfl⟩
  have HG := Lib.hid hg
  rw [← hg] at XV ⊢
  clear hg
  generalize w.alloc (.cells (trc x s) 37) = V at XV BV ⊢
  have c1 : V.cell? ⟨g, 1, none⟩ = some (.int .i64 x.st) := XV.out.cell 1
  by_cases h3 : x.st = 3
  · have e3 : (x.st == 3) = true := by simpa using h3
    have e : b = true := by rw [← HB.out]; unfold decided; simp [h3]
    subst e
    clear h3
    go_wp2_with fail
    go_ret
    exact ⟨rfl, BV.out⟩
  · have e3 : (x.st == 3) = false := by simpa using h3
    cases e4 : (x.st == 4) with
    | true =>
      have e : b = true := by rw [← HB.out]; unfold decided; simp at e4; simp [e4]
      subst e
      clear h3
      go_wp2_with fail
      go_ret
      exact ⟨rfl, BV.out⟩
    | false =>
      have e : b = false := by rw [← HB.out]; unfold decided; simp at e4; simp [e4, h3]
      subst e
      clear h3
      go_wp2_with fail
      go_ret
      exact ⟨rfl, BV.out⟩
end Go.Proofs.YthfhhapefjideaaGreat
/- The document's answers for a transaction: lock, form, Over. -/
namespace Go.Proofs.YthfhhapefjideaaGreat
open Go.RowKit
set_option linter.unusedVariables false
set_option linter.unusedSimpArgs false

theorem refHas_b {B : Nat} {v : Value} {l : List Int} (n : Int) (r : Bool) (hr : l.contains n = r) (w : World) (h : NumR w B v l) (hn : l.length ≤ 1000) :
    Calls Tryz.prog 39 #[v, .int .i64 n] w fun e w' => e = .returned (.bool r) ∧ w' = w := by
  have := refHas_any n w h hn
  rw [hr] at this
  exact this
set_option maxRecDepth 100000 in
set_option maxHeartbeats 4000000 in
theorem refLock_any (x : Tr) (s : Sl) (w : World) :
    Calls Tryz.prog 37 #[.agg (trc x s)] w fun e w' => e = .returned (.agg (mc (lockL x x.sh))) ∧ Below w.heap.size w w' := by
  have X1 := Lib.hid ((Blk.new w 37 (trc x s)).alloc (.cells zMs 46))
  have Z1 := Lib.hid (show Blk ((w.alloc (.cells (trc x s) 37)).alloc (.cells zMs 46)) (w.heap.size + 1) 46 (mc zM) from Blk.new_at (by simp) _ _)
  have B1 := Lib.hid ((Joins.below_alloc1 w (.cells (trc x s) 37)).alloc (by simp) (.cells zMs 46))
  have HIQ := Lib.hid (mc_info (m := lockL x x.sh) rfl)
  have BU := Lib.hid (ints_oneCell (lockL x x.sh))
  go_enter Tryz.func37, Tryz.ntmps37
  go_upto_region 1 with fail
  obtain ⟨g, hg⟩ : ∃ g, g = w.heap.size := ⟨_, rfl⟩
  have HG := Lib.hid hg
  rw [← hg] at X1 Z1 ⊢
  clear hg
  generalize (w.alloc (.cells (trc x s) 37)).alloc (.cells zMs 46) = V at X1 Z1 B1 ⊢
  have c0 : V.cell? ⟨g, 0, none⟩ = some (.int .i64 x.tx) := X1.out.cell 0
  have c3 : V.cell? ⟨g, 3, none⟩ = some (.int .i64 x.sq) := X1.out.cell 3
  have c5 : V.cell? ⟨g, 5, none⟩ = some (.int .i64 x.sh) := X1.out.cell 5
  have c6 : V.cell? ⟨g, 6, none⟩ = some (.int .i64 x.a0) := X1.out.cell 6
  have c7 : V.cell? ⟨g, 7, none⟩ = some (.int .i64 x.a1) := X1.out.cell 7
  have c8 : V.cell? ⟨g, 8, none⟩ = some (.int .i64 x.md) := X1.out.cell 8
  go_wp2_with (first
    | (refine wpList_store_mid (by rfl) 46 (.tmp 2) (.tmp 13) (by rfl) (g + 1) 0 (mc (lockL x x.sh)) (by rfl) (by rfl) (mc_there zM_length rfl Z1.out) HIQ.out BU.out ?_))
  exact bodyPost_ret (v := .agg (mc (lockL x x.sh))) (results_one rfl rfl (results_msg rfl (mc_put zM_length rfl Z1.out))) rfl ⟨rfl, Below.setCells (by have := HG.out; omega) _ _ _ B1.out⟩
theorem isOf_one (x : Tr) (m : List Int) (k : Int) : isOf x m [k] = ((fld m 0 == k) && (mayB m && (fld m 3 == x.tx))) := by
  unfold isOf
  cases hm : mayB m <;> simp [Bool.beq_eq_decide_eq]
set_option maxRecDepth 100000 in
set_option maxHeartbeats 8000000 in
theorem refForm_any (x : Tr) (s : Sl) (m : List Int) (k : Int) (hm : m.length = 28) (w : World) :
    Calls Tryz.prog 51 #[.agg (trc x s), .agg (mc m), .int .i64 k] w fun e w' => e = .returned (.bool (isOf x m [k])) ∧ Below w.heap.size w w' := by
  have X1 := Lib.hid ((Blk.new w 37 (trc x s)).alloc (.cells (mc m) 46))
  have M1 := Lib.hid (show Blk ((w.alloc (.cells (trc x s) 37)).alloc (.cells (mc m) 46)) (w.heap.size + 1) 46 (mc m) from Blk.new_at (by simp) _ _)
  have B1 := Lib.hid ((Joins.below_alloc1 w (.cells (trc x s) 37)).alloc (by simp) (.cells (mc m) 46))
  have HM := Lib.hid hm
  have HI := Lib.hid (mc_info hm)
  clear hm
  go_enter Tryz.func51, Tryz.ntmps51
  go_upto_region 1 with fail
  obtain ⟨g, hg⟩ : ∃ g, g = w.heap.size := ⟨_, rfl⟩
  have HG := Lib.hid hg
  rw [← hg] at X1 M1 ⊢
  clear hg
  generalize (w.alloc (.cells (trc x s) 37)).alloc (.cells (mc m) 46) = V at X1 M1 B1 ⊢
  have k0 : V.cell? ⟨g + 1, 0, none⟩ = some (.int .i64 (fld m 0)) := mc_cell HM.out M1.out (by omega)
  cases h0 : (fld m 0 == k) with
  | false =>
    have HE := Lib.hid (show isOf x m [k] = false from by rw [isOf_one, h0]; rfl)
    generalize fld m 0 = f0 at k0 h0
    go_wp2_with fail
    go_ret
    rw [HE.out]
    exact ⟨rfl, B1.out⟩
  | true =>
    cases hy : mayB m with
    | false =>
      have HY := Lib.hid hy
      have HE := Lib.hid (show isOf x m [k] = false from by rw [isOf_one, h0, hy]; simp)
      clear hy
      generalize fld m 0 = f0 at k0 h0
      go_wp2_with (first
        | (refine wpList_load_row_g (by rfl) 46 (.tmp 4) rfl (g + 1) rfl 46 (mc m) (0, 0) _ M1.out Tryz.underlying46 rfl HI.out ?_))
      refine (refOk_any m HM.out _).mono ?_
      rintro e V2 ⟨rfl, hb⟩
      rw [HY.out]
      have B2 := Lib.hid (stepB B1.out hb)
      clear hb
      go_wp2_with fail
      go_ret
      rw [HE.out]
      exact ⟨rfl, B2.out⟩
    | true =>
      have HY := Lib.hid hy
      have HE := Lib.hid (show isOf x m [k] = (fld m 3 == x.tx) from by rw [isOf_one, h0, hy]; simp)
      clear hy
      generalize fld m 0 = f0 at k0 h0
      go_wp2_with (first
        | (refine wpList_load_row_g (by rfl) 46 (.tmp 4) rfl (g + 1) rfl 46 (mc m) (0, 0) _ M1.out Tryz.underlying46 rfl HI.out ?_))
      refine (refOk_any m HM.out _).mono ?_
      rintro e V2 ⟨rfl, hb⟩
      rw [HY.out]
      have B2 := Lib.hid (stepB B1.out hb)
      have k3 : V2.cell? ⟨g + 1, 3, none⟩ = some (.int .i64 (fld m 3)) := mc_cell HM.out (M1.out.here hb) (by omega)
      have c0 : V2.cell? ⟨g, 0, none⟩ = some (.int .i64 x.tx) := (X1.out.here hb).cell 0
      clear hb
      go_wp2_with fail
      go_ret
      rw [HE.out]
      exact ⟨rfl, B2.out⟩
theorem over_not {x : Tr} {n : Int} (h1 : n ∈ x.tch) (h2 : x.acks.contains n = false) : overB x = false := by
  unfold overB
  rw [decide_eq_false, Bool.and_false]
  intro e
  have := without_nil.1 e n h1
  simp at h2
  exact h2 this
theorem over_all {x : Tr} (h : ∀ j : Nat, j < x.tch.length → x.acks.contains (gd x.tch j) = true) : overB x = decided x := by
  unfold overB
  rw [decide_eq_true, Bool.and_true]
  rw [without_nil]
  intro n hn
  obtain ⟨j, hj, e⟩ := List.getElem_of_mem hn
  have := h j hj
  rw [gd_get hj, e] at this
  simpa using this
set_option maxRecDepth 100000 in
set_option maxHeartbeats 8000000 in
theorem refOver_any {B : Nat} (x : Tr) (s : Sl) (w : World) (h : Tm w B x s) (ht : x.tch.length ≤ 1000) (hk : x.acks.length ≤ 1000) :
    Calls Tryz.prog 17 #[.agg (trc x s)] w fun e w' => e = .returned (.bool (overB x)) ∧ Below w.heap.size w w' := by
  have XV := Lib.hid (Blk.new w 37 (trc x s))
  have BV := Lib.hid (Joins.below_alloc1 w (.cells (trc x s) 37))
  have TV := Lib.hid (h.step BV.out)
  have HK := Lib.hid hk
  clear h hk
  go_enter Tryz.func17, Tryz.ntmps17
  go_upto_region 1 with fail
  obtain ⟨g, hg⟩ : ∃ g, g = w.heap.size := ⟨_, rfl⟩
  have HG := Lib.hid hg
  rw [← hg] at XV ⊢
  clear hg
  generalize w.alloc (.cells (trc x s) 37) = V at XV BV TV ⊢
  obtain ⟨At, ct, et, rt, _, _⟩ := own_rd TV.out.t
  obtain ⟨Ak, ck, ek⟩ := own_len TV.out.k
  have RT := Lib.hid rt
  have KR := Lib.hid (show NumR V B (.slice Ak x.acks.length ck) x.acks from by rw [← ek]; exact TV.out.k)
  have x9 : V.cell? ⟨g, 9, none⟩ = some (.slice At x.tch.length ct) := by rw [← et]; exact XV.out.cell 9
  have x11 : V.cell? ⟨g, 11, none⟩ = some (.slice Ak x.acks.length ck) := by rw [← ek]; exact XV.out.cell 11
  clear rt et ek
  go_wp2_with fail
  go_loopw [3] (fun s3 wr => ∃ (i q : Nat), s3 = .int .i64 i ∧ i ≤ x.tch.length ∧ (∀ j : Nat, j < i → x.acks.contains (gd x.tch j) = true) ∧ wr = V.drewN q) (fun s3 _ => x.tch.length - (RowKit.intOf s3).toNat)
  case atStart => exact ⟨0, 0, rfl, Nat.zero_le _, fun j hj => by omega, rfl⟩
  case round =>
    obtain ⟨i, q, rfl, hi, hno, rfl⟩ := hrel
    have HNO := Lib.hid hno
    clear hno
    by_cases hin : i < x.tch.length
    · obtain ⟨b, off, rfl, _, hct⟩ := int_cells RT.out (by omega)
      have k1 := hct i hin
      clear hct
      have d1 : decide ((i : Int) < (x.tch.length : Int)) = true := by simp; omega
      have HMEM := Lib.hid (show gd x.tch i ∈ x.tch from by rw [gd_get hin]; exact List.getElem_mem _)
      obtain ⟨y, hy⟩ : ∃ y, gd x.tch i = y := ⟨_, rfl⟩
      have HY := Lib.hid hy
      rw [hy] at k1
      clear hy
      obtain ⟨r, hr⟩ : ∃ r, x.acks.contains y = r := ⟨_, rfl⟩
      have HR := Lib.hid hr
      clear hr
      have HAS := Lib.hid (fun W h => refHas_b (B := B) (v := .slice Ak x.acks.length ck) (l := x.acks) y r HR.out W h HK.out)
      generalize x.acks.length = NK at x11 KR HAS
      go_upto_region 4 with fail
      refine wp_region_held_drew (S := fun w' => w'.cell? ⟨g, 9, none⟩ = some (.slice (some ⟨b, off, none⟩) x.tch.length ct) ∧ w'.cell? ⟨g, 11, none⟩ = some (.slice Ak NK ck) ∧ w'.cell? ⟨b, off + i, none⟩ = some (.int .i64 y)) (by kernel_rfl) ⟨x9, x11, k1⟩ (fun hHeld => ?_)
      refine wpAnyH_take (i := 0) (v := ?_) rfl (by kernel_rfl) (by kernel_rfl) (by kernel_rfl) (fun _ _ _ h => h) (Or.inl ⟨by rfl, ?_⟩) (by assumption) ?_
      rotate_left
      · (intro w0 hSw; (try dsimp only at hSw); go_simp; try with_reducible rfl)
      try simp only [List.getElem_toArray, List.getElem_cons_succ, List.getElem_cons_zero, Act.put, List.setIfInBounds_toArray, List.set_cons_zero, List.set_cons_succ]
      refine wpAnyH_take (i := 1) (v := ?_) rfl (by kernel_rfl) (by kernel_rfl) (by kernel_rfl) (fun _ _ _ h => h) (Or.inl ⟨by rfl, ?_⟩) (by assumption) ?_
      rotate_left
      · (intro w0 hSw; (try dsimp only at hSw); go_simp; try with_reducible rfl)
      try simp only [List.getElem_toArray, List.getElem_cons_succ, List.getElem_cons_zero, Act.put, List.setIfInBounds_toArray, List.set_cons_zero, List.set_cons_succ]
      refine wpAnyH_take (i := 2) (v := ?_) rfl (by kernel_rfl) (by kernel_rfl) (by kernel_rfl) (fun _ _ _ h => h) (Or.inl ⟨by rfl, ?_⟩) (by assumption) ?_
      rotate_left
      · (intro w0 hSw; (try dsimp only at hSw); go_simp; try with_reducible rfl)
      try simp only [List.getElem_toArray, List.getElem_cons_succ, List.getElem_cons_zero, Act.put, List.setIfInBounds_toArray, List.set_cons_zero, List.set_cons_succ]
      refine wpAnyH_take (i := 3) (v := ?_) rfl (by kernel_rfl) (by kernel_rfl) (by kernel_rfl) (fun _ _ _ h => h) (Or.inl ⟨by rfl, ?_⟩) (by assumption) ?_
      rotate_left
      · (intro w0 hSw; (try dsimp only at hSw); go_simp; try with_reducible rfl)
      try simp only [List.getElem_toArray, List.getElem_cons_succ, List.getElem_cons_zero, Act.put, List.setIfInBounds_toArray, List.set_cons_zero, List.set_cons_succ]
      refine wpAnyH_take (i := 4) (v := ?_) rfl (by kernel_rfl) (by kernel_rfl) (by kernel_rfl) (fun _ _ _ h => h) (Or.inl ⟨by rfl, ?_⟩) (by assumption) ?_
      rotate_left
      · (intro w0 hSw; (try dsimp only at hSw); go_simp; try with_reducible rfl)
      try simp only [List.getElem_toArray, List.getElem_cons_succ, List.getElem_cons_zero, Act.put, List.setIfInBounds_toArray, List.set_cons_zero, List.set_cons_succ]
      refine wpAnyH_take (i := 5) (v := ?_) rfl (by kernel_rfl) (by kernel_rfl) (by kernel_rfl) (fun _ _ _ h => h) (Or.inl ⟨by rfl, ?_⟩) (by assumption) ?_
      rotate_left
      · (intro w0 hSw; (try dsimp only at hSw); go_simp; try with_reducible rfl)
      try simp only [List.getElem_toArray, List.getElem_cons_succ, List.getElem_cons_zero, Act.put, List.setIfInBounds_toArray, List.set_cons_zero, List.set_cons_succ]
      refine wpAnyH_take (i := 6) (v := ?_) rfl (by kernel_rfl) (by kernel_rfl) (by kernel_rfl) (fun _ _ _ h => h) (Or.inl ⟨by rfl, ?_⟩) (by assumption) ?_
      rotate_left
      · (intro w0 hSw; (try dsimp only at hSw); go_simp; try with_reducible rfl)
      try simp only [List.getElem_toArray, List.getElem_cons_succ, List.getElem_cons_zero, Act.put, List.setIfInBounds_toArray, List.set_cons_zero, List.set_cons_succ]
      refine wpAnyH_ready (rs := [7]) (by kernel_rfl) (by simp) ?_
      refine AllReadyH.cons rfl (fun K hK => ?_) AllReadyH.nil
      go_simp
      refine (HAS.out _ (own_step KR.out (below_drewN (Below.refl _ _) (q + 1)))).mono ?_
      rintro e V2 ⟨rfl, hv⟩
      subst hv
      try go_simp
      refine hK.out _ _ ⟨x9, x11, k1⟩ (fun hHeld => ?_)
      clear hK K
      refine wpAnyH_take (i := 8) (v := ?_) rfl (by kernel_rfl) (by kernel_rfl) (by kernel_rfl) (fun _ _ _ h => h) (Or.inl ⟨by rfl, ?_⟩) (by assumption) ?_
      rotate_left
      · (intro w0 hSw; (try dsimp only at hSw); go_simp; try with_reducible rfl)
      try simp only [List.getElem_toArray, List.getElem_cons_succ, List.getElem_cons_zero, Act.put, List.setIfInBounds_toArray, List.set_cons_zero, List.set_cons_succ]
      refine wpAnyH_done (by kernel_rfl) ?_ _
      clear hHeld
      cases r with
      | false =>
        have HO := Lib.hid (over_not HMEM.out (by rw [HY.out]; exact HR.out))
        go_wp2_with fail
        go_ret
        rw [HO.out]
        exact ⟨rfl, below_drewN BV.out _⟩
      | true =>
        go_wp2_with fail
        go_roundw
        case rel =>
          refine ⟨i + 1, _, by go_num, by omega, fun j hj => ?_, rfl⟩
          rcases Nat.lt_or_ge j i with h | h
          · exact HNO.out j h
          · obtain rfl : j = i := by omega
            rw [HY.out]; exact HR.out
        case measure => simp [RowKit.intOf]; omega
    · obtain rfl : i = x.tch.length := by omega
      have d1 : decide ((x.tch.length : Int) < (x.tch.length : Int)) = false := by simp
      have HO := Lib.hid (over_all HNO.out)
      have XQ := Lib.hid (XV.out.here (below_drewN (Below.refl _ _) q))
      have BQ := Lib.hid (below_drewN BV.out q)
      have y9 : (V.drewN q).cell? ⟨g, 9, none⟩ = some (.slice At x.tch.length ct) := x9
      clear x9 x11
      generalize V.drewN q = V1 at XQ BQ y9 ⊢
      go_wp2_with (first
        | (refine wpList_load_row rfl 37 (.tmp 1) rfl g rfl 37 (trc x s) (0, 0) _ XQ.out Tryz.underlying37 rfl (tr_infoR _ _) ?_)
        | (go_at_call 15; refine (refDecided_b x s _ _ rfl).mono ?_; rintro e V2 ⟨rfl, hb⟩; have B2 := Lib.hid (stepB BQ.out hb); clear hb))
      go_ret
      rw [HO.out]
      exact ⟨rfl, B2.out⟩
end Go.Proofs.YthfhhapefjideaaGreat
/- The document's messages to each of some shards. -/
namespace Go.Proofs.YthfhhapefjideaaGreat
open Go.RowKit
set_option linter.unusedVariables false
set_option linter.unusedSimpArgs false

/-- A message to each shard that is touched, but some. -/
def eachL (x : Tr) (k cd : Int) (l o : List Int) : List (List Int) := (withoutL l o).map fun t => msgL k t x.tx 0 0 0 0 cd
theorem eachL_take {x : Tr} {k cd : Int} {l o : List Int} {j : Nat} (h : j < l.length) : eachL x k cd (l.take (j + 1)) o = eachL x k cd (l.take j) o ++ (if o.contains (gd l j) then [] else [msgL k (gd l j) x.tx 0 0 0 0 cd]) := by
  unfold eachL withoutL
  rw [List.take_succ_eq_append_getElem h, List.filter_append, List.map_append, gd_get h]
  by_cases hc : l[j] ∈ o <;> simp [List.filter_cons, hc]
theorem eachL_len (x : Tr) (k cd : Int) (l o : List Int) : (eachL x k cd l o).length ≤ l.length := by unfold eachL withoutL; rw [List.length_map]; exact List.length_filter_le _ _
set_option maxRecDepth 100000 in
set_option maxHeartbeats 16000000 in
theorem refEach_any {B : Nat} {v : Value} {o : List Int} (x : Tr) (s : Sl) (k cd : Int) (w : World) (h : Tm w B x s) (ho : NumR w B v o) (ht : x.tch.length ≤ 1000) (hk : o.length ≤ 1000) :
    Calls Tryz.prog 38 #[.agg (trc x s), .int .i64 k, .int .i64 cd, v] w fun e w' => ∃ u, e = .returned u ∧ MsgR w' w.heap.size u (eachL x k cd x.tch o) ∧ Below w.heap.size w w' := by
  obtain ⟨i0, hi0, hz0, hz1, hz2⟩ := info_parts info_msg
  obtain ⟨Ab, cb, rfl⟩ := own_len ho
  have XV := Lib.hid (Blk.new w 37 (trc x s))
  have BV := Lib.hid (Joins.below_alloc1 w (.cells (trc x s) 37))
  have TV := Lib.hid (h.step BV.out)
  have OV := Lib.hid (own_step ho BV.out)
  have HK := Lib.hid hk
  clear h hk ho
  go_enter Tryz.func38, Tryz.ntmps38
  go_upto_region 1 with fail
  obtain ⟨g, hg⟩ : ∃ g, g = w.heap.size := ⟨_, rfl⟩
  have HG := Lib.hid hg
  rw [← hg] at XV ⊢
  clear hg
  generalize w.alloc (.cells (trc x s) 37) = V at XV BV TV OV ⊢
  obtain ⟨At, ct, et, rt, _, _⟩ := own_rd TV.out.t
  have RT := Lib.hid rt
  have EX := Lib.hid et
  clear rt et
  generalize hN : x.tch.length = N at RT EX ht ⊢
  have HN := Lib.hid hN
  clear hN
  go_wp2_with fail
  go_loopw [9, 10] (fun s9 s10 wr => ∃ (j : Nat), s10 = .int .i64 j ∧ j ≤ N ∧ MsgR wr V.heap.size s9 (eachL x k cd (x.tch.take j) o) ∧ Below V.heap.size V wr) (fun _ s10 _ => N - (RowKit.intOf s10).toNat)
  case atStart => exact ⟨0, rfl, Nat.zero_le _, World.ownsRow_nil _ _ _ _, Below.refl _ _⟩
  case round =>
    rename World => X
    obtain ⟨j, rfl, hj, hrow, hbel⟩ := hrel
    have XR := Lib.hid hrow
    have XB := Lib.hid hbel
    have XX := Lib.hid (XV.out.here XB.out)
    obtain ⟨A9, c9, rfl⟩ := own_len hrow
    have HL9 := Lib.hid (Nat.le_trans (eachL_len x k cd (x.tch.take j) o) (by rw [List.length_take]; exact Nat.min_le_left _ _))
    clear hrow hbel
    have x9 : X.cell? ⟨g, 9, none⟩ = some (.slice At N ct) := by rw [← EX.out]; exact XX.out.cell 9
    by_cases hin : j < N
    · obtain ⟨b, off, rfl, hbb, hct⟩ := int_cells (RT.out.below XB.out) (by omega)
      have k1 := hct j (by rw [HN.out]; exact hin)
      have ST := Lib.hid (eachL_take (x := x) (k := k) (cd := cd) (l := x.tch) (o := o) (j := j) (by rw [HN.out]; exact hin))
      clear hct
      have d1 : decide ((j : Int) < (N : Int)) = true := by simp; omega
      generalize gd x.tch j = y at k1 ST
      have OX := Lib.hid (own_step OV.out XB.out)
      have K0 := Lib.hid (And.intro x9 k1)
      obtain ⟨r, hr⟩ : ∃ r, o.contains y = r := ⟨_, rfl⟩
      rw [hr] at ST
      have HAS := Lib.hid (fun h => refHas_b (B := B) (v := .slice Ab o.length cb) (l := o) y r hr X h HK.out)
      clear hr
      cases r with
      | true =>
        have ST2 := Lib.hid (show eachL x k cd (x.tch.take (j + 1)) o = eachL x k cd (x.tch.take j) o from by rw [ST.out]; simp)
        go_wp2_with (go_at_call 39; refine (HAS.out OX.out).mono ?_; rintro e V2 ⟨rfl, hv⟩; obtain rfl := hv.symm; clear hv)
        go_roundw
        case rel => exact ⟨j + 1, by go_num, by omega, by rw [ST2.out]; exact XR.out, XB.out⟩
        case measure => simp [RowKit.intOf]; omega
      | false =>
        have ST2 := Lib.hid (show eachL x k cd (x.tch.take (j + 1)) o = eachL x k cd (x.tch.take j) o ++ [msgL k y x.tx 0 0 0 0 cd] from by rw [ST.out]; simp)
        clear ST
        have hgl := XX.out.lt
        have c0 : X.cell? ⟨g, 0, none⟩ = some (.int .i64 x.tx) := XX.out.cell 0
        go_upto_region 6 with (go_at_call 39; refine (HAS.out OX.out).mono ?_; rintro e V2 ⟨rfl, hv⟩; obtain rfl := hv.symm; clear hv)
        have KP := Lib.hid (show ∀ Y, Below X.heap.size X Y → (Y.cell? ⟨g, 9, none⟩ = some (.slice (some ⟨b, off, none⟩) N ct) ∧ Y.cell? ⟨g, 0, none⟩ = some (.int .i64 x.tx) ∧ Y.cell? ⟨b, off + j, none⟩ = some (.int .i64 y)) from fun Y hy =>
          ⟨(hy.cell (p := ⟨g, 9, none⟩) hgl).trans K0.out.1, (hy.cell (p := ⟨g, 0, none⟩) hgl).trans c0, (hy.cell (p := ⟨b, off + j, none⟩) (World.block_lt_of_cell? _ _ K0.out.2)).trans K0.out.2⟩)
        refine wp_region_held_drew (S := fun w' => w'.cell? ⟨g, 9, none⟩ = some (.slice (some ⟨b, off, none⟩) N ct) ∧ w'.cell? ⟨g, 0, none⟩ = some (.int .i64 x.tx) ∧ w'.cell? ⟨b, off + j, none⟩ = some (.int .i64 y)) (by kernel_rfl) (KP.out _ (Below.refl _ _).drew) (fun hHeld => ?_)
        have BD := Lib.hid (show Below X.heap.size X X.drew from (Below.refl _ _).drew)
        have RD := Lib.hid (own_step XR.out BD.out)
        generalize X.drew = X1 at BD RD hHeld ⊢
        refine wpAnyH_take (i := 0) (v := ?_) rfl (by kernel_rfl) (by kernel_rfl) (by kernel_rfl) (fun _ _ _ h => h) (Or.inl ⟨by rfl, ?_⟩) (by assumption) ?_
        rotate_left
        · (intro w0 hSw; (try dsimp only at hSw); go_simp; try with_reducible rfl)
        try simp only [List.getElem_toArray, List.getElem_cons_succ, List.getElem_cons_zero, Act.put, List.setIfInBounds_toArray, List.set_cons_zero, List.set_cons_succ]
        refine wpAnyH_take (i := 1) (v := ?_) rfl (by kernel_rfl) (by kernel_rfl) (by kernel_rfl) (fun _ _ _ h => h) (Or.inl ⟨by rfl, ?_⟩) (by assumption) ?_
        rotate_left
        · (intro w0 hSw; (try dsimp only at hSw); go_simp; try with_reducible rfl)
        try simp only [List.getElem_toArray, List.getElem_cons_succ, List.getElem_cons_zero, Act.put, List.setIfInBounds_toArray, List.set_cons_zero, List.set_cons_succ]
        refine wpAnyH_take (i := 2) (v := ?_) rfl (by kernel_rfl) (by kernel_rfl) (by kernel_rfl) (fun _ _ _ h => h) (Or.inl ⟨by rfl, ?_⟩) (by assumption) ?_
        rotate_left
        · (intro w0 hSw; (try dsimp only at hSw); go_simp; try with_reducible rfl)
        try simp only [List.getElem_toArray, List.getElem_cons_succ, List.getElem_cons_zero, Act.put, List.setIfInBounds_toArray, List.set_cons_zero, List.set_cons_succ]
        refine wpAnyH_take (i := 3) (v := ?_) rfl (by kernel_rfl) (by kernel_rfl) (by kernel_rfl) (fun _ _ _ h => h) (Or.inl ⟨by rfl, ?_⟩) (by assumption) ?_
        rotate_left
        · (intro w0 hSw; (try dsimp only at hSw); go_simp; try with_reducible rfl)
        try simp only [List.getElem_toArray, List.getElem_cons_succ, List.getElem_cons_zero, Act.put, List.setIfInBounds_toArray, List.set_cons_zero, List.set_cons_succ]
        refine wpAnyH_take (i := 4) (v := ?_) rfl (by kernel_rfl) (by kernel_rfl) (by kernel_rfl) (fun _ _ _ h => h) (Or.inl ⟨by rfl, ?_⟩) (by assumption) ?_
        rotate_left
        · (intro w0 hSw; (try dsimp only at hSw); go_simp; try with_reducible rfl)
        try simp only [List.getElem_toArray, List.getElem_cons_succ, List.getElem_cons_zero, Act.put, List.setIfInBounds_toArray, List.set_cons_zero, List.set_cons_succ]
        refine wpAnyH_take (i := 5) (v := ?_) rfl (by kernel_rfl) (by kernel_rfl) (by kernel_rfl) (fun _ _ _ h => h) (Or.inl ⟨by rfl, ?_⟩) (by assumption) ?_
        rotate_left
        · (intro w0 hSw; (try dsimp only at hSw); go_simp; try with_reducible rfl)
        try simp only [List.getElem_toArray, List.getElem_cons_succ, List.getElem_cons_zero, Act.put, List.setIfInBounds_toArray, List.set_cons_zero, List.set_cons_succ]
        refine wpAnyH_take (i := 6) (v := ?_) rfl (by kernel_rfl) (by kernel_rfl) (by kernel_rfl) (fun _ _ _ h => h) (Or.inl ⟨by rfl, ?_⟩) (by assumption) ?_
        rotate_left
        · (intro w0 hSw; (try dsimp only at hSw); go_simp; try with_reducible rfl)
        try simp only [List.getElem_toArray, List.getElem_cons_succ, List.getElem_cons_zero, Act.put, List.setIfInBounds_toArray, List.set_cons_zero, List.set_cons_succ]
        refine wpAnyH_take (i := 7) (v := ?_) rfl (by kernel_rfl) (by kernel_rfl) (by kernel_rfl) (fun _ _ _ h => h) (Or.inl ⟨by rfl, ?_⟩) (by assumption) ?_
        rotate_left
        · (intro w0 hSw; (try dsimp only at hSw); go_simp; try with_reducible rfl)
        try simp only [List.getElem_toArray, List.getElem_cons_succ, List.getElem_cons_zero, Act.put, List.setIfInBounds_toArray, List.set_cons_zero, List.set_cons_succ]
        refine wpAnyH_take (i := 8) (v := ?_) rfl (by kernel_rfl) (by kernel_rfl) (by kernel_rfl) (fun _ _ _ h => h) (Or.inl ⟨by rfl, ?_⟩) (by assumption) ?_
        rotate_left
        · (intro w0 hSw; (try dsimp only at hSw); go_simp; try with_reducible rfl)
        try simp only [List.getElem_toArray, List.getElem_cons_succ, List.getElem_cons_zero, Act.put, List.setIfInBounds_toArray, List.set_cons_zero, List.set_cons_succ]
        refine wpAnyH_take (i := 9) (v := ?_) rfl (by kernel_rfl) (by kernel_rfl) (by kernel_rfl) (fun _ _ _ h => h) (Or.inl ⟨by rfl, ?_⟩) (by assumption) ?_
        rotate_left
        · (intro w0 hSw; (try dsimp only at hSw); go_simp; try with_reducible rfl)
        try simp only [List.getElem_toArray, List.getElem_cons_succ, List.getElem_cons_zero, Act.put, List.setIfInBounds_toArray, List.set_cons_zero, List.set_cons_succ]
        refine wpAnyH_take (i := 10) (v := ?_) rfl (by kernel_rfl) (by kernel_rfl) (by kernel_rfl) (fun _ _ _ h => h) (Or.inl ⟨by rfl, ?_⟩) (by assumption) ?_
        rotate_left
        · (intro w0 hSw; (try dsimp only at hSw); go_simp; try with_reducible rfl)
        try simp only [List.getElem_toArray, List.getElem_cons_succ, List.getElem_cons_zero, Act.put, List.setIfInBounds_toArray, List.set_cons_zero, List.set_cons_succ]
        refine wpAnyH_ready (rs := [11]) (by kernel_rfl) (by simp) ?_
        refine AllReadyH.cons rfl (fun K hK => ?_) AllReadyH.nil
        refine step_build_msgs (by rfl) 1 _ rfl [msgL k y x.tx 0 0 0 0 cd] (fun q hq => by rw [List.mem_singleton.1 hq]; rfl) rfl (by omega) (by rfl) ?_
        generalize hq : msgL k y x.tx 0 0 0 0 cd = q at ST2 ⊢
        have LQ := Lib.hid (show q.length = 28 from by rw [← hq]; rfl)
        clear hq
        have FL := Lib.hid (show [q].flatten = q from by simp)
        rw [FL.out]
        have RN := Lib.hid (reads_flat (V := X1) 46 q (size := 28) LQ.out)
        have B2 := Lib.hid (show Below X.heap.size X (X1.alloc (.cells (ints q).toArray 46)) from BD.out.alloc BD.out.size _)
        have R2 := Lib.hid (own_step RD.out (Joins.below_alloc1 X1 (.cells (ints q).toArray 46)))
        generalize X1.alloc (.cells (ints q).toArray 46) = X2 at RN B2 R2 ⊢
        refine hK.out _ _ (KP.out _ B2.out) (fun hHeld => ?_)
        clear hK K
        refine wpAnyH_ready (rs := [12]) (by kernel_rfl) (by simp) ?_
        refine AllReadyH.cons rfl (fun K hK => ?_) AllReadyH.nil
        refine step_append_any _ rfl (.tmp 26) (.tmp 37) _ rfl V.heap.size 46 i0 _ 28 224 Tryz.underlying39 hi0 hz0 hz1 hz2 rfl (by omega) (.slice A9 (eachL x k cd (x.tch.take j) o).length c9) _ _ rfl R2.out _ _ 1 1 (ints q) rfl RN.out (ints_one _) (by have := HL9.out; simp only [maxLen]; omega) (by have := HL9.out; omega) (Nat.le_trans XB.out.size B2.out.size) ?_
        intro v9 W9 hown hgr _
        have G9 := Lib.hid ((Turn.refl (fun k => V.heap.size ≤ k) X2).grown hgr (fun k hk _ => (own_ge R2.out hk).1))
        have O9 := Lib.hid hown
        clear hown hgr
        have B9 := Lib.hid (show Below V.heap.size V W9 from (XB.out.trans (B2.out.mono XB.out.size)).trans (G9.out.below (B := V.heap.size) (fun k hk e => by omega) (Nat.le_trans XB.out.size B2.out.size)))
        have KW := Lib.hid (show W9.cell? ⟨g, 9, none⟩ = some (.slice (some ⟨b, off, none⟩) N ct) ∧ W9.cell? ⟨g, 0, none⟩ = some (.int .i64 x.tx) ∧ W9.cell? ⟨b, off + j, none⟩ = some (.int .i64 y) from by
          have hv := XV.out.lt
          have hw := G9.out.below (B := V.heap.size) (fun k hk e => by omega) (Nat.le_trans XB.out.size B2.out.size)
          have ⟨q1, q2, q3⟩ := KP.out _ B2.out
          exact ⟨(hw.cell (p := ⟨g, 9, none⟩) hv).trans q1, (hw.cell (p := ⟨g, 0, none⟩) hv).trans q2, (hw.cell (p := ⟨b, off + j, none⟩) hbb).trans q3⟩)
        refine hK.out _ _ KW.out (fun hHeld => ?_)
        clear hK K
        refine wpAnyH_take (i := 13) (v := ?_) rfl (by kernel_rfl) (by kernel_rfl) (by kernel_rfl) (fun _ _ _ h => h) (Or.inl ⟨by rfl, ?_⟩) (by assumption) ?_
        rotate_left
        · (intro w0 hSw; (try dsimp only at hSw); go_simp; try with_reducible rfl)
        try simp only [List.getElem_toArray, List.getElem_cons_succ, List.getElem_cons_zero, Act.put, List.setIfInBounds_toArray, List.set_cons_zero, List.set_cons_succ]
        refine wpAnyH_done (by kernel_rfl) ?_ _
        clear hHeld
        go_wp2_with fail
        go_roundw
        case rel =>
          refine ⟨j + 1, by go_num, by omega, ?_, B9.out⟩
          have hx := O9.out
          rw [ST2.out]
          unfold MsgR
          rw [List.flatten_append, FL.out, show ints ((eachL x k cd (x.tch.take j) o).flatten ++ q) = ints (eachL x k cd (x.tch.take j) o).flatten ++ ints q by simp [ints], List.length_append]
          exact hx
        case measure => simp [RowKit.intOf]; omega
    · obtain rfl : j = N := by omega
      have d1 : decide ((j : Int) < (j : Int)) = false := by simp
      rw [List.take_of_length_le (by have := HN.out; omega)] at XR
      rw [List.take_of_length_le (by have := HN.out; omega)]
      go_wp2_with fail
      go_ret
      exact ⟨_, rfl, own_less XR.out BV.out.size, BV.out.trans (XB.out.mono BV.out.size)⟩
end Go.Proofs.YthfhhapefjideaaGreat
/- The document's decide. -/
namespace Go.Proofs.YthfhhapefjideaaGreat
open Go.RowKit
set_option linter.unusedVariables false
set_option linter.unusedSimpArgs false

theorem Tm.offBR {w w' : World} {B b : Nat} {x : Tr} {s : Sl} {cs : Array Value} (h : Tm w B x s) (hb : Blk w b 37 cs) (ht : Turn (fun k => k = b) w w') : Tm w' B x s :=
  ⟨own_offB h.t hb (by decide) ht, own_offB h.v hb (by decide) ht, own_offB h.k hb (by decide) ht, own_offB h.g hb (by decide) ht⟩
set_option maxRecDepth 100000 in
set_option maxHeartbeats 16000000 in
theorem refDecide_3 {B : Nat} (x z : Tr) (s : Sl) (rs : Int) (w : World) (h : Tm w B x s) (ht : x.tch.length ≤ 1000) (hz : z = { x with st := 3, rs := rs, op := false }) :
    Calls Tryz.prog 52 #[.agg (trc x s), .int .i64 3, .int .i64 rs] w (ActP w (z, eachL z 6 1 z.tch [], 0)) := by
  have X1 := Lib.hid ((Blk.new w 37 (trc x s)).alloc (.cells zTr 37))
  have Z1 := Lib.hid (show Blk ((w.alloc (.cells (trc x s) 37)).alloc (.cells zTr 37)) (w.heap.size + 1) 37 (trc noTr noSl) from Blk.new_at (by simp) _ _)
  have B1 := Lib.hid ((Joins.below_alloc1 w (.cells (trc x s) 37)).alloc (by simp) (.cells zTr 37))
  have T1 := Lib.hid (h.step B1.out)
  have HT := Lib.hid (show z.tch.length ≤ 1000 from by rw [hz]; exact ht)
  have HZ := Lib.hid hz
  clear h ht hz
  go_enter Tryz.func52, Tryz.ntmps52
  go_upto_region 1 with fail
  obtain ⟨g, hg⟩ : ∃ g, g = w.heap.size := ⟨_, rfl⟩
  have HG := Lib.hid hg
  rw [← hg] at X1 Z1 ⊢
  clear hg
  generalize (w.alloc (.cells (trc x s) 37)).alloc (.cells zTr 37) = V at X1 Z1 B1 T1 ⊢
  have hgl := X1.out.lt
  have c1 : V.cell? ⟨g, 1, none⟩ = some (.int .i64 x.st) := X1.out.cell 1
  have f1 := X1.out.frozen 1
  have c2 : V.cell? ⟨g, 2, none⟩ = some (.int .i64 x.rs) := X1.out.cell 2
  have f2 := X1.out.frozen 2
  have c4 : V.cell? ⟨g, 4, none⟩ = some (.bool x.op) := X1.out.cell 4
  have f4 := X1.out.frozen 4
  go_upto_region 4 with fail
  have RV := Lib.hid (show Turn (fun k => k = g) V (((V.setCell ⟨g, 1, none⟩ (.int .i64 3)).setCell ⟨g, 2, none⟩ (.int .i64 rs)).setCell ⟨g, 4, none⟩ (.bool false)) from
    (((Turn.refl (fun k => k = g) V).setCell (p := ⟨g, 1, none⟩) (fun _ => rfl) _).setCell (p := ⟨g, 2, none⟩) (fun _ => rfl) _).setCell (p := ⟨g, 4, none⟩) (fun _ => rfl) _)
  have XG := Lib.hid (show Blk (((V.setCell ⟨g, 1, none⟩ (.int .i64 3)).setCell ⟨g, 2, none⟩ (.int .i64 rs)).setCell ⟨g, 4, none⟩ (.bool false)) g 37 (trc z s) from by rw [HZ.out]; exact ((X1.out.set_ 1 _).set_ 2 _).set_ 4 _)
  have ZG := Lib.hid (Z1.out.turn RV.out (fun e => by have e : g + 1 = g := e; omega))
  have TZ := Lib.hid (show Tm (((V.setCell ⟨g, 1, none⟩ (.int .i64 3)).setCell ⟨g, 2, none⟩ (.int .i64 rs)).setCell ⟨g, 4, none⟩ (.bool false)) B z s from by
    have := T1.out.offBR X1.out RV.out
    rw [HZ.out]
    exact ⟨this.t, this.v, this.k, this.g⟩)
  have BG := Lib.hid (B1.out.trans (RV.out.below (B := w.heap.size) (fun k hk e => by have := HG.out; omega) B1.out.size))
  clear c1 f1 c2 f2 c4 f4 X1 Z1 B1 T1 RV
  generalize ((V.setCell ⟨g, 1, none⟩ (.int .i64 3)).setCell ⟨g, 2, none⟩ (.int .i64 rs)).setCell ⟨g, 4, none⟩ (.bool false) = W0 at XG ZG TZ BG ⊢
  clear HZ
  have hgl := XG.out.lt
  refine wp_region_held_drew (S := fun w' => Blk w' g 37 (trc z s)) (by kernel_rfl) XG.out.drew (fun hHeld => ?_)
  have BD := Lib.hid (show Below W0.heap.size W0 W0.drew from (Below.refl _ _).drew)
  generalize W0.drew = W1 at BD hHeld ⊢
  refine wpAnyH_take (i := 0) (v := .agg (trc z s)) rfl (by kernel_rfl) (by kernel_rfl) (by kernel_rfl) (fun _ _ _ h => h) (Or.inl ⟨by rfl, fun w0 hSw => exec_load (x := .tmp 3) rfl rfl (tr_loadR hSw)⟩) (by assumption) ?_
  try simp only [List.getElem_toArray, List.getElem_cons_succ, List.getElem_cons_zero, Act.put, List.setIfInBounds_toArray, List.set_cons_zero, List.set_cons_succ]
  refine wpAnyH_take (i := 1) (v := .agg (trc z s)) rfl (by kernel_rfl) (by kernel_rfl) (by kernel_rfl) (fun _ _ _ h => h) (Or.inl ⟨by rfl, fun w0 hSw => exec_load (x := .tmp 3) rfl rfl (tr_loadR hSw)⟩) (by assumption) ?_
  try simp only [List.getElem_toArray, List.getElem_cons_succ, List.getElem_cons_zero, Act.put, List.setIfInBounds_toArray, List.set_cons_zero, List.set_cons_succ]
  refine wpAnyH_take (i := 2) (v := ?_) rfl (by kernel_rfl) (by kernel_rfl) (by kernel_rfl) (fun _ _ _ h => h) (Or.inl ⟨by rfl, ?_⟩) (by assumption) ?_
  rotate_left
  · (intro w0 hSw; (try dsimp only at hSw); go_simp; try with_reducible rfl)
  try simp only [List.getElem_toArray, List.getElem_cons_succ, List.getElem_cons_zero, Act.put, List.setIfInBounds_toArray, List.set_cons_zero, List.set_cons_succ]
  refine wpAnyH_take (i := 3) (v := ?_) rfl (by kernel_rfl) (by kernel_rfl) (by kernel_rfl) (fun _ _ _ h => h) (Or.inl ⟨by rfl, ?_⟩) (by assumption) ?_
  rotate_left
  · (intro w0 hSw; (try dsimp only at hSw); go_simp; try with_reducible rfl)
  try simp only [List.getElem_toArray, List.getElem_cons_succ, List.getElem_cons_zero, Act.put, List.setIfInBounds_toArray, List.set_cons_zero, List.set_cons_succ]
  refine wpAnyH_ready (rs := [4]) (by kernel_rfl) (by simp) ?_
  refine AllReadyH.cons rfl (fun K hK => ?_) AllReadyH.nil
  go_simp
  refine (refEach_any (o := []) z s 6 1 _ (TZ.out.step BD.out) (World.ownsRow_nil _ _ _ _) HT.out (Nat.zero_le _)).mono ?_
  rintro e X3 ⟨u, rfl, hu, hb⟩
  try go_simp
  obtain ⟨Au, cu, rfl⟩ := own_len hu
  have U3 := Lib.hid (own_less hu BD.out.size)
  have E3 := Lib.hid (BD.out.trans (hb.mono BD.out.size))
  have H3 := Lib.hid hb
  clear hu hb
  refine hK.out _ _ (XG.out.here E3.out) (fun hHeld => ?_)
  clear hK K
  have ZH := Lib.hid (ZG.out.here E3.out)
  refine wpAnyH_ready (rs := [5]) (by kernel_rfl) (by simp) ?_
  refine AllReadyH.cons rfl (fun K hK => ?_) AllReadyH.nil
  refine step_store_mid (by rfl) 37 (.tmp 6) (.tmp 14) rfl (g + 1) 0 (trc z s) rfl rfl (ZH.out.there (Nat.le_refl 13)) (tr_infoR _ _) TZ.out.one ?_
  have R4 := Lib.hid (show Turn (fun k => k = g + 1) X3 (X3.setCells (g + 1) 0 (trc z s).toList) from Turn.setCells (S := fun k => k = g + 1) (fun _ => rfl) _ _ _ (Turn.refl _ _))
  have Z4 := Lib.hid (ZH.out.put (trc z s) rfl)
  have TZ4 := Lib.hid ((TZ.out.step E3.out).offBR ZH.out R4.out)
  have X4 := Lib.hid ((XG.out.here E3.out).turn R4.out (fun e => by have e : g = g + 1 := e; omega))
  have S4 := Lib.hid R4.out.size
  have E4 := Lib.hid ((stepB BG.out E3.out).trans (R4.out.below (B := w.heap.size) (fun k hk e => by have := HG.out; omega) (Nat.le_trans BG.out.size E3.out.size)))
  have U4 := Lib.hid (own_offB U3.out ZH.out (by decide) R4.out)
  clear R4
  refine hK.out _ _ X4.out (fun hHeld => ?_)
  clear hK K
  generalize X3.setCells (g + 1) 0 (trc z s).toList = Y4 at Z4 TZ4 X4 S4 E4 U4 hHeld ⊢
  refine wpAnyH_take (i := 6) (v := ?_) rfl (by kernel_rfl) (by kernel_rfl) (by kernel_rfl) (fun _ _ _ h => h) (Or.inl ⟨by rfl, ?_⟩) (by assumption) ?_
  rotate_left
  · (intro w0 hSw; (try dsimp only at hSw); go_simp; try with_reducible rfl)
  try simp only [List.getElem_toArray, List.getElem_cons_succ, List.getElem_cons_zero, Act.put, List.setIfInBounds_toArray, List.set_cons_zero, List.set_cons_succ]
  refine wpAnyH_take (i := 7) (v := ?_) rfl (by kernel_rfl) (by kernel_rfl) (by kernel_rfl) (fun _ _ _ h => h) (Or.inl ⟨by rfl, ?_⟩) (by assumption) ?_
  rotate_left
  · (intro w0 hSw; (try dsimp only at hSw); go_simp; try with_reducible rfl)
  try simp only [List.getElem_toArray, List.getElem_cons_succ, List.getElem_cons_zero, Act.put, List.setIfInBounds_toArray, List.set_cons_zero, List.set_cons_succ]
  have ZE := Z4
  have TE := TZ4
  have UE := U4
  have BE := E4
  refine wpAnyH_done (by kernel_rfl) ?_ _
  clear hHeld
  go_wp2_with fail
  exact bodyPost_ret (v := .tuple #[.agg (trc z s), .slice Au (eachL z 6 1 z.tch []).length cu, .int .i64 0]) (results_and2 rfl rfl rfl rfl (tr_loadR ZE.out)) rfl ⟨s, _, rfl, TE.out.less (Nat.zero_le _), own_less UE.out (by have := BG.out.size; omega), BE.out⟩
set_option maxRecDepth 100000 in
set_option maxHeartbeats 16000000 in
theorem refDecide_4 {B : Nat} (x z : Tr) (s : Sl) (rs : Int) (w : World) (h : Tm w B x s) (ht : x.tch.length ≤ 1000) (hz : z = { x with st := 4, rs := rs, op := false }) :
    Calls Tryz.prog 52 #[.agg (trc x s), .int .i64 4, .int .i64 rs] w (ActP w (z, eachL z 6 0 z.tch [], 0)) := by
  have X1 := Lib.hid ((Blk.new w 37 (trc x s)).alloc (.cells zTr 37))
  have Z1 := Lib.hid (show Blk ((w.alloc (.cells (trc x s) 37)).alloc (.cells zTr 37)) (w.heap.size + 1) 37 (trc noTr noSl) from Blk.new_at (by simp) _ _)
  have B1 := Lib.hid ((Joins.below_alloc1 w (.cells (trc x s) 37)).alloc (by simp) (.cells zTr 37))
  have T1 := Lib.hid (h.step B1.out)
  have HT := Lib.hid (show z.tch.length ≤ 1000 from by rw [hz]; exact ht)
  have HZ := Lib.hid hz
  clear h ht hz
  go_enter Tryz.func52, Tryz.ntmps52
  go_upto_region 1 with fail
  obtain ⟨g, hg⟩ : ∃ g, g = w.heap.size := ⟨_, rfl⟩
  have HG := Lib.hid hg
  rw [← hg] at X1 Z1 ⊢
  clear hg
  generalize (w.alloc (.cells (trc x s) 37)).alloc (.cells zTr 37) = V at X1 Z1 B1 T1 ⊢
  have hgl := X1.out.lt
  have c1 : V.cell? ⟨g, 1, none⟩ = some (.int .i64 x.st) := X1.out.cell 1
  have f1 := X1.out.frozen 1
  have c2 : V.cell? ⟨g, 2, none⟩ = some (.int .i64 x.rs) := X1.out.cell 2
  have f2 := X1.out.frozen 2
  have c4 : V.cell? ⟨g, 4, none⟩ = some (.bool x.op) := X1.out.cell 4
  have f4 := X1.out.frozen 4
  go_upto_region 4 with fail
  have RV := Lib.hid (show Turn (fun k => k = g) V (((V.setCell ⟨g, 1, none⟩ (.int .i64 4)).setCell ⟨g, 2, none⟩ (.int .i64 rs)).setCell ⟨g, 4, none⟩ (.bool false)) from
    (((Turn.refl (fun k => k = g) V).setCell (p := ⟨g, 1, none⟩) (fun _ => rfl) _).setCell (p := ⟨g, 2, none⟩) (fun _ => rfl) _).setCell (p := ⟨g, 4, none⟩) (fun _ => rfl) _)
  have XG := Lib.hid (show Blk (((V.setCell ⟨g, 1, none⟩ (.int .i64 4)).setCell ⟨g, 2, none⟩ (.int .i64 rs)).setCell ⟨g, 4, none⟩ (.bool false)) g 37 (trc z s) from by rw [HZ.out]; exact ((X1.out.set_ 1 _).set_ 2 _).set_ 4 _)
  have ZG := Lib.hid (Z1.out.turn RV.out (fun e => by have e : g + 1 = g := e; omega))
  have TZ := Lib.hid (show Tm (((V.setCell ⟨g, 1, none⟩ (.int .i64 4)).setCell ⟨g, 2, none⟩ (.int .i64 rs)).setCell ⟨g, 4, none⟩ (.bool false)) B z s from by
    have := T1.out.offBR X1.out RV.out
    rw [HZ.out]
    exact ⟨this.t, this.v, this.k, this.g⟩)
  have BG := Lib.hid (B1.out.trans (RV.out.below (B := w.heap.size) (fun k hk e => by have := HG.out; omega) B1.out.size))
  clear c1 f1 c2 f2 c4 f4 X1 Z1 B1 T1 RV
  generalize ((V.setCell ⟨g, 1, none⟩ (.int .i64 4)).setCell ⟨g, 2, none⟩ (.int .i64 rs)).setCell ⟨g, 4, none⟩ (.bool false) = W0 at XG ZG TZ BG ⊢
  clear HZ
  have hgl := XG.out.lt
  refine wp_region_held_drew (S := fun w' => Blk w' g 37 (trc z s)) (by kernel_rfl) XG.out.drew (fun hHeld => ?_)
  have BD := Lib.hid (show Below W0.heap.size W0 W0.drew from (Below.refl _ _).drew)
  generalize W0.drew = W1 at BD hHeld ⊢
  refine wpAnyH_take (i := 0) (v := .agg (trc z s)) rfl (by kernel_rfl) (by kernel_rfl) (by kernel_rfl) (fun _ _ _ h => h) (Or.inl ⟨by rfl, fun w0 hSw => exec_load (x := .tmp 3) rfl rfl (tr_loadR hSw)⟩) (by assumption) ?_
  try simp only [List.getElem_toArray, List.getElem_cons_succ, List.getElem_cons_zero, Act.put, List.setIfInBounds_toArray, List.set_cons_zero, List.set_cons_succ]
  refine wpAnyH_take (i := 1) (v := .agg (trc z s)) rfl (by kernel_rfl) (by kernel_rfl) (by kernel_rfl) (fun _ _ _ h => h) (Or.inl ⟨by rfl, fun w0 hSw => exec_load (x := .tmp 3) rfl rfl (tr_loadR hSw)⟩) (by assumption) ?_
  try simp only [List.getElem_toArray, List.getElem_cons_succ, List.getElem_cons_zero, Act.put, List.setIfInBounds_toArray, List.set_cons_zero, List.set_cons_succ]
  refine wpAnyH_take (i := 2) (v := ?_) rfl (by kernel_rfl) (by kernel_rfl) (by kernel_rfl) (fun _ _ _ h => h) (Or.inl ⟨by rfl, ?_⟩) (by assumption) ?_
  rotate_left
  · (intro w0 hSw; (try dsimp only at hSw); go_simp; try with_reducible rfl)
  try simp only [List.getElem_toArray, List.getElem_cons_succ, List.getElem_cons_zero, Act.put, List.setIfInBounds_toArray, List.set_cons_zero, List.set_cons_succ]
  refine wpAnyH_take (i := 3) (v := ?_) rfl (by kernel_rfl) (by kernel_rfl) (by kernel_rfl) (fun _ _ _ h => h) (Or.inl ⟨by rfl, ?_⟩) (by assumption) ?_
  rotate_left
  · (intro w0 hSw; (try dsimp only at hSw); go_simp; try with_reducible rfl)
  try simp only [List.getElem_toArray, List.getElem_cons_succ, List.getElem_cons_zero, Act.put, List.setIfInBounds_toArray, List.set_cons_zero, List.set_cons_succ]
  refine wpAnyH_ready (rs := [4]) (by kernel_rfl) (by simp) ?_
  refine AllReadyH.cons rfl (fun K hK => ?_) AllReadyH.nil
  go_simp
  refine (refEach_any (o := []) z s 6 0 _ (TZ.out.step BD.out) (World.ownsRow_nil _ _ _ _) HT.out (Nat.zero_le _)).mono ?_
  rintro e X3 ⟨u, rfl, hu, hb⟩
  try go_simp
  obtain ⟨Au, cu, rfl⟩ := own_len hu
  have U3 := Lib.hid (own_less hu BD.out.size)
  have E3 := Lib.hid (BD.out.trans (hb.mono BD.out.size))
  have H3 := Lib.hid hb
  clear hu hb
  refine hK.out _ _ (XG.out.here E3.out) (fun hHeld => ?_)
  clear hK K
  have ZH := Lib.hid (ZG.out.here E3.out)
  refine wpAnyH_ready (rs := [5]) (by kernel_rfl) (by simp) ?_
  refine AllReadyH.cons rfl (fun K hK => ?_) AllReadyH.nil
  refine step_store_mid (by rfl) 37 (.tmp 6) (.tmp 14) rfl (g + 1) 0 (trc z s) rfl rfl (ZH.out.there (Nat.le_refl 13)) (tr_infoR _ _) TZ.out.one ?_
  have R4 := Lib.hid (show Turn (fun k => k = g + 1) X3 (X3.setCells (g + 1) 0 (trc z s).toList) from Turn.setCells (S := fun k => k = g + 1) (fun _ => rfl) _ _ _ (Turn.refl _ _))
  have Z4 := Lib.hid (ZH.out.put (trc z s) rfl)
  have TZ4 := Lib.hid ((TZ.out.step E3.out).offBR ZH.out R4.out)
  have X4 := Lib.hid ((XG.out.here E3.out).turn R4.out (fun e => by have e : g = g + 1 := e; omega))
  have S4 := Lib.hid R4.out.size
  have E4 := Lib.hid ((stepB BG.out E3.out).trans (R4.out.below (B := w.heap.size) (fun k hk e => by have := HG.out; omega) (Nat.le_trans BG.out.size E3.out.size)))
  have U4 := Lib.hid (own_offB U3.out ZH.out (by decide) R4.out)
  clear R4
  refine hK.out _ _ X4.out (fun hHeld => ?_)
  clear hK K
  generalize X3.setCells (g + 1) 0 (trc z s).toList = Y4 at Z4 TZ4 X4 S4 E4 U4 hHeld ⊢
  refine wpAnyH_take (i := 6) (v := ?_) rfl (by kernel_rfl) (by kernel_rfl) (by kernel_rfl) (fun _ _ _ h => h) (Or.inl ⟨by rfl, ?_⟩) (by assumption) ?_
  rotate_left
  · (intro w0 hSw; (try dsimp only at hSw); go_simp; try with_reducible rfl)
  try simp only [List.getElem_toArray, List.getElem_cons_succ, List.getElem_cons_zero, Act.put, List.setIfInBounds_toArray, List.set_cons_zero, List.set_cons_succ]
  refine wpAnyH_take (i := 7) (v := ?_) rfl (by kernel_rfl) (by kernel_rfl) (by kernel_rfl) (fun _ _ _ h => h) (Or.inl ⟨by rfl, ?_⟩) (by assumption) ?_
  rotate_left
  · (intro w0 hSw; (try dsimp only at hSw); go_simp; try with_reducible rfl)
  try simp only [List.getElem_toArray, List.getElem_cons_succ, List.getElem_cons_zero, Act.put, List.setIfInBounds_toArray, List.set_cons_zero, List.set_cons_succ]
  have ZE := Z4
  have TE := TZ4
  have UE := U4
  have BE := E4
  refine wpAnyH_done (by kernel_rfl) ?_ _
  clear hHeld
  go_wp2_with fail
  exact bodyPost_ret (v := .tuple #[.agg (trc z s), .slice Au (eachL z 6 0 z.tch []).length cu, .int .i64 0]) (results_and2 rfl rfl rfl rfl (tr_loadR ZE.out)) rfl ⟨s, _, rfl, TE.out.less (Nat.zero_le _), own_less UE.out (by have := BG.out.size; omega), BE.out⟩
end Go.Proofs.YthfhhapefjideaaGreat
/- The document's Abort. -/
namespace Go.Proofs.YthfhhapefjideaaGreat
open Go.RowKit
set_option linter.unusedVariables false
set_option linter.unusedSimpArgs false

theorem without_no (l : List Int) : withoutL l [] = l := by unfold withoutL; rw [List.filter_eq_self]; intro a _; rfl
theorem eachL_news {z : Tr} {k cd : Int} (hk : newsK z.st = k) (hc : newsC z.st = cd) (l o : List Int) : eachL z k cd l o = (withoutL l o).map (newsL z) := by unfold eachL newsL; rw [hk, hc]
theorem eachL_abt (x : Tr) (r : Int) : eachL (abtX x r) 6 0 (abtX x r).tch [] = x.tch.map (newsL (abtX x r)) := by rw [eachL_news (z := abtX x r) (k := 6) (cd := 0) rfl rfl, without_no]; rfl
set_option maxRecDepth 100000 in
set_option maxHeartbeats 8000000 in
theorem refAbort_a {B : Nat} (x : Tr) (s : Sl) (r : Int) (h1 : r < 1) (w : World) (h : Tm w B x s) (ht : x.tch.length ≤ 1000) :
    Calls Tryz.prog 31 #[.agg (trc x s), .int .i64 r] w (ActP w (x, [], 1)) := by
  have X1 := Lib.hid ((Blk.new w 37 (trc x s)).alloc (.cells zTr 37))
  have Z1 := Lib.hid (show Blk ((w.alloc (.cells (trc x s) 37)).alloc (.cells zTr 37)) (w.heap.size + 1) 37 (trc noTr noSl) from Blk.new_at (by simp) _ _)
  have B1 := Lib.hid ((Joins.below_alloc1 w (.cells (trc x s) 37)).alloc (by simp) (.cells zTr 37))
  have T1 := Lib.hid (h.step B1.out)
  have HT := Lib.hid ht
  have d0 : decide (r < 1) = true := by simpa using h1
  clear h1
  clear h ht
  go_enter Tryz.func31, Tryz.ntmps31
  go_upto_region 1 with fail
  obtain ⟨g, hg⟩ : ∃ g, g = w.heap.size := ⟨_, rfl⟩
  have HG := Lib.hid hg
  rw [← hg] at X1 Z1 ⊢
  clear hg
  generalize (w.alloc (.cells (trc x s) 37)).alloc (.cells zTr 37) = V at X1 Z1 B1 T1 ⊢
  have hgl := X1.out.lt
  go_wp2_with (first
    | (refine wpList_load_row rfl 37 (.tmp 2) rfl g rfl 37 (trc x s) (0, 0) _ X1.out Tryz.underlying37 rfl (tr_infoR _ _) ?_)
    | (refine wpList_store_mid (by rfl) 37 (.tmp 4) (.tmp 13) (by rfl) (g + 1) 0 (trc x s) (by rfl) (by rfl) (Z1.out.there (Nat.le_refl 13)) (tr_infoR _ _) T1.out.one ?_
       have R4 := Lib.hid (show Turn (fun k => k = g + 1) V (V.setCells (g + 1) 0 (trc x s).toList) from Turn.setCells (S := fun k => k = g + 1) (fun _ => rfl) _ _ _ (Turn.refl _ _))
       have ZE := Lib.hid (Z1.out.put (trc x s) rfl)
       have TE := Lib.hid (T1.out.offBR Z1.out R4.out)
       have BE := Lib.hid (B1.out.trans (R4.out.below (B := w.heap.size) (fun k hk e => by have := HG.out; omega) B1.out.size))
       clear R4
       generalize V.setCells (g + 1) 0 (trc x s).toList = WE at ZE TE BE ⊢))
  exact bodyPost_ret (v := .tuple #[.agg (trc x s), .slice none 0 0, .int .i64 1]) (results_and2 rfl rfl rfl rfl (tr_loadR ZE.out)) rfl ⟨s, _, rfl, TE.out.less (Nat.zero_le _), World.ownsRow_nil _ _ _ _, BE.out⟩
set_option maxRecDepth 100000 in
set_option maxHeartbeats 8000000 in
theorem refAbort_b {B : Nat} (x : Tr) (s : Sl) (r : Int) (h1 : ¬ r < 1) (h5 : 5 < r) (w : World) (h : Tm w B x s) (ht : x.tch.length ≤ 1000) :
    Calls Tryz.prog 31 #[.agg (trc x s), .int .i64 r] w (ActP w (x, [], 1)) := by
  have X1 := Lib.hid ((Blk.new w 37 (trc x s)).alloc (.cells zTr 37))
  have Z1 := Lib.hid (show Blk ((w.alloc (.cells (trc x s) 37)).alloc (.cells zTr 37)) (w.heap.size + 1) 37 (trc noTr noSl) from Blk.new_at (by simp) _ _)
  have B1 := Lib.hid ((Joins.below_alloc1 w (.cells (trc x s) 37)).alloc (by simp) (.cells zTr 37))
  have T1 := Lib.hid (h.step B1.out)
  have HT := Lib.hid ht
  have d0 : decide (r < 1) = false := by simpa using h1
  have d5 : decide (5 < r) = true := by simpa using h5
  clear h1 h5
  clear h ht
  go_enter Tryz.func31, Tryz.ntmps31
  go_upto_region 1 with fail
  obtain ⟨g, hg⟩ : ∃ g, g = w.heap.size := ⟨_, rfl⟩
  have HG := Lib.hid hg
  rw [← hg] at X1 Z1 ⊢
  clear hg
  generalize (w.alloc (.cells (trc x s) 37)).alloc (.cells zTr 37) = V at X1 Z1 B1 T1 ⊢
  have hgl := X1.out.lt
  go_wp2_with (first
    | (refine wpList_load_row rfl 37 (.tmp 2) rfl g rfl 37 (trc x s) (0, 0) _ X1.out Tryz.underlying37 rfl (tr_infoR _ _) ?_)
    | (refine wpList_store_mid (by rfl) 37 (.tmp 4) (.tmp 13) (by rfl) (g + 1) 0 (trc x s) (by rfl) (by rfl) (Z1.out.there (Nat.le_refl 13)) (tr_infoR _ _) T1.out.one ?_
       have R4 := Lib.hid (show Turn (fun k => k = g + 1) V (V.setCells (g + 1) 0 (trc x s).toList) from Turn.setCells (S := fun k => k = g + 1) (fun _ => rfl) _ _ _ (Turn.refl _ _))
       have ZE := Lib.hid (Z1.out.put (trc x s) rfl)
       have TE := Lib.hid (T1.out.offBR Z1.out R4.out)
       have BE := Lib.hid (B1.out.trans (R4.out.below (B := w.heap.size) (fun k hk e => by have := HG.out; omega) B1.out.size))
       clear R4
       generalize V.setCells (g + 1) 0 (trc x s).toList = WE at ZE TE BE ⊢))
  exact bodyPost_ret (v := .tuple #[.agg (trc x s), .slice none 0 0, .int .i64 1]) (results_and2 rfl rfl rfl rfl (tr_loadR ZE.out)) rfl ⟨s, _, rfl, TE.out.less (Nat.zero_le _), World.ownsRow_nil _ _ _ _, BE.out⟩
set_option maxRecDepth 100000 in
set_option maxHeartbeats 8000000 in
theorem refAbort_c {B : Nat} (x : Tr) (s : Sl) (r : Int) (h1 : ¬ r < 1) (h5 : ¬ 5 < r) (hd : decided x = true) (w : World) (h : Tm w B x s) (ht : x.tch.length ≤ 1000) :
    Calls Tryz.prog 31 #[.agg (trc x s), .int .i64 r] w (ActP w (x, [], 15)) := by
  have X1 := Lib.hid ((Blk.new w 37 (trc x s)).alloc (.cells zTr 37))
  have Z1 := Lib.hid (show Blk ((w.alloc (.cells (trc x s) 37)).alloc (.cells zTr 37)) (w.heap.size + 1) 37 (trc noTr noSl) from Blk.new_at (by simp) _ _)
  have B1 := Lib.hid ((Joins.below_alloc1 w (.cells (trc x s) 37)).alloc (by simp) (.cells zTr 37))
  have T1 := Lib.hid (h.step B1.out)
  have HT := Lib.hid ht
  have d0 : decide (r < 1) = false := by simpa using h1
  have d5 : decide (5 < r) = false := by simpa using h5
  have HD := Lib.hid hd
  clear h1 h5 hd
  clear h ht
  go_enter Tryz.func31, Tryz.ntmps31
  go_upto_region 1 with fail
  obtain ⟨g, hg⟩ : ∃ g, g = w.heap.size := ⟨_, rfl⟩
  have HG := Lib.hid hg
  rw [← hg] at X1 Z1 ⊢
  clear hg
  generalize (w.alloc (.cells (trc x s) 37)).alloc (.cells zTr 37) = V at X1 Z1 B1 T1 ⊢
  have hgl := X1.out.lt
  go_upto_region 4 with (first
    | (refine wpList_load_row rfl 37 (.tmp 2) rfl g rfl 37 (trc x s) (0, 0) _ X1.out Tryz.underlying37 rfl (tr_infoR _ _) ?_)
    | (go_at_call 15; refine (refDecided_b x s _ true HD.out).mono ?_; rintro e V2 ⟨rfl, hb⟩; have X2 := Lib.hid (X1.out.here hb); have Z2 := Lib.hid (Z1.out.here hb); have B2 := Lib.hid (stepB B1.out hb); have T2 := Lib.hid (T1.out.step hb); clear hb))
  go_wp2_with (first
    | (refine wpList_load_row rfl 37 (.tmp 2) rfl g rfl 37 (trc x s) (0, 0) _ X2.out Tryz.underlying37 rfl (tr_infoR _ _) ?_)
    | (refine wpList_store_mid (by rfl) 37 (.tmp 4) (.tmp 16) (by rfl) (g + 1) 0 (trc x s) (by rfl) (by rfl) (Z2.out.there (Nat.le_refl 13)) (tr_infoR _ _) T2.out.one ?_
       have R4 := Lib.hid (show Turn (fun k => k = g + 1) V2 (V2.setCells (g + 1) 0 (trc x s).toList) from Turn.setCells (S := fun k => k = g + 1) (fun _ => rfl) _ _ _ (Turn.refl _ _))
       have ZE := Lib.hid (Z2.out.put (trc x s) rfl)
       have TE := Lib.hid (T2.out.offBR Z2.out R4.out)
       have BE := Lib.hid (B2.out.trans (R4.out.below (B := w.heap.size) (fun k hk e => by have := HG.out; omega) B2.out.size))
       clear R4
       generalize V2.setCells (g + 1) 0 (trc x s).toList = WE at ZE TE BE ⊢))
  exact bodyPost_ret (v := .tuple #[.agg (trc x s), .slice none 0 0, .int .i64 15]) (results_and2 rfl rfl rfl rfl (tr_loadR ZE.out)) rfl ⟨s, _, rfl, TE.out.less (Nat.zero_le _), World.ownsRow_nil _ _ _ _, BE.out⟩
set_option maxRecDepth 100000 in
set_option maxHeartbeats 8000000 in
theorem refAbort_d {B : Nat} (x : Tr) (s : Sl) (r : Int) (h1 : ¬ r < 1) (h5 : ¬ 5 < r) (hd : decided x = false) (w : World) (h : Tm w B x s) (ht : x.tch.length ≤ 1000) :
    Calls Tryz.prog 31 #[.agg (trc x s), .int .i64 r] w (ActP w (abtX x r, x.tch.map (newsL (abtX x r)), 0)) := by
  have X1 := Lib.hid ((Blk.new w 37 (trc x s)).alloc (.cells zTr 37))
  have Z1 := Lib.hid (show Blk ((w.alloc (.cells (trc x s) 37)).alloc (.cells zTr 37)) (w.heap.size + 1) 37 (trc noTr noSl) from Blk.new_at (by simp) _ _)
  have B1 := Lib.hid ((Joins.below_alloc1 w (.cells (trc x s) 37)).alloc (by simp) (.cells zTr 37))
  have T1 := Lib.hid (h.step B1.out)
  have HT := Lib.hid ht
  have d0 : decide (r < 1) = false := by simpa using h1
  have d5 : decide (5 < r) = false := by simpa using h5
  have HD := Lib.hid hd
  clear h1 h5 hd
  rw [← eachL_abt]
  have HZ := Lib.hid (show abtX x r = { x with st := 4, rs := r, op := false } from rfl)
  generalize abtX x r = z at HZ ⊢
  clear h ht
  go_enter Tryz.func31, Tryz.ntmps31
  go_upto_region 1 with fail
  obtain ⟨g, hg⟩ : ∃ g, g = w.heap.size := ⟨_, rfl⟩
  have HG := Lib.hid hg
  rw [← hg] at X1 Z1 ⊢
  clear hg
  generalize (w.alloc (.cells (trc x s) 37)).alloc (.cells zTr 37) = V at X1 Z1 B1 T1 ⊢
  have hgl := X1.out.lt
  go_upto_region 5 with (first
    | (refine wpList_load_row rfl 37 (.tmp 2) rfl g rfl 37 (trc x s) (0, 0) _ X1.out Tryz.underlying37 rfl (tr_infoR _ _) ?_)
    | (go_at_call 15; refine (refDecided_b x s _ false HD.out).mono ?_; rintro e V2 ⟨rfl, hb⟩; have X2 := Lib.hid (X1.out.here hb); have Z2 := Lib.hid (Z1.out.here hb); have B2 := Lib.hid (stepB B1.out hb); have T2 := Lib.hid (T1.out.step hb); clear hb))
  go_wp2_with (first
    | (refine wpList_load_row rfl 37 (.tmp 2) rfl g rfl 37 (trc x s) (0, 0) _ X2.out Tryz.underlying37 rfl (tr_infoR _ _) ?_)
    | (go_at_call 52; refine (refDecide_4 x z s r _ T2.out HT.out HZ.out).mono ?_; rintro e V3 ⟨s3, u3, rfl, ht3, hu3, hb3⟩; obtain ⟨Au, cu, rfl⟩ := own_len hu3; have Z3 := Lib.hid (Z2.out.here hb3); have B3 := Lib.hid (stepB B2.out hb3); have T3 := Lib.hid ht3; have U3 := Lib.hid (own_less hu3 B2.out.size); clear ht3 hu3 hb3)
    | (refine wpList_store_mid (by rfl) 37 (.tmp 4) (.tmp 20) (by rfl) (g + 1) 0 (trc z s3) (by rfl) (by rfl) (Z3.out.there (Nat.le_refl 13)) (tr_infoR _ _) T3.out.one ?_
       have R4 := Lib.hid (show Turn (fun k => k = g + 1) V3 (V3.setCells (g + 1) 0 (trc z s3).toList) from Turn.setCells (S := fun k => k = g + 1) (fun _ => rfl) _ _ _ (Turn.refl _ _))
       have ZE := Lib.hid (Z3.out.put (trc z s3) rfl)
       have TE := Lib.hid (T3.out.offBR Z3.out R4.out)
       have BE := Lib.hid (B3.out.trans (R4.out.below (B := w.heap.size) (fun k hk e => by have := HG.out; omega) B3.out.size))
       have UE := Lib.hid (own_offB U3.out Z3.out (by decide) R4.out)
       clear R4
       generalize V3.setCells (g + 1) 0 (trc z s3).toList = WE at ZE TE BE UE ⊢))
  exact bodyPost_ret (v := .tuple #[.agg (trc z s3), .slice Au (eachL z 6 0 z.tch []).length cu, .int .i64 0]) (results_and2 rfl rfl rfl rfl (tr_loadR ZE.out)) rfl ⟨s3, _, rfl, TE.out.less (Nat.zero_le _), UE.out, BE.out⟩
theorem refAbort_any {B : Nat} (x : Tr) (s : Sl) (r : Int) (w : World) (h : Tm w B x s) (ht : x.tch.length ≤ 1000) :
    Calls Tryz.prog 31 #[.agg (trc x s), .int .i64 r] w (ActP w (abtL x r)) := by
  unfold abtL
  split
  · rename_i hr
    by_cases h1 : r < 1
    · exact refAbort_a x s r h1 w h ht
    · exact refAbort_b x s r h1 (by omega) w h ht
  · rename_i hr
    split
    · rename_i hd
      exact refAbort_c x s r (by omega) (by omega) hd w h ht
    · rename_i hd
      exact refAbort_d x s r (by omega) (by omega) (by simpa using hd) w h ht
end Go.Proofs.YthfhhapefjideaaGreat
/- The document's Finish. -/
namespace Go.Proofs.YthfhhapefjideaaGreat
open Go.RowKit
set_option linter.unusedVariables false
set_option linter.unusedSimpArgs false

set_option maxRecDepth 100000 in
set_option maxHeartbeats 8000000 in
theorem refFinish_a {B : Nat} (x : Tr) (s : Sl) (h1 : x.st ≠ 1) (w : World) (h : Tm w B x s) (ht : x.tch.length ≤ 1000) :
    Calls Tryz.prog 29 #[.agg (trc x s)] w (ActP w (x, [], 11)) := by
  have X1 := Lib.hid ((Blk.new w 37 (trc x s)).alloc (.cells zTr 37))
  have Z1 := Lib.hid (show Blk ((w.alloc (.cells (trc x s) 37)).alloc (.cells zTr 37)) (w.heap.size + 1) 37 (trc noTr noSl) from Blk.new_at (by simp) _ _)
  have B1 := Lib.hid ((Joins.below_alloc1 w (.cells (trc x s) 37)).alloc (by simp) (.cells zTr 37))
  have T1 := Lib.hid (h.step B1.out)
  have HT := Lib.hid ht
  have e1 : (x.st != 1) = true := by simpa using h1
  clear h1
  clear h ht
  go_enter Tryz.func29, Tryz.ntmps29
  go_upto_region 1 with fail
  obtain ⟨g, hg⟩ : ∃ g, g = w.heap.size := ⟨_, rfl⟩
  have HG := Lib.hid hg
  rw [← hg] at X1 Z1 ⊢
  clear hg
  generalize (w.alloc (.cells (trc x s) 37)).alloc (.cells zTr 37) = V at X1 Z1 B1 T1 ⊢
  have hgl := X1.out.lt
  have c1 : V.cell? ⟨g, 1, none⟩ = some (.int .i64 x.st) := X1.out.cell 1
  go_wp2_with (first
    | (refine wpList_load_row rfl 37 (.tmp 1) rfl g rfl 37 (trc x s) (0, 0) _ X1.out Tryz.underlying37 rfl (tr_infoR _ _) ?_)
    | (refine wpList_store_mid (by rfl) 37 (.tmp 2) (.tmp 8) (by rfl) (g + 1) 0 (trc x s) (by rfl) (by rfl) (Z1.out.there (Nat.le_refl 13)) (tr_infoR _ _) T1.out.one ?_
       have R4 := Lib.hid (show Turn (fun k => k = g + 1) V (V.setCells (g + 1) 0 (trc x s).toList) from Turn.setCells (S := fun k => k = g + 1) (fun _ => rfl) _ _ _ (Turn.refl _ _))
       have ZE := Lib.hid (Z1.out.put (trc x s) rfl)
       have TE := Lib.hid (T1.out.offBR Z1.out R4.out)
       have BE := Lib.hid (B1.out.trans (R4.out.below (B := w.heap.size) (fun k hk e => by have := HG.out; omega) B1.out.size))
       clear R4
       generalize V.setCells (g + 1) 0 (trc x s).toList = WE at ZE TE BE ⊢))
  exact bodyPost_ret (v := .tuple #[.agg (trc x s), .slice none 0 0, .int .i64 11]) (results_and2 rfl rfl rfl rfl (tr_loadR ZE.out)) rfl ⟨s, _, rfl, TE.out.less (Nat.zero_le _), World.ownsRow_nil _ _ _ _, BE.out⟩
set_option maxRecDepth 100000 in
set_option maxHeartbeats 8000000 in
theorem refFinish_b {B : Nat} (x : Tr) (s : Sl) (h1 : x.st = 1) (ho : x.op = true) (w : World) (h : Tm w B x s) (ht : x.tch.length ≤ 1000) :
    Calls Tryz.prog 29 #[.agg (trc x s)] w (ActP w (x, [], 8)) := by
  have X1 := Lib.hid ((Blk.new w 37 (trc x s)).alloc (.cells zTr 37))
  have Z1 := Lib.hid (show Blk ((w.alloc (.cells (trc x s) 37)).alloc (.cells zTr 37)) (w.heap.size + 1) 37 (trc noTr noSl) from Blk.new_at (by simp) _ _)
  have B1 := Lib.hid ((Joins.below_alloc1 w (.cells (trc x s) 37)).alloc (by simp) (.cells zTr 37))
  have T1 := Lib.hid (h.step B1.out)
  have HT := Lib.hid ht
  have H1 := Lib.hid h1
  have HO := Lib.hid ho
  clear h1 ho
  clear h ht
  go_enter Tryz.func29, Tryz.ntmps29
  go_upto_region 1 with fail
  obtain ⟨g, hg⟩ : ∃ g, g = w.heap.size := ⟨_, rfl⟩
  have HG := Lib.hid hg
  rw [← hg] at X1 Z1 ⊢
  clear hg
  generalize (w.alloc (.cells (trc x s) 37)).alloc (.cells zTr 37) = V at X1 Z1 B1 T1 ⊢
  have hgl := X1.out.lt
  have c1 : V.cell? ⟨g, 1, none⟩ = some (.int .i64 1) := by rw [← H1.out]; exact X1.out.cell 1
  have c4 : V.cell? ⟨g, 4, none⟩ = some (.bool true) := by rw [← HO.out]; exact X1.out.cell 4
  go_wp2_with (first
    | (refine wpList_load_row rfl 37 (.tmp 1) rfl g rfl 37 (trc x s) (0, 0) _ X1.out Tryz.underlying37 rfl (tr_infoR _ _) ?_)
    | (refine wpList_store_mid (by rfl) 37 (.tmp 2) (.tmp 11) (by rfl) (g + 1) 0 (trc x s) (by rfl) (by rfl) (Z1.out.there (Nat.le_refl 13)) (tr_infoR _ _) T1.out.one ?_
       have R4 := Lib.hid (show Turn (fun k => k = g + 1) V (V.setCells (g + 1) 0 (trc x s).toList) from Turn.setCells (S := fun k => k = g + 1) (fun _ => rfl) _ _ _ (Turn.refl _ _))
       have ZE := Lib.hid (Z1.out.put (trc x s) rfl)
       have TE := Lib.hid (T1.out.offBR Z1.out R4.out)
       have BE := Lib.hid (B1.out.trans (R4.out.below (B := w.heap.size) (fun k hk e => by have := HG.out; omega) B1.out.size))
       clear R4
       generalize V.setCells (g + 1) 0 (trc x s).toList = WE at ZE TE BE ⊢))
  exact bodyPost_ret (v := .tuple #[.agg (trc x s), .slice none 0 0, .int .i64 8]) (results_and2 rfl rfl rfl rfl (tr_loadR ZE.out)) rfl ⟨s, _, rfl, TE.out.less (Nat.zero_le _), World.ownsRow_nil _ _ _ _, BE.out⟩
set_option maxRecDepth 100000 in
set_option maxHeartbeats 8000000 in
theorem refFinish_c {B : Nat} (x : Tr) (s : Sl) (h1 : x.st = 1) (ho : x.op = false) (hn : x.tch.length = 0) (z : Tr) (hz : z = { x with st := 3, rs := 0, op := false }) (w : World) (h : Tm w B x s) (ht : x.tch.length ≤ 1000) :
    Calls Tryz.prog 29 #[.agg (trc x s)] w (ActP w (z, eachL z 6 1 z.tch [], 0)) := by
  have X1 := Lib.hid ((Blk.new w 37 (trc x s)).alloc (.cells zTr 37))
  have Z1 := Lib.hid (show Blk ((w.alloc (.cells (trc x s) 37)).alloc (.cells zTr 37)) (w.heap.size + 1) 37 (trc noTr noSl) from Blk.new_at (by simp) _ _)
  have B1 := Lib.hid ((Joins.below_alloc1 w (.cells (trc x s) 37)).alloc (by simp) (.cells zTr 37))
  have T1 := Lib.hid (h.step B1.out)
  have HT := Lib.hid ht
  have H1 := Lib.hid h1
  have HO := Lib.hid ho
  clear h1 ho
  have HN := Lib.hid hn
  have HZ := Lib.hid hz
  clear hn hz
  clear h ht
  go_enter Tryz.func29, Tryz.ntmps29
  go_upto_region 1 with fail
  obtain ⟨g, hg⟩ : ∃ g, g = w.heap.size := ⟨_, rfl⟩
  have HG := Lib.hid hg
  rw [← hg] at X1 Z1 ⊢
  clear hg
  generalize (w.alloc (.cells (trc x s) 37)).alloc (.cells zTr 37) = V at X1 Z1 B1 T1 ⊢
  have hgl := X1.out.lt
  have c1 : V.cell? ⟨g, 1, none⟩ = some (.int .i64 1) := by rw [← H1.out]; exact X1.out.cell 1
  have c4 : V.cell? ⟨g, 4, none⟩ = some (.bool false) := by rw [← HO.out]; exact X1.out.cell 4
  obtain ⟨At, ct, et⟩ := own_len T1.out.t
  have c9 : V.cell? ⟨g, 9, none⟩ = some (.slice At x.tch.length ct) := by rw [← et]; exact X1.out.cell 9
  clear et
  rw [HN.out] at c9
  go_upto_region 6 with fail
  go_wp2_with (first
    | (refine wpList_load_row rfl 37 (.tmp 1) rfl g rfl 37 (trc x s) (0, 0) _ X1.out Tryz.underlying37 rfl (tr_infoR _ _) ?_)
    | (go_at_call 52; refine (refDecide_3 x z s 0 _ T1.out HT.out HZ.out).mono ?_; rintro e V3 ⟨s3, u3, rfl, ht3, hu3, hb3⟩; obtain ⟨Au, cu, rfl⟩ := own_len hu3; have Z3 := Lib.hid (Z1.out.here hb3); have B3 := Lib.hid (stepB B1.out hb3); have T3 := Lib.hid ht3; have U3 := Lib.hid (own_less hu3 B1.out.size); clear ht3 hu3 hb3)
    | (refine wpList_store_mid (by rfl) 37 (.tmp 2) (.tmp 18) (by rfl) (g + 1) 0 (trc z s3) (by rfl) (by rfl) (Z3.out.there (Nat.le_refl 13)) (tr_infoR _ _) T3.out.one ?_
       have R4 := Lib.hid (show Turn (fun k => k = g + 1) V3 (V3.setCells (g + 1) 0 (trc z s3).toList) from Turn.setCells (S := fun k => k = g + 1) (fun _ => rfl) _ _ _ (Turn.refl _ _))
       have ZE := Lib.hid (Z3.out.put (trc z s3) rfl)
       have TE := Lib.hid (T3.out.offBR Z3.out R4.out)
       have BE := Lib.hid (B3.out.trans (R4.out.below (B := w.heap.size) (fun k hk e => by have := HG.out; omega) B3.out.size))
       have UE := Lib.hid (own_offB U3.out Z3.out (by decide) R4.out)
       clear R4
       generalize V3.setCells (g + 1) 0 (trc z s3).toList = WE at ZE TE BE UE ⊢))
  exact bodyPost_ret (v := .tuple #[.agg (trc z s3), .slice Au (eachL z 6 1 z.tch []).length cu, .int .i64 0]) (results_and2 rfl rfl rfl rfl (tr_loadR ZE.out)) rfl ⟨s3, _, rfl, TE.out.less (Nat.zero_le _), UE.out, BE.out⟩
set_option maxRecDepth 100000 in
set_option maxHeartbeats 8000000 in
theorem refFinish_d {B : Nat} (x : Tr) (s : Sl) (h1 : x.st = 1) (ho : x.op = false) (hn : x.tch.length ≠ 0) (z : Tr) (hz : z = { x with st := 2 }) (w : World) (h : Tm w B x s) (ht : x.tch.length ≤ 1000) :
    Calls Tryz.prog 29 #[.agg (trc x s)] w (ActP w (z, eachL z 4 0 z.tch [], 0)) := by
  have X1 := Lib.hid ((Blk.new w 37 (trc x s)).alloc (.cells zTr 37))
  have Z1 := Lib.hid (show Blk ((w.alloc (.cells (trc x s) 37)).alloc (.cells zTr 37)) (w.heap.size + 1) 37 (trc noTr noSl) from Blk.new_at (by simp) _ _)
  have B1 := Lib.hid ((Joins.below_alloc1 w (.cells (trc x s) 37)).alloc (by simp) (.cells zTr 37))
  have T1 := Lib.hid (h.step B1.out)
  have HT := Lib.hid ht
  have H1 := Lib.hid h1
  have HO := Lib.hid ho
  clear h1 ho
  have e9 : ((x.tch.length : Int) == 0) = false := by simp; intro e; exact hn (by rw [e]; rfl)
  have e8 : x.tch.length ≠ 0 := hn
  have HZ := Lib.hid hz
  have HT2 := Lib.hid (show z.tch.length ≤ 1000 from by rw [hz]; exact HT.out)
  clear hz
  clear h ht
  go_enter Tryz.func29, Tryz.ntmps29
  go_upto_region 1 with fail
  obtain ⟨g, hg⟩ : ∃ g, g = w.heap.size := ⟨_, rfl⟩
  have HG := Lib.hid hg
  rw [← hg] at X1 Z1 ⊢
  clear hg
  generalize (w.alloc (.cells (trc x s) 37)).alloc (.cells zTr 37) = V at X1 Z1 B1 T1 ⊢
  have hgl := X1.out.lt
  have c1 : V.cell? ⟨g, 1, none⟩ = some (.int .i64 1) := by rw [← H1.out]; exact X1.out.cell 1
  have c4 : V.cell? ⟨g, 4, none⟩ = some (.bool false) := by rw [← HO.out]; exact X1.out.cell 4
  obtain ⟨At, ct, et⟩ := own_len T1.out.t
  have c9 : V.cell? ⟨g, 9, none⟩ = some (.slice At x.tch.length ct) := by rw [← et]; exact X1.out.cell 9
  clear et
  have f1 := X1.out.frozen 1
  go_upto_region 7 with fail
  go_upto_region 8 with fail
  have RV := Lib.hid (show Turn (fun k => k = g) V (V.setCell ⟨g, 1, none⟩ (.int .i64 2)) from (Turn.refl (fun k => k = g) V).setCell (p := ⟨g, 1, none⟩) (fun _ => rfl) _)
  have XG := Lib.hid (show Blk (V.setCell ⟨g, 1, none⟩ (.int .i64 2)) g 37 (trc z s) from by rw [HZ.out]; exact X1.out.set_ 1 _)
  have ZG := Lib.hid (Z1.out.turn RV.out (fun e => by have e : g + 1 = g := e; omega))
  have TZ := Lib.hid (show Tm (V.setCell ⟨g, 1, none⟩ (.int .i64 2)) B z s from by
    have := T1.out.offBR X1.out RV.out
    rw [HZ.out]
    exact ⟨this.t, this.v, this.k, this.g⟩)
  have BG := Lib.hid (B1.out.trans (RV.out.below (B := w.heap.size) (fun k hk e => by have := HG.out; omega) B1.out.size))
  clear c1 f1 c4 c9 X1 Z1 B1 T1 RV HZ e9 e8
  generalize V.setCell ⟨g, 1, none⟩ (.int .i64 2) = W0 at XG ZG TZ BG ⊢
  have hgl := XG.out.lt
  refine wp_region_held_drew (S := fun w' => Blk w' g 37 (trc z s)) (by kernel_rfl) XG.out.drew (fun hHeld => ?_)
  have BD := Lib.hid (show Below W0.heap.size W0 W0.drew from (Below.refl _ _).drew)
  generalize W0.drew = W1 at BD hHeld ⊢
  refine wpAnyH_take (i := 0) (v := .agg (trc z s)) rfl (by kernel_rfl) (by kernel_rfl) (by kernel_rfl) (fun _ _ _ h => h) (Or.inl ⟨by rfl, fun w0 hSw => exec_load (x := .tmp 1) rfl rfl (tr_loadR hSw)⟩) (by assumption) ?_
  try simp only [List.getElem_toArray, List.getElem_cons_succ, List.getElem_cons_zero, Act.put, List.setIfInBounds_toArray, List.set_cons_zero, List.set_cons_succ]
  refine wpAnyH_take (i := 1) (v := .agg (trc z s)) rfl (by kernel_rfl) (by kernel_rfl) (by kernel_rfl) (fun _ _ _ h => h) (Or.inl ⟨by rfl, fun w0 hSw => exec_load (x := .tmp 1) rfl rfl (tr_loadR hSw)⟩) (by assumption) ?_
  try simp only [List.getElem_toArray, List.getElem_cons_succ, List.getElem_cons_zero, Act.put, List.setIfInBounds_toArray, List.set_cons_zero, List.set_cons_succ]
  refine wpAnyH_ready (rs := [2]) (by kernel_rfl) (by simp) ?_
  refine AllReadyH.cons rfl (fun K hK => ?_) AllReadyH.nil
  go_simp
  refine (refEach_any (o := []) z s 4 0 _ (TZ.out.step BD.out) (World.ownsRow_nil _ _ _ _) HT2.out (Nat.zero_le _)).mono ?_
  rintro e X3 ⟨u, rfl, hu, hb⟩
  try go_simp
  obtain ⟨Au, cu, rfl⟩ := own_len hu
  have U3 := Lib.hid (own_less hu BD.out.size)
  have E3 := Lib.hid (BD.out.trans (hb.mono BD.out.size))
  clear hu hb
  refine hK.out _ _ (XG.out.here E3.out) (fun hHeld => ?_)
  clear hK K
  have ZH := Lib.hid (ZG.out.here E3.out)
  refine wpAnyH_ready (rs := [3]) (by kernel_rfl) (by simp) ?_
  refine AllReadyH.cons rfl (fun K hK => ?_) AllReadyH.nil
  refine step_store_mid (by rfl) 37 (.tmp 2) (.tmp 22) rfl (g + 1) 0 (trc z s) rfl rfl (ZH.out.there (Nat.le_refl 13)) (tr_infoR _ _) TZ.out.one ?_
  have R4 := Lib.hid (show Turn (fun k => k = g + 1) X3 (X3.setCells (g + 1) 0 (trc z s).toList) from Turn.setCells (S := fun k => k = g + 1) (fun _ => rfl) _ _ _ (Turn.refl _ _))
  have ZE := Lib.hid (ZH.out.put (trc z s) rfl)
  have TE := Lib.hid ((TZ.out.step E3.out).offBR ZH.out R4.out)
  have X4 := Lib.hid ((XG.out.here E3.out).turn R4.out (fun e => by have e : g = g + 1 := e; omega))
  have BE := Lib.hid ((stepB BG.out E3.out).trans (R4.out.below (B := w.heap.size) (fun k hk e => by have := HG.out; omega) (Nat.le_trans BG.out.size E3.out.size)))
  have UE := Lib.hid (own_offB U3.out ZH.out (by decide) R4.out)
  clear R4
  refine hK.out _ _ X4.out (fun hHeld => ?_)
  clear hK K
  generalize X3.setCells (g + 1) 0 (trc z s).toList = Y4 at ZE TE X4 BE UE hHeld ⊢
  refine wpAnyH_take (i := 4) (v := ?_) rfl (by kernel_rfl) (by kernel_rfl) (by kernel_rfl) (fun _ _ _ h => h) (Or.inl ⟨by rfl, ?_⟩) (by assumption) ?_
  rotate_left
  · (intro w0 hSw; (try dsimp only at hSw); go_simp; try with_reducible rfl)
  try simp only [List.getElem_toArray, List.getElem_cons_succ, List.getElem_cons_zero, Act.put, List.setIfInBounds_toArray, List.set_cons_zero, List.set_cons_succ]
  refine wpAnyH_take (i := 5) (v := ?_) rfl (by kernel_rfl) (by kernel_rfl) (by kernel_rfl) (fun _ _ _ h => h) (Or.inl ⟨by rfl, ?_⟩) (by assumption) ?_
  rotate_left
  · (intro w0 hSw; (try dsimp only at hSw); go_simp; try with_reducible rfl)
  try simp only [List.getElem_toArray, List.getElem_cons_succ, List.getElem_cons_zero, Act.put, List.setIfInBounds_toArray, List.set_cons_zero, List.set_cons_succ]
  refine wpAnyH_done (by kernel_rfl) ?_ _
  clear hHeld
  go_wp2_with fail
  exact bodyPost_ret (v := .tuple #[.agg (trc z s), .slice Au (eachL z 4 0 z.tch []).length cu, .int .i64 0]) (results_and2 rfl rfl rfl rfl (tr_loadR ZE.out)) rfl ⟨s, _, rfl, TE.out.less (Nat.zero_le _), own_less UE.out (by have := BG.out.size; omega), BE.out⟩
theorem refFinish_any {B : Nat} (x : Tr) (s : Sl) (w : World) (h : Tm w B x s) (ht : x.tch.length ≤ 1000) (hr : x.st = 1 → x.rs = 0) :
    Calls Tryz.prog 29 #[.agg (trc x s)] w (ActP w (finL x)) := by
  unfold finL
  split
  · rename_i h1; exact refFinish_a x s h1 w h ht
  · rename_i h1
    have h1 : x.st = 1 := by omega
    split
    · rename_i ho; exact refFinish_b x s h1 ho w h ht
    · rename_i ho
      have ho : x.op = false := by simpa using ho
      unfold goOnL
      by_cases hn : x.tch = []
      · rw [if_neg (fun e => e.2 hn), if_neg (fun e => e (by rw [hn]; rfl))]
        have := refFinish_c x s h1 ho (by rw [hn]; rfl) (comL x) (by unfold comL; rw [← hr h1]) w h ht
        rwa [eachL_news (z := comL x) (k := 6) (cd := 1) rfl rfl, without_no] at this
      · rw [if_pos ⟨h1, hn⟩]
        have := refFinish_d x s h1 ho (by rw [Ne, List.length_eq_zero_iff]; exact hn) (pre2 x) rfl w h ht
        rwa [eachL_news (z := pre2 x) (k := 4) (cd := 0) rfl rfl, without_no] at this
end Go.Proofs.YthfhhapefjideaaGreat
