/- The law's alive: the document's example. -/
import Derived.Test.YtflnjechinfcdaaLineQ
import Derived.Test.YtflnjechinfcdaaLineG
import Derived.Test.YtflnjechinfcdaaRef7A
namespace Go.Proofs.Ytflnjechinfcdaa
open Go.RowKit
set_option linter.unusedVariables false
set_option linter.unusedSimpArgs false

def wA : Wt := ⟨1, 1, 3, false⟩
def wB : Wt := ⟨2, 1, 3, false⟩
def wC : Wt := ⟨3, 1, 4, true⟩
theorem p1 : pushV 3 wA [] [] = .nilIface ∧ putU 3 wA [] [] = [] ∧ putD 3 wA [] [] = [wA] := by refine ⟨?_, ?_, ?_⟩ <;> rfl
theorem p2 : pushV 3 wB [] [wA] = .nilIface ∧ putU 3 wB [] [wA] = [] ∧ putD 3 wB [] [wA] = [wA, wB] := by refine ⟨?_, ?_, ?_⟩ <;> rfl
theorem p3 : pushV 3 wC [] [wA, wB] = .nilIface ∧ putU 3 wC [] [wA, wB] = [wC] ∧ putD 3 wC [] [wA, wB] = [wA, wB] := by refine ⟨?_, ?_, ?_⟩ <;> rfl
theorem stepB' {V W W' : World} (h : Below V.heap.size V W) (hb : Below W.heap.size W W') : Below V.heap.size V W' := stepB h hb
theorem a2 : ahL 2 [wC] [wA, wB] = [wC, wA] := rfl
/-- The three that are written out, each in its block. -/
structure Three (a b c : Nat) (w : World) : Prop where
  a : Blk w a 33 (wc wA)
  b : Blk w b 33 (wc wB)
  c : Blk w c 33 (wc wC)
theorem Three.here {a b c : Nat} {w w' : World} (h : Three a b c w) (hb : Below w.heap.size w w') : Three a b c w' := ⟨h.a.here hb, h.b.here hb, h.c.here hb⟩
theorem Three.turn {a b c : Nat} {w w' : World} {S : Nat → Prop} (h : Three a b c w) (ht : Turn S w w') (ha : ¬ S a) (hb : ¬ S b) (hc : ¬ S c) : Three a b c w' := ⟨h.a.turn ht ha, h.b.turn ht hb, h.c.turn ht hc⟩
set_option maxRecDepth 100000 in
set_option maxHeartbeats 16000000 in
theorem alive_true (w : World) : Calls Try.prog 7 #[] w fun e w' => e = .returned (.bool true) ∧ Below w.heap.size w w' := by
  have hn0 := fun W => run_neq_nil_nil (P := Try.prog) W 26 Try.underlying26
  go_enter Try.func7, Try.ntmps7
  go_wp2_with fail
  refine (newLine_ok 3 (by decide) _).mono ?_
  rintro e w1 ⟨rfl, hl, hb⟩
  have L1 := Lib.hid hl
  have B1 := Lib.hid hb
  clear hl hb
  generalize hg : w.heap.size = g at L1 ⊢
  have HG := Lib.hid hg
  clear hg
  obtain ⟨X, hX⟩ : ∃ X, X = ((w1.alloc (.cells #[.int .i64 1, .int .i64 1, .int .i64 3, .bool false] 33)).alloc (.cells #[.int .i64 2, .int .i64 1, .int .i64 3, .bool false] 33)).alloc (.cells #[.int .i64 3, .int .i64 1, .int .i64 4, .bool true] 33) := ⟨_, rfl⟩
  have BX : Below w1.heap.size w1 X := by rw [hX]; exact ((Joins.below_alloc2 w1 _ _).alloc (by simp; omega) _)
  have TX := Lib.hid (show Three w1.heap.size (w1.heap.size + 1) (w1.heap.size + 2) X by
    rw [hX]
    exact ⟨((Blk.new _ _ _).alloc _).alloc _, (Blk.new_at (by simp) _ _).alloc _, Blk.new_at (by simp) _ _⟩)
  have LX := Lib.hid (L1.out.step BX)
  have B2 := Lib.hid (stepB B1.out BX)
  have OFF := Lib.hid (show ∀ x, LS g none none x → x < w1.heap.size from fun x hx => (L1.out.ls_lt x hx).2)
  clear L1 BX
  go_wp2_with fail
  rw [← hX]
  clear hX
  generalize hsz : w1.heap.size = z at TX OFF ⊢
  have HSZ := Lib.hid hsz
  clear hsz
  refine (show Calls _ _ #[_, .agg (wc wA)] _ _ from (push_any wA _ LX.out).mono ?_)
  rintro e w2 ⟨rfl, r0, r1, hl, ht, hx⟩
  rw [p1.1]
  rw [p1.2.1, p1.2.2] at hl
  have L2 := Lib.hid hl
  have N2 := Lib.hid hx
  have T2 := Lib.hid (TX.out.turn ht (fun hs => by have := OFF.out _ hs; omega) (fun hs => by have := OFF.out _ hs; omega) (fun hs => by have := OFF.out _ hs; omega))
  have B3 := Lib.hid (B2.out.trans (LX.out.below_of ht |>.mono (by rw [HG.out]; exact Nat.le_refl _)))
  have OFF2 := Lib.hid (show ∀ x, LS g r0 r1 x → x ≠ z ∧ x ≠ z + 1 ∧ x ≠ z + 2 from fun x hx' => by
    rcases Nat.lt_or_ge x X.heap.size with h9 | h9
    · have := OFF.out x (N2.out.ls x h9 hx'); omega
    · have := TX.out.c.lt; omega)
  clear hl ht hx
  go_wp2_with (refine wpList_load_row_g (by rfl) 33 (.tmp 4) rfl (z + 1) rfl 33 (wc wB) (0, 0) _ T2.out.b Try.underlying33 rfl (wc_info _) ?_)
  refine (push_any wB _ L2.out).mono ?_
  rintro e w3 ⟨rfl, s0, s1, hl, ht, hx⟩
  rw [p2.1]
  rw [p2.2.1, p2.2.2] at hl
  have L3 := Lib.hid hl
  have T3 := Lib.hid (T2.out.turn ht (fun hs => (OFF2.out _ hs).1 rfl) (fun hs => (OFF2.out _ hs).2.1 rfl) (fun hs => (OFF2.out _ hs).2.2 rfl))
  have B4 := Lib.hid (B3.out.trans (L2.out.below_of ht |>.mono (by rw [HG.out]; exact Nat.le_refl _)))
  have OFF3 := Lib.hid (show ∀ x, LS g s0 s1 x → x ≠ z ∧ x ≠ z + 1 ∧ x ≠ z + 2 from fun x hx' => by
    rcases Nat.lt_or_ge x w2.heap.size with h9 | h9
    · exact OFF2.out x (hx.ls x h9 hx')
    · have := T2.out.c.lt; omega)
  clear hl ht hx
  go_wp2_with (refine wpList_load_row_g (by rfl) 33 (.tmp 5) rfl (z + 2) rfl 33 (wc wC) (0, 0) _ T3.out.c Try.underlying33 rfl (wc_info _) ?_)
  refine (push_any wC _ L3.out).mono ?_
  rintro e w4 ⟨rfl, u0, u1, hl, ht, hx⟩
  rw [p3.1]
  rw [p3.2.1, p3.2.2] at hl
  have L4 := Lib.hid (Line.step hl (below_drewN (Below.refl _ w4) 1))
  have T4 := Lib.hid ((T3.out.turn ht (fun hs => (OFF3.out _ hs).1 rfl) (fun hs => (OFF3.out _ hs).2.1 rfl) (fun hs => (OFF3.out _ hs).2.2 rfl)).here (below_drewN (Below.refl _ w4) 1))
  have B5 := Lib.hid (below_drewN (B4.out.trans (L3.out.below_of ht |>.mono (by rw [HG.out]; exact Nat.le_refl _))) 1)
  clear hl ht hx
  go_wp2_with fail
  refine wp_region_held_drew (S := Three z (z + 1) (z + 2)) (by kernel_rfl) T4.out (fun hHeld => ?_)
  refine wpAnyH_take (i := 0) (v := ?_) rfl (by kernel_rfl) (by kernel_rfl) (by kernel_rfl) (fun _ _ _ h => h) (Or.inl ⟨by rfl, ?_⟩) (by assumption) ?_
  rotate_left
  · (intro w0 hSw; (try dsimp only at hSw); go_simp; try with_reducible rfl)
  try simp only [List.getElem_toArray, List.getElem_cons_succ, List.getElem_cons_zero, Act.put, List.setIfInBounds_toArray, List.set_cons_zero, List.set_cons_succ]
  refine wpAnyH_take (i := 2) (v := .agg (wc wC)) rfl (by kernel_rfl) (by kernel_rfl) (by kernel_rfl) (fun _ _ _ h => h) (Or.inl ⟨by rfl, fun w0 hSw => exec_load (x := .tmp 5) rfl (ad := ⟨z + 2, 0, none⟩) rfl (loadW (hSw.c))⟩) (by assumption) ?_
  try simp only [List.getElem_toArray, List.getElem_cons_succ, List.getElem_cons_zero, Act.put, List.setIfInBounds_toArray, List.set_cons_zero, List.set_cons_succ]
  refine wpAnyH_take (i := 3) (v := .agg (wc wA)) rfl (by kernel_rfl) (by kernel_rfl) (by kernel_rfl) (fun _ _ _ h => h) (Or.inl ⟨by rfl, fun w0 hSw => exec_load (x := .tmp 3) rfl (ad := ⟨z, 0, none⟩) rfl (loadW (hSw.a))⟩) (by assumption) ?_
  try simp only [List.getElem_toArray, List.getElem_cons_succ, List.getElem_cons_zero, Act.put, List.setIfInBounds_toArray, List.set_cons_zero, List.set_cons_succ]
  refine wpAnyH_take (i := 4) (v := .agg (wc wB)) rfl (by kernel_rfl) (by kernel_rfl) (by kernel_rfl) (fun _ _ _ h => h) (Or.inl ⟨by rfl, fun w0 hSw => exec_load (x := .tmp 4) rfl (ad := ⟨z + 1, 0, none⟩) rfl (loadW (hSw.b))⟩) (by assumption) ?_
  try simp only [List.getElem_toArray, List.getElem_cons_succ, List.getElem_cons_zero, Act.put, List.setIfInBounds_toArray, List.set_cons_zero, List.set_cons_succ]
  rw [show w4.drew = w4.drewN 1 from rfl] at hHeld ⊢
  generalize w4.drewN 1 = V at L4 T4 B5 hHeld ⊢
  have K0 := Lib.hid (Below.refl V.heap.size V)
  refine wpAnyH_ready (rs := [1, 5]) (by kernel_rfl) (by simp) ?_
  refine AllReadyH.cons rfl (fun K hK => ?_) (AllReadyH.cons rfl (fun K hK => ?_) AllReadyH.nil)
  · go_simp
    refine (allLine_any V (L4.out.step K0.out)).mono ?_
    rintro e X1 ⟨A1, rfl, hT, hb⟩
    try go_simp
    have K1 := Lib.hid (stepB' K0.out hb)
    have RA := Lib.hid (show Reads X1 X1.heap.size 4 A1 3 (wvs [wC, wA, wB]) from hT.reads)
    clear hT hb
    refine hK.out _ _ (T4.out.here K1.out) (fun hHeld => ?_)
    clear hK K hHeld
    have hHeld := T4.out.here K1.out
    refine wpAnyH_ready (rs := [5]) (by kernel_rfl) (by simp) ?_
    refine AllReadyH.cons rfl (fun K hK => ?_) AllReadyH.nil
    refine step_build_w (by rfl) 3 _ rfl (builds3 wC wA wB) (by rfl) ?_
    have hb : Below X1.heap.size X1 (X1.alloc (.cells (wvs [wC, wA, wB]).toArray 33)) := Joins.below_alloc1 _ _
    have K2 := Lib.hid (stepB' K1.out hb)
    have RB := Lib.hid (reads_blk (L := [wC, wA, wB]) (Blk.new X1 33 _))
    have RA := Lib.hid ((RA.out.below hb).more hb.size)
    clear hb
    refine hK.out _ _ (T4.out.here K2.out) (fun hHeld => ?_)
    clear hK K hHeld
    have hHeld := T4.out.here K2.out
    generalize X1.alloc (.cells (wvs [wC, wA, wB]).toArray 33) = X2 at K2 RB RA hHeld ⊢
    refine wpAnyH_ready (rs := [6]) (by kernel_rfl) (by simp) ?_
    refine AllReadyH.cons rfl (fun K hK => ?_) AllReadyH.nil
    go_simp
    refine (same_any _ _ _ _ _ _ _ _ [wC, wA, wB] [wC, wA, wB] X2 (by decide) (by decide) RA.out RB.out).mono ?_
    rintro e X3' ⟨rfl, q3, rfl⟩
    rw [decide_eq_true rfl]
    try go_simp
    have K3 := Lib.hid (below_drewN K2.out q3)
    refine hK.out _ _ (T4.out.here K3.out) (fun hHeld => ?_)
    clear hK K hHeld
    have hHeld := T4.out.here K3.out
    generalize X2.drewN q3 = X3 at K3 hHeld ⊢
    clear RA RB
    refine wpAnyH_take (i := 7) (v := ?_) rfl (by kernel_rfl) (by kernel_rfl) (by kernel_rfl) (fun _ _ _ h => h) (Or.inl ⟨by rfl, ?_⟩) (by assumption) ?_
    rotate_left
    · (intro w0 hSw; (try dsimp only at hSw); go_simp; try with_reducible rfl)
    try simp only [List.getElem_toArray, List.getElem_cons_succ, List.getElem_cons_zero, Act.put, List.setIfInBounds_toArray, List.set_cons_zero, List.set_cons_succ]
    refine wpAnyH_take (i := 8) (v := ?_) rfl (by kernel_rfl) (by kernel_rfl) (by kernel_rfl) (fun _ _ _ h => h) (Or.inl ⟨by rfl, ?_⟩) (by assumption) ?_
    rotate_left
    · (intro w0 hSw; (try dsimp only at hSw); go_simp; try with_reducible rfl)
    try simp only [List.getElem_toArray, List.getElem_cons_succ, List.getElem_cons_zero, Act.put, List.setIfInBounds_toArray, List.set_cons_zero, List.set_cons_succ]
    refine wpAnyH_take (i := 10) (v := .agg (wc wC)) rfl (by kernel_rfl) (by kernel_rfl) (by kernel_rfl) (fun _ _ _ h => h) (Or.inl ⟨by rfl, fun w0 hSw => exec_load (x := .tmp 5) rfl (ad := ⟨z + 2, 0, none⟩) rfl (loadW (hSw.c))⟩) (by assumption) ?_
    try simp only [List.getElem_toArray, List.getElem_cons_succ, List.getElem_cons_zero, Act.put, List.setIfInBounds_toArray, List.set_cons_zero, List.set_cons_succ]
    refine wpAnyH_take (i := 11) (v := .agg (wc wA)) rfl (by kernel_rfl) (by kernel_rfl) (by kernel_rfl) (fun _ _ _ h => h) (Or.inl ⟨by rfl, fun w0 hSw => exec_load (x := .tmp 3) rfl (ad := ⟨z, 0, none⟩) rfl (loadW (hSw.a))⟩) (by assumption) ?_
    try simp only [List.getElem_toArray, List.getElem_cons_succ, List.getElem_cons_zero, Act.put, List.setIfInBounds_toArray, List.set_cons_zero, List.set_cons_succ]
    refine wpAnyH_ready (rs := [9, 12]) (by kernel_rfl) (by simp) ?_
    refine AllReadyH.cons rfl (fun K hK => ?_) (AllReadyH.cons rfl (fun K hK => ?_) AllReadyH.nil)
    · go_simp
      refine (ahead_any 2 X3 (L4.out.step K3.out)).mono ?_
      rintro e X4 ⟨A4, n4, rfl, hn, hT, hb⟩
      rw [a2] at hn hT
      obtain rfl : n4 = 2 := hn
      try go_simp
      have K4 := Lib.hid (stepB' K3.out hb)
      have RA := Lib.hid hT.reads
      clear hT hb
      refine hK.out _ _ (T4.out.here K4.out) (fun hHeld => ?_)
      clear hK K hHeld
      have hHeld := T4.out.here K4.out
      refine wpAnyH_ready (rs := [12]) (by kernel_rfl) (by simp) ?_
      refine AllReadyH.cons rfl (fun K hK => ?_) AllReadyH.nil
      refine step_build_w (by rfl) 2 _ rfl (builds2 wC wA) (by rfl) ?_
      have hb : Below X4.heap.size X4 (X4.alloc (.cells (wvs [wC, wA]).toArray 33)) := Joins.below_alloc1 _ _
      have K5 := Lib.hid (stepB' K4.out hb)
      have RB := Lib.hid (reads_blk (L := [wC, wA]) (Blk.new X4 33 _))
      have RA := Lib.hid ((RA.out.below hb).more hb.size)
      clear hb
      refine hK.out _ _ (T4.out.here K5.out) (fun hHeld => ?_)
      clear hK K hHeld
      have hHeld := T4.out.here K5.out
      generalize X4.alloc (.cells (wvs [wC, wA]).toArray 33) = X5 at K5 RB RA hHeld ⊢
      refine wpAnyH_ready (rs := [13]) (by kernel_rfl) (by simp) ?_
      refine AllReadyH.cons rfl (fun K hK => ?_) AllReadyH.nil
      go_simp
      refine (same_any _ _ _ _ _ _ _ _ [wC, wA] [wC, wA] X5 (by decide) (by decide) RA.out RB.out).mono ?_
      rintro e X6' ⟨rfl, q6, rfl⟩
      rw [decide_eq_true rfl]
      try go_simp
      have K6 := Lib.hid (below_drewN K5.out q6)
      refine hK.out _ _ (T4.out.here K6.out) (fun hHeld => ?_)
      clear hK K hHeld
      have hHeld := T4.out.here K6.out
      generalize X5.drewN q6 = X6 at K6 hHeld ⊢
      refine wpAnyH_take (i := 14) (v := ?_) rfl (by kernel_rfl) (by kernel_rfl) (by kernel_rfl) (fun _ _ _ h => h) (Or.inl ⟨by rfl, ?_⟩) (by assumption) ?_
      rotate_left
      · (intro w0 hSw; (try dsimp only at hSw); go_simp; try with_reducible rfl)
      try simp only [List.getElem_toArray, List.getElem_cons_succ, List.getElem_cons_zero, Act.put, List.setIfInBounds_toArray, List.set_cons_zero, List.set_cons_succ]
      refine wpAnyH_take (i := 15) (v := ?_) rfl (by kernel_rfl) (by kernel_rfl) (by kernel_rfl) (fun _ _ _ h => h) (Or.inl ⟨by rfl, ?_⟩) (by assumption) ?_
      rotate_left
      · (intro w0 hSw; (try dsimp only at hSw); go_simp; try with_reducible rfl)
      try simp only [List.getElem_toArray, List.getElem_cons_succ, List.getElem_cons_zero, Act.put, List.setIfInBounds_toArray, List.set_cons_zero, List.set_cons_succ]
      refine wpAnyH_done (by kernel_rfl) ?_ _
      clear hHeld
      go_wp2_with fail
      go_ret
      exact ⟨rfl, B5.out.trans (K6.out.mono B5.out.size)⟩
    · refine step_build_w (by rfl) 2 _ rfl (builds2 wC wA) (by rfl) ?_
      have hb : Below X3.heap.size X3 (X3.alloc (.cells (wvs [wC, wA]).toArray 33)) := Joins.below_alloc1 _ _
      have K4 := Lib.hid (stepB' K3.out hb)
      have RB := Lib.hid (reads_blk (L := [wC, wA]) (Blk.new X3 33 _))
      clear hb
      refine hK.out _ _ (T4.out.here K4.out) (fun hHeld => ?_)
      clear hK K hHeld
      have hHeld := T4.out.here K4.out
      generalize X3.alloc (.cells (wvs [wC, wA]).toArray 33) = X4 at K4 RB hHeld ⊢
      refine wpAnyH_ready (rs := [9]) (by kernel_rfl) (by simp) ?_
      refine AllReadyH.cons rfl (fun K hK => ?_) AllReadyH.nil
      go_simp
      refine (ahead_any 2 X4 (L4.out.step K4.out)).mono ?_
      rintro e X5 ⟨A5, n5, rfl, hn, hT, hb⟩
      rw [a2] at hn hT
      obtain rfl : n5 = 2 := hn
      try go_simp
      have K5 := Lib.hid (stepB' K4.out hb)
      have RA := Lib.hid hT.reads
      have RB := Lib.hid ((RB.out.below hb).more hb.size)
      clear hT hb
      refine hK.out _ _ (T4.out.here K5.out) (fun hHeld => ?_)
      clear hK K hHeld
      have hHeld := T4.out.here K5.out
      refine wpAnyH_ready (rs := [13]) (by kernel_rfl) (by simp) ?_
      refine AllReadyH.cons rfl (fun K hK => ?_) AllReadyH.nil
      go_simp
      refine (same_any _ _ _ _ _ _ _ _ [wC, wA] [wC, wA] X5 (by decide) (by decide) RA.out RB.out).mono ?_
      rintro e X6' ⟨rfl, q6, rfl⟩
      rw [decide_eq_true rfl]
      try go_simp
      have K6 := Lib.hid (below_drewN K5.out q6)
      refine hK.out _ _ (T4.out.here K6.out) (fun hHeld => ?_)
      clear hK K hHeld
      have hHeld := T4.out.here K6.out
      generalize X5.drewN q6 = X6 at K6 hHeld ⊢
      refine wpAnyH_take (i := 14) (v := ?_) rfl (by kernel_rfl) (by kernel_rfl) (by kernel_rfl) (fun _ _ _ h => h) (Or.inl ⟨by rfl, ?_⟩) (by assumption) ?_
      rotate_left
      · (intro w0 hSw; (try dsimp only at hSw); go_simp; try with_reducible rfl)
      try simp only [List.getElem_toArray, List.getElem_cons_succ, List.getElem_cons_zero, Act.put, List.setIfInBounds_toArray, List.set_cons_zero, List.set_cons_succ]
      refine wpAnyH_take (i := 15) (v := ?_) rfl (by kernel_rfl) (by kernel_rfl) (by kernel_rfl) (fun _ _ _ h => h) (Or.inl ⟨by rfl, ?_⟩) (by assumption) ?_
      rotate_left
      · (intro w0 hSw; (try dsimp only at hSw); go_simp; try with_reducible rfl)
      try simp only [List.getElem_toArray, List.getElem_cons_succ, List.getElem_cons_zero, Act.put, List.setIfInBounds_toArray, List.set_cons_zero, List.set_cons_succ]
      refine wpAnyH_done (by kernel_rfl) ?_ _
      clear hHeld
      go_wp2_with fail
      go_ret
      exact ⟨rfl, B5.out.trans (K6.out.mono B5.out.size)⟩
  · refine step_build_w (by rfl) 3 _ rfl (builds3 wC wA wB) (by rfl) ?_
    have hb : Below V.heap.size V (V.alloc (.cells (wvs [wC, wA, wB]).toArray 33)) := Joins.below_alloc1 _ _
    have K1 := Lib.hid (stepB' K0.out hb)
    have RB := Lib.hid (reads_blk (L := [wC, wA, wB]) (Blk.new V 33 _))
    clear hb
    refine hK.out _ _ (T4.out.here K1.out) (fun hHeld => ?_)
    clear hK K hHeld
    have hHeld := T4.out.here K1.out
    generalize V.alloc (.cells (wvs [wC, wA, wB]).toArray 33) = X1 at K1 RB hHeld ⊢
    refine wpAnyH_ready (rs := [1]) (by kernel_rfl) (by simp) ?_
    refine AllReadyH.cons rfl (fun K hK => ?_) AllReadyH.nil
    go_simp
    refine (allLine_any X1 (L4.out.step K1.out)).mono ?_
    rintro e X2 ⟨A2, rfl, hT, hb⟩
    try go_simp
    have K2 := Lib.hid (stepB' K1.out hb)
    have RA := Lib.hid (show Reads X2 X2.heap.size 4 A2 3 (wvs [wC, wA, wB]) from hT.reads)
    have RB := Lib.hid ((RB.out.below hb).more hb.size)
    clear hT hb
    refine hK.out _ _ (T4.out.here K2.out) (fun hHeld => ?_)
    clear hK K hHeld
    have hHeld := T4.out.here K2.out
    refine wpAnyH_ready (rs := [6]) (by kernel_rfl) (by simp) ?_
    refine AllReadyH.cons rfl (fun K hK => ?_) AllReadyH.nil
    go_simp
    refine (same_any _ _ _ _ _ _ _ _ [wC, wA, wB] [wC, wA, wB] X2 (by decide) (by decide) RA.out RB.out).mono ?_
    rintro e X3' ⟨rfl, q3, rfl⟩
    rw [decide_eq_true rfl]
    try go_simp
    have K3 := Lib.hid (below_drewN K2.out q3)
    refine hK.out _ _ (T4.out.here K3.out) (fun hHeld => ?_)
    clear hK K hHeld
    have hHeld := T4.out.here K3.out
    generalize X2.drewN q3 = X3 at K3 hHeld ⊢
    clear RA RB
    refine wpAnyH_take (i := 7) (v := ?_) rfl (by kernel_rfl) (by kernel_rfl) (by kernel_rfl) (fun _ _ _ h => h) (Or.inl ⟨by rfl, ?_⟩) (by assumption) ?_
    rotate_left
    · (intro w0 hSw; (try dsimp only at hSw); go_simp; try with_reducible rfl)
    try simp only [List.getElem_toArray, List.getElem_cons_succ, List.getElem_cons_zero, Act.put, List.setIfInBounds_toArray, List.set_cons_zero, List.set_cons_succ]
    refine wpAnyH_take (i := 8) (v := ?_) rfl (by kernel_rfl) (by kernel_rfl) (by kernel_rfl) (fun _ _ _ h => h) (Or.inl ⟨by rfl, ?_⟩) (by assumption) ?_
    rotate_left
    · (intro w0 hSw; (try dsimp only at hSw); go_simp; try with_reducible rfl)
    try simp only [List.getElem_toArray, List.getElem_cons_succ, List.getElem_cons_zero, Act.put, List.setIfInBounds_toArray, List.set_cons_zero, List.set_cons_succ]
    refine wpAnyH_take (i := 10) (v := .agg (wc wC)) rfl (by kernel_rfl) (by kernel_rfl) (by kernel_rfl) (fun _ _ _ h => h) (Or.inl ⟨by rfl, fun w0 hSw => exec_load (x := .tmp 5) rfl (ad := ⟨z + 2, 0, none⟩) rfl (loadW (hSw.c))⟩) (by assumption) ?_
    try simp only [List.getElem_toArray, List.getElem_cons_succ, List.getElem_cons_zero, Act.put, List.setIfInBounds_toArray, List.set_cons_zero, List.set_cons_succ]
    refine wpAnyH_take (i := 11) (v := .agg (wc wA)) rfl (by kernel_rfl) (by kernel_rfl) (by kernel_rfl) (fun _ _ _ h => h) (Or.inl ⟨by rfl, fun w0 hSw => exec_load (x := .tmp 3) rfl (ad := ⟨z, 0, none⟩) rfl (loadW (hSw.a))⟩) (by assumption) ?_
    try simp only [List.getElem_toArray, List.getElem_cons_succ, List.getElem_cons_zero, Act.put, List.setIfInBounds_toArray, List.set_cons_zero, List.set_cons_succ]
    refine wpAnyH_ready (rs := [9, 12]) (by kernel_rfl) (by simp) ?_
    refine AllReadyH.cons rfl (fun K hK => ?_) (AllReadyH.cons rfl (fun K hK => ?_) AllReadyH.nil)
    · go_simp
      refine (ahead_any 2 X3 (L4.out.step K3.out)).mono ?_
      rintro e X4 ⟨A4, n4, rfl, hn, hT, hb⟩
      rw [a2] at hn hT
      obtain rfl : n4 = 2 := hn
      try go_simp
      have K4 := Lib.hid (stepB' K3.out hb)
      have RA := Lib.hid hT.reads
      clear hT hb
      refine hK.out _ _ (T4.out.here K4.out) (fun hHeld => ?_)
      clear hK K hHeld
      have hHeld := T4.out.here K4.out
      refine wpAnyH_ready (rs := [12]) (by kernel_rfl) (by simp) ?_
      refine AllReadyH.cons rfl (fun K hK => ?_) AllReadyH.nil
      refine step_build_w (by rfl) 2 _ rfl (builds2 wC wA) (by rfl) ?_
      have hb : Below X4.heap.size X4 (X4.alloc (.cells (wvs [wC, wA]).toArray 33)) := Joins.below_alloc1 _ _
      have K5 := Lib.hid (stepB' K4.out hb)
      have RB := Lib.hid (reads_blk (L := [wC, wA]) (Blk.new X4 33 _))
      have RA := Lib.hid ((RA.out.below hb).more hb.size)
      clear hb
      refine hK.out _ _ (T4.out.here K5.out) (fun hHeld => ?_)
      clear hK K hHeld
      have hHeld := T4.out.here K5.out
      generalize X4.alloc (.cells (wvs [wC, wA]).toArray 33) = X5 at K5 RB RA hHeld ⊢
      refine wpAnyH_ready (rs := [13]) (by kernel_rfl) (by simp) ?_
      refine AllReadyH.cons rfl (fun K hK => ?_) AllReadyH.nil
      go_simp
      refine (same_any _ _ _ _ _ _ _ _ [wC, wA] [wC, wA] X5 (by decide) (by decide) RA.out RB.out).mono ?_
      rintro e X6' ⟨rfl, q6, rfl⟩
      rw [decide_eq_true rfl]
      try go_simp
      have K6 := Lib.hid (below_drewN K5.out q6)
      refine hK.out _ _ (T4.out.here K6.out) (fun hHeld => ?_)
      clear hK K hHeld
      have hHeld := T4.out.here K6.out
      generalize X5.drewN q6 = X6 at K6 hHeld ⊢
      refine wpAnyH_take (i := 14) (v := ?_) rfl (by kernel_rfl) (by kernel_rfl) (by kernel_rfl) (fun _ _ _ h => h) (Or.inl ⟨by rfl, ?_⟩) (by assumption) ?_
      rotate_left
      · (intro w0 hSw; (try dsimp only at hSw); go_simp; try with_reducible rfl)
      try simp only [List.getElem_toArray, List.getElem_cons_succ, List.getElem_cons_zero, Act.put, List.setIfInBounds_toArray, List.set_cons_zero, List.set_cons_succ]
      refine wpAnyH_take (i := 15) (v := ?_) rfl (by kernel_rfl) (by kernel_rfl) (by kernel_rfl) (fun _ _ _ h => h) (Or.inl ⟨by rfl, ?_⟩) (by assumption) ?_
      rotate_left
      · (intro w0 hSw; (try dsimp only at hSw); go_simp; try with_reducible rfl)
      try simp only [List.getElem_toArray, List.getElem_cons_succ, List.getElem_cons_zero, Act.put, List.setIfInBounds_toArray, List.set_cons_zero, List.set_cons_succ]
      refine wpAnyH_done (by kernel_rfl) ?_ _
      clear hHeld
      go_wp2_with fail
      go_ret
      exact ⟨rfl, B5.out.trans (K6.out.mono B5.out.size)⟩
    · refine step_build_w (by rfl) 2 _ rfl (builds2 wC wA) (by rfl) ?_
      have hb : Below X3.heap.size X3 (X3.alloc (.cells (wvs [wC, wA]).toArray 33)) := Joins.below_alloc1 _ _
      have K4 := Lib.hid (stepB' K3.out hb)
      have RB := Lib.hid (reads_blk (L := [wC, wA]) (Blk.new X3 33 _))
      clear hb
      refine hK.out _ _ (T4.out.here K4.out) (fun hHeld => ?_)
      clear hK K hHeld
      have hHeld := T4.out.here K4.out
      generalize X3.alloc (.cells (wvs [wC, wA]).toArray 33) = X4 at K4 RB hHeld ⊢
      refine wpAnyH_ready (rs := [9]) (by kernel_rfl) (by simp) ?_
      refine AllReadyH.cons rfl (fun K hK => ?_) AllReadyH.nil
      go_simp
      refine (ahead_any 2 X4 (L4.out.step K4.out)).mono ?_
      rintro e X5 ⟨A5, n5, rfl, hn, hT, hb⟩
      rw [a2] at hn hT
      obtain rfl : n5 = 2 := hn
      try go_simp
      have K5 := Lib.hid (stepB' K4.out hb)
      have RA := Lib.hid hT.reads
      have RB := Lib.hid ((RB.out.below hb).more hb.size)
      clear hT hb
      refine hK.out _ _ (T4.out.here K5.out) (fun hHeld => ?_)
      clear hK K hHeld
      have hHeld := T4.out.here K5.out
      refine wpAnyH_ready (rs := [13]) (by kernel_rfl) (by simp) ?_
      refine AllReadyH.cons rfl (fun K hK => ?_) AllReadyH.nil
      go_simp
      refine (same_any _ _ _ _ _ _ _ _ [wC, wA] [wC, wA] X5 (by decide) (by decide) RA.out RB.out).mono ?_
      rintro e X6' ⟨rfl, q6, rfl⟩
      rw [decide_eq_true rfl]
      try go_simp
      have K6 := Lib.hid (below_drewN K5.out q6)
      refine hK.out _ _ (T4.out.here K6.out) (fun hHeld => ?_)
      clear hK K hHeld
      have hHeld := T4.out.here K6.out
      generalize X5.drewN q6 = X6 at K6 hHeld ⊢
      refine wpAnyH_take (i := 14) (v := ?_) rfl (by kernel_rfl) (by kernel_rfl) (by kernel_rfl) (fun _ _ _ h => h) (Or.inl ⟨by rfl, ?_⟩) (by assumption) ?_
      rotate_left
      · (intro w0 hSw; (try dsimp only at hSw); go_simp; try with_reducible rfl)
      try simp only [List.getElem_toArray, List.getElem_cons_succ, List.getElem_cons_zero, Act.put, List.setIfInBounds_toArray, List.set_cons_zero, List.set_cons_succ]
      refine wpAnyH_take (i := 15) (v := ?_) rfl (by kernel_rfl) (by kernel_rfl) (by kernel_rfl) (fun _ _ _ h => h) (Or.inl ⟨by rfl, ?_⟩) (by assumption) ?_
      rotate_left
      · (intro w0 hSw; (try dsimp only at hSw); go_simp; try with_reducible rfl)
      try simp only [List.getElem_toArray, List.getElem_cons_succ, List.getElem_cons_zero, Act.put, List.setIfInBounds_toArray, List.set_cons_zero, List.set_cons_succ]
      refine wpAnyH_done (by kernel_rfl) ?_ _
      clear hHeld
      go_wp2_with fail
      go_ret
      exact ⟨rfl, B5.out.trans (K6.out.mono B5.out.size)⟩
end Go.Proofs.Ytflnjechinfcdaa
