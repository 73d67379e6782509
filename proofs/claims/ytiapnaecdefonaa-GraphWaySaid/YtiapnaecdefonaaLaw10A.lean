/- The laws' alive; what two answers that are one list come to. -/
import Derived.Test.YtiapnaecdefonaaGraG
import Derived.Test.YtiapnaecdefonaaGraE
import Derived.Test.YtiapnaecdefonaaGraI
import Derived.Test.YtiapnaecdefonaaGraZ
namespace Go.Proofs.Ytiapnaecdefonaa
open Go.RowKit
set_option linter.unusedVariables false
set_option linter.unusedSimpArgs false

def L0 : List (List Int) := [[1, 0, 2, 0], [2, 0, 3, 0], [3, 0, 1, 0], [4, 0, 1, 0]]
theorem eds_L0 : eds L0 = E0 := rfl
theorem edg_alive (w : World) : EdgM (w.alloc (.cells (ints L0.flatten).toArray 41)) (w.alloc (.cells (ints L0.flatten).toArray 41)).heap.size (some ⟨w.heap.size, 0, none⟩) 4 L0 where
  reads := ⟨rfl, fun _ => ⟨_, rfl, by simp, fun j u hu => by
    have h1 := (Blk.new w 41 (ints L0.flatten).toArray).cell j
    have h2 : (⟨w.heap.size, 0, none⟩ : Addr).add j = ⟨w.heap.size, j, none⟩ := by unfold Addr.add; split <;> simp_all
    rw [h2, h1]; simpa using hu⟩⟩
  four := by intro l hl; simp [L0] at hl; rcases hl with rfl | rfl | rfl | rfl <;> rfl
  count := rfl
  wf := by intro l hl y hy; simp [L0] at hl; rcases hl with rfl | rfl | rfl | rfl <;> (simp at hy; rcases hy with rfl | rfl | rfl | rfl <;> decide)
set_option maxRecDepth 100000 in
set_option maxHeartbeats 8000000 in
theorem alive10_any (w : World) : Calls Try.prog 8 #[] w fun e w' => e = .returned (.bool true) ∧ Below w.heap.size w w' := by
  have ED := Lib.hid (edg_alive w)
  have BW := Lib.hid (Below.alloc (Below.refl w.heap.size w) (Nat.le_refl _) (.cells (ints L0.flatten).toArray 41))
  have hl0 : (ints L0.flatten).toArray = #[.int .i64 1, .int .i64 0, .int .i64 2, .int .i64 0, .int .i64 2, .int .i64 0, .int .i64 3, .int .i64 0, .int .i64 3, .int .i64 0, .int .i64 1, .int .i64 0, .int .i64 4, .int .i64 0, .int .i64 1, .int .i64 0] := rfl
  rw [hl0] at ED BW
  clear hl0
  go_enter Try.func8, Try.ntmps8
  go_wp2_with fail
  generalize w.alloc (.cells #[.int .i64 1, .int .i64 0, .int .i64 2, .int .i64 0, .int .i64 2, .int .i64 0, .int .i64 3, .int .i64 0, .int .i64 3, .int .i64 0, .int .i64 1, .int .i64 0, .int .i64 4, .int .i64 0, .int .i64 1, .int .i64 0] 41) = w1 at ED BW ⊢
  have Z1 := Lib.hid BW.out.size
  refine (reachG_any (c := 4) (fr := 4) w1 ED.out (by omega) (by decide)).mono ?_
  rintro e w2 ⟨v, l, rfl, hris, hmem, hrow, hb⟩
  obtain rfl : l = [1, 2, 3] := ris_ext hris (by simp [Ris]) fun x => (hmem x).trans (e0_reach x).symm
  obtain ⟨A2, c2, rfl, hr2, _⟩ := own_slice hrow
  have R2 := Lib.hid hr2
  have B2 := Lib.hid (BW.out.trans (hb.mono Z1.out))
  have E2 := Lib.hid ((ED.out.below hb).more hb.size)
  clear hris hmem hrow hb hr2
  go_wp2_with fail
  refine (ints_same A2 _ 3 c2 3 _ _ [1, 2, 3] _ (by omega) (R2.out.alloc (Nat.le_refl _) _) (reads_newInts w2 3 [1, 2, 3])).mono ?_
  rintro e w3 ⟨rfl, q, rfl⟩
  have E3 := Lib.hid (((E2.out.below (Below.alloc (Below.refl _ _) (Nat.le_refl _) (.cells (i64s [1, 2, 3]).toArray 3))).more (by simp) : EdgM (w2.alloc (.cells (i64s [1, 2, 3]).toArray 3)) (w2.alloc (.cells (i64s [1, 2, 3]).toArray 3)).heap.size _ 4 L0))
  have B3 := Lib.hid (B2.out.alloc B2.out.size (.cells (i64s [1, 2, 3]).toArray 3))
  generalize (w2.alloc (.cells (i64s [1, 2, 3]).toArray 3)) = w3 at E3 B3 ⊢
  have E3q := Lib.hid (show EdgM (w3.drewN q) (w3.drewN q).heap.size (some ⟨w.heap.size, 0, none⟩) 4 L0 from ⟨E3.out.reads, E3.out.four, E3.out.count, E3.out.wf⟩)
  have B3q := Lib.hid (below_drewN B3.out q)
  generalize w3.drewN q = w4 at E3q B3q ⊢
  go_wp2_with fail
  refine (circlesG_any (c := 4) w4 E3q.out (by omega)).mono ?_
  rintro e w5 ⟨v, l, rfl, hris, hmem, hrow, hb⟩
  obtain rfl : l = [1, 2, 3] := ris_ext hris (by simp [Ris]) fun x => (hmem x).trans (e0_circ x).symm
  obtain ⟨A5, c5, rfl, hr5, _⟩ := own_slice hrow
  have R5 := Lib.hid hr5
  have B5 := Lib.hid (B3q.out.trans (hb.mono B3q.out.size))
  have E5 := Lib.hid ((E3q.out.below hb).more hb.size)
  clear hris hmem hrow hb hr5
  go_wp2_with fail
  refine (ints_same A5 _ 3 c5 3 _ _ [1, 2, 3] _ (by omega) (R5.out.alloc (Nat.le_refl _) _) (reads_newInts w5 3 [1, 2, 3])).mono ?_
  rintro e w6 ⟨rfl, q, rfl⟩
  have E6 := Lib.hid (((E5.out.below (Below.alloc (Below.refl _ _) (Nat.le_refl _) (.cells (i64s [1, 2, 3]).toArray 3))).more (by simp) : EdgM (w5.alloc (.cells (i64s [1, 2, 3]).toArray 3)) (w5.alloc (.cells (i64s [1, 2, 3]).toArray 3)).heap.size _ 4 L0))
  have B6 := Lib.hid (B5.out.alloc B5.out.size (.cells (i64s [1, 2, 3]).toArray 3))
  generalize (w5.alloc (.cells (i64s [1, 2, 3]).toArray 3)) = w6 at E6 B6 ⊢
  have E6q := Lib.hid (show EdgM (w6.drewN q) (w6.drewN q).heap.size (some ⟨w.heap.size, 0, none⟩) 4 L0 from ⟨E6.out.reads, E6.out.four, E6.out.count, E6.out.wf⟩)
  have B6q := Lib.hid (below_drewN B6.out q)
  generalize w6.drewN q = w7 at E6q B6q ⊢
  go_wp2_with fail
  refine (wayG_any (c := 4) (fr := 4) w7 E6q.out (by omega) (by decide) (show (Lit.int .i64 3).wf = true by decide)).mono ?_
  rintro e w8 ⟨i, v, hi, rfl, hrow, hb⟩
  rw [show wayL (bst (nxt (eds L0)) 4 i) 3 = [4, 1, 2, 3] from e0_way hi] at hrow
  obtain ⟨A8, c8, rfl, hr8, _⟩ := own_slice hrow
  have R8 := Lib.hid hr8
  have B8 := Lib.hid (B6q.out.trans (hb.mono B6q.out.size))
  clear hi hrow hb hr8
  go_wp2_with fail
  refine (ints_same A8 _ 4 c8 4 _ _ [4, 1, 2, 3] _ (by omega) (R8.out.alloc (Nat.le_refl _) _) (reads_newInts w8 3 [4, 1, 2, 3])).mono ?_
  rintro e w9 ⟨rfl, q, rfl⟩
  go_wp2_with fail
  go_ret
  exact ⟨rfl, below_drewN (B8.out.alloc B8.out.size _) q⟩
end Go.Proofs.Ytiapnaecdefonaa
