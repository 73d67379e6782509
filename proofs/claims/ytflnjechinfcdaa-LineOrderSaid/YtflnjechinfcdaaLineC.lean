/- slices.Grow of nil, slices.Concat of two, at structs of four cells. -/
import Derived.Test.YtflnjechinfcdaaLineA
import Derived.Test.YtflnjechinfcdaaShelf7
import Derived.WalkKit
namespace Go.Proofs.Ytflnjechinfcdaa
open Go.RowKit Go.Shelf
set_option linter.unusedVariables false
set_option linter.unusedSimpArgs false

theorem zeroCells_size (z : Array Value) (n : Nat) : (Builtin.zeroCells z n).size = n * z.size := by simp [Builtin.zeroCells]
theorem growz {n : Nat} (hn : n ≤ 64) (w : World) : Calls Try.prog 32 #[.slice none 0 0, .int .i64 n] w fun e w' => ∃ v, e = .returned v ∧ w'.ownsRow w.heap.size 33 4 v 0 [] ∧ Below w.heap.size w w' := by
  rcases Nat.eq_zero_or_pos n with h0 | h0
  · subst h0
    refine (show Calls Try.prog 32 #[.slice none 0 0, .int .i64 ((0 : Nat) : Int)] w _ from Any8.slices_Grow_room Try.laysGrow none 0 0 0 w (by omega) (by omega) (by omega) (by omega)).mono ?_
    rintro e w' ⟨rfl, rfl⟩
    exact ⟨_, rfl, World.ownsRow_nil _ _ _ _, Below.refl _ _⟩
  · obtain ⟨i0, hi0, hz0, hz1, hz2⟩ := info_parts info_wait
    have hcon := Any8.slices_Grow_grow (P := Try.prog) Try.laysGrow i0 _ hi0 hz0 (by rw [hz1]; decide) none 0 0 n [] w (by omega) (by omega) (by rw [hz2]; omega) (by omega) (by simp) (fun _ => rfl) (fun a ha => by cases ha)
    refine (show Calls Try.prog 32 #[.slice none 0 0, .int .i64 n] w _ from hcon).mono ?_
    rintro e w' ⟨rfl, rfl⟩
    have hge := grownCap_ge w (0 + n) 0 33
    have hle := grownCap_le_maxLen w (0 + n) 0 33 (by unfold maxLen; omega)
    refine ⟨_, rfl, ⟨by simp, .inr ⟨w.heap.size, _, _, rfl, Nat.le_refl _, Blk.new w.drew _ _, Nat.zero_le _, hle, ?_, by simp⟩⟩, (Below.drew (Below.refl _ _)).alloc (Nat.le_refl _) _⟩
    show (_ : Array Value).size = grownCap w (0 + n) 0 33 * 4
    have e : Try.laysGrow_ren.t 25 = 33 := rfl
    simp only [Array.size_append, zeroCells_size, List.size_toArray, List.length_cons, List.length_nil, Value.cells, e]
    omega

set_option maxRecDepth 100000 in
set_option maxHeartbeats 4000000 in
theorem concat_w {g n0 c0 n1 c1 : Nat} {A0 A1 : Option Addr} {U D : List Wt} (w : World) (hk1 : w.cell? ⟨g, 1, none⟩ = some (.slice A0 n0 c0)) (hk2 : w.cell? ⟨g, 2, none⟩ = some (.slice A1 n1 c1)) (h0 : Reads w w.heap.size 4 A0 n0 (wvs U)) (h1 : Reads w w.heap.size 4 A1 n1 (wvs D)) (hn : n0 + n1 ≤ 64) (hg : g < w.heap.size) :
    Calls Try.prog 31 #[.slice (some ⟨g, 1, none⟩) 2 2] w fun e w' => ∃ v, e = .returned v ∧ w'.ownsRow w.heap.size 33 4 v (n0 + n1) (wvs (U ++ D)) ∧ Below w.heap.size w w' := by
  have H0 := Lib.hid h0
  have H1 := Lib.hid h1
  have HK1 := Lib.hid hk1
  have HK2 := Lib.hid hk2
  have s0 : IntKind.i64.wrap (n0 : Int) = (n0 : Int) := IntWalk.i64_in _ (by omega)
  have s1 : IntKind.i64.wrap ((n0 : Int) + (n1 : Int)) = ((n0 + n1 : Nat) : Int) := by rw [Int.natCast_add]; exact IntWalk.i64_in _ (by omega)
  have d0 : decide ((n0 : Int) < 0) = false := by simp
  have d1 : decide (((n0 + n1 : Nat) : Int) < 0) = false := by simp; omega
  obtain ⟨i0, hi0, hz0, hz1, hz2⟩ := info_parts info_wait
  have HN := Lib.hid hn
  have HG := Lib.hid hg
  clear h0 h1 hn hg
  go_enter Try.func31, Try.ntmps31
  go_wp2_with fail
  refine wp_loop_rounds 3 ?_
  rw [rounds_succ]
  go_wp2_with fail
  rw [rounds_succ]
  go_wp2_with fail
  rw [rounds_succ]
  go_wp2_with (go_at_call 32; refine (growz HN.out _).mono ?_; rintro e w1 ⟨v, rfl, hrow, hb⟩)
  have R0 := Lib.hid hrow
  have B0 := Lib.hid hb
  have k1 : w1.cell? ⟨g, 1, none⟩ = some (.slice A0 n0 c0) := (hb.cell (p := ⟨g, 1, none⟩) HG.out).trans HK1.out
  have k2 : w1.cell? ⟨g, 2, none⟩ = some (.slice A1 n1 c1) := (hb.cell (p := ⟨g, 2, none⟩) HG.out).trans HK2.out
  clear hrow hb hk1 hk2
  refine wp_loop_rounds 3 ?_
  rw [rounds_succ]
  go_wp2_with (at_builtin
               refine wpList_append_any _ rfl (.tmp 31) (.tmp 32) _ rfl w.heap.size 33 i0 _ 4 32 Try.underlying30 hi0 hz0 hz1 hz2 rfl (by omega) v 0 [] rfl
                 R0.out w.heap.size A0 n0 c0 (wvs U) rfl (H0.out.below B0.out) (wvs_one _) (by have := HN.out; simp only [maxLen]; omega) (by have := HN.out; omega) B0.out.size ?_
               intro v2 w2 hown2 hg2 hv2
               have R2 := Lib.hid hown2
               have B2 := Lib.hid (below_app B0.out hg2 R0.out (Nat.le_refl _) B0.out.size)
               clear hown2 hg2 hv2)
  have k3 : w2.cell? ⟨g, 2, none⟩ = some (.slice A1 n1 c1) := (B2.out.cell (p := ⟨g, 2, none⟩) HG.out).trans HK2.out
  clear k1 k2
  rw [rounds_succ]
  go_wp2_with (at_builtin
               refine wpList_append_any _ rfl (.tmp 31) (.tmp 32) _ rfl w.heap.size 33 i0 _ 4 32 Try.underlying30 hi0 hz0 hz1 hz2 rfl (by omega) v2 (0 + n0) ([] ++ wvs U) rfl
                 R2.out w.heap.size A1 n1 c1 (wvs D) rfl (H1.out.below B2.out) (wvs_one _) (by have := HN.out; simp only [maxLen]; omega) (by have := HN.out; omega) B2.out.size ?_
               intro v3 w3 hown3 hg3 hv3
               have R3 := Lib.hid hown3
               have B3 := Lib.hid (below_app B2.out hg3 R2.out (Nat.le_refl _) B2.out.size)
               clear hown3 hg3 hv3)
  rw [rounds_succ]
  go_wp2_with fail
  go_ret
  refine ⟨v3, rfl, ?_, B3.out⟩
  have := R3.out
  rw [wvs_append]
  simpa using this
end Go.Proofs.Ytflnjechinfcdaa
