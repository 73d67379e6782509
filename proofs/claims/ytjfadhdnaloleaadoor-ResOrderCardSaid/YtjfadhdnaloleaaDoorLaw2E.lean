/- The walk of ResOrder. -/
import Derived.Test.YtjfadhdnaloleaaDoorLaw2H
import Derived.Test.YtjfadhdnaloleaaDoorLaw2
import Derived.Test.YtjfadhdnaloleaaDoorResO
import Derived.Test.YtjfadhdnaloleaaDoorOwn
import Derived.Deep.DeepCutAuto
import Derived.Deep.QuietTactic
import Derived.BigQuiet
import Derived.IntWalk
import Derived.StillTailTactics
namespace Go.Proofs.YtjfadhdnaloleaaDoor
open Go.RowKit
set_option linter.unusedVariables false
set_option linter.unusedSimpArgs false

set_option maxRecDepth 100000 in
set_option maxHeartbeats 16000000 in
theorem order_some (A : Option Addr) (cap : Nat) (zs : Array (Int × Int)) (a b c d : Int) (h0 : 0 < zs.size) (hn : zs.size ≤ 200) (w : World) (hg : EType w) (hl : RowIn w A zs.size zs) :
    Calls Tryd.prog 6 #[.slice A zs.size cap, resV a b, resV c d] w fun e w' => e = .returned (.bool true) ∧ Below w.heap.size w w' := by
  have d0 : decide ((200 : Int) < (zs.size : Int)) = false := decide_eq_false (by omega)
  have HG := Lib.hid hg
  have HL := Lib.hid hl
  obtain ⟨bA, oA, rfl, hbA, hcA⟩ := hl.2 h0
  obtain ⟨i0, hi0, hz0, hz1, hz2⟩ := info_parts res_info
  clear hg hl
  go_enter Tryd.func6, Tryd.ntmps6
  go_wp2_with fail
  refine (alive_any _ ?_).mono ?_
  · exact (HG.out.alloc _).alloc _
  rintro e w1 ⟨rfl, hb1⟩
  have B1 := Lib.hid (stepB (stepA (stepA (Below.refl _ _) _) _) hb1)
  have X1 := Lib.hid (Blk.here ((Blk.new w 23 #[.int .i64 a, .int .i64 b]).alloc (.cells #[.int .i64 c, .int .i64 d] 23)) hb1)
  have Y1 := Lib.hid (Blk.here (Blk.new_at (w := w.alloc (.cells #[.int .i64 a, .int .i64 b] 23)) (n := w.heap.size + 1) (by simp) 23 #[.int .i64 c, .int .i64 d]) hb1)
  have L1 := Lib.hid (HL.out.reads.below B1.out)
  clear hb1
  go_wp2_with (at_builtin
               refine wpList_append_any _ rfl (.tmp 17) (.tmp 18) _ rfl w.heap.size 23 i0 _ 2 16 Tryd.underlying43 hi0 hz0 hz1 hz2 rfl (by omega) (.slice (some ⟨w1.heap.size, 0, none⟩) 0 0) 0 [] rfl
                 (World.ownsRow_made w1 #[] 0 B1.out.size (Nat.zero_le _) (by simp)) w.heap.size (some ⟨bA, oA, none⟩) zs.size cap (flat zs) rfl (L1.out.alloc B1.out.size _) (flat_one zs) (by simp only [maxLen]; omega) (by omega) (by have := B1.out.size; simp; omega) ?_
               intro v2 w2 hown2 hg2 hat2
               rw [Nat.zero_add, List.nil_append] at hown2
               obtain ⟨g2, cap2, rfl, hgb, hgl⟩ := hown2.form (by omega)
               have B2 := Lib.hid ((stepA B1.out (.cells #[] 23)).grown hg2 (by have := B1.out.size; simp; omega) (by intro k hk; simp [Value.ownBlock] at hk; have := B1.out.size; omega))
               have X2 := Lib.hid (blk_grown (X1.out.alloc (.cells #[] 23)) hg2 (by have := X1.out.lt; simp [Value.ownBlock]; omega))
               have Y2 := Lib.hid (blk_grown (Y1.out.alloc (.cells #[] 23)) hg2 (by have := Y1.out.lt; simp [Value.ownBlock]; omega))
               have C2 := Lib.hid (show ∀ j u, (flat zs)[j]? = some u → w2.cell? ⟨g2, 0 + j, none⟩ = some u from fun j u hu => by rw [Nat.zero_add]; have := hown2.cells (g := g2) rfl j u hu; simpa [Lib.add_plain] using this)
               clear hown2 hg2 hat2)
  go_at_call 20
  refine (sort_some g2 0 cap2 zs h0 (by omega) _ C2.out).mono ?_
  rintro e w3 ⟨v, rfl, hs3⟩
  obtain ⟨hb3, g3, cap3, d3, rfl, hg3, hl3, hH3, hP3, hS3⟩ := hs3
  have B3 := Lib.hid (stepB B2.out hb3)
  have X3 := Lib.hid (Blk.here X2.out hb3)
  have Y3 := Lib.hid (Blk.here Y2.out hb3)
  have L3 := Lib.hid (HL.out.reads.below B3.out)
  have H3 := Lib.hid hH3
  have P3 := Lib.hid hP3
  have S3 := Lib.hid hS3
  obtain ⟨k0, k1, hl5⟩ := res_cells X3.out
  obtain ⟨k2, k3, hl6⟩ := res_cells Y3.out
  have hg3b : w.heap.size ≤ g3 := Nat.le_trans B2.out.size hg3
  have HS := Lib.hid hP3.1
  clear hb3 hH3 hP3 hS3
  go_upto_region 6 with (fail)
  go_cut [58] (fun v wx => CutR w3 v wx)
  case first =>
    rcases order_two a b c d with ⟨hx, hy, hz⟩ | ⟨hx, hy, hz⟩ | ⟨hx, hy, hz⟩
    · have he : ∀ W, (binOp .neq 23 (resV a b) (resV c d)).run Tryd.prog W = .ok (.bool true) W := fun W => by rw [neq_res, hz]; rfl
      refine wp_region_held_drew (S := fun w' => w'.cell? ⟨w.heap.size, 0, none⟩ = some (.int .i64 a) ∧ w'.cell? ⟨w.heap.size, 1, none⟩ = some (.int .i64 b) ∧ w'.cell? ⟨w.heap.size + 1, 0, none⟩ = some (.int .i64 c) ∧ w'.cell? ⟨w.heap.size + 1, 1, none⟩ = some (.int .i64 d) ∧ RowKit.Below w3.heap.size w3 w') (by kernel_rfl) ?_ (fun hHeld => ?_)
      · exact ⟨k0, k1, k2, k3, (Below.refl _ _).drew⟩
      refine wpAnyH_take (i := 0) (v := ?_) rfl (by kernel_rfl) (by kernel_rfl) (by kernel_rfl) (fun _ _ _ h => h) (Or.inl ⟨by rfl, ?_⟩) (by assumption) ?_
      rotate_left
      · (intro w0 hSw; (try dsimp only at hSw); go_simp; try with_reducible rfl)
      refine wpAnyH_take (i := 1) (v := ?_) rfl (by kernel_rfl) (by kernel_rfl) (by kernel_rfl) (fun _ _ _ h => h) (Or.inl ⟨by rfl, ?_⟩) (by assumption) ?_
      rotate_left
      · (intro w0 hSw; (try dsimp only at hSw); go_simp; try with_reducible rfl)
      refine wpAnyH_take (i := 2) (v := ?_) rfl (by kernel_rfl) (by kernel_rfl) (by kernel_rfl) (fun _ _ _ h => h) (Or.inl ⟨by rfl, ?_⟩) (by assumption) ?_
      rotate_left
      · (intro w0 hSw; (try dsimp only at hSw); go_simp; try with_reducible rfl)
      go_simp
      refine wpAnyH_take (i := 3) (v := ?_) rfl (by kernel_rfl) (by kernel_rfl) (by kernel_rfl) (fun _ _ _ h => h) (Or.inl ⟨by rfl, ?_⟩) (by assumption) ?_
      rotate_left
      · (intro w0 hSw; (try dsimp only at hSw); go_simp; try with_reducible rfl)
      refine wpAnyH_take (i := 4) (v := ?_) rfl (by kernel_rfl) (by kernel_rfl) (by kernel_rfl) (fun _ _ _ h => h) (Or.inl ⟨by rfl, ?_⟩) (by assumption) ?_
      rotate_left
      · (intro w0 hSw; (try dsimp only at hSw); go_simp; try with_reducible rfl)
      refine wpAnyH_take (i := 5) (v := ?_) rfl (by kernel_rfl) (by kernel_rfl) (by kernel_rfl) (fun _ _ _ h => h) (Or.inl ⟨by rfl, ?_⟩) (by assumption) ?_
      rotate_left
      · (intro w0 hSw; (try dsimp only at hSw); go_simp; try with_reducible rfl)
      go_simp
      refine wpAnyH_take (i := 6) (v := ?_) rfl (by kernel_rfl) (by kernel_rfl) (by kernel_rfl) (fun _ _ _ h => h) (Or.inl ⟨by rfl, ?_⟩) (by assumption) ?_
      rotate_left
      · (intro w0 hSw; (try dsimp only at hSw); go_simp; try with_reducible rfl)
      refine wpAnyH_take (i := 7) (v := ?_) rfl (by kernel_rfl) (by kernel_rfl) (by kernel_rfl) (fun _ _ _ h => h) (Or.inl ⟨by rfl, ?_⟩) (by assumption) ?_
      rotate_left
      · (intro w0 hSw; (try dsimp only at hSw); go_simp; try with_reducible rfl)
      refine wpAnyH_take (i := 9) (v := ?_) rfl (by kernel_rfl) (by kernel_rfl) (by kernel_rfl) (fun _ _ _ h => h) (Or.inl ⟨by rfl, ?_⟩) (by assumption) ?_
      rotate_left
      · (intro w0 hSw; (try dsimp only at hSw); go_simp; try with_reducible rfl)
      go_simp
      refine wpAnyH_take (i := 10) (v := ?_) rfl (by kernel_rfl) (by kernel_rfl) (by kernel_rfl) (fun _ _ _ h => h) (Or.inl ⟨by rfl, ?_⟩) (by assumption) ?_
      rotate_left
      · (intro w0 hSw; (try dsimp only at hSw); go_simp; try with_reducible rfl)
      refine wpAnyH_ready (rs := [8]) (by kernel_rfl) (by simp) ?_
      refine AllReadyH.cons rfl (fun K hK => ?_) AllReadyH.nil
      go_simp
      refine (less_is hx _).mono ?_
      rintro e w9 ⟨rfl, hb9⟩
      try go_simp
      have hS9 := s6_step hHeld hb9
      clear hHeld hb9
      refine hK.out _ _ hS9 (fun hHeld => ?_)
      clear hK K hS9
      refine wpAnyH_ready (rs := [11]) (by kernel_rfl) (by simp) ?_
      refine AllReadyH.cons rfl (fun K hK => ?_) AllReadyH.nil
      go_simp
      refine (lessR_is hx _).mono ?_
      rintro e w9 ⟨rfl, hb9⟩
      try go_simp
      have hS9 := s6_step hHeld hb9
      clear hHeld hb9
      refine hK.out _ _ hS9 (fun hHeld => ?_)
      clear hK K hS9
      go_simp
      refine wpAnyH_take (i := 12) (v := ?_) rfl (by kernel_rfl) (by kernel_rfl) (by kernel_rfl) (fun _ _ _ h => h) (Or.inl ⟨by rfl, ?_⟩) (by assumption) ?_
      rotate_left
      · (intro w0 hSw; (try dsimp only at hSw); go_simp; try with_reducible rfl)
      refine wpAnyH_take (i := 13) (v := ?_) rfl (by kernel_rfl) (by kernel_rfl) (by kernel_rfl) (fun _ _ _ h => h) (Or.inl ⟨by rfl, ?_⟩) (by assumption) ?_
      rotate_left
      · (intro w0 hSw; (try dsimp only at hSw); go_simp; try with_reducible rfl)
      refine wpAnyH_take (i := 14) (v := ?_) rfl (by kernel_rfl) (by kernel_rfl) (by kernel_rfl) (fun _ _ _ h => h) (Or.inl ⟨by rfl, ?_⟩) (by assumption) ?_
      rotate_left
      · (intro w0 hSw; (try dsimp only at hSw); go_simp; try with_reducible rfl)
      go_simp
      refine wpAnyH_take (i := 15) (v := ?_) rfl (by kernel_rfl) (by kernel_rfl) (by kernel_rfl) (fun _ _ _ h => h) (Or.inl ⟨by rfl, ?_⟩) (by assumption) ?_
      rotate_left
      · (intro w0 hSw; (try dsimp only at hSw); go_simp; try with_reducible rfl)
      refine wpAnyH_take (i := 16) (v := ?_) rfl (by kernel_rfl) (by kernel_rfl) (by kernel_rfl) (fun _ _ _ h => h) (Or.inl ⟨by rfl, ?_⟩) (by assumption) ?_
      rotate_left
      · (intro w0 hSw; (try dsimp only at hSw); go_simp; try with_reducible rfl)
      refine wpAnyH_take (i := 17) (v := ?_) rfl (by kernel_rfl) (by kernel_rfl) (by kernel_rfl) (fun _ _ _ h => h) (Or.inl ⟨by rfl, ?_⟩) (by assumption) ?_
      rotate_left
      · (intro w0 hSw; (try dsimp only at hSw); go_simp; try with_reducible rfl)
      go_simp
      refine wpAnyH_take (i := 18) (v := ?_) rfl (by kernel_rfl) (by kernel_rfl) (by kernel_rfl) (fun _ _ _ h => h) (Or.inl ⟨by rfl, ?_⟩) (by assumption) ?_
      rotate_left
      · (intro w0 hSw; (try dsimp only at hSw); go_simp; try with_reducible rfl)
      refine wpAnyH_take (i := 19) (v := ?_) rfl (by kernel_rfl) (by kernel_rfl) (by kernel_rfl) (fun _ _ _ h => h) (Or.inl ⟨by rfl, ?_⟩) (by assumption) ?_
      rotate_left
      · (intro w0 hSw; (try dsimp only at hSw); go_simp; try with_reducible rfl)
      refine wpAnyH_ready (rs := [20]) (by kernel_rfl) (by simp) ?_
      refine AllReadyH.cons rfl (fun K hK => ?_) AllReadyH.nil
      go_simp
      refine (less_is hx _).mono ?_
      rintro e w9 ⟨rfl, hb9⟩
      try go_simp
      have hS9 := s6_step hHeld hb9
      clear hHeld hb9
      refine hK.out _ _ hS9 (fun hHeld => ?_)
      clear hK K hS9
      go_simp
      refine wpAnyH_take (i := 21) (v := ?_) rfl (by kernel_rfl) (by kernel_rfl) (by kernel_rfl) (fun _ _ _ h => h) (Or.inl ⟨by rfl, ?_⟩) (by assumption) ?_
      rotate_left
      · (intro w0 hSw; (try dsimp only at hSw); go_simp; try with_reducible rfl)
      refine wpAnyH_take (i := 22) (v := undef) rfl (by kernel_rfl) (by kernel_rfl) (by kernel_rfl) (fun _ _ _ h => h) (Or.inr ⟨by rfl, rfl⟩) (by assumption) ?_
      refine wpAnyH_take (i := 23) (v := undef) rfl (by kernel_rfl) (by kernel_rfl) (by kernel_rfl) (fun _ _ _ h => h) (Or.inr ⟨by rfl, rfl⟩) (by assumption) ?_
      go_simp
      refine wpAnyH_take (i := 24) (v := undef) rfl (by kernel_rfl) (by kernel_rfl) (by kernel_rfl) (fun _ _ _ h => h) (Or.inr ⟨by rfl, rfl⟩) (by assumption) ?_
      refine wpAnyH_take (i := 25) (v := ?_) rfl (by kernel_rfl) (by kernel_rfl) (by kernel_rfl) (fun _ _ _ h => h) (Or.inl ⟨by rfl, ?_⟩) (by assumption) ?_
      rotate_left
      · (intro w0 hSw; (try dsimp only at hSw); go_simp; try with_reducible rfl)
      refine wpAnyH_take (i := 26) (v := ?_) rfl (by kernel_rfl) (by kernel_rfl) (by kernel_rfl) (fun _ _ _ h => h) (Or.inl ⟨by rfl, ?_⟩) (by assumption) ?_
      rotate_left
      · (intro w0 hSw; (try dsimp only at hSw); go_simp; try with_reducible rfl)
      go_simp
      refine wpAnyH_take (i := 27) (v := ?_) rfl (by kernel_rfl) (by kernel_rfl) (by kernel_rfl) (fun _ _ _ h => h) (Or.inl ⟨by rfl, ?_⟩) (by assumption) ?_
      rotate_left
      · (intro w0 hSw; (try dsimp only at hSw); go_simp; try with_reducible rfl)
      refine wpAnyH_take (i := 28) (v := ?_) rfl (by kernel_rfl) (by kernel_rfl) (by kernel_rfl) (fun _ _ _ h => h) (Or.inl ⟨by rfl, ?_⟩) (by assumption) ?_
      rotate_left
      · (intro w0 hSw; (try dsimp only at hSw); go_simp; try with_reducible rfl)
      refine wpAnyH_take (i := 29) (v := ?_) rfl (by kernel_rfl) (by kernel_rfl) (by kernel_rfl) (fun _ _ _ h => h) (Or.inl ⟨by rfl, ?_⟩) (by assumption) ?_
      rotate_left
      · (intro w0 hSw; (try dsimp only at hSw); go_simp; try with_reducible rfl)
      go_simp
      refine wpAnyH_take (i := 30) (v := ?_) rfl (by kernel_rfl) (by kernel_rfl) (by kernel_rfl) (fun _ _ _ h => h) (Or.inl ⟨by rfl, ?_⟩) (by assumption) ?_
      rotate_left
      · (intro w0 hSw; (try dsimp only at hSw); go_simp; try with_reducible rfl)
      refine wpAnyH_ready (rs := [31]) (by kernel_rfl) (by simp) ?_
      refine AllReadyH.cons rfl (fun K hK => ?_) AllReadyH.nil
      go_simp
      refine (less_is hx _).mono ?_
      rintro e w9 ⟨rfl, hb9⟩
      try go_simp
      have hS9 := s6_step hHeld hb9
      clear hHeld hb9
      refine hK.out _ _ hS9 (fun hHeld => ?_)
      clear hK K hS9
      refine wpAnyH_take (i := 32) (v := ?_) rfl (by kernel_rfl) (by kernel_rfl) (by kernel_rfl) (fun _ _ _ h => h) (Or.inl ⟨by rfl, ?_⟩) (by assumption) ?_
      rotate_left
      · (intro w0 hSw; (try dsimp only at hSw); go_simp; try with_reducible rfl)
      go_simp
      refine wpAnyH_take (i := 33) (v := ?_) rfl (by kernel_rfl) (by kernel_rfl) (by kernel_rfl) (fun _ _ _ h => h) (Or.inl ⟨by rfl, ?_⟩) (by assumption) ?_
      rotate_left
      · (intro w0 hSw; (try dsimp only at hSw); go_simp; try with_reducible rfl)
      refine wpAnyH_take (i := 34) (v := ?_) rfl (by kernel_rfl) (by kernel_rfl) (by kernel_rfl) (fun _ _ _ h => h) (Or.inl ⟨by rfl, ?_⟩) (by assumption) ?_
      rotate_left
      · (intro w0 hSw; (try dsimp only at hSw); go_simp; try with_reducible rfl)
      refine wpAnyH_ready (rs := [35]) (by kernel_rfl) (by simp) ?_
      refine AllReadyH.cons rfl (fun K hK => ?_) AllReadyH.nil
      go_simp
      refine (less_is hy _).mono ?_
      rintro e w9 ⟨rfl, hb9⟩
      try go_simp
      have hS9 := s6_step hHeld hb9
      clear hHeld hb9
      refine hK.out _ _ hS9 (fun hHeld => ?_)
      clear hK K hS9
      go_simp
      refine wpAnyH_take (i := 36) (v := ?_) rfl (by kernel_rfl) (by kernel_rfl) (by kernel_rfl) (fun _ _ _ h => h) (Or.inl ⟨by rfl, ?_⟩) (by assumption) ?_
      rotate_left
      · (intro w0 hSw; (try dsimp only at hSw); go_simp; try with_reducible rfl)
      refine wpAnyH_take (i := 37) (v := ?_) rfl (by kernel_rfl) (by kernel_rfl) (by kernel_rfl) (fun _ _ _ h => h) (Or.inl ⟨by rfl, ?_⟩) (by assumption) ?_
      rotate_left
      · (intro w0 hSw; (try dsimp only at hSw); go_simp; try with_reducible rfl)
      refine wpAnyH_done (by kernel_rfl) ?_ _
      go_wp2_with fail
      go_meet
      exact ⟨rfl, hHeld.2.2.2.2⟩
    · have he : ∀ W, (binOp .neq 23 (resV a b) (resV c d)).run Tryd.prog W = .ok (.bool true) W := fun W => by rw [neq_res, hz]; rfl
      refine wp_region_held_drew (S := fun w' => w'.cell? ⟨w.heap.size, 0, none⟩ = some (.int .i64 a) ∧ w'.cell? ⟨w.heap.size, 1, none⟩ = some (.int .i64 b) ∧ w'.cell? ⟨w.heap.size + 1, 0, none⟩ = some (.int .i64 c) ∧ w'.cell? ⟨w.heap.size + 1, 1, none⟩ = some (.int .i64 d) ∧ RowKit.Below w3.heap.size w3 w') (by kernel_rfl) ?_ (fun hHeld => ?_)
      · exact ⟨k0, k1, k2, k3, (Below.refl _ _).drew⟩
      refine wpAnyH_take (i := 0) (v := ?_) rfl (by kernel_rfl) (by kernel_rfl) (by kernel_rfl) (fun _ _ _ h => h) (Or.inl ⟨by rfl, ?_⟩) (by assumption) ?_
      rotate_left
      · (intro w0 hSw; (try dsimp only at hSw); go_simp; try with_reducible rfl)
      refine wpAnyH_take (i := 1) (v := ?_) rfl (by kernel_rfl) (by kernel_rfl) (by kernel_rfl) (fun _ _ _ h => h) (Or.inl ⟨by rfl, ?_⟩) (by assumption) ?_
      rotate_left
      · (intro w0 hSw; (try dsimp only at hSw); go_simp; try with_reducible rfl)
      refine wpAnyH_take (i := 2) (v := ?_) rfl (by kernel_rfl) (by kernel_rfl) (by kernel_rfl) (fun _ _ _ h => h) (Or.inl ⟨by rfl, ?_⟩) (by assumption) ?_
      rotate_left
      · (intro w0 hSw; (try dsimp only at hSw); go_simp; try with_reducible rfl)
      go_simp
      refine wpAnyH_take (i := 3) (v := ?_) rfl (by kernel_rfl) (by kernel_rfl) (by kernel_rfl) (fun _ _ _ h => h) (Or.inl ⟨by rfl, ?_⟩) (by assumption) ?_
      rotate_left
      · (intro w0 hSw; (try dsimp only at hSw); go_simp; try with_reducible rfl)
      refine wpAnyH_take (i := 4) (v := ?_) rfl (by kernel_rfl) (by kernel_rfl) (by kernel_rfl) (fun _ _ _ h => h) (Or.inl ⟨by rfl, ?_⟩) (by assumption) ?_
      rotate_left
      · (intro w0 hSw; (try dsimp only at hSw); go_simp; try with_reducible rfl)
      refine wpAnyH_take (i := 5) (v := ?_) rfl (by kernel_rfl) (by kernel_rfl) (by kernel_rfl) (fun _ _ _ h => h) (Or.inl ⟨by rfl, ?_⟩) (by assumption) ?_
      rotate_left
      · (intro w0 hSw; (try dsimp only at hSw); go_simp; try with_reducible rfl)
      go_simp
      refine wpAnyH_take (i := 6) (v := ?_) rfl (by kernel_rfl) (by kernel_rfl) (by kernel_rfl) (fun _ _ _ h => h) (Or.inl ⟨by rfl, ?_⟩) (by assumption) ?_
      rotate_left
      · (intro w0 hSw; (try dsimp only at hSw); go_simp; try with_reducible rfl)
      refine wpAnyH_take (i := 7) (v := ?_) rfl (by kernel_rfl) (by kernel_rfl) (by kernel_rfl) (fun _ _ _ h => h) (Or.inl ⟨by rfl, ?_⟩) (by assumption) ?_
      rotate_left
      · (intro w0 hSw; (try dsimp only at hSw); go_simp; try with_reducible rfl)
      refine wpAnyH_take (i := 9) (v := ?_) rfl (by kernel_rfl) (by kernel_rfl) (by kernel_rfl) (fun _ _ _ h => h) (Or.inl ⟨by rfl, ?_⟩) (by assumption) ?_
      rotate_left
      · (intro w0 hSw; (try dsimp only at hSw); go_simp; try with_reducible rfl)
      go_simp
      refine wpAnyH_take (i := 10) (v := ?_) rfl (by kernel_rfl) (by kernel_rfl) (by kernel_rfl) (fun _ _ _ h => h) (Or.inl ⟨by rfl, ?_⟩) (by assumption) ?_
      rotate_left
      · (intro w0 hSw; (try dsimp only at hSw); go_simp; try with_reducible rfl)
      refine wpAnyH_ready (rs := [8]) (by kernel_rfl) (by simp) ?_
      refine AllReadyH.cons rfl (fun K hK => ?_) AllReadyH.nil
      go_simp
      refine (less_is hx _).mono ?_
      rintro e w9 ⟨rfl, hb9⟩
      try go_simp
      have hS9 := s6_step hHeld hb9
      clear hHeld hb9
      refine hK.out _ _ hS9 (fun hHeld => ?_)
      clear hK K hS9
      refine wpAnyH_ready (rs := [11]) (by kernel_rfl) (by simp) ?_
      refine AllReadyH.cons rfl (fun K hK => ?_) AllReadyH.nil
      go_simp
      refine (lessR_is hx _).mono ?_
      rintro e w9 ⟨rfl, hb9⟩
      try go_simp
      have hS9 := s6_step hHeld hb9
      clear hHeld hb9
      refine hK.out _ _ hS9 (fun hHeld => ?_)
      clear hK K hS9
      go_simp
      refine wpAnyH_take (i := 12) (v := ?_) rfl (by kernel_rfl) (by kernel_rfl) (by kernel_rfl) (fun _ _ _ h => h) (Or.inl ⟨by rfl, ?_⟩) (by assumption) ?_
      rotate_left
      · (intro w0 hSw; (try dsimp only at hSw); go_simp; try with_reducible rfl)
      refine wpAnyH_take (i := 13) (v := ?_) rfl (by kernel_rfl) (by kernel_rfl) (by kernel_rfl) (fun _ _ _ h => h) (Or.inl ⟨by rfl, ?_⟩) (by assumption) ?_
      rotate_left
      · (intro w0 hSw; (try dsimp only at hSw); go_simp; try with_reducible rfl)
      refine wpAnyH_take (i := 14) (v := ?_) rfl (by kernel_rfl) (by kernel_rfl) (by kernel_rfl) (fun _ _ _ h => h) (Or.inl ⟨by rfl, ?_⟩) (by assumption) ?_
      rotate_left
      · (intro w0 hSw; (try dsimp only at hSw); go_simp; try with_reducible rfl)
      go_simp
      refine wpAnyH_take (i := 15) (v := ?_) rfl (by kernel_rfl) (by kernel_rfl) (by kernel_rfl) (fun _ _ _ h => h) (Or.inl ⟨by rfl, ?_⟩) (by assumption) ?_
      rotate_left
      · (intro w0 hSw; (try dsimp only at hSw); go_simp; try with_reducible rfl)
      refine wpAnyH_take (i := 16) (v := ?_) rfl (by kernel_rfl) (by kernel_rfl) (by kernel_rfl) (fun _ _ _ h => h) (Or.inl ⟨by rfl, ?_⟩) (by assumption) ?_
      rotate_left
      · (intro w0 hSw; (try dsimp only at hSw); go_simp; try with_reducible rfl)
      refine wpAnyH_take (i := 17) (v := ?_) rfl (by kernel_rfl) (by kernel_rfl) (by kernel_rfl) (fun _ _ _ h => h) (Or.inl ⟨by rfl, ?_⟩) (by assumption) ?_
      rotate_left
      · (intro w0 hSw; (try dsimp only at hSw); go_simp; try with_reducible rfl)
      go_simp
      refine wpAnyH_take (i := 18) (v := ?_) rfl (by kernel_rfl) (by kernel_rfl) (by kernel_rfl) (fun _ _ _ h => h) (Or.inl ⟨by rfl, ?_⟩) (by assumption) ?_
      rotate_left
      · (intro w0 hSw; (try dsimp only at hSw); go_simp; try with_reducible rfl)
      refine wpAnyH_take (i := 19) (v := ?_) rfl (by kernel_rfl) (by kernel_rfl) (by kernel_rfl) (fun _ _ _ h => h) (Or.inl ⟨by rfl, ?_⟩) (by assumption) ?_
      rotate_left
      · (intro w0 hSw; (try dsimp only at hSw); go_simp; try with_reducible rfl)
      refine wpAnyH_ready (rs := [20]) (by kernel_rfl) (by simp) ?_
      refine AllReadyH.cons rfl (fun K hK => ?_) AllReadyH.nil
      go_simp
      refine (less_is hx _).mono ?_
      rintro e w9 ⟨rfl, hb9⟩
      try go_simp
      have hS9 := s6_step hHeld hb9
      clear hHeld hb9
      refine hK.out _ _ hS9 (fun hHeld => ?_)
      clear hK K hS9
      go_simp
      refine wpAnyH_take (i := 21) (v := ?_) rfl (by kernel_rfl) (by kernel_rfl) (by kernel_rfl) (fun _ _ _ h => h) (Or.inl ⟨by rfl, ?_⟩) (by assumption) ?_
      rotate_left
      · (intro w0 hSw; (try dsimp only at hSw); go_simp; try with_reducible rfl)
      refine wpAnyH_take (i := 22) (v := ?_) rfl (by kernel_rfl) (by kernel_rfl) (by kernel_rfl) (fun _ _ _ h => h) (Or.inl ⟨by rfl, ?_⟩) (by assumption) ?_
      rotate_left
      · (intro w0 hSw; (try dsimp only at hSw); go_simp; try with_reducible rfl)
      refine wpAnyH_take (i := 23) (v := ?_) rfl (by kernel_rfl) (by kernel_rfl) (by kernel_rfl) (fun _ _ _ h => h) (Or.inl ⟨by rfl, ?_⟩) (by assumption) ?_
      rotate_left
      · (intro w0 hSw; (try dsimp only at hSw); go_simp; try with_reducible rfl)
      go_simp
      refine wpAnyH_ready (rs := [24]) (by kernel_rfl) (by simp) ?_
      refine AllReadyH.cons rfl (fun K hK => ?_) AllReadyH.nil
      go_simp
      refine (less_is hy _).mono ?_
      rintro e w9 ⟨rfl, hb9⟩
      try go_simp
      have hS9 := s6_step hHeld hb9
      clear hHeld hb9
      refine hK.out _ _ hS9 (fun hHeld => ?_)
      clear hK K hS9
      refine wpAnyH_take (i := 25) (v := ?_) rfl (by kernel_rfl) (by kernel_rfl) (by kernel_rfl) (fun _ _ _ h => h) (Or.inl ⟨by rfl, ?_⟩) (by assumption) ?_
      rotate_left
      · (intro w0 hSw; (try dsimp only at hSw); go_simp; try with_reducible rfl)
      refine wpAnyH_take (i := 26) (v := ?_) rfl (by kernel_rfl) (by kernel_rfl) (by kernel_rfl) (fun _ _ _ h => h) (Or.inl ⟨by rfl, ?_⟩) (by assumption) ?_
      rotate_left
      · (intro w0 hSw; (try dsimp only at hSw); go_simp; try with_reducible rfl)
      go_simp
      refine wpAnyH_take (i := 27) (v := ?_) rfl (by kernel_rfl) (by kernel_rfl) (by kernel_rfl) (fun _ _ _ h => h) (Or.inl ⟨by rfl, ?_⟩) (by assumption) ?_
      rotate_left
      · (intro w0 hSw; (try dsimp only at hSw); go_simp; try with_reducible rfl)
      refine wpAnyH_take (i := 28) (v := ?_) rfl (by kernel_rfl) (by kernel_rfl) (by kernel_rfl) (fun _ _ _ h => h) (Or.inl ⟨by rfl, ?_⟩) (by assumption) ?_
      rotate_left
      · (intro w0 hSw; (try dsimp only at hSw); go_simp; try with_reducible rfl)
      refine wpAnyH_take (i := 29) (v := ?_) rfl (by kernel_rfl) (by kernel_rfl) (by kernel_rfl) (fun _ _ _ h => h) (Or.inl ⟨by rfl, ?_⟩) (by assumption) ?_
      rotate_left
      · (intro w0 hSw; (try dsimp only at hSw); go_simp; try with_reducible rfl)
      go_simp
      refine wpAnyH_take (i := 30) (v := ?_) rfl (by kernel_rfl) (by kernel_rfl) (by kernel_rfl) (fun _ _ _ h => h) (Or.inl ⟨by rfl, ?_⟩) (by assumption) ?_
      rotate_left
      · (intro w0 hSw; (try dsimp only at hSw); go_simp; try with_reducible rfl)
      refine wpAnyH_ready (rs := [31]) (by kernel_rfl) (by simp) ?_
      refine AllReadyH.cons rfl (fun K hK => ?_) AllReadyH.nil
      go_simp
      refine (less_is hx _).mono ?_
      rintro e w9 ⟨rfl, hb9⟩
      try go_simp
      have hS9 := s6_step hHeld hb9
      clear hHeld hb9
      refine hK.out _ _ hS9 (fun hHeld => ?_)
      clear hK K hS9
      refine wpAnyH_take (i := 32) (v := ?_) rfl (by kernel_rfl) (by kernel_rfl) (by kernel_rfl) (fun _ _ _ h => h) (Or.inl ⟨by rfl, ?_⟩) (by assumption) ?_
      rotate_left
      · (intro w0 hSw; (try dsimp only at hSw); go_simp; try with_reducible rfl)
      go_simp
      refine wpAnyH_take (i := 33) (v := undef) rfl (by kernel_rfl) (by kernel_rfl) (by kernel_rfl) (fun _ _ _ h => h) (Or.inr ⟨by rfl, rfl⟩) (by assumption) ?_
      refine wpAnyH_take (i := 34) (v := undef) rfl (by kernel_rfl) (by kernel_rfl) (by kernel_rfl) (fun _ _ _ h => h) (Or.inr ⟨by rfl, rfl⟩) (by assumption) ?_
      refine wpAnyH_take (i := 35) (v := undef) rfl (by kernel_rfl) (by kernel_rfl) (by kernel_rfl) (fun _ _ _ h => h) (Or.inr ⟨by rfl, rfl⟩) (by assumption) ?_
      go_simp
      refine wpAnyH_take (i := 36) (v := ?_) rfl (by kernel_rfl) (by kernel_rfl) (by kernel_rfl) (fun _ _ _ h => h) (Or.inl ⟨by rfl, ?_⟩) (by assumption) ?_
      rotate_left
      · (intro w0 hSw; (try dsimp only at hSw); go_simp; try with_reducible rfl)
      refine wpAnyH_take (i := 37) (v := ?_) rfl (by kernel_rfl) (by kernel_rfl) (by kernel_rfl) (fun _ _ _ h => h) (Or.inl ⟨by rfl, ?_⟩) (by assumption) ?_
      rotate_left
      · (intro w0 hSw; (try dsimp only at hSw); go_simp; try with_reducible rfl)
      refine wpAnyH_done (by kernel_rfl) ?_ _
      go_wp2_with fail
      go_meet
      exact ⟨rfl, hHeld.2.2.2.2⟩
    · have he : ∀ W, (binOp .neq 23 (resV a b) (resV c d)).run Tryd.prog W = .ok (.bool false) W := fun W => by rw [neq_res, hz]; rfl
      refine wp_region_held_drew (S := fun w' => w'.cell? ⟨w.heap.size, 0, none⟩ = some (.int .i64 a) ∧ w'.cell? ⟨w.heap.size, 1, none⟩ = some (.int .i64 b) ∧ w'.cell? ⟨w.heap.size + 1, 0, none⟩ = some (.int .i64 c) ∧ w'.cell? ⟨w.heap.size + 1, 1, none⟩ = some (.int .i64 d) ∧ RowKit.Below w3.heap.size w3 w') (by kernel_rfl) ?_ (fun hHeld => ?_)
      · exact ⟨k0, k1, k2, k3, (Below.refl _ _).drew⟩
      refine wpAnyH_take (i := 0) (v := ?_) rfl (by kernel_rfl) (by kernel_rfl) (by kernel_rfl) (fun _ _ _ h => h) (Or.inl ⟨by rfl, ?_⟩) (by assumption) ?_
      rotate_left
      · (intro w0 hSw; (try dsimp only at hSw); go_simp; try with_reducible rfl)
      refine wpAnyH_take (i := 1) (v := ?_) rfl (by kernel_rfl) (by kernel_rfl) (by kernel_rfl) (fun _ _ _ h => h) (Or.inl ⟨by rfl, ?_⟩) (by assumption) ?_
      rotate_left
      · (intro w0 hSw; (try dsimp only at hSw); go_simp; try with_reducible rfl)
      refine wpAnyH_take (i := 2) (v := ?_) rfl (by kernel_rfl) (by kernel_rfl) (by kernel_rfl) (fun _ _ _ h => h) (Or.inl ⟨by rfl, ?_⟩) (by assumption) ?_
      rotate_left
      · (intro w0 hSw; (try dsimp only at hSw); go_simp; try with_reducible rfl)
      go_simp
      refine wpAnyH_take (i := 3) (v := ?_) rfl (by kernel_rfl) (by kernel_rfl) (by kernel_rfl) (fun _ _ _ h => h) (Or.inl ⟨by rfl, ?_⟩) (by assumption) ?_
      rotate_left
      · (intro w0 hSw; (try dsimp only at hSw); go_simp; try with_reducible rfl)
      refine wpAnyH_take (i := 4) (v := ?_) rfl (by kernel_rfl) (by kernel_rfl) (by kernel_rfl) (fun _ _ _ h => h) (Or.inl ⟨by rfl, ?_⟩) (by assumption) ?_
      rotate_left
      · (intro w0 hSw; (try dsimp only at hSw); go_simp; try with_reducible rfl)
      refine wpAnyH_take (i := 5) (v := ?_) rfl (by kernel_rfl) (by kernel_rfl) (by kernel_rfl) (fun _ _ _ h => h) (Or.inl ⟨by rfl, ?_⟩) (by assumption) ?_
      rotate_left
      · (intro w0 hSw; (try dsimp only at hSw); go_simp; try with_reducible rfl)
      go_simp
      refine wpAnyH_take (i := 6) (v := ?_) rfl (by kernel_rfl) (by kernel_rfl) (by kernel_rfl) (fun _ _ _ h => h) (Or.inl ⟨by rfl, ?_⟩) (by assumption) ?_
      rotate_left
      · (intro w0 hSw; (try dsimp only at hSw); go_simp; try with_reducible rfl)
      refine wpAnyH_take (i := 7) (v := ?_) rfl (by kernel_rfl) (by kernel_rfl) (by kernel_rfl) (fun _ _ _ h => h) (Or.inl ⟨by rfl, ?_⟩) (by assumption) ?_
      rotate_left
      · (intro w0 hSw; (try dsimp only at hSw); go_simp; try with_reducible rfl)
      refine wpAnyH_take (i := 9) (v := ?_) rfl (by kernel_rfl) (by kernel_rfl) (by kernel_rfl) (fun _ _ _ h => h) (Or.inl ⟨by rfl, ?_⟩) (by assumption) ?_
      rotate_left
      · (intro w0 hSw; (try dsimp only at hSw); go_simp; try with_reducible rfl)
      go_simp
      refine wpAnyH_take (i := 10) (v := ?_) rfl (by kernel_rfl) (by kernel_rfl) (by kernel_rfl) (fun _ _ _ h => h) (Or.inl ⟨by rfl, ?_⟩) (by assumption) ?_
      rotate_left
      · (intro w0 hSw; (try dsimp only at hSw); go_simp; try with_reducible rfl)
      refine wpAnyH_ready (rs := [8]) (by kernel_rfl) (by simp) ?_
      refine AllReadyH.cons rfl (fun K hK => ?_) AllReadyH.nil
      go_simp
      refine (less_is hx _).mono ?_
      rintro e w9 ⟨rfl, hb9⟩
      try go_simp
      have hS9 := s6_step hHeld hb9
      clear hHeld hb9
      refine hK.out _ _ hS9 (fun hHeld => ?_)
      clear hK K hS9
      refine wpAnyH_ready (rs := [11]) (by kernel_rfl) (by simp) ?_
      refine AllReadyH.cons rfl (fun K hK => ?_) AllReadyH.nil
      go_simp
      refine (lessR_is hx _).mono ?_
      rintro e w9 ⟨rfl, hb9⟩
      try go_simp
      have hS9 := s6_step hHeld hb9
      clear hHeld hb9
      refine hK.out _ _ hS9 (fun hHeld => ?_)
      clear hK K hS9
      go_simp
      refine wpAnyH_take (i := 12) (v := ?_) rfl (by kernel_rfl) (by kernel_rfl) (by kernel_rfl) (fun _ _ _ h => h) (Or.inl ⟨by rfl, ?_⟩) (by assumption) ?_
      rotate_left
      · (intro w0 hSw; (try dsimp only at hSw); go_simp; try with_reducible rfl)
      refine wpAnyH_take (i := 13) (v := ?_) rfl (by kernel_rfl) (by kernel_rfl) (by kernel_rfl) (fun _ _ _ h => h) (Or.inl ⟨by rfl, ?_⟩) (by assumption) ?_
      rotate_left
      · (intro w0 hSw; (try dsimp only at hSw); go_simp; try with_reducible rfl)
      refine wpAnyH_take (i := 14) (v := ?_) rfl (by kernel_rfl) (by kernel_rfl) (by kernel_rfl) (fun _ _ _ h => h) (Or.inl ⟨by rfl, ?_⟩) (by assumption) ?_
      rotate_left
      · (intro w0 hSw; (try dsimp only at hSw); go_simp; try with_reducible rfl)
      go_simp
      refine wpAnyH_take (i := 15) (v := ?_) rfl (by kernel_rfl) (by kernel_rfl) (by kernel_rfl) (fun _ _ _ h => h) (Or.inl ⟨by rfl, ?_⟩) (by assumption) ?_
      rotate_left
      · (intro w0 hSw; (try dsimp only at hSw); go_simp; try with_reducible rfl)
      refine wpAnyH_take (i := 16) (v := ?_) rfl (by kernel_rfl) (by kernel_rfl) (by kernel_rfl) (fun _ _ _ h => h) (Or.inl ⟨by rfl, ?_⟩) (by assumption) ?_
      rotate_left
      · (intro w0 hSw; (try dsimp only at hSw); go_simp; try with_reducible rfl)
      refine wpAnyH_take (i := 17) (v := ?_) rfl (by kernel_rfl) (by kernel_rfl) (by kernel_rfl) (fun _ _ _ h => h) (Or.inl ⟨by rfl, ?_⟩) (by assumption) ?_
      rotate_left
      · (intro w0 hSw; (try dsimp only at hSw); go_simp; try with_reducible rfl)
      go_simp
      refine wpAnyH_take (i := 18) (v := ?_) rfl (by kernel_rfl) (by kernel_rfl) (by kernel_rfl) (fun _ _ _ h => h) (Or.inl ⟨by rfl, ?_⟩) (by assumption) ?_
      rotate_left
      · (intro w0 hSw; (try dsimp only at hSw); go_simp; try with_reducible rfl)
      refine wpAnyH_take (i := 19) (v := ?_) rfl (by kernel_rfl) (by kernel_rfl) (by kernel_rfl) (fun _ _ _ h => h) (Or.inl ⟨by rfl, ?_⟩) (by assumption) ?_
      rotate_left
      · (intro w0 hSw; (try dsimp only at hSw); go_simp; try with_reducible rfl)
      refine wpAnyH_ready (rs := [20]) (by kernel_rfl) (by simp) ?_
      refine AllReadyH.cons rfl (fun K hK => ?_) AllReadyH.nil
      go_simp
      refine (less_is hx _).mono ?_
      rintro e w9 ⟨rfl, hb9⟩
      try go_simp
      have hS9 := s6_step hHeld hb9
      clear hHeld hb9
      refine hK.out _ _ hS9 (fun hHeld => ?_)
      clear hK K hS9
      go_simp
      refine wpAnyH_take (i := 21) (v := ?_) rfl (by kernel_rfl) (by kernel_rfl) (by kernel_rfl) (fun _ _ _ h => h) (Or.inl ⟨by rfl, ?_⟩) (by assumption) ?_
      rotate_left
      · (intro w0 hSw; (try dsimp only at hSw); go_simp; try with_reducible rfl)
      refine wpAnyH_take (i := 22) (v := ?_) rfl (by kernel_rfl) (by kernel_rfl) (by kernel_rfl) (fun _ _ _ h => h) (Or.inl ⟨by rfl, ?_⟩) (by assumption) ?_
      rotate_left
      · (intro w0 hSw; (try dsimp only at hSw); go_simp; try with_reducible rfl)
      refine wpAnyH_take (i := 23) (v := ?_) rfl (by kernel_rfl) (by kernel_rfl) (by kernel_rfl) (fun _ _ _ h => h) (Or.inl ⟨by rfl, ?_⟩) (by assumption) ?_
      rotate_left
      · (intro w0 hSw; (try dsimp only at hSw); go_simp; try with_reducible rfl)
      go_simp
      refine wpAnyH_ready (rs := [24]) (by kernel_rfl) (by simp) ?_
      refine AllReadyH.cons rfl (fun K hK => ?_) AllReadyH.nil
      go_simp
      refine (less_is hy _).mono ?_
      rintro e w9 ⟨rfl, hb9⟩
      try go_simp
      have hS9 := s6_step hHeld hb9
      clear hHeld hb9
      refine hK.out _ _ hS9 (fun hHeld => ?_)
      clear hK K hS9
      refine wpAnyH_take (i := 25) (v := ?_) rfl (by kernel_rfl) (by kernel_rfl) (by kernel_rfl) (fun _ _ _ h => h) (Or.inl ⟨by rfl, ?_⟩) (by assumption) ?_
      rotate_left
      · (intro w0 hSw; (try dsimp only at hSw); go_simp; try with_reducible rfl)
      refine wpAnyH_take (i := 26) (v := ?_) rfl (by kernel_rfl) (by kernel_rfl) (by kernel_rfl) (fun _ _ _ h => h) (Or.inl ⟨by rfl, ?_⟩) (by assumption) ?_
      rotate_left
      · (intro w0 hSw; (try dsimp only at hSw); go_simp; try with_reducible rfl)
      go_simp
      refine wpAnyH_take (i := 27) (v := ?_) rfl (by kernel_rfl) (by kernel_rfl) (by kernel_rfl) (fun _ _ _ h => h) (Or.inl ⟨by rfl, ?_⟩) (by assumption) ?_
      rotate_left
      · (intro w0 hSw; (try dsimp only at hSw); go_simp; try with_reducible rfl)
      refine wpAnyH_take (i := 28) (v := ?_) rfl (by kernel_rfl) (by kernel_rfl) (by kernel_rfl) (fun _ _ _ h => h) (Or.inl ⟨by rfl, ?_⟩) (by assumption) ?_
      rotate_left
      · (intro w0 hSw; (try dsimp only at hSw); go_simp; try with_reducible rfl)
      refine wpAnyH_take (i := 29) (v := ?_) rfl (by kernel_rfl) (by kernel_rfl) (by kernel_rfl) (fun _ _ _ h => h) (Or.inl ⟨by rfl, ?_⟩) (by assumption) ?_
      rotate_left
      · (intro w0 hSw; (try dsimp only at hSw); go_simp; try with_reducible rfl)
      go_simp
      refine wpAnyH_take (i := 30) (v := ?_) rfl (by kernel_rfl) (by kernel_rfl) (by kernel_rfl) (fun _ _ _ h => h) (Or.inl ⟨by rfl, ?_⟩) (by assumption) ?_
      rotate_left
      · (intro w0 hSw; (try dsimp only at hSw); go_simp; try with_reducible rfl)
      refine wpAnyH_ready (rs := [31]) (by kernel_rfl) (by simp) ?_
      refine AllReadyH.cons rfl (fun K hK => ?_) AllReadyH.nil
      go_simp
      refine (less_is hx _).mono ?_
      rintro e w9 ⟨rfl, hb9⟩
      try go_simp
      have hS9 := s6_step hHeld hb9
      clear hHeld hb9
      refine hK.out _ _ hS9 (fun hHeld => ?_)
      clear hK K hS9
      refine wpAnyH_take (i := 32) (v := ?_) rfl (by kernel_rfl) (by kernel_rfl) (by kernel_rfl) (fun _ _ _ h => h) (Or.inl ⟨by rfl, ?_⟩) (by assumption) ?_
      rotate_left
      · (intro w0 hSw; (try dsimp only at hSw); go_simp; try with_reducible rfl)
      go_simp
      refine wpAnyH_take (i := 33) (v := undef) rfl (by kernel_rfl) (by kernel_rfl) (by kernel_rfl) (fun _ _ _ h => h) (Or.inr ⟨by rfl, rfl⟩) (by assumption) ?_
      refine wpAnyH_take (i := 34) (v := undef) rfl (by kernel_rfl) (by kernel_rfl) (by kernel_rfl) (fun _ _ _ h => h) (Or.inr ⟨by rfl, rfl⟩) (by assumption) ?_
      refine wpAnyH_take (i := 35) (v := undef) rfl (by kernel_rfl) (by kernel_rfl) (by kernel_rfl) (fun _ _ _ h => h) (Or.inr ⟨by rfl, rfl⟩) (by assumption) ?_
      go_simp
      refine wpAnyH_take (i := 36) (v := ?_) rfl (by kernel_rfl) (by kernel_rfl) (by kernel_rfl) (fun _ _ _ h => h) (Or.inl ⟨by rfl, ?_⟩) (by assumption) ?_
      rotate_left
      · (intro w0 hSw; (try dsimp only at hSw); go_simp; try with_reducible rfl)
      refine wpAnyH_take (i := 37) (v := ?_) rfl (by kernel_rfl) (by kernel_rfl) (by kernel_rfl) (fun _ _ _ h => h) (Or.inl ⟨by rfl, ?_⟩) (by assumption) ?_
      rotate_left
      · (intro w0 hSw; (try dsimp only at hSw); go_simp; try with_reducible rfl)
      refine wpAnyH_done (by kernel_rfl) ?_ _
      go_wp2_with fail
      go_meet
      exact ⟨rfl, hHeld.2.2.2.2⟩
  case rest =>
    obtain ⟨rfl, hbc⟩ := hcut
    have BC := Lib.hid hbc
    have HC := Lib.hid (show Sort.HoldsK encR 2 wc g3 0 d3 from fun j hj => ⟨((bcell hbc).1 _ _ hl3).trans (H3.out j hj).1, ((bcell hbc).2 _ _ hl3).trans (H3.out j hj).2⟩)
    have LC := Lib.hid (HL.out.reads.below (stepB B3.out hbc))
    have BW := Lib.hid (stepB B3.out hbc)
    clear hbc k0 k1 k2 k3 hl5 hl6
    go_wp2_with fail
    go_loopw [8] (fun i wr => ∃ k : Nat, k ≤ zs.size ∧ i = .int .i64 k ∧ Below wc.heap.size wc wr) (fun i _ => zs.size - (intOf i).toNat)
    case atStart => exact ⟨0, Nat.zero_le _, rfl, Below.refl _ _⟩
    case round =>
      obtain ⟨i, hi, rfl, hb⟩ := hrel
      rename_i wr _
      have HB := Lib.hid hb
      clear hb
      by_cases hlt : i < zs.size
      · have hsz : d3.size = zs.size := HS.out
        have qi := holds_pair HC.out (i := i) (by omega)
        have hg3c : g3 < wc.heap.size := World.block_lt_of_cell? _ _ qi.1
        generalize hX : d3[i]! = X at qi
        obtain ⟨x1, x2⟩ := X
        have QI := Lib.hid qi
        clear qi
        go_wp2_with fail
        go_loopw [9, 10, 11] (fun x y k wr => ∃ m : Nat, m ≤ zs.size ∧ x = .int .i64 (cnt zs (x1, x2) m) ∧ y = .int .i64 (cnt d3 (x1, x2) m) ∧ k = .int .i64 m ∧ Below wc.heap.size wc wr) (fun _ _ k _ => zs.size - (intOf k).toNat)
        case atStart => exact ⟨0, Nat.zero_le _, rfl, rfl, rfl, HB.out⟩
        case round =>
          obtain ⟨m, hm, rfl, rfl, rfl, hb⟩ := hrel
          rename World => wr2
          by_cases hlm : m < zs.size
          · go_wp2_with fail
            have hbW : Below w.heap.size w wr2 := BW.out.trans (hb.mono BW.out.size)
            obtain ⟨f0, f1⟩ := flat_pair zs hlm
            have hk0 := (hbW.cell (p := ⟨bA, oA + m * 2, none⟩) hbA).trans (hcA _ _ f0)
            have hk1 := (hbW.cell (p := ⟨bA, oA + m * 2 + 1, none⟩) hbA).trans (hcA _ _ f1)
            obtain ⟨q0, q1⟩ := QI.out
            obtain ⟨q2, q3⟩ := holds_pair HC.out (i := m) (by omega)
            have hq0 := (hb.cell (p := ⟨g3, i * 2, none⟩) hg3c).trans q0
            have hq1 := (hb.cell (p := ⟨g3, i * 2 + 1, none⟩) hg3c).trans q1
            have hq2 := (hb.cell (p := ⟨g3, m * 2, none⟩) hg3c).trans q2
            have hq3 := (hb.cell (p := ⟨g3, m * 2 + 1, none⟩) hg3c).trans q3
            have c1 := Lib.hid (cnt_succ zs (x1, x2) hlm)
            have c2 := Lib.hid (cnt_succ d3 (x1, x2) (k := m) (by omega))
            have c3 := Lib.hid (cnt_le zs (x1, x2) m)
            have c4 := Lib.hid (cnt_le d3 (x1, x2) m)
            have HB2 := Lib.hid hb
            generalize zs[m]! = Y at hk0 hk1 c1
            generalize d3[m]! = Z at hq2 hq3 c2
            obtain ⟨y1, y2⟩ := Y
            obtain ⟨z1, z2⟩ := Z
            clear hb f0 f1 q0 q1 q2 q3 hbW
            generalize cnt zs (x1, x2) m = N at c1 c3 ⊢
            generalize cnt d3 (x1, x2) m = M at c2 c4 ⊢
            have l1 := c3.out
            have l2 := c4.out
            have he1 : ∀ W, (binOp .eql 23 (resV y1 y2) (resV x1 x2)).run Tryd.prog W = .ok (.bool (y1 == x1 && y2 == x2)) W := fun W => eql_res _ _ _ _ _
            have he2 : ∀ W, (binOp .eql 23 (resV z1 z2) (resV x1 x2)).run Tryd.prog W = .ok (.bool (z1 == x1 && z2 == x2)) W := fun W => eql_res _ _ _ _ _
            have t1 : (y1 == x1 && y2 == x2) = decide ((y1, y2) = (x1, x2)) := by rw [Bool.eq_iff_iff]; simp
            have t2 : (z1 == x1 && z2 == x2) = decide ((z1, z2) = (x1, x2)) := by rw [Bool.eq_iff_iff]; simp
            rw [t1] at he1
            rw [t2] at he2
            by_cases e1 : (y1, y2) = (x1, x2) <;> by_cases e2 : (z1, z2) = (x1, x2)
            · rw [decide_eq_true e1] at he1
              rw [decide_eq_true e2] at he2
              have d1 := c1.out
              have d2 := c2.out
              rw [if_pos e1] at d1
              rw [if_pos e2] at d2
              have D1 := Lib.hid d1
              have D2 := Lib.hid d2
              clear e1 e2 c1 c2 d1 d2
              go_quiet (fail)
              go_wp2_with fail
              go_quiet (fail)
              go_wp2_with fail
              go_roundw
              case rel => exact ⟨m + 1, by omega, by rw [D1.out]; go_num, by rw [D2.out]; go_num, by go_num, by repeat (first | exact HB2.out | refine below_drewN ?_ _)⟩
              case measure => simp [intOf]; omega
            · rw [decide_eq_true e1] at he1
              rw [decide_eq_false e2] at he2
              have d1 := c1.out
              have d2 := c2.out
              rw [if_pos e1] at d1
              rw [if_neg e2] at d2
              have D1 := Lib.hid d1
              have D2 := Lib.hid d2
              clear e1 e2 c1 c2 d1 d2
              go_quiet (fail)
              go_wp2_with fail
              go_quiet (fail)
              go_wp2_with fail
              go_roundw
              case rel => exact ⟨m + 1, by omega, by rw [D1.out]; go_num, by rw [D2.out]; go_num, by go_num, by repeat (first | exact HB2.out | refine below_drewN ?_ _)⟩
              case measure => simp [intOf]; omega
            · rw [decide_eq_false e1] at he1
              rw [decide_eq_true e2] at he2
              have d1 := c1.out
              have d2 := c2.out
              rw [if_neg e1] at d1
              rw [if_pos e2] at d2
              have D1 := Lib.hid d1
              have D2 := Lib.hid d2
              clear e1 e2 c1 c2 d1 d2
              go_quiet (fail)
              go_wp2_with fail
              go_quiet (fail)
              go_wp2_with fail
              go_roundw
              case rel => exact ⟨m + 1, by omega, by rw [D1.out]; go_num, by rw [D2.out]; go_num, by go_num, by repeat (first | exact HB2.out | refine below_drewN ?_ _)⟩
              case measure => simp [intOf]; omega
            · rw [decide_eq_false e1] at he1
              rw [decide_eq_false e2] at he2
              have d1 := c1.out
              have d2 := c2.out
              rw [if_neg e1] at d1
              rw [if_neg e2] at d2
              have D1 := Lib.hid d1
              have D2 := Lib.hid d2
              clear e1 e2 c1 c2 d1 d2
              go_quiet (fail)
              go_wp2_with fail
              go_quiet (fail)
              go_wp2_with fail
              go_roundw
              case rel => exact ⟨m + 1, by omega, by rw [D1.out]; go_num, by rw [D2.out]; go_num, by go_num, by repeat (first | exact HB2.out | refine below_drewN ?_ _)⟩
              case measure => simp [intOf]; omega
          · have hme : m = zs.size := by omega
            subst hme
            have hce : cnt d3 (x1, x2) zs.size = cnt zs (x1, x2) zs.size := by
              have hp := P3.out.2.2
              have e1 : d3.extract 0 zs.size = d3 := by rw [← hsz]; simp
              have e2 : zs.extract 0 zs.size = zs := by simp
              rw [e1, e2] at hp
              have := cnt_all d3 (x1, x2)
              rw [hsz] at this
              rw [this, cnt_all, hp.count_eq]
            rw [hce]
            generalize cnt zs (x1, x2) zs.size = N
            have HB2 := Lib.hid hb
            have hq0 := (hb.cell (p := ⟨g3, i * 2, none⟩) hg3c).trans QI.out.1
            have hq1 := (hb.cell (p := ⟨g3, i * 2 + 1, none⟩) hg3c).trans QI.out.2
            by_cases hi0 : i = 0
            · subst hi0
              clear hb
              go_wp2_with fail
              go_quiet (fail)
              go_wp2_with fail
              go_roundw
              case rel => exact ⟨0 + 1, by omega, by go_num, by repeat (first | exact HB2.out | refine below_drewN ?_ _)⟩
              case measure => simp [intOf]; omega
            · obtain ⟨j, hj⟩ : ∃ j, i = j + 1 := ⟨i - 1, by omega⟩
              have qj := holds_pair HC.out (i := j) (by omega)
              have hq2 := (hb.cell (p := ⟨g3, j * 2, none⟩) hg3c).trans qj.1
              have hq3 := (hb.cell (p := ⟨g3, j * 2 + 1, none⟩) hg3c).trans qj.2
              have hS := S3.out j i (by omega) (by omega) (by omega)
              rw [hX] at hS
              generalize d3[j]! = Z at hq2 hq3 hS
              obtain ⟨z1, z2⟩ := Z
              have hjl : j < zs.size := by omega
              have hip : (0 : Int) < (i : Int) := by omega
              have hin : 0 < i := by omega
              have hwr : IntKind.i64.wrap (j : Int) = (j : Int) := IntWalk.i64_in _ (by omega)
              have hsub : (i : Int) - 1 = (j : Int) := by omega
              have hB0 : Below wc.heap.size wc wr2 := hb
              have HJ := Lib.hid hj
              have hSl : ltF x1 x2 z1 z2 = false := hS
              have HSL := Lib.hid hSl
              clear hb qj hS hj hi0 hSl hB0
              go_wp2_with fail
              go_still_tail 16, (by kernel_rfl)
              have B9 := Lib.hid (Below.drew HB2.out)
              clear hq0 hq1 hq2 hq3
              change wpList _ _ _ _ _ wr2.drew
              generalize wr2.drew = W9 at B9 ⊢
              go_wp2_with (go_at_call 22; refine (lessR_is HSL.out _).mono ?_; rintro e w9 ⟨rfl, hb9⟩; have C9 := Lib.hid (B9.out.trans (hb9.mono B9.out.size)); clear hb9)
              go_roundw
              case rel => exact ⟨i + 1, by omega, by go_num, C9.out⟩
              case measure => simp [intOf]; omega
      · go_wp2_with fail
        go_ret
        exact ⟨rfl, BW.out.trans (HB.out.mono BW.out.size)⟩
end Go.Proofs.YtjfadhdnaloleaaDoor
