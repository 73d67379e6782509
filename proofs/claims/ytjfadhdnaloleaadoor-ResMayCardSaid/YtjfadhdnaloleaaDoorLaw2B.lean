/- The walk of ResMay. -/
import Derived.Test.YtjfadhdnaloleaaDoorLaw2
namespace Go.Proofs.YtjfadhdnaloleaaDoor
open Go.RowKit
set_option linter.unusedVariables false
set_option linter.unusedSimpArgs false

set_option maxRecDepth 100000 in
set_option maxHeartbeats 4000000 in
theorem may_no (t r n : Int) (h : okR t r = false) (w : World) (hg : EType w) :
    Calls Tryd.prog 3 #[resV t r, .int .i64 n] w fun e w' => e = .returned (.bool true) ∧ Below w.heap.size w w' := by
  have HG := Lib.hid hg
  have H := Lib.hid h
  have he : ∀ W, (binOp .eql 23 (resV 0 0) (resV 0 0)).run Tryd.prog W = .ok (.bool true) W := fun W => by rw [eql_res]; simp
  clear hg h
  go_enter Tryd.func3, Tryd.ntmps3
  go_wp2_with fail
  refine (alive_any _ ?_).mono ?_
  · exact HG.out.alloc _
  rintro e w1 ⟨rfl, hb1⟩
  have B1 := Lib.hid (stepB (stepA (Below.refl _ _) _) hb1)
  have R1 := Lib.hid (Blk.here (Blk.new w 23 #[.int .i64 t, .int .i64 r]) hb1)
  obtain ⟨k0, k1, hl⟩ := res_cells R1.out
  clear hb1
  go_wp2_with fail
  refine (table_no t r H.out _).mono ?_
  rintro e w2 ⟨rfl, hb2⟩
  have B2 := Lib.hid (stepB B1.out hb2)
  have R2 := Lib.hid (Blk.here R1.out hb2)
  clear k0 k1 hl hb2
  obtain ⟨k0, k1, hl⟩ := res_cells R2.out
  go_wp2_with fail
  refine (shard_no t r n H.out _).mono ?_
  rintro e w3 ⟨rfl, hb3⟩
  have B3 := Lib.hid (stepB (stepA B2.out _) hb3)
  have R3 := Lib.hid (Blk.here (R2.out.alloc _) hb3)
  have Z3 := Lib.hid (Blk.here (Blk.new w2 23 #[.int .i64 0, .int .i64 0]) hb3)
  clear k0 k1 hl hb3
  obtain ⟨k0, k1, hl⟩ := res_cells R3.out
  go_wp2_with fail
  refine (text_no t r H.out _).mono ?_
  rintro e w4 ⟨rfl, hb4⟩
  have B4 := Lib.hid (stepB B3.out hb4)
  have R4 := Lib.hid (Blk.here R3.out hb4)
  have Z4 := Lib.hid (Blk.here Z3.out hb4)
  clear k0 k1 hl hb4
  obtain ⟨k0, k1, hl⟩ := res_cells R4.out
  go_wp2_with fail
  refine (rokR_any t r _).mono ?_
  rintro e w5 ⟨he5, hb5⟩
  rw [H.out] at he5
  subst he5
  have B5 := Lib.hid (stepB B4.out hb5)
  have R5 := Lib.hid (Blk.here R4.out hb5)
  have Z5 := Lib.hid (Blk.here Z4.out hb5)
  clear k0 k1 hl hb5
  obtain ⟨k0, k1, hl⟩ := res_cells R5.out
  go_wp2_with fail
  refine (rok_no t r H.out _).mono ?_
  rintro e w6 ⟨rfl, rfl⟩
  obtain ⟨z0, z1, zl⟩ := res_cells Z5.out
  go_wp2_with (go_at_call 14; refine (code_errno 1 (by decide) _).mono ?_; rintro e w' ⟨rfl, rfl⟩)
  go_ret
  exact ⟨rfl, stepA B5.out _⟩

theorem code_two (w : World) : Calls Tryd.prog 14 #[errno 2] w fun e w' => e = .returned (.int .i64 2) ∧ w = w' := code_errno 2 (by decide) w

set_option maxRecDepth 100000 in
set_option maxHeartbeats 4000000 in
theorem may_range (t r : Nat) (n : Int) (h : okR t r = true) (hn : n < 1 ∨ 64 < n) (w : World) (hg : EType w) (hp : PTab w) :
    Calls Tryd.prog 3 #[resV t r, .int .i64 n] w fun e w' => e = .returned (.bool true) ∧ Below w.heap.size w w' := by
  obtain ⟨h1, h2, h3, h4⟩ := okR_yes h
  have HG := Lib.hid hg
  have HP := Lib.hid hp
  have H := Lib.hid h
  have hne : ∀ W, (binOp .neq 23 (resV t 0) (resV t 0)).run Tryd.prog W = .ok (.bool false) W := fun W => by rw [neq_res]; simp
  have HN := Lib.hid hn
  clear hg hp h
  cases d1 : decide (n < 1) <;> cases d2 : decide (64 < n)
  case false.false => exfalso; simp at d1 d2; omega
  all_goals
    clear hn
    go_enter Tryd.func3, Tryd.ntmps3
    go_wp2_with fail
    refine (alive_any _ ?_).mono ?_
    · exact HG.out.alloc _
    rintro e w1 ⟨rfl, hb1⟩
    have B1 := Lib.hid (stepB (stepA (Below.refl _ _) _) hb1)
    have R1 := Lib.hid (Blk.here (Blk.new w 23 #[.int .i64 t, .int .i64 r]) hb1)
    obtain ⟨k0, k1, hl⟩ := res_cells R1.out
    clear hb1
    go_wp2_with fail
    refine (table_yes t r H.out _).mono ?_
    rintro e w2 ⟨rfl, hb2⟩
    have B2 := Lib.hid (stepB B1.out hb2)
    have R2 := Lib.hid (Blk.here R1.out hb2)
    clear k0 k1 hl hb2
    obtain ⟨k0, k1, hl⟩ := res_cells R2.out
    go_wp2_with fail
    refine (shard_range t r n H.out HN.out _).mono ?_
    rintro e w3 ⟨rfl, hb3⟩
    have B3 := Lib.hid (stepB (stepA B2.out _) hb3)
    have R3 := Lib.hid (Blk.here (R2.out.alloc _) hb3)
    have Z3 := Lib.hid (Blk.here (Blk.new w2 23 #[.int .i64 t, .int .i64 0]) hb3)
    clear k0 k1 hl hb3
    obtain ⟨k0, k1, hl⟩ := res_cells R3.out
    go_wp2_with fail
    refine (text_any t r (by omega) (by omega) (by omega) _ (HP.out.below B3.out)).mono ?_
    rintro e w4 ⟨rfl, hb4⟩
    have B4 := Lib.hid (stepB B3.out hb4)
    have R4 := Lib.hid (Blk.here R3.out hb4)
    have Z4 := Lib.hid (Blk.here Z3.out hb4)
    clear k0 k1 hl hb4
    obtain ⟨k0, k1, hl⟩ := res_cells R4.out
    go_wp2_with fail
    refine (rokR_any t r _).mono ?_
    rintro e w5 ⟨he5, hb5⟩
    rw [H.out] at he5
    subst he5
    have B5 := Lib.hid (stepB B4.out hb5)
    have R5 := Lib.hid (Blk.here R4.out hb5)
    have Z5 := Lib.hid (Blk.here Z4.out hb5)
    clear k0 k1 hl hb5
    obtain ⟨k0, k1, hl⟩ := res_cells R5.out
    go_wp2_with fail
    refine (rok_yes t r H.out _).mono ?_
    rintro e w6 ⟨rfl, rfl⟩
    obtain ⟨z0, z1, zl⟩ := res_cells Z5.out
    go_wp2_with fail
    refine (textR t r (by omega) (by omega) _).mono ?_
    rintro e w7 ⟨rfl, hb7⟩
    have B7 := Lib.hid (stepB (stepA B5.out _) hb7)
    clear k0 k1 hl hb7 z0 z1 zl
    go_wp2_with (go_at_call 14; refine (code_two _).mono ?_; rintro e w' ⟨rfl, rfl⟩)
    go_ret
    exact ⟨rfl, B7.out⟩

set_option maxRecDepth 100000 in
set_option maxHeartbeats 4000000 in
theorem may_yes (t r n : Nat) (h : okR t r = true) (hn1 : 1 ≤ n) (hn2 : n ≤ 64) (w : World) (hg : EType w) (hp : PTab w) :
    Calls Tryd.prog 3 #[resV t r, .int .i64 n] w fun e w' => e = .returned (.bool true) ∧ Below w.heap.size w w' := by
  obtain ⟨h1, h2, h3, h4⟩ := okR_yes h
  have HG := Lib.hid hg
  have HP := Lib.hid hp
  have H := Lib.hid h
  have hne : ∀ W, (binOp .neq 23 (resV t 0) (resV t 0)).run Tryd.prog W = .ok (.bool false) W := fun W => by rw [neq_res]; simp
  have d1 : decide ((n : Int) < 1) = false := decide_eq_false (by omega)
  have d2 : decide ((64 : Int) < n) = false := decide_eq_false (by omega)
  have HF := Lib.hid (shardF_round t n (by omega) hn1)
  clear hg hp h
  go_enter Tryd.func3, Tryd.ntmps3
  go_wp2_with fail
  refine (alive_any _ ?_).mono ?_
  · exact HG.out.alloc _
  rintro e w1 ⟨rfl, hb1⟩
  have B1 := Lib.hid (stepB (stepA (Below.refl _ _) _) hb1)
  have R1 := Lib.hid (Blk.here (Blk.new w 23 #[.int .i64 t, .int .i64 r]) hb1)
  obtain ⟨k0, k1, hl⟩ := res_cells R1.out
  clear hb1
  go_wp2_with fail
  refine (table_yes t r H.out _).mono ?_
  rintro e w2 ⟨rfl, hb2⟩
  have B2 := Lib.hid (stepB B1.out hb2)
  have R2 := Lib.hid (Blk.here R1.out hb2)
  clear k0 k1 hl hb2
  obtain ⟨k0, k1, hl⟩ := res_cells R2.out
  go_wp2_with fail
  refine (shard_yes t r n H.out (by omega) (by omega) _).mono ?_
  rintro e w3 ⟨he3, hb3⟩
  rw [HF.out] at he3
  subst he3
  have B3 := Lib.hid (stepB (stepA B2.out _) hb3)
  have R3 := Lib.hid (Blk.here (R2.out.alloc _) hb3)
  have Z3 := Lib.hid (Blk.here (Blk.new w2 23 #[.int .i64 t, .int .i64 0]) hb3)
  clear k0 k1 hl hb3
  obtain ⟨k0, k1, hl⟩ := res_cells R3.out
  go_wp2_with fail
  refine (text_any t r (by omega) (by omega) (by omega) _ (HP.out.below B3.out)).mono ?_
  rintro e w4 ⟨rfl, hb4⟩
  have B4 := Lib.hid (stepB B3.out hb4)
  have R4 := Lib.hid (Blk.here R3.out hb4)
  have Z4 := Lib.hid (Blk.here Z3.out hb4)
  clear k0 k1 hl hb4
  obtain ⟨k0, k1, hl⟩ := res_cells R4.out
  go_wp2_with fail
  refine (rokR_any t r _).mono ?_
  rintro e w5 ⟨he5, hb5⟩
  rw [H.out] at he5
  subst he5
  have B5 := Lib.hid (stepB B4.out hb5)
  have R5 := Lib.hid (Blk.here R4.out hb5)
  have Z5 := Lib.hid (Blk.here Z4.out hb5)
  clear k0 k1 hl hb5
  obtain ⟨k0, k1, hl⟩ := res_cells R5.out
  go_wp2_with fail
  refine (rok_yes t r H.out _).mono ?_
  rintro e w6 ⟨rfl, rfl⟩
  obtain ⟨z0, z1, zl⟩ := res_cells Z5.out
  go_wp2_with fail
  refine (textR t r (by omega) (by omega) _).mono ?_
  rintro e w7 ⟨rfl, hb7⟩
  have B7 := Lib.hid (stepB (stepA B5.out _) hb7)
  have R7 := Lib.hid (Blk.here (R5.out.alloc _) hb7)
  clear k0 k1 hl hb7 z0 z1 zl
  obtain ⟨k0, k1, hl⟩ := res_cells R7.out
  go_wp2_with fail
  refine (shardR_any t n r (by omega) hn2 hn1 _).mono ?_
  rintro e w8 ⟨rfl, hb8⟩
  have B8 := Lib.hid (stepB B7.out hb8)
  clear k0 k1 hl hb8
  go_wp2_with fail
  go_ret
  exact ⟨rfl, B8.out⟩

theorem resMay_walk (t r n : Int) (w : World) (hg : EType w) (hp : PTab w) :
    Calls Tryd.prog 3 #[resV t r, .int .i64 n] w fun e w' => e = .returned (.bool true) ∧ Below w.heap.size w w' := by
  cases h : okR t r
  · exact may_no t r n h w hg
  · obtain ⟨h1, h2, h3, h4⟩ := okR_yes h
    obtain ⟨t, rfl⟩ : ∃ k : Nat, t = k := ⟨t.toNat, by omega⟩
    obtain ⟨r, rfl⟩ : ∃ k : Nat, r = k := ⟨r.toNat, by omega⟩
    by_cases hn : n < 1 ∨ 64 < n
    · exact may_range t r n h hn w hg hp
    · obtain ⟨n, rfl⟩ : ∃ k : Nat, n = k := ⟨n.toNat, by omega⟩
      exact may_yes t r n h (by omega) (by omega) w hg hp
end Go.Proofs.YtjfadhdnaloleaaDoor
