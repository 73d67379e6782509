/- The contracts of package res that make no texts: Ok, Table, Shard, fault. -/
import Derived.Test.YtmfoffigmojdcaaGreatErr
import Derived.Deep.QuietTactic
import Derived.BigQuiet
import Derived.Deep.RegionWith
import Derived.WalkSpells
import Derived.IntWalk
namespace Go.Proofs.YtmfoffigmojdcaaGreat
set_option linter.unusedSimpArgs false
open Go.RowKit

abbrev resV (t r : Int) : Value := .agg #[.int .i64 t, .int .i64 r]
/-- May a resource be? -/
def okR (t r : Int) : Bool := decide (1 ≤ t ∧ t ≤ 250 ∧ 0 ≤ r ∧ r ≤ 250)
theorem okR_yes {t r : Int} (h : okR t r = true) : 1 ≤ t ∧ t ≤ 250 ∧ 0 ≤ r ∧ r ≤ 250 := by unfold okR at h; simpa using h

set_option maxRecDepth 100000 in
set_option maxHeartbeats 1000000 in
theorem rok_any (t r : Int) (w : World) :
    Calls Tryz.prog 89 #[resV t r] w fun e w' => e = .returned (.bool (okR t r)) ∧ w' = w.alloc (.cells #[.int .i64 t, .int .i64 r] 39) := by
  have HR : ∀ b : Bool, okR t r = b → Hid (b = okR t r) := fun b h => h.symm
  cases h1 : decide (1 ≤ t) <;> cases h2 : decide (t ≤ 250) <;> cases h3 : decide (0 ≤ r) <;> cases h4 : decide (r ≤ 250)
  all_goals
    have HQ := HR _ (by unfold okR; simp only [Bool.decide_and, h1, h2, h3, h4]; rfl)
    clear HR
    go_enter Tryz.func89, Tryz.ntmps89
    go_wp2
    go_ret
    exact ⟨ret_bool HQ.out, rfl⟩
theorem rok_yes (t r : Int) (h : okR t r = true) (w : World) :
    Calls Tryz.prog 89 #[resV t r] w fun e w' => e = .returned (.bool true) ∧ w' = w.alloc (.cells #[.int .i64 t, .int .i64 r] 39) :=
  (rok_any t r w).mono fun _ _ ⟨he, hw⟩ => ⟨by rw [he, h], hw⟩
theorem rok_no (t r : Int) (h : okR t r = false) (w : World) :
    Calls Tryz.prog 89 #[resV t r] w fun e w' => e = .returned (.bool false) ∧ w' = w.alloc (.cells #[.int .i64 t, .int .i64 r] 39) :=
  (rok_any t r w).mono fun _ _ ⟨he, hw⟩ => ⟨by rw [he, h], hw⟩



/-- A resource's shard. -/
def shardF (t n : Int) : Int := (t - 1) % n + 1
set_option maxRecDepth 100000 in
set_option maxHeartbeats 1000000 in
theorem shard_yes (t r n : Int) (h : okR t r = true) (h1 : 1 ≤ n) (h2 : n ≤ 64) (w : World) :
    Calls Tryz.prog 48 #[resV t r, .int .i64 n] w fun e w' => e = .returned (.tuple #[.int .i64 (shardF t n), .nilIface]) ∧ Below w.heap.size w w' := by
  obtain ⟨a, b, _, _⟩ := okR_yes h
  have H := Lib.hid h; clear h
  have hm := Int.emod_lt_of_pos (t - 1) (show 0 < n by omega)
  have hm0 := Int.emod_nonneg (t - 1) (show n ≠ 0 by omega)
  have d1 : decide (n < 1) = false := by simp; omega
  have d2 : decide (64 < n) = false := by simp; omega
  have d3 : (n == 0) = false := by simp; omega
  have d4 : IntKind.i64.wrap (t - 1) = t - 1 := IntWalk.i64_in _ (by omega)
  unfold shardF
  go_enter Tryz.func48, Tryz.ntmps48
  go_wp2_with (go_at_call 89; refine (rok_yes t r H.out _).mono ?_; rintro e w' ⟨rfl, rfl⟩)
  go_ret2
  refine ⟨rfl, ?_⟩
  repeat (first | exact Below.refl _ _ | refine Below.setCell ?_ (by simp) _ | refine Below.alloc ?_ (by simp <;> omega) _)
set_option maxRecDepth 100000 in
set_option maxHeartbeats 1000000 in
theorem shard_range (t r n : Int) (h : okR t r = true) (h1 : n < 1 ∨ 64 < n) (w : World) :
    Calls Tryz.prog 48 #[resV t r, .int .i64 n] w fun e w' => e = .returned (.tuple #[.int .i64 0, errno 2]) ∧ Below w.heap.size w w' := by
  have H := Lib.hid h; clear h
  cases d1 : decide (n < 1) <;> cases d2 : decide (64 < n)
  case false.false => exfalso; simp at d1 d2; omega
  all_goals
    clear h1
    go_enter Tryz.func48, Tryz.ntmps48
    go_wp2_with (go_at_call 89; refine (rok_yes t r H.out _).mono ?_; rintro e w' ⟨rfl, rfl⟩)
    go_ret2
    refine ⟨rfl, ?_⟩
    repeat (first | exact Below.refl _ _ | refine Below.setCell ?_ (by simp) _ | refine Below.alloc ?_ (by simp <;> omega) _)
set_option maxRecDepth 100000 in
set_option maxHeartbeats 1000000 in
theorem shard_no (t r n : Int) (h : okR t r = false) (w : World) :
    Calls Tryz.prog 48 #[resV t r, .int .i64 n] w fun e w' => e = .returned (.tuple #[.int .i64 0, errno 1]) ∧ Below w.heap.size w w' := by
  have H := Lib.hid h; clear h
  go_enter Tryz.func48, Tryz.ntmps48
  go_wp2_with (go_at_call 89; refine (rok_no t r H.out _).mono ?_; rintro e w' ⟨rfl, rfl⟩)
  go_ret2
  refine ⟨rfl, ?_⟩
  repeat (first | exact Below.refl _ _ | refine Below.setCell ?_ (by simp) _ | refine Below.alloc ?_ (by simp <;> omega) _)

end Go.Proofs.YtmfoffigmojdcaaGreat
