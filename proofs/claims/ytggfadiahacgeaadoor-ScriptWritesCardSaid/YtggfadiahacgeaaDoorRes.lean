/- The contracts of package res that make no texts: Ok, Table, Shard, fault. -/
import Derived.Test.YtggfadiahacgeaaDoorErr
import Derived.Deep.QuietTactic
import Derived.BigQuiet
import Derived.Deep.RegionWith
import Derived.WalkSpells
import Derived.IntWalk
namespace Go.Proofs.YtggfadiahacgeaaDoor
set_option linter.unusedSimpArgs false
open Go.RowKit

abbrev resV (t r : Int) : Value := .agg #[.int .i64 t, .int .i64 r]
/-- May a resource be? -/
def okR (t r : Int) : Bool := decide (1 ≤ t ∧ t ≤ 250 ∧ 0 ≤ r ∧ r ≤ 250)
theorem okR_yes {t r : Int} (h : okR t r = true) : 1 ≤ t ∧ t ≤ 250 ∧ 0 ≤ r ∧ r ≤ 250 := by unfold okR at h; simpa using h

set_option maxRecDepth 100000 in
set_option maxHeartbeats 1000000 in
theorem rok_any (t r : Int) (w : World) :
    Calls Tryd.prog 23 #[resV t r] w fun e w' => e = .returned (.bool (okR t r)) ∧ w' = w.alloc (.cells #[.int .i64 t, .int .i64 r] 27) := by
  have HR : ∀ b : Bool, okR t r = b → Hid (b = okR t r) := fun b h => h.symm
  cases h1 : decide (1 ≤ t) <;> cases h2 : decide (t ≤ 250) <;> cases h3 : decide (0 ≤ r) <;> cases h4 : decide (r ≤ 250)
  all_goals
    have HQ := HR _ (by unfold okR; simp only [Bool.decide_and, h1, h2, h3, h4]; rfl)
    clear HR
    go_enter Tryd.func23, Tryd.ntmps23
    go_wp2
    go_ret
    exact ⟨ret_bool HQ.out, rfl⟩
theorem rok_yes (t r : Int) (h : okR t r = true) (w : World) :
    Calls Tryd.prog 23 #[resV t r] w fun e w' => e = .returned (.bool true) ∧ w' = w.alloc (.cells #[.int .i64 t, .int .i64 r] 27) :=
  (rok_any t r w).mono fun _ _ ⟨he, hw⟩ => ⟨by rw [he, h], hw⟩
theorem rok_no (t r : Int) (h : okR t r = false) (w : World) :
    Calls Tryd.prog 23 #[resV t r] w fun e w' => e = .returned (.bool false) ∧ w' = w.alloc (.cells #[.int .i64 t, .int .i64 r] 27) :=
  (rok_any t r w).mono fun _ _ ⟨he, hw⟩ => ⟨by rw [he, h], hw⟩



/-- A resource's shard. -/
def shardF (t n : Int) : Int := (t - 1) % n + 1

end Go.Proofs.YtggfadiahacgeaaDoor
