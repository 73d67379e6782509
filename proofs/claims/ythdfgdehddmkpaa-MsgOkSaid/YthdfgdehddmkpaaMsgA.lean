/- The contracts of package msg's small functions. -/
import Derived.Test.YthdfgdehddmkpaaMsgM
import Derived.Test.YthdfgdehddmkpaaFlat
import Derived.Test.YthdfgdehddmkpaaBytes
import Derived.RegionTactic
import Derived.Outline
import Derived.Deep.RegionWith
import Derived.StillTailTactics
namespace Go.Proofs.Ythdfgdehddmkpaa
open Go.RowKit
set_option linter.unusedVariables false
set_option linter.unusedSimpArgs false

/-- A message's cells. -/
def mc (m : List Int) : Array Value := (ints m).toArray
theorem mc_size {m : List Int} (h : m.length = 28) : (mc m).size = 28 := by simp [mc, h]
theorem mc_get {m : List Int} (h : m.length = 28) {i : Nat} (hi : i < 28) : (mc m)[i]? = some (.int .i64 (fld m i)) := by
  simp [mc, ints, fld_get (show i < m.length by omega)]
abbrev spanV (lo hi : Int) : Value := .agg #[.int .i64 lo, .int .i64 hi]

set_option maxRecDepth 100000 in
set_option maxHeartbeats 1000000 in
theorem has_any (lo hi x : Int) (w : World) :
    Calls Try.prog 34 #[spanV lo hi, .int .i64 x] w fun e w' => e = .returned (.bool (inS lo hi x)) ∧ w' = w.alloc (.cells #[.int .i64 lo, .int .i64 hi] 71) := by
  have HR : ∀ b : Bool, inS lo hi x = b → Hid (b = inS lo hi x) := fun b h => h.symm
  cases h1 : decide (lo ≤ x) <;> cases h2 : decide (x ≤ hi)
  all_goals
    have HQ := HR _ (by unfold inS; simp only [Bool.decide_and, h1, h2]; rfl)
    clear HR
    go_enter Try.func34, Try.ntmps34
    go_wp2
    go_ret
    exact ⟨ret_bool HQ.out, rfl⟩
set_option maxRecDepth 100000 in
set_option maxHeartbeats 1000000 in
theorem anyTx_any (w : World) : Calls Try.prog 43 #[] w fun e w' => e = .returned (spanV 1 1048576) ∧ w' = w.alloc (.cells #[.int .i64 1, .int .i64 1048576] 71) := by
  go_enter Try.func43, Try.ntmps43
  go_wp2
  exact bodyPost_ret (v := spanV 1 1048576) (by simp [results, Try.results43, go_sem]) rfl ⟨rfl, rfl⟩
set_option maxRecDepth 100000 in
set_option maxHeartbeats 1000000 in
theorem anySeq_any (w : World) : Calls Try.prog 42 #[] w fun e w' => e = .returned (spanV 1 1048576) ∧ w' = w.alloc (.cells #[.int .i64 1, .int .i64 1048576] 71) := by
  go_enter Try.func42, Try.ntmps42
  go_wp2
  exact bodyPost_ret (v := spanV 1 1048576) (by simp [results, Try.results42, go_sem]) rfl ⟨rfl, rfl⟩
set_option maxRecDepth 100000 in
set_option maxHeartbeats 1000000 in
theorem anyShard_any (w : World) : Calls Try.prog 44 #[] w fun e w' => e = .returned (spanV 1 64) ∧ w' = w.alloc (.cells #[.int .i64 1, .int .i64 64] 71) := by
  go_enter Try.func44, Try.ntmps44
  go_wp2
  exact bodyPost_ret (v := spanV 1 64) (by simp [results, Try.results44, go_sem]) rfl ⟨rfl, rfl⟩

/-- What a kind asks, as values. -/
def askV (k tx : Int) : Value := .agg #[.bool (sAt k), .int .i64 (sTx k).1, .int .i64 (sTx k).2, .int .i64 (sSeq k).1, .int .i64 (sSeq k).2, .int .i64 (sMode k).1, .int .i64 (sMode k).2, .int .i64 (sCode k).1, .int .i64 (sCode k).2,
  .int .i64 (sNext k tx).1, .int .i64 (sNext k tx).2, .int .i64 (sNseq k).1, .int .i64 (sNseq k).2, .int .i64 (sN k).1, .int .i64 (sN k).2]
theorem kind_cases (k : Int) : k = 1 ∨ k = 2 ∨ k = 3 ∨ k = 4 ∨ k = 5 ∨ k = 6 ∨ k = 7 ∨ k = 8 ∨ k = 9 ∨ k = 10 ∨ k = 11 ∨ (k < 1 ∨ 11 < k) := by omega

end Go.Proofs.Ythdfgdehddmkpaa
