/- Is an answer none to what is open? -/
import Derived.Test.YtopjkidekbfalaaTxG
namespace Go.Proofs.Ytopjkidekbfalaa
open Go.RowKit
set_option linter.unusedVariables false
set_option linter.unusedSimpArgs false

theorem neq_res (a0 a1 b0 b1 : Int) (W : World) : (binOp .neq 25 (.agg #[.int .i64 a0, .int .i64 a1]) (.agg #[.int .i64 b0, .int .i64 b1])).run Try.prog W = .ok (.bool (!decide (a0 = b0 ∧ a1 = b1))) W :=
  neq_two (d := 5) (by kernel_rfl) (by omega) a0 a1 b0 b1 W
theorem two_cells {X : World} {b o : Nat} {x y : Int} (h0 : X.cell? ⟨b, o, none⟩ = some (.int .i64 x)) (h1 : X.cell? ⟨b, o + 1, none⟩ = some (.int .i64 y)) : ∀ j v, [Value.int .i64 x, .int .i64 y][j]? = some v → X.cell? ((⟨b, o, none⟩ : Addr).add j) = some v := by
  intro j v hj
  rcases j with _ | _ | j
  · simp at hj; subst hj; exact h0
  · simp at hj; subst hj; exact h1
  · simp at hj
set_option maxRecDepth 100000 in
set_option maxHeartbeats 8000000 in
theorem isStale_any (x : Tr) (s : Sl) (m : List Int) (hm : m.length = 28) (w : World) :
    Calls Try.prog 36 #[.agg (trc x s), .agg (mc m)] w fun e w' => e = .returned (.bool (stale x m)) ∧ Below w.heap.size w w' := by
  have X1 := Lib.hid ((Blk.new w 30 (trc x s)).alloc (.cells (mc m) 42))
  have M1 := Lib.hid (Blk.new_at (w := w.alloc (.cells (trc x s) 30)) (n := w.heap.size + 1) (by simp) 42 (mc m))
  have B1 := Lib.hid ((Joins.below_alloc1 w (.cells (trc x s) 30)).alloc (by simp) (.cells (mc m) 42))
  have HL := Lib.hid hm
  obtain ⟨r, hr⟩ : ∃ r, stale x m = r := ⟨_, rfl⟩
  rw [hr]
  unfold stale at hr
  clear hm
  go_enter Try.func36, Try.ntmps36
  go_upto_region 1 with fail
  obtain ⟨g, hg⟩ : ∃ g, g = w.heap.size := ⟨_, rfl⟩
  rw [← hg] at X1 M1 ⊢
  clear hg
  generalize (w.alloc (.cells (trc x s) 30)).alloc (.cells (mc m) 42) = V at X1 M1 B1 ⊢
  have c4 : V.cell? ⟨g, 4, none⟩ = some (.bool x.op) := X1.out.cell 4
  have c3 : V.cell? ⟨g, 3, none⟩ = some (.int .i64 x.sq) := X1.out.cell 3
  have c5 : V.cell? ⟨g, 5, none⟩ = some (.int .i64 x.sh) := X1.out.cell 5
  have c6 : V.cell? ⟨g, 6, none⟩ = some (.int .i64 x.a0) := X1.out.cell 6
  have c7 : V.cell? ⟨g, 7, none⟩ = some (.int .i64 x.a1) := X1.out.cell 7
  have m0 := mc_cell HL.out M1.out (i := 0) (by omega)
  have m1 := mc_cell HL.out M1.out (i := 1) (by omega)
  have m4 := mc_cell HL.out M1.out (i := 4) (by omega)
  have m5 := mc_cell HL.out M1.out (i := 5) (by omega)
  have m6 := mc_cell HL.out M1.out (i := 6) (by omega)
  generalize x.op = op at c4 hr
  cases op with
  | false =>
    obtain rfl : r = true := by rw [← hr]; rfl
    clear hr
    go_wp2_with fail
    go_ret
    exact ⟨rfl, B1.out⟩
  | true =>
    rw [show (!true) = false from rfl, Bool.false_or] at hr
    by_cases h4 : fld m 4 = x.sq
    · have e4 : (fld m 4 != x.sq) = false := by simpa using h4
      rw [decide_eq_false (show ¬ (fld m 4 ≠ x.sq) from fun h => h h4), Bool.false_or] at hr
      clear h4
      by_cases h1 : fld m 1 = x.sh
      · have e1 : (fld m 1 != x.sh) = false := by simpa using h1
        rw [decide_eq_false (show ¬ (fld m 1 ≠ x.sh) from fun h => h h1), Bool.false_or] at hr
        clear h1
        by_cases h0 : fld m 0 = 2
        · have e0 : (fld m 0 == 2) = true := by simpa using h0
          rw [decide_eq_true h0, Bool.true_and] at hr
          clear h0
          generalize fld m 5 = p5 at m5 hr
          generalize fld m 6 = p6 at m6 hr
          generalize x.a0 = q0 at c6 hr
          generalize x.a1 = q1 at c7 hr
          have he : ∀ W, (binOp .neq 25 (.agg #[.int .i64 p5, .int .i64 p6]) (.agg #[.int .i64 q0, .int .i64 q1])).run Try.prog W = .ok (.bool r) W := fun W => by
            rw [neq_res, ← hr, decide_not]
          clear hr
          go_wp2_with fail
          go_ret
          exact ⟨rfl, B1.out⟩
        · have e0 : (fld m 0 == 2) = false := by simpa using h0
          obtain rfl : r = false := by rw [← hr, decide_eq_false h0]; rfl
          clear hr h0
          go_wp2_with fail
          go_ret
          exact ⟨rfl, B1.out⟩
      · have e1 : (fld m 1 != x.sh) = true := by simpa using h1
        obtain rfl : r = true := by rw [← hr, decide_eq_true h1]; rfl
        clear hr h1
        go_wp2_with fail
        go_ret
        exact ⟨rfl, B1.out⟩
    · have e4 : (fld m 4 != x.sq) = true := by simpa using h4
      obtain rfl : r = true := by rw [← hr, decide_eq_true h4]; rfl
      clear hr h4
      go_wp2_with fail
      go_ret
      exact ⟨rfl, B1.out⟩
end Go.Proofs.Ytopjkidekbfalaa
