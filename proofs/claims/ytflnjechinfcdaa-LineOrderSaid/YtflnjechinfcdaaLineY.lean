/- May one that waits be: the program's word, and the document's. -/
import Derived.Test.YtflnjechinfcdaaLineA
import Derived.WalkKit
namespace Go.Proofs.Ytflnjechinfcdaa
open Go.RowKit
set_option linter.unusedVariables false
set_option linter.unusedSimpArgs false

set_option maxRecDepth 100000 in
set_option maxHeartbeats 1000000 in
theorem mayBe_any (q : Wt) (w : World) : Calls Try.prog 27 #[.agg (wv q).toArray] w fun e w' => e = .returned (.bool (mayW q)) ∧ Below w.heap.size w w' := by
  obtain ⟨a, b, c, d⟩ := q
  by_cases h0 : 1 ≤ a
  · have d0 : decide (1 ≤ a) = true := by simp; omega
    by_cases h1 : a ≤ 1048576
    · have d1 : decide (a ≤ 1048576) = true := by simp; omega
      by_cases h2 : 1 ≤ b
      · have d2 : decide (1 ≤ b) = true := by simp; omega
        by_cases h3 : b ≤ 1048576
        · have d3 : decide (b ≤ 1048576) = true := by simp; omega
          by_cases h4 : 1 ≤ c
          · have d4 : decide (1 ≤ c) = true := by simp; omega
            by_cases h5 : c ≤ 4
            · have d5 : decide (c ≤ 4) = true := by simp; omega
              rw [show mayW ⟨a, b, c, d⟩ = true by unfold mayW; simp [h0, h1, h2, h3, h4, h5]]
              clear h0 h1 h2 h3 h4 h5
              show Calls _ _ #[.agg #[.int .i64 a, .int .i64 b, .int .i64 c, .bool d]] _ _
              go_enter Try.func27, Try.ntmps27
              go_wp2_with fail
              go_ret
              exact ⟨rfl, Joins.below_alloc1 _ _⟩
            · have d5 : decide (c ≤ 4) = false := by simp; omega
              rw [show mayW ⟨a, b, c, d⟩ = false by unfold mayW; simp [h0, h1, h2, h3, h4, h5]]
              clear h0 h1 h2 h3 h4 h5
              show Calls _ _ #[.agg #[.int .i64 a, .int .i64 b, .int .i64 c, .bool d]] _ _
              go_enter Try.func27, Try.ntmps27
              go_wp2_with fail
              go_ret
              exact ⟨rfl, Joins.below_alloc1 _ _⟩
          · have d4 : decide (1 ≤ c) = false := by simp; omega
            rw [show mayW ⟨a, b, c, d⟩ = false by unfold mayW; simp [h0, h1, h2, h3, h4]]
            clear h0 h1 h2 h3 h4
            show Calls _ _ #[.agg #[.int .i64 a, .int .i64 b, .int .i64 c, .bool d]] _ _
            go_enter Try.func27, Try.ntmps27
            go_wp2_with fail
            go_ret
            exact ⟨rfl, Joins.below_alloc1 _ _⟩
        · have d3 : decide (b ≤ 1048576) = false := by simp; omega
          rw [show mayW ⟨a, b, c, d⟩ = false by unfold mayW; simp [h0, h1, h2, h3]]
          clear h0 h1 h2 h3
          show Calls _ _ #[.agg #[.int .i64 a, .int .i64 b, .int .i64 c, .bool d]] _ _
          go_enter Try.func27, Try.ntmps27
          go_wp2_with fail
          go_ret
          exact ⟨rfl, Joins.below_alloc1 _ _⟩
      · have d2 : decide (1 ≤ b) = false := by simp; omega
        rw [show mayW ⟨a, b, c, d⟩ = false by unfold mayW; simp [h0, h1, h2]]
        clear h0 h1 h2
        show Calls _ _ #[.agg #[.int .i64 a, .int .i64 b, .int .i64 c, .bool d]] _ _
        go_enter Try.func27, Try.ntmps27
        go_wp2_with fail
        go_ret
        exact ⟨rfl, Joins.below_alloc1 _ _⟩
    · have d1 : decide (a ≤ 1048576) = false := by simp; omega
      rw [show mayW ⟨a, b, c, d⟩ = false by unfold mayW; simp [h0, h1]]
      clear h0 h1
      show Calls _ _ #[.agg #[.int .i64 a, .int .i64 b, .int .i64 c, .bool d]] _ _
      go_enter Try.func27, Try.ntmps27
      go_wp2_with fail
      go_ret
      exact ⟨rfl, Joins.below_alloc1 _ _⟩
  · have d0 : decide (1 ≤ a) = false := by simp; omega
    rw [show mayW ⟨a, b, c, d⟩ = false by unfold mayW; simp [h0]]
    clear h0
    show Calls _ _ #[.agg #[.int .i64 a, .int .i64 b, .int .i64 c, .bool d]] _ _
    go_enter Try.func27, Try.ntmps27
    go_wp2_with fail
    go_ret
    exact ⟨rfl, Joins.below_alloc1 _ _⟩

set_option maxRecDepth 100000 in
set_option maxHeartbeats 1000000 in
theorem may_any (q : Wt) (w : World) : Calls Try.prog 21 #[.agg (wv q).toArray] w fun e w' => e = .returned (.bool (mayW q)) ∧ Below w.heap.size w w' := by
  obtain ⟨a, b, c, d⟩ := q
  by_cases h0 : 1 ≤ a
  · have d0 : decide (0 < a) = true := by simp; omega
    by_cases h1 : a ≤ 1048576
    · have d1 : decide (a ≤ 1048576) = true := by simp; omega
      by_cases h2 : 1 ≤ b
      · have d2 : decide (0 < b) = true := by simp; omega
        by_cases h3 : b ≤ 1048576
        · have d3 : decide (b ≤ 1048576) = true := by simp; omega
          by_cases h4 : 1 ≤ c
          · have d4 : decide (0 < c) = true := by simp; omega
            by_cases h5 : c ≤ 4
            · have d5 : decide (c < 5) = true := by simp; omega
              rw [show mayW ⟨a, b, c, d⟩ = true by unfold mayW; simp [h0, h1, h2, h3, h4, h5]]
              clear h0 h1 h2 h3 h4 h5
              show Calls _ _ #[.agg #[.int .i64 a, .int .i64 b, .int .i64 c, .bool d]] _ _
              go_enter Try.func21, Try.ntmps21
              go_wp2_with fail
              go_ret
              exact ⟨rfl, Joins.below_alloc1 _ _⟩
            · have d5 : decide (c < 5) = false := by simp; omega
              rw [show mayW ⟨a, b, c, d⟩ = false by unfold mayW; simp [h0, h1, h2, h3, h4, h5]]
              clear h0 h1 h2 h3 h4 h5
              show Calls _ _ #[.agg #[.int .i64 a, .int .i64 b, .int .i64 c, .bool d]] _ _
              go_enter Try.func21, Try.ntmps21
              go_wp2_with fail
              go_ret
              exact ⟨rfl, Joins.below_alloc1 _ _⟩
          · have d4 : decide (0 < c) = false := by simp; omega
            rw [show mayW ⟨a, b, c, d⟩ = false by unfold mayW; simp [h0, h1, h2, h3, h4]]
            clear h0 h1 h2 h3 h4
            show Calls _ _ #[.agg #[.int .i64 a, .int .i64 b, .int .i64 c, .bool d]] _ _
            go_enter Try.func21, Try.ntmps21
            go_wp2_with fail
            go_ret
            exact ⟨rfl, Joins.below_alloc1 _ _⟩
        · have d3 : decide (b ≤ 1048576) = false := by simp; omega
          rw [show mayW ⟨a, b, c, d⟩ = false by unfold mayW; simp [h0, h1, h2, h3]]
          clear h0 h1 h2 h3
          show Calls _ _ #[.agg #[.int .i64 a, .int .i64 b, .int .i64 c, .bool d]] _ _
          go_enter Try.func21, Try.ntmps21
          go_wp2_with fail
          go_ret
          exact ⟨rfl, Joins.below_alloc1 _ _⟩
      · have d2 : decide (0 < b) = false := by simp; omega
        rw [show mayW ⟨a, b, c, d⟩ = false by unfold mayW; simp [h0, h1, h2]]
        clear h0 h1 h2
        show Calls _ _ #[.agg #[.int .i64 a, .int .i64 b, .int .i64 c, .bool d]] _ _
        go_enter Try.func21, Try.ntmps21
        go_wp2_with fail
        go_ret
        exact ⟨rfl, Joins.below_alloc1 _ _⟩
    · have d1 : decide (a ≤ 1048576) = false := by simp; omega
      rw [show mayW ⟨a, b, c, d⟩ = false by unfold mayW; simp [h0, h1]]
      clear h0 h1
      show Calls _ _ #[.agg #[.int .i64 a, .int .i64 b, .int .i64 c, .bool d]] _ _
      go_enter Try.func21, Try.ntmps21
      go_wp2_with fail
      go_ret
      exact ⟨rfl, Joins.below_alloc1 _ _⟩
  · have d0 : decide (0 < a) = false := by simp; omega
    rw [show mayW ⟨a, b, c, d⟩ = false by unfold mayW; simp [h0]]
    clear h0
    show Calls _ _ #[.agg #[.int .i64 a, .int .i64 b, .int .i64 c, .bool d]] _ _
    go_enter Try.func21, Try.ntmps21
    go_wp2_with fail
    go_ret
    exact ⟨rfl, Joins.below_alloc1 _ _⟩
end Go.Proofs.Ytflnjechinfcdaa
