/- The contract of Push. -/
import Derived.Test.YtflnjechinfcdaaLineW
import Derived.Test.YtflnjechinfcdaaLineY
namespace Go.Proofs.Ytflnjechinfcdaa
open Go.RowKit
set_option linter.unusedVariables false
set_option linter.unusedSimpArgs false

section
variable {B g : Nat} {r0 r1 : Option Nat} {lim : Int} {U D : List Wt}
theorem many_n {n : Nat} (hn : n = U.length + D.length) (w : World) (h : Line w B g r0 r1 lim U D) : Calls Try.prog 24 #[.pointer (some ⟨g, 0, none⟩)] w fun e w' => e = .returned (.int .i64 n) ∧ ∃ q, w' = w.drewN q := by subst hn; exact many_any w h
set_option maxRecDepth 100000 in
set_option maxHeartbeats 4000000 in
theorem push_nil (q : Wt) (w : World) : Calls Try.prog 20 #[.pointer none, .agg (wc q)] w fun e w' => e = .returned (errno 1) ∧ Below w.heap.size w w' := by
  obtain ⟨a, b, c, d⟩ := q
  show Calls _ _ #[_, .agg #[.int .i64 a, .int .i64 b, .int .i64 c, .bool d]] _ _
  go_enter Try.func20, Try.ntmps20
  go_wp2_with fail
  go_ret
  exact ⟨rfl, Joins.below_alloc1 _ _⟩
set_option maxRecDepth 100000 in
set_option maxHeartbeats 4000000 in
theorem push_bad (q : Wt) (w : World) (g : Nat) (h : mayW q = false) : Calls Try.prog 20 #[.pointer (some ⟨g, 0, none⟩), .agg (wc q)] w fun e w' => e = .returned (errno 1) ∧ Below w.heap.size w w' := by
  have HM := Lib.hid h
  clear h
  obtain ⟨a, b, c, d⟩ := q
  show Calls _ _ #[_, .agg #[.int .i64 a, .int .i64 b, .int .i64 c, .bool d]] _ _
  go_enter Try.func20, Try.ntmps20
  go_wp2_with (go_at_call 27; refine (mayBe_any ⟨a, b, c, d⟩ _).mono ?_; rintro e w1 ⟨rfl, hb⟩; rw [HM.out]; have HB := Lib.hid hb; clear hb)
  go_ret
  exact ⟨rfl, stepB (Joins.below_alloc1 _ _) HB.out⟩
/-- Push's frame ahead of its lot: what is asked, and that all of it says yes. -/
structure Asked (w W : World) (q : Wt) : Prop where
  bel : Below w.heap.size w W
  box : Blk W w.heap.size 33 (wc q)
set_option maxRecDepth 100000 in
set_option maxHeartbeats 4000000 in
theorem push_busy (q : Wt) (w : World) (h : Line w B g r0 r1 lim U D) (hm : mayW q = true) {k : Nat} (hx : idx q.tx (U ++ D) = some k) : Calls Try.prog 20 #[.pointer (some ⟨g, 0, none⟩), .agg (wc q)] w fun e w' => e = .returned (errno 8) ∧ Below w.heap.size w w' := by
  have hn0 := fun W => run_eql_nil_nil (P := Try.prog) W 26 Try.underlying26
  have HM := Lib.hid hm
  have H := Lib.hid h
  have HV := Lib.hid (show findV q.tx U D = .tuple #[.agg #[.int .i64 ((U ++ D).getD k zW).tx, .int .i64 ((U ++ D).getD k zW).sq, .int .i64 ((U ++ D).getD k zW).md, .bool ((U ++ D).getD k zW).up], .nilIface] by unfold findV; rw [hx]; rfl)
  clear h hm hx
  generalize (U ++ D).getD k zW = p at HV
  obtain ⟨a, b, c, d⟩ := q
  obtain ⟨pa, pb, pc, pd⟩ := p
  simp only at HV
  show Calls _ _ #[_, .agg #[.int .i64 a, .int .i64 b, .int .i64 c, .bool d]] _ _
  have H0 := Lib.hid (show Blk (w.alloc (.cells #[.int .i64 a, .int .i64 b, .int .i64 c, .bool d] 33)) w.heap.size 33 (wc ⟨a, b, c, d⟩) from Blk.new _ _ _)
  go_enter Try.func20, Try.ntmps20
  go_wp2_with (go_at_call 27; refine (mayBe_any ⟨a, b, c, d⟩ _).mono ?_; rintro e w1 ⟨rfl, hb⟩; rw [HM.out]; have B1 := Lib.hid (stepB (Joins.below_alloc1 w _) hb); have H1 := Lib.hid (H0.out.here hb); have k0 : w1.cell? ⟨w.heap.size, 0, none⟩ = some (.int .i64 a) := H1.out.cell 0; clear hb)
  refine (find_any a _ (H.out.step B1.out)).mono ?_
  rintro e w2 ⟨rfl, hb⟩
  rw [HV.out]
  have B2 := Lib.hid (stepB B1.out hb)
  clear hb k0
  go_wp2_with fail
  go_ret
  exact ⟨rfl, B2.out.alloc B2.out.size _⟩
set_option maxRecDepth 100000 in
set_option maxHeartbeats 4000000 in
theorem push_long (q : Wt) (w : World) (h : Line w B g r0 r1 lim U D) (hm : mayW q = true) (hx : idx q.tx (U ++ D) = none) {n : Nat} (hn : n = U.length + D.length) (hl : lim ≤ n) : Calls Try.prog 20 #[.pointer (some ⟨g, 0, none⟩), .agg (wc q)] w fun e w' => e = .returned (errno 7) ∧ Below w.heap.size w w' := by
  have hn1 := fun W => run_eql_held_nil (P := Try.prog) W 26 55 (.int .i64 10) Try.underlying26
  have HM := Lib.hid hm
  have H := Lib.hid h
  have HN := Lib.hid hn
  have d1 : decide (lim ≤ (n : Int)) = true := by simpa using hl
  have HV := Lib.hid (show findV q.tx U D = .tuple #[.agg #[.int .i64 0, .int .i64 0, .int .i64 0, .bool false], errno 10] by unfold findV; rw [hx]; rfl)
  clear h hm hx hn hl
  obtain ⟨a, b, c, d⟩ := q
  simp only at HV
  show Calls _ _ #[_, .agg #[.int .i64 a, .int .i64 b, .int .i64 c, .bool d]] _ _
  have H0 := Lib.hid (show Blk (w.alloc (.cells #[.int .i64 a, .int .i64 b, .int .i64 c, .bool d] 33)) w.heap.size 33 (wc ⟨a, b, c, d⟩) from Blk.new _ _ _)
  go_enter Try.func20, Try.ntmps20
  go_wp2_with (go_at_call 27; refine (mayBe_any ⟨a, b, c, d⟩ _).mono ?_; rintro e w1 ⟨rfl, hb⟩; rw [HM.out]; have B1 := Lib.hid (stepB (Joins.below_alloc1 w _) hb); have H1 := Lib.hid (H0.out.here hb); have k0 : w1.cell? ⟨w.heap.size, 0, none⟩ = some (.int .i64 a) := H1.out.cell 0; clear hb)
  refine (find_any a _ (H.out.step B1.out)).mono ?_
  rintro e w2 ⟨rfl, hb⟩
  rw [HV.out]
  obtain ⟨W, hW⟩ : ∃ W, W = w2.alloc (.cells #[.int .i64 0, .int .i64 0, .int .i64 0, .bool false] 33) := ⟨_, rfl⟩
  have B2 := Lib.hid (show Below w.heap.size w W by rw [hW]; exact stepA (stepB B1.out hb) _)
  have H2 := Lib.hid (H.out.step B2.out)
  have kL : W.cell? ⟨g, 0, none⟩ = some (.int .i64 lim) := by obtain ⟨_, _, hl, _⟩ := H2.out; exact hl.box.cell 0
  clear hb k0
  go_wp2_with fail
  rw [← hW]
  clear hW
  go_quiet ((go_at_call 24; exact Calls.quiet_of (many_n HN.out _ (H2.out.step (below_drewN (Below.refl _ _) _)))))
  go_wp2_with fail
  go_ret
  exact ⟨rfl, below_drewN B2.out _⟩
end
end Go.Proofs.Ytflnjechinfcdaa
