/- The contract of Ahead. -/
import Derived.Test.YtflnjechinfcdaaLineW
namespace Go.Proofs.Ytflnjechinfcdaa
open Go.RowKit
set_option linter.unusedVariables false
set_option linter.unusedSimpArgs false

/-- Who waits ahead. -/
def ahL (tx : Int) (U D : List Wt) : List Wt := match idx tx (U ++ D) with | some k => (U ++ D).take k | none => []
section
variable {B g : Nat} {r0 r1 : Option Nat} {lim : Int} {U D : List Wt}
theorem told_none (w : World) : Told w w none 0 [] := ⟨Reads.none_, (fun ad h => by cases h), fun h => absurd h (by omega)⟩
theorem Told.below {w w' w'' : World} {A : Option Addr} {m : Nat} {L : List Wt} (h : Told w' w'' A m L) (hs : w.heap.size ≤ w'.heap.size) : Told w w'' A m L := ⟨h.reads, fun ad he => ⟨Nat.le_trans hs (h.new ad he).1, (h.new ad he).2⟩, h.row⟩
set_option maxRecDepth 100000 in
set_option maxHeartbeats 4000000 in
theorem ahead_nil (tx : Int) (w : World) : Calls Try.prog 17 #[.pointer none, .int .i64 tx] w fun e w' => e = .returned (.slice none 0 0) ∧ w = w' := by
  have hn := fun W => run_neq_held_nil (P := Try.prog) W 26 55 (.int .i64 1) Try.underlying26
  go_enter Try.func17, Try.ntmps17
  go_wp2_with (go_at_call 25; refine (seek_nil _ _).mono ?_; rintro e w' ⟨rfl, rfl⟩)
  go_ret
  exact ⟨rfl, rfl⟩
set_option maxRecDepth 100000 in
set_option maxHeartbeats 4000000 in
theorem ahead_none (tx : Int) (w : World) (h : Line w B g r0 r1 lim U D) (hU : idx tx U = none) (hD : idx tx D = none) : Calls Try.prog 17 #[.pointer (some ⟨g, 0, none⟩), .int .i64 tx] w fun e w' => e = .returned (.slice none 0 0) ∧ Below w.heap.size w w' := by
  have hn := fun W => run_neq_held_nil (P := Try.prog) W 26 55 (.int .i64 10) Try.underlying26
  have HS := Lib.hid (show seekV tx U D = .tuple #[.int .i64 0, .int .i64 0, errno 10] by unfold seekV; rw [hU]; simp only []; rw [hD])
  have H := Lib.hid h
  clear h hU hD
  go_enter Try.func17, Try.ntmps17
  go_wp2_with fail
  refine (seek_any tx _ H.out).mono ?_
  rintro e w1 ⟨rfl, hb⟩
  rw [HS.out]
  have HB := Lib.hid hb
  clear hb
  go_wp2_with fail
  go_ret
  exact ⟨rfl, HB.out⟩
set_option maxRecDepth 100000 in
set_option maxHeartbeats 4000000 in
theorem ahead_left (tx : Int) (w : World) {k : Nat} (h : Line w B g r0 r1 lim U D) (hU : idx tx U = some k) : Calls Try.prog 17 #[.pointer (some ⟨g, 0, none⟩), .int .i64 tx] w fun e w' => ∃ A, e = .returned (.slice A k k) ∧ Told w w' A k ((U ++ D).take k) ∧ Below w.heap.size w w' := by
  have hn := fun W => run_neq_nil_nil (P := Try.prog) W 26 Try.underlying26
  have HS := Lib.hid (show seekV tx U D = .tuple #[.int .i64 0, .int .i64 k, .nilIface] by unfold seekV; rw [hU])
  have hlt := idx_lt hU
  have H := Lib.hid h
  clear h hU
  go_enter Try.func17, Try.ntmps17
  go_wp2_with fail
  refine (seek_any tx _ H.out).mono ?_
  rintro e w1 ⟨rfl, hb⟩
  rw [HS.out]
  have HB := Lib.hid hb
  have H1 := Lib.hid (H.out.step hb)
  clear hb
  go_wp2_with fail
  refine wp_loop_rounds 1 ?_
  rw [rounds_succ]
  go_wp2_with fail
  refine (first_any _ H1.out (m := k) (by omega)).mono ?_
  rintro e w2 ⟨A, rfl, hT, hb2⟩
  have HT := Lib.hid hT
  have HB2 := Lib.hid hb2
  clear hT hb2
  go_wp2_with fail
  go_ret
  exact ⟨A, rfl, HT.out.below HB.out.size, stepB HB.out HB2.out⟩
set_option maxRecDepth 100000 in
set_option maxHeartbeats 4000000 in
theorem ahead_right (tx : Int) (w : World) {k : Nat} (h : Line w B g r0 r1 lim U D) (hU : idx tx U = none) (hD : idx tx D = some k) : Calls Try.prog 17 #[.pointer (some ⟨g, 0, none⟩), .int .i64 tx] w fun e w' => ∃ A, e = .returned (.slice A (k + U.length) (k + U.length)) ∧ Told w w' A (k + U.length) ((U ++ D).take (k + U.length)) ∧ Below w.heap.size w w' := by
  have hn := fun W => run_neq_nil_nil (P := Try.prog) W 26 Try.underlying26
  have HS := Lib.hid (show seekV tx U D = .tuple #[.int .i64 1, .int .i64 k, .nilIface] by unfold seekV; rw [hU]; simp only []; rw [hD])
  have hlt := idx_lt hD
  have hlen := h.ok.len
  have s1 : IntKind.i64.wrap ((k : Int) + (U.length : Int)) = (k : Int) + (U.length : Int) := IntWalk.i64_in _ (by omega)
  have H := Lib.hid h
  clear h hU hD
  go_enter Try.func17, Try.ntmps17
  go_wp2_with fail
  refine (seek_any tx _ H.out).mono ?_
  rintro e w1 ⟨rfl, hb⟩
  rw [HS.out]
  have HB := Lib.hid hb
  have H1 := Lib.hid (H.out.step hb)
  obtain ⟨v0, v1, hl, _, _⟩ := H.out.step hb
  obtain ⟨A0, c0, A1, c1, rfl, rfl, hr0, hr1, hc0, hc1, k0, k1, k2⟩ := hl.cells
  clear hb hl hr0 hr1
  go_wp2_with fail
  refine wp_loop_rounds 2 ?_
  rw [rounds_succ]
  go_wp2_with fail
  rw [rounds_succ]
  go_wp2_with fail
  refine (first_any _ H1.out (m := k + U.length) (by omega)).mono ?_
  rintro e w2 ⟨A, rfl, hT, hb2⟩
  have HT := Lib.hid hT
  have HB2 := Lib.hid hb2
  clear hT hb2
  go_wp2_with fail
  go_ret
  exact ⟨A, rfl, HT.out.below HB.out.size, stepB HB.out HB2.out⟩
theorem ahead_any (tx : Int) (w : World) (h : Line w B g r0 r1 lim U D) : Calls Try.prog 17 #[.pointer (some ⟨g, 0, none⟩), .int .i64 tx] w fun e w' => ∃ A n, e = .returned (.slice A n n) ∧ n = (ahL tx U D).length ∧ Told w w' A n (ahL tx U D) ∧ Below w.heap.size w w' := by
  cases hU : idx tx U with
  | some k =>
    have e : ahL tx U D = (U ++ D).take k := by unfold ahL; rw [idx_left hU]
    have hk := idx_lt hU
    refine (ahead_left tx w h hU).mono ?_
    rintro e' w' ⟨A, rfl, hT, hb⟩
    exact ⟨A, k, rfl, by rw [e, List.length_take, List.length_append]; omega, e ▸ hT, hb⟩
  | none => cases hD : idx tx D with
    | some k =>
      have e : ahL tx U D = (U ++ D).take (k + U.length) := by unfold ahL; rw [idx_right hU, hD]; rfl
      have hk := idx_lt hD
      refine (ahead_right tx w h hU hD).mono ?_
      rintro e' w' ⟨A, rfl, hT, hb⟩
      exact ⟨A, _, rfl, by rw [e, List.length_take, List.length_append]; omega, e ▸ hT, hb⟩
    | none =>
      have e : ahL tx U D = [] := by unfold ahL; rw [idx_right hU, hD]; rfl
      refine (ahead_none tx w h hU hD).mono ?_
      rintro e' w' ⟨rfl, hb⟩
      exact ⟨none, 0, rfl, by rw [e]; rfl, e ▸ ⟨Reads.none_, (fun ad h => by cases h), fun h => absurd h (by omega)⟩, hb⟩
end
end Go.Proofs.Ytflnjechinfcdaa
