/- The document's example; the walk of LeaseNone. -/
import Derived.Test.YthbjcaenkgjfaaaLeaseB
import Derived.Test.YthbjcaenkgjfaaaLeaseC
import Derived.Test.YthbjcaenkgjfaaaRefM
namespace Go.Proofs.Ythbjcaenkgjfaaa
open Go.RowKit
set_option linter.unusedVariables false
set_option linter.unusedSimpArgs false

theorem due_s {g b n : Nat} {span : Int} {L : List IP} (now : Int) (w : World) (h : Lse w g b n span L) (hm : n ≤ 1000000) :
    Calls Try.prog 13 #[.pointer (some ⟨g, 0, none⟩), .int .i64 now] w fun e w' => ∃ A c, e = .returned (.slice A (dueIds span now L).length c) ∧ Reads w' w'.heap.size 1 A (dueIds span now L).length (i64s (dueIds span now L)) ∧ Below w.heap.size w w' :=
  (due_any now w h hm).mono fun e w' ⟨v, he, ho, hb⟩ => by
    obtain ⟨A, c, rfl, hr, _⟩ := own_slice ho
    exact ⟨A, c, he, hr, hb⟩
theorem all_s {g b n : Nat} {span : Int} {L : List IP} (w : World) (h : Lse w g b n span L) (hm : n ≤ 1000000) :
    Calls Try.prog 12 #[.pointer (some ⟨g, 0, none⟩)] w fun e w' => ∃ A c, e = .returned (.slice A (L.map (·.1)).length c) ∧ Reads w' w'.heap.size 1 A (L.map (·.1)).length (i64s (L.map (·.1))) ∧ Below w.heap.size w w' :=
  (all_any w h hm).mono fun e w' ⟨v, he, ho, hb⟩ => by
    obtain ⟨A, c, rfl, hr, _⟩ := own_slice ho
    exact ⟨A, c, he, hr, hb⟩
theorem refDue_s {span : Int} {L : List IP} (hok : LsOk span L) (hL : L.length ≤ 1000000) (A : Option Addr) (n c B : Nat) (now : Int) (w : World) (h : Reads w B 2 A n (prs L)) (hB : B ≤ w.heap.size) :
    Calls Try.prog 14 #[.slice A n c, .int .i64 span, .int .i64 now] w fun e w' => ∃ A c, e = .returned (.slice A (dueIds span now L).length c) ∧ Reads w' w'.heap.size 1 A (dueIds span now L).length (i64s (dueIds span now L)) ∧ Below w.heap.size w w' :=
  (refDue_any hok hL A n c B now w h hB).mono fun e w' ⟨v, he, ho, hb⟩ => by
    obtain ⟨A, c, rfl, hr, _⟩ := own_slice ho
    exact ⟨A, c, he, hr, hb⟩

set_option maxRecDepth 100000 in
set_option maxHeartbeats 4000000 in
theorem leaseAlive (w : World) : Calls Try.prog 7 #[] w fun e w' => e = .returned (.bool true) ∧ Below w.heap.size w w' := by
  have hnn := fun W => run_neq_nil_nil (P := Try.prog) W 26 Try.underlying26
  go_enter Try.func7, Try.ntmps7
  go_wp2_with fail
  refine (newL_ok 3 (by omega) _).mono ?_
  rintro e w1 ⟨rfl, hl1, hb1⟩
  have L1 := Lib.hid hl1
  have B1 := Lib.hid hb1
  clear hl1 hb1
  go_wp2_with fail
  refine (renew_ok 7 10 (by omega) (by decide) _ L1.out (by decide)).mono ?_
  rintro e w2 ⟨rfl, hl2, ht2⟩
  have L2 := Lib.hid (show Lse w2 _ _ 1 3 [(7, 10)] from hl2)
  have B2 := Lib.hid (B1.out.trans (ht2.below (B := w.heap.size) (fun k hk e => by omega) B1.out.size))
  clear hl2 ht2
  go_wp2_with fail
  refine (due_s 12 _ L2.out (by omega)).mono ?_
  rintro e w3 ⟨A3, c3, rfl, hr3, hb3⟩
  rw [show (dueIds 3 12 [(7, 10)]).length = 0 by decide]
  have L3 := Lib.hid (L2.out.step hb3)
  have B3 := Lib.hid (stepB B2.out hb3)
  clear hr3 hb3
  go_wp2_with fail
  refine (due_s 13 _ L3.out (by omega)).mono ?_
  rintro e w4 ⟨A4, c4, rfl, hr4, hb4⟩
  rw [show (dueIds 3 13 [(7, 10)]).length = 1 by decide]
  rw [show (dueIds 3 13 [(7, 10)]).length = 1 by decide, show dueIds 3 13 [(7, 10)] = [7] by decide] at hr4
  have R4 := Lib.hid hr4
  have B4 := Lib.hid (stepB B3.out hb4)
  clear hr4 hb4
  go_wp2_with fail
  refine (ints_same _ _ 1 _ _ _ _ [7] _ (by omega) (R4.out.alloc (Nat.le_refl _) _) (reads_newInt w4 _ 7)).mono ?_
  rintro e w5 ⟨rfl, q, rfl⟩
  go_wp2_with fail
  go_ret
  exact ⟨rfl, below_drewN (B4.out.alloc B4.out.size _) q⟩

set_option maxRecDepth 100000 in
set_option maxHeartbeats 4000000 in
theorem leaseNone_walk (k now : Int) (w : World) : Calls Try.prog 5 #[.int .i64 k, .int .i64 now] w fun e w' => e = .returned (.bool true) ∧ Below w.heap.size w w' := by
  go_enter Try.func5, Try.ntmps5
  go_wp2_with (first
    | (go_at_call 7; refine (leaseAlive _).mono ?_; rintro e w1 ⟨rfl, hb1⟩)
    | (go_at_call 10; refine (since_nil _ _).mono ?_; rintro e w' ⟨rfl, rfl⟩)
    | (go_at_call 16; refine (renew_nil _ _ _).mono ?_; rintro e w' ⟨rfl, rfl⟩)
    | (go_at_call 18; refine (endL_nil _ _).mono ?_; rintro e w' ⟨rfl, rfl⟩)
    | (go_at_call 13; refine (due_nilp _ _).mono ?_; rintro e w' ⟨rfl, rfl⟩)
    | (go_at_call 12; refine (all_nilp _).mono ?_; rintro e w' ⟨rfl, rfl⟩)
    | (go_at_call 9; refine (code_errno 1 (by decide) _).mono ?_; rintro e w' ⟨rfl, rfl⟩))
  go_ret
  exact ⟨rfl, hb1⟩
end Go.Proofs.Ythbjcaenkgjfaaa
