/- Clients: the law's act, the document's example. -/
import Derived.Test.YtjjkopbdejbnlaaCliS
import Derived.Test.YtjjkopbdejbnlaaCliT
namespace Go.Proofs.Ytjjkopbdejbnlaa
open Go.RowKit
set_option linter.unusedVariables false
set_option linter.unusedSimpArgs false

/-- A number of an error that a law's Code tells. -/
def codeOk (c : Int) : Prop := c = 0 ∨ codeB c = true
theorem beginL_code (L : List Cl) (id tx : Int) : codeOk (beginL L id tx).2 := by
  unfold beginL codeOk
  split; exact .inr rfl
  split; exact .inr rfl
  split; exact .inr rfl
  split; exact .inr rfl
  split; exact .inr rfl
  exact .inl rfl
theorem endL_code (L : List Cl) (tx : Int) : codeOk (endL L tx).2 := by
  unfold endL codeOk
  split; exact .inr rfl
  exact .inl rfl
theorem crashL_code (L : List Cl) (id now : Int) : codeOk (crashL L id now).2 := by
  unfold crashL codeOk
  split; exact .inr rfl
  split; exact .inr rfl
  split; exact .inr rfl
  exact .inl rfl
/-- What something done makes of clients, and how it is answered. -/
def actL (L : List Cl) (K I T N : Int) : List Cl × Int := if K = 0 then beginL L I T else if K = 1 then endL L T else crashL L I N
section
variable {p n : Nat} {L : List Cl}
theorem cLost_s (now span : Int) (w : World) (h : Cli w p n L) : Calls Try.prog 14 #[.pointer (some ⟨p, 0, none⟩), .int .i64 now, .int .i64 span] w fun e w' => ∃ A c,
    e = .returned (.slice A (lostR now span L).length c) ∧ Reads w' w'.heap.size 1 A (lostR now span L).length (i64s (lostR now span L)) ∧ Below w.heap.size w w' :=
  (cLost_any now span w h).mono fun e w' ⟨v, he, ho, hb⟩ => by
    obtain ⟨A, c, rfl, hr, _⟩ := own_el ho
    exact ⟨A, c, he, hr, hb⟩
theorem Turn.one_trans {w w' : World} {p : Nat} {o : Obj} (h : Turn (fun k => k = p) (w.alloc o) w') : Turn (fun k => k = p) w w' := ((Turn.refl _ w).alloc o).trans h (fun _ _ e => e)
set_option maxRecDepth 100000 in
set_option maxHeartbeats 4000000 in
theorem act_any (K I T N : Int) (w : World) (h : Cli w p n L) : Calls Try.prog 12 #[.pointer (some ⟨p, 0, none⟩), .agg #[.int .i64 K, .int .i64 I, .int .i64 T, .int .i64 N]] w fun e w' =>
    e = .returned (.int .i64 (actL L K I T N).2) ∧ Cli w' p n (actL L K I T N).1 ∧ Turn (fun k => k = p) w w' := by
  have H1 := Lib.hid (h.step (Joins.below_alloc1 w (.cells #[.int .i64 K, .int .i64 I, .int .i64 T, .int .i64 N] 32)))
  by_cases h0 : K = 0
  · have e0 : actL L K I T N = beginL L I T := if_pos h0
    rw [e0]
    have e1 : (K == 0) = true := by simpa using h0
    have HC := Lib.hid (beginL_code L I T)
    clear h h0 e0
    go_enter Try.func12, Try.ntmps12
    go_wp2_with (first
      | (go_at_call 20; refine (cBegin_any I T _ H1.out).mono ?_; rintro e w2 ⟨rfl, hc2, ht2⟩; have C2 := Lib.hid hc2; have T2 := Lib.hid ht2; clear hc2 ht2)
      | (go_at_call 8; refine (code_errV _ HC.out _).mono ?_; rintro e w' ⟨rfl, rfl⟩))
    go_ret
    exact ⟨rfl, C2.out, Turn.one_trans T2.out⟩
  · have e1 : (K == 0) = false := by simpa using h0
    by_cases h1 : K = 1
    · have e0 : actL L K I T N = endL L T := by unfold actL; rw [if_neg h0, if_pos h1]
      rw [e0]
      have e2 : (K == 1) = true := by simpa using h1
      have HC := Lib.hid (endL_code L T)
      clear h h0 h1 e0
      go_enter Try.func12, Try.ntmps12
      go_wp2_with (first
        | (go_at_call 21; refine (cEnd_any T _ H1.out).mono ?_; rintro e w2 ⟨rfl, hc2, ht2⟩; have C2 := Lib.hid hc2; have T2 := Lib.hid ht2; clear hc2 ht2)
        | (go_at_call 8; refine (code_errV _ HC.out _).mono ?_; rintro e w' ⟨rfl, rfl⟩))
      go_ret
      exact ⟨rfl, C2.out, Turn.one_trans T2.out⟩
    · have e0 : actL L K I T N = crashL L I N := by unfold actL; rw [if_neg h0, if_neg h1]
      rw [e0]
      have e2 : (K == 1) = false := by simpa using h1
      have HC := Lib.hid (crashL_code L I N)
      clear h h0 h1 e0
      go_enter Try.func12, Try.ntmps12
      go_wp2_with (first
        | (go_at_call 22; refine (cCrash_any I N _ H1.out).mono ?_; rintro e w2 ⟨rfl, hc2, ht2⟩; have C2 := Lib.hid hc2; have T2 := Lib.hid ht2; clear hc2 ht2)
        | (go_at_call 8; refine (code_errV _ HC.out _).mono ?_; rintro e w' ⟨rfl, rfl⟩))
      go_ret
      exact ⟨rfl, C2.out, Turn.one_trans T2.out⟩
end

set_option maxRecDepth 100000 in
set_option maxHeartbeats 4000000 in
theorem clientAlive (w : World) : Calls Try.prog 6 #[] w fun e w' => e = .returned (.bool true) ∧ Below w.heap.size w w' := by
  have hnn := fun W => run_neq_nil_nil (P := Try.prog) W 26 Try.underlying26
  have hen := fun W => run_eql_nil_nil (P := Try.prog) W 26 Try.underlying26
  have l1 : beginL (List.replicate 2 noCl) 1 7 = ([⟨7, false, 0⟩, noCl], 0) := rfl
  have l2 : beginL [⟨7, false, 0⟩, noCl] 1 8 = ([⟨7, false, 0⟩, noCl], 8) := rfl
  have l3 : crashL [⟨7, false, 0⟩, noCl] 1 10 = ([⟨7, true, 10⟩, noCl], 0) := rfl
  have l4 : lostR 14 5 [⟨7, true, 10⟩, noCl] = [] := by
    have : lostIds 14 5 [⟨7, true, 10⟩, noCl] = [] := rfl
    unfold lostR; rw [this]; simp [srt]
  have l5 : lostR 15 5 [⟨7, true, 10⟩, noCl] = [7] := by
    have : lostIds 15 5 [⟨7, true, 10⟩, noCl] = [7] := rfl
    unfold lostR; rw [this]; simp [srt]
  go_enter Try.func6, Try.ntmps6
  go_wp2_with fail
  refine (cNew_ok 2 (by omega) (by omega) _).mono ?_
  rintro e w1 ⟨rfl, hl1, hb1⟩
  have C1 := Lib.hid hl1
  have B1 := Lib.hid hb1
  clear hl1 hb1
  go_wp2_with fail
  refine (cBegin_any 1 7 _ C1.out).mono ?_
  rw [l1]
  rintro e w2 ⟨rfl, hl2, ht2⟩
  have C2 := Lib.hid hl2
  have B2 := Lib.hid (B1.out.trans (ht2.below (B := w.heap.size) (fun k hk e => by omega) B1.out.size))
  clear hl2 ht2
  rw [show errV 0 = .nilIface from rfl]
  go_wp2_with fail
  refine (cBegin_any 1 8 _ C2.out).mono ?_
  rw [l2]
  rintro e w3 ⟨rfl, hl3, ht3⟩
  have C3 := Lib.hid hl3
  have B3 := Lib.hid (B2.out.trans (ht3.below (B := w.heap.size) (fun k hk e => by omega) B2.out.size))
  clear hl3 ht3
  go_wp2_with fail
  refine (cCrash_any 1 10 _ C3.out).mono ?_
  rw [l3]
  rintro e w4 ⟨rfl, hl4, ht4⟩
  have C4 := Lib.hid hl4
  have B4 := Lib.hid (B3.out.trans (ht4.below (B := w.heap.size) (fun k hk e => by omega) B3.out.size))
  clear hl4 ht4
  rw [show errV 0 = .nilIface from rfl]
  go_wp2_with fail
  refine (code_errV 8 (.inr rfl) _).mono ?_
  rintro e w' ⟨rfl, rfl⟩
  go_wp2_with fail
  refine (cLost_s 14 5 _ C4.out).mono ?_
  rw [l4]
  rintro e w5 ⟨A5, c5, rfl, hr5, hb5⟩
  have C5 := Lib.hid (C4.out.step hb5)
  have B5 := Lib.hid (stepB B4.out hb5)
  clear hr5 hb5
  go_wp2_with fail
  refine (cLost_s 15 5 _ C5.out).mono ?_
  rw [l5]
  rintro e w6 ⟨A6, c6, rfl, hr6, hb6⟩
  have R6 := Lib.hid hr6
  have B6 := Lib.hid (stepB B5.out hb6)
  clear hr6 hb6
  go_wp2_with fail
  refine (ints_same _ _ 1 _ _ _ _ [7] _ (by omega) (R6.out.alloc (Nat.le_refl _) _) (reads_newInts w6 _ [7])).mono ?_
  rintro e w7 ⟨rfl, q, rfl⟩
  go_wp2_with fail
  go_ret
  exact ⟨rfl, below_drewN (B6.out.alloc B6.out.size _) q⟩
end Go.Proofs.Ytjjkopbdejbnlaa
