/- The contracts of Begin, End, Now, Of, Crash, Alive. -/
import Derived.Test.YtmfoffigmojdcaaGreatCliQ
import Derived.Test.YtmfoffigmojdcaaGreatErrV
namespace Go.Proofs.YtmfoffigmojdcaaGreat
open Go.RowKit
set_option linter.unusedVariables false
set_option linter.unusedSimpArgs false

/-! ### of nil clients -/
set_option maxRecDepth 100000 in
set_option maxHeartbeats 1000000 in
theorem cBegin_nil (id tx : Int) (w : World) : Calls Tryz.prog 45 #[.pointer none, .int .i64 id, .int .i64 tx] w fun e w' => e = .returned (errno 1) ∧ w = w' := by
  have hn := fun W => run_neq_held_nil (P := Tryz.prog) W 28 85 (.int .i64 1) Tryz.underlying28
  go_enter Tryz.func45, Tryz.ntmps45
  go_wp2_with (go_at_call 87; refine (cFind_nil _ _).mono ?_; rintro e w' ⟨rfl, rfl⟩)
  go_ret
  exact ⟨rfl, rfl⟩
set_option maxRecDepth 100000 in
set_option maxHeartbeats 1000000 in
theorem cCrash_nil (id now : Int) (w : World) : Calls Tryz.prog 57 #[.pointer none, .int .i64 id, .int .i64 now] w fun e w' => e = .returned (errno 1) ∧ w = w' := by
  have hn := fun W => run_neq_held_nil (P := Tryz.prog) W 28 85 (.int .i64 1) Tryz.underlying28
  go_enter Tryz.func57, Tryz.ntmps57
  go_wp2_with (go_at_call 87; refine (cFind_nil _ _).mono ?_; rintro e w' ⟨rfl, rfl⟩)
  go_ret
  exact ⟨rfl, rfl⟩
set_option maxRecDepth 100000 in
set_option maxHeartbeats 1000000 in
theorem cNow_nil (id : Int) (w : World) : Calls Tryz.prog 43 #[.pointer none, .int .i64 id] w fun e w' => e = .returned (.tuple #[.int .i64 0, errno 1]) ∧ w = w' := by
  have hn := fun W => run_neq_held_nil (P := Tryz.prog) W 28 85 (.int .i64 1) Tryz.underlying28
  go_enter Tryz.func43, Tryz.ntmps43
  go_wp2_with (go_at_call 87; refine (cFind_nil _ _).mono ?_; rintro e w' ⟨rfl, rfl⟩)
  go_ret2
  exact ⟨rfl, rfl⟩
set_option maxRecDepth 100000 in
set_option maxHeartbeats 1000000 in
theorem cOf_nil (tx : Int) (w : World) : Calls Tryz.prog 111 #[.pointer none, .int .i64 tx] w fun e w' => e = .returned (.tuple #[.int .i64 0, errno 1]) ∧ w = w' := by
  go_enter Tryz.func111, Tryz.ntmps111
  go_wp2_with fail
  go_ret2
  exact ⟨rfl, rfl⟩
set_option maxRecDepth 100000 in
set_option maxHeartbeats 1000000 in
theorem cEnd_nil (tx : Int) (w : World) : Calls Tryz.prog 90 #[.pointer none, .int .i64 tx] w fun e w' => e = .returned (errno 1) ∧ w = w' := by
  have hn := fun W => run_neq_held_nil (P := Tryz.prog) W 28 85 (.int .i64 1) Tryz.underlying28
  go_enter Tryz.func90, Tryz.ntmps90
  go_wp2_with (go_at_call 111; refine (cOf_nil _ _).mono ?_; rintro e w' ⟨rfl, rfl⟩)
  go_ret
  exact ⟨rfl, rfl⟩
set_option maxRecDepth 100000 in
set_option maxHeartbeats 1000000 in
theorem cAlive_nil (id : Int) (w : World) : Calls Tryz.prog 86 #[.pointer none, .int .i64 id] w fun e w' => e = .returned (.bool false) ∧ w = w' := by
  have hn := fun W => run_eql_held_nil (P := Tryz.prog) W 28 85 (.int .i64 1) Tryz.underlying28
  go_enter Tryz.func86, Tryz.ntmps86
  go_wp2_with (go_at_call 87; refine (cFind_nil _ _).mono ?_; rintro e w' ⟨rfl, rfl⟩)
  go_ret
  exact ⟨rfl, rfl⟩

section
variable {p n : Nat} {L : List Cl}
/-! ### what is only read -/
/-- What Of answers. -/
def ofV (v : Int) : Value := .tuple #[.int .i64 v, if v = 0 then errno 10 else .nilIface]
set_option maxRecDepth 100000 in
set_option maxHeartbeats 1000000 in
theorem cOf_any (tx : Int) (w : World) (h : Cli w p n L) : Calls Tryz.prog 111 #[.pointer (some ⟨p, 0, none⟩), .int .i64 tx] w fun e w' => e = .returned (ofV (ofL tx L)) ∧ w = w' := by
  have HH := Lib.hid h
  clear h
  generalize hv : ofL tx L = v
  have HV := Lib.hid hv
  clear hv
  by_cases h0 : v = 0
  · have e0 : (v == 0) = true := by simpa using h0
    have e1 : ofV v = .tuple #[.int .i64 0, errno 10] := by subst h0; rfl
    clear h0
    go_enter Tryz.func111, Tryz.ntmps111
    go_wp2_with (go_at_call 88; refine (cWhose_any tx _ HH.out).mono ?_; rintro e w' ⟨rfl, rfl⟩; rw [HV.out])
    go_ret2
    exact ⟨by first | rfl | (rw [e1]; rfl), rfl⟩
  · have e0 : (v == 0) = false := by simpa using h0
    have e1 : ofV v = .tuple #[.int .i64 v, .nilIface] := by unfold ofV; rw [if_neg h0]
    clear h0
    go_enter Tryz.func111, Tryz.ntmps111
    go_wp2_with (go_at_call 88; refine (cWhose_any tx _ HH.out).mono ?_; rintro e w' ⟨rfl, rfl⟩; rw [HV.out])
    go_ret2
    exact ⟨by first | rfl | (rw [e1]; rfl), rfl⟩
/-- A client's transaction; 0: none, or no such client. -/
def nowL (n : Nat) (L : List Cl) (id : Int) : Int := if id < 1 ∨ (n : Int) < id then 0 else (clAt L (id - 1).toNat).tx
/-- What Now answers. -/
def nowV (v : Int) : Value := .tuple #[.int .i64 v, if v = 0 then errno 10 else .nilIface]
set_option maxRecDepth 100000 in
set_option maxHeartbeats 1000000 in
theorem cNow_any (id : Int) (w : World) (h : Cli w p n L) (v : Int) (hv : nowL n L id = v) : Calls Tryz.prog 43 #[.pointer (some ⟨p, 0, none⟩), .int .i64 id] w fun e w' => e = .returned (nowV v) ∧ w = w' := by
  have hnn := fun W => run_neq_held_nil (P := Tryz.prog) W 28 85 (.int .i64 10) Tryz.underlying28
  have hn0 := fun W => run_neq_nil_nil (P := Tryz.prog) W 28 Tryz.underlying28
  have HH := Lib.hid h
  have h8 := h.hi
  by_cases hid : id < 1 ∨ (n : Int) < id
  · have e1 : nowV v = .tuple #[.int .i64 0, errno 10] := by rw [← hv]; unfold nowL; rw [if_pos hid]; rfl
    clear h hv
    go_enter Tryz.func43, Tryz.ntmps43
    go_wp2_with (go_at_call 87; refine (cFind_none id hid _ HH.out).mono ?_; rintro e w' ⟨rfl, rfl⟩)
    go_ret2
    exact ⟨by first | rfl | (rw [e1]; rfl), rfl⟩
  · obtain ⟨j, hj⟩ : ∃ j : Nat, id = j := ⟨id.toNat, by omega⟩
    subst hj
    have hj1 : 1 ≤ j := by omega
    have hjn : j ≤ n := by omega
    have c0 := (h.cells hj1 (by omega)).1
    have e2 : nowL n L (j : Int) = (clAt L (j - 1)).tx := by unfold nowL; rw [if_neg hid, show ((j : Int) - 1).toNat = j - 1 by omega]
    rw [← e2, hv] at c0
    clear h hv e2 hid
    by_cases h0 : v = 0
    · have e0 : (v == 0) = true := by simpa using h0
      have e1 : nowV v = .tuple #[.int .i64 0, errno 10] := by subst h0; rfl
      clear h0
      go_enter Tryz.func43, Tryz.ntmps43
      go_wp2_with (go_at_call 87; refine (cFind_ok j hj1 hjn _ HH.out).mono ?_; rintro e w' ⟨rfl, rfl⟩)
      go_ret2
      exact ⟨by first | rfl | (rw [e1]; rfl), rfl⟩
    · have e0 : (v == 0) = false := by simpa using h0
      have e1 : nowV v = .tuple #[.int .i64 v, .nilIface] := by unfold nowV; rw [if_neg h0]
      clear h0
      go_enter Tryz.func43, Tryz.ntmps43
      go_wp2_with (go_at_call 87; refine (cFind_ok j hj1 hjn _ HH.out).mono ?_; rintro e w' ⟨rfl, rfl⟩)
      go_ret2
      exact ⟨by first | rfl | (rw [e1]; rfl), rfl⟩
/-- Whether a client is alive. -/
def aliveL (n : Nat) (L : List Cl) (id : Int) : Bool := if id < 1 ∨ (n : Int) < id then false else !(clAt L (id - 1).toNat).dead
set_option maxRecDepth 100000 in
set_option maxHeartbeats 1000000 in
theorem cAlive_any (id : Int) (w : World) (h : Cli w p n L) (v : Bool) (hv : aliveL n L id = v) : Calls Tryz.prog 86 #[.pointer (some ⟨p, 0, none⟩), .int .i64 id] w fun e w' => e = .returned (.bool v) ∧ w = w' := by
  have hnn := fun W => run_eql_held_nil (P := Tryz.prog) W 28 85 (.int .i64 10) Tryz.underlying28
  have hn0 := fun W => run_eql_nil_nil (P := Tryz.prog) W 28 Tryz.underlying28
  have HH := Lib.hid h
  have h8 := h.hi
  by_cases hid : id < 1 ∨ (n : Int) < id
  · obtain rfl : v = false := by rw [← hv]; unfold aliveL; rw [if_pos hid]
    clear h hv
    go_enter Tryz.func86, Tryz.ntmps86
    go_wp2_with (go_at_call 87; refine (cFind_none id hid _ HH.out).mono ?_; rintro e w' ⟨rfl, rfl⟩)
    go_ret
    exact ⟨rfl, rfl⟩
  · obtain ⟨j, hj⟩ : ∃ j : Nat, id = j := ⟨id.toNat, by omega⟩
    subst hj
    have hj1 : 1 ≤ j := by omega
    have hjn : j ≤ n := by omega
    have c1 := (h.cells hj1 (by omega)).2.1
    have e2 : v = !(clAt L (j - 1)).dead := by rw [← hv]; unfold aliveL; rw [if_neg hid, show ((j : Int) - 1).toNat = j - 1 by omega]
    generalize (clAt L (j - 1)).dead = d at c1 e2
    subst e2
    clear h hv hid
    go_enter Tryz.func86, Tryz.ntmps86
    go_wp2_with (go_at_call 87; refine (cFind_ok j hj1 hjn _ HH.out).mono ?_; rintro e w' ⟨rfl, rfl⟩)
    go_ret
    exact ⟨rfl, rfl⟩
end
end Go.Proofs.YtmfoffigmojdcaaGreat
