/- The contracts of Begin, End, Crash. -/
import Derived.Test.YtmfoffigmojdcaaGreatCliR
namespace Go.Proofs.YtmfoffigmojdcaaGreat
open Go.RowKit
set_option linter.unusedVariables false
set_option linter.unusedSimpArgs false

section
variable {p n : Nat} {L : List Cl}
theorem cli_same {w : World} (h : Cli w p n L) {M : List Cl} (e : M = L) : Cli w p n M := by subst e; exact h
theorem turn_one (w : World) (p i : Nat) (u : Value) : Turn (fun k => k = p) w (w.setCell ⟨p, i, none⟩ u) := Turn.setCell (S := fun k => k = p) (Turn.refl _ _) (p := ⟨p, i, none⟩) (fun _ => rfl) u
set_option maxRecDepth 100000 in
set_option maxHeartbeats 4000000 in
theorem cBegin_any (id tx : Int) (w : World) (h : Cli w p n L) : Calls Tryz.prog 45 #[.pointer (some ⟨p, 0, none⟩), .int .i64 id, .int .i64 tx] w fun e w' =>
    e = .returned (errV (beginL L id tx).2) ∧ Cli w' p n (beginL L id tx).1 ∧ Turn (fun k => k = p) w w' := by
  have hnn := fun W => run_neq_held_nil (P := Tryz.prog) W 28 85 (.int .i64 10) Tryz.underlying28
  have hn0 := fun W => run_neq_nil_nil (P := Tryz.prog) W 28 Tryz.underlying28
  have HH := Lib.hid h
  have h8 := h.hi
  have hl := h.len
  by_cases hid : id < 1 ∨ (n : Int) < id
  · have e1 : beginL L id tx = (L, 10) := by unfold beginL; rw [if_pos (by rw [hl]; exact hid)]
    rw [e1]
    clear h e1
    go_enter Tryz.func45, Tryz.ntmps45
    go_wp2_with (go_at_call 87; refine (cFind_none id hid _ HH.out).mono ?_; rintro e w' ⟨rfl, rfl⟩)
    go_ret
    exact ⟨rfl, HH.out, Turn.refl _ _⟩
  · by_cases htx : tx < 1 ∨ 1048576 < tx
    · have e1 : beginL L id tx = (L, 1) := by unfold beginL; rw [if_neg (by rw [hl]; exact hid), if_pos htx]
      rw [e1]
      obtain ⟨j, hj⟩ : ∃ j : Nat, id = j := ⟨id.toNat, by omega⟩
      subst hj
      have hj1 : 1 ≤ j := by omega
      have hjn : j ≤ n := by omega
      clear h e1
      by_cases ht : tx < 1
      · have d1 : decide (tx < 1) = true := decide_eq_true ht
        clear hid htx
        go_enter Tryz.func45, Tryz.ntmps45
        go_wp2_with (go_at_call 87; refine (cFind_ok j hj1 hjn _ HH.out).mono ?_; rintro e w' ⟨rfl, rfl⟩)
        go_ret
        exact ⟨rfl, HH.out, Turn.refl _ _⟩
      · have d1 : decide (tx < 1) = false := decide_eq_false ht
        have d2 : decide (1048576 < tx) = true := decide_eq_true (by omega)
        clear hid htx
        go_enter Tryz.func45, Tryz.ntmps45
        go_wp2_with (go_at_call 87; refine (cFind_ok j hj1 hjn _ HH.out).mono ?_; rintro e w' ⟨rfl, rfl⟩)
        go_ret
        exact ⟨rfl, HH.out, Turn.refl _ _⟩
    · have e1 := beginL_in L tx (id := id) (by rw [hl]; exact hid) htx
      obtain ⟨j, hj⟩ : ∃ j : Nat, id = j := ⟨id.toNat, by omega⟩
      subst hj
      rw [show ((j : Int) - 1).toNat = j - 1 by omega] at e1
      have hj1 : 1 ≤ j := by omega
      have hjn : j ≤ n := by omega
      have d1 : decide (tx < 1) = false := decide_eq_false (by omega)
      have d2 : decide (1048576 < tx) = false := decide_eq_false (by omega)
      obtain ⟨c0, c1, _⟩ := h.cells hj1 (by omega)
      have hkl : j - 1 < L.length := by omega
      have hx0 := (h.ok.tx _ (clAt_mem hkl)).1
      have hov := ofL_nonneg tx L
      have HS := Lib.hid (fun (hz : ofL tx L = 0) => h.setTx hj1 hjn (t := tx) (by omega) (fun _ => hz))
      have f0 := h.box.frozen (1 + j * 3)
      generalize hv : ofL tx L = v at e1 hov HS
      have HV := Lib.hid hv
      rw [e1]
      clear h e1 hid htx hv
      generalize hxe : clAt L (j - 1) = x at c0 c1 hx0 HS ⊢
      obtain ⟨xt, xd, xs⟩ := x
      simp only at c0 c1 hx0 HS ⊢
      clear hxe
      cases xd with
      | true =>
        clear HS
        go_enter Tryz.func45, Tryz.ntmps45
        go_wp2_with (go_at_call 87; refine (cFind_ok j hj1 hjn _ HH.out).mono ?_; rintro e w' ⟨rfl, rfl⟩)
        go_ret
        exact ⟨rfl, HH.out, Turn.refl _ _⟩
      | false =>
        by_cases hx : xt = 0
        · subst hx
          have e2 : ((0 : Int) != 0) = false := by simp
          by_cases hz : v = 0
          · subst hz
            have HZ := Lib.hid (HS.out rfl)
            clear HS
            go_enter Tryz.func45, Tryz.ntmps45
            go_wp2_with (first
              | (go_at_call 87; refine (cFind_ok j hj1 hjn _ HH.out).mono ?_; rintro e w' ⟨rfl, rfl⟩)
              | (go_at_call 88; refine (cWhose_any tx _ HH.out).mono ?_; rintro e w' ⟨rfl, rfl⟩; rw [HV.out]))
            go_ret
            exact ⟨rfl, HZ.out, turn_one _ _ _ _⟩
          · have e3 : (v != 0) = true := by simpa using hz
            have hv1 : 0 < v := by omega
            clear HS
            go_enter Tryz.func45, Tryz.ntmps45
            go_wp2_with (first
              | (go_at_call 87; refine (cFind_ok j hj1 hjn _ HH.out).mono ?_; rintro e w' ⟨rfl, rfl⟩)
              | (go_at_call 88; refine (cWhose_any tx _ HH.out).mono ?_; rintro e w' ⟨rfl, rfl⟩; rw [HV.out]))
            go_ret
            exact ⟨rfl, HH.out, Turn.refl _ _⟩
        · have e2 : (xt != 0) = true := by simpa using hx
          have hx1 : 0 < xt := by omega
          clear HS
          go_enter Tryz.func45, Tryz.ntmps45
          go_wp2_with (go_at_call 87; refine (cFind_ok j hj1 hjn _ HH.out).mono ?_; rintro e w' ⟨rfl, rfl⟩)
          go_ret
          exact ⟨rfl, HH.out, Turn.refl _ _⟩

set_option maxRecDepth 100000 in
set_option maxHeartbeats 4000000 in
theorem cEnd_any (tx : Int) (w : World) (h : Cli w p n L) : Calls Tryz.prog 90 #[.pointer (some ⟨p, 0, none⟩), .int .i64 tx] w fun e w' =>
    e = .returned (errV (endL L tx).2) ∧ Cli w' p n (endL L tx).1 ∧ Turn (fun k => k = p) w w' := by
  have hnn := fun W => run_neq_held_nil (P := Tryz.prog) W 28 85 (.int .i64 10) Tryz.underlying28
  have hn0 := fun W => run_neq_nil_nil (P := Tryz.prog) W 28 Tryz.underlying28
  have HH := Lib.hid h
  have h8 := h.hi
  have hl := h.len
  by_cases hz : ofL tx L = 0
  · have e1 : endL L tx = (L, 10) := by unfold endL; rw [if_pos hz]
    have e2 : ofV (ofL tx L) = .tuple #[.int .i64 0, errno 10] := by rw [hz]; rfl
    rw [e1]
    have HV := Lib.hid e2
    clear h e1 e2 hz
    go_enter Tryz.func90, Tryz.ntmps90
    go_wp2_with (go_at_call 111; refine (cOf_any tx _ HH.out).mono ?_; rw [HV.out]; rintro e w' ⟨rfl, rfl⟩)
    go_ret
    exact ⟨rfl, HH.out, Turn.refl _ _⟩
  · have hov := ofL_nonneg tx L
    have hole := ofL_le tx L
    obtain ⟨j, hj⟩ : ∃ j : Nat, ofL tx L = j := ⟨(ofL tx L).toNat, by omega⟩
    have hj1 : 1 ≤ j := by omega
    have hjn : j ≤ n := by omega
    have e1 : endL L tx = (L.set (j - 1) { clAt L (j - 1) with tx := 0 }, 0) := by unfold endL; rw [if_neg hz, hj, show ((j : Int) - 1).toNat = j - 1 by omega]
    have e2 : ofV (ofL tx L) = .tuple #[.int .i64 (j : Int), .nilIface] := by unfold ofV; rw [if_neg hz, hj]
    rw [e1]
    have HV := Lib.hid e2
    have HS := Lib.hid (h.setTx hj1 hjn (t := 0) (by omega) (fun h0 => absurd h0 (by omega)))
    have c0 := (h.cells hj1 (by omega)).1
    have f0 := h.box.frozen (1 + j * 3)
    clear h e1 e2 hz hov hole hj
    go_enter Tryz.func90, Tryz.ntmps90
    go_wp2_with (go_at_call 111; refine (cOf_any tx _ HH.out).mono ?_; rw [HV.out]; rintro e w' ⟨rfl, rfl⟩)
    go_ret
    exact ⟨rfl, HS.out, turn_one _ _ _ _⟩

set_option maxRecDepth 100000 in
set_option maxHeartbeats 4000000 in
theorem cCrash_any (id now : Int) (w : World) (h : Cli w p n L) : Calls Tryz.prog 57 #[.pointer (some ⟨p, 0, none⟩), .int .i64 id, .int .i64 now] w fun e w' =>
    e = .returned (errV (crashL L id now).2) ∧ Cli w' p n (crashL L id now).1 ∧ Turn (fun k => k = p) w w' := by
  have hnn := fun W => run_neq_held_nil (P := Tryz.prog) W 28 85 (.int .i64 10) Tryz.underlying28
  have hn0 := fun W => run_neq_nil_nil (P := Tryz.prog) W 28 Tryz.underlying28
  have HH := Lib.hid h
  have h8 := h.hi
  have hl := h.len
  by_cases hid : id < 1 ∨ (n : Int) < id
  · have e1 : crashL L id now = (L, 10) := by unfold crashL; rw [if_pos (by rw [hl]; exact hid)]
    rw [e1]
    clear h e1
    go_enter Tryz.func57, Tryz.ntmps57
    go_wp2_with (go_at_call 87; refine (cFind_none id hid _ HH.out).mono ?_; rintro e w' ⟨rfl, rfl⟩)
    go_ret
    exact ⟨rfl, HH.out, Turn.refl _ _⟩
  · obtain ⟨j, hj⟩ : ∃ j : Nat, id = j := ⟨id.toNat, by omega⟩
    subst hj
    have hj1 : 1 ≤ j := by omega
    have hjn : j ≤ n := by omega
    cases ht : isT now with
    | false =>
      have e1 : crashL L (j : Int) now = (L, 1) := by unfold crashL; rw [if_neg (by rw [hl]; exact hid), if_pos ht]
      rw [e1]
      have HT := Lib.hid ht
      clear h e1 ht hid
      go_enter Tryz.func57, Tryz.ntmps57
      go_wp2_with (first
        | (go_at_call 87; refine (cFind_ok j hj1 hjn _ HH.out).mono ?_; rintro e w' ⟨rfl, rfl⟩)
        | (go_at_call 106; refine (cTime_any _ _).mono ?_; rintro e w' ⟨rfl, rfl⟩; rw [HT.out]))
      go_ret
      exact ⟨rfl, HH.out, Turn.refl _ _⟩
    | true =>
      have e1 : crashL L (j : Int) now = (if (clAt L (j - 1)).dead then (L, 11) else (L.set (j - 1) { clAt L (j - 1) with dead := true, since := now }, 0)) := by
        unfold crashL; rw [if_neg (by rw [hl]; exact hid), if_neg (by rw [ht]; simp), show ((j : Int) - 1).toNat = j - 1 by omega]
      rw [e1]
      have HT := Lib.hid ht
      have HS := Lib.hid (h.setDead hj1 hjn ht)
      obtain ⟨_, c1, c2⟩ := h.cells hj1 (by omega)
      have f1 := h.box.frozen (1 + j * 3 + 1)
      have f2 := h.box.frozen (1 + j * 3 + 2)
      clear h e1 ht hid
      generalize clAt L (j - 1) = x at c1 c2 HS ⊢
      obtain ⟨xt, xd, xs⟩ := x
      simp only at c1 c2 HS ⊢
      cases xd with
      | true =>
        clear HS
        go_enter Tryz.func57, Tryz.ntmps57
        go_wp2_with (first
          | (go_at_call 87; refine (cFind_ok j hj1 hjn _ HH.out).mono ?_; rintro e w' ⟨rfl, rfl⟩)
          | (go_at_call 106; refine (cTime_any _ _).mono ?_; rintro e w' ⟨rfl, rfl⟩; rw [HT.out]))
        go_ret
        exact ⟨rfl, HH.out, Turn.refl _ _⟩
      | false =>
        go_enter Tryz.func57, Tryz.ntmps57
        go_wp2_with (first
          | (go_at_call 87; refine (cFind_ok j hj1 hjn _ HH.out).mono ?_; rintro e w' ⟨rfl, rfl⟩)
          | (go_at_call 106; refine (cTime_any _ _).mono ?_; rintro e w' ⟨rfl, rfl⟩; rw [HT.out]))
        go_ret
        exact ⟨rfl, HS.out, (turn_one _ _ _ _).trans (turn_one _ _ _ _) (fun _ _ h => h)⟩
end
end Go.Proofs.YtmfoffigmojdcaaGreat
