/- GraphWay. -/
import Derived.Test.YtiapnaecdefonaaLaw10A
import Derived.Test.YtiapnaecdefonaaGraV
namespace Go.Proofs.Ytiapnaecdefonaa
open Go.RowKit
set_option linter.unusedVariables false
set_option linter.unusedSimpArgs false

theorem wayL_len {E : Egs} {x y : Int} {i : Nat} {U : List Int} (hU : ∀ x y, y ∈ nxt E x → y ∈ U) : (wayL (bst (nxt E) x i) y).length ≤ U.length + 1 := by
  unfold wayL
  split
  · rename_i h
    exact Nat.le_trans ((plen (nxt E) x i).2 y h) (bst_len hU i)
  · simp
set_option maxRecDepth 100000 in
set_option maxHeartbeats 8000000 in
theorem graphWay_walk (a0 : Option Addr) (len0 cap0 : Nat) (l0 : List (List Int)) (a1 a2 : Int) (W : World) (h : EdgM W W.heap.size a0 len0 l0) (hw : (Lit.int .i64 a1).wf = true) (hw2 : (Lit.int .i64 a2).wf = true) :
    Calls Try.prog 3 #[.slice a0 len0 cap0, .int .i64 a1, .int .i64 a2] W fun e w' => e = .returned (.bool true) ∧ Below W.heap.size W w' := by
  have HH := Lib.hid h
  have WF := Lib.hid hw
  have WF2 := Lib.hid hw2
  clear h hw hw2
  by_cases h60 : 60 < len0
  · have d1 : decide ((60 : Int) < (len0 : Int)) = true := by simp; omega
    go_enter Try.func3, Try.ntmps3
    go_wp2_with (go_at_call 8; refine (alive10_any _).mono ?_; rintro e w1 ⟨rfl, hb1⟩; have B1 := Lib.hid hb1; clear hb1)
    go_ret
    exact ⟨rfl, B1.out⟩
  · have d1 : decide ((60 : Int) < (len0 : Int)) = false := by simp; omega
    have HF := Lib.hid (HH.out.fin (by omega))
    have HN := Lib.hid (show (nds (eds l0)).length ≤ 400 from by have := nds_len (eds l0); rw [HH.out.elen] at this; omega)
    go_enter Try.func3, Try.ntmps3
    go_wp2_with (go_at_call 8; refine (alive10_any _).mono ?_; rintro e w1 ⟨rfl, hb1⟩; have B1 := Lib.hid hb1; have E1 := Lib.hid (HH.out.next hb1); clear hb1)
    refine (wayG_any (c := cap0) (fr := a1) w1 E1.out (by omega) WF.out WF2.out).mono ?_
    rintro e w2 ⟨i, v2, hi, rfl, hrow2, hb2⟩
    obtain ⟨A2, c2, rfl, hr2, _⟩ := own_slice hrow2
    have HI := Lib.hid hi
    have WL := Lib.hid (wayL_len (E := eds l0) (x := a1) (y := a2) (i := i) HF.out.sub)
    have R2 := Lib.hid hr2
    have E2 := Lib.hid (E1.out.next hb2)
    have B2 := Lib.hid (B1.out.trans (hb2.mono B1.out.size))
    clear hi hrow2 hb2 hr2
    go_wp2_with fail
    refine (wayR_any (c := cap0) (fr := a1) a2 w2 E2.out (by omega)).mono ?_
    rintro e w3 ⟨v3, rfl, hrow3, hb3⟩
    obtain ⟨A3, c3, rfl, hr3, _⟩ := own_slice (hrow3 i HI.out)
    have hl9 : (wayL (bst (nxt (eds l0)) a1 i) a2).length ≤ 9223372036854775807 := by have := WL.out; have := HN.out; omega
    have R3 := Lib.hid hr3
    have R2' := Lib.hid (R2.out.below hb3)
    have B3 := Lib.hid (B2.out.trans (hb3.mono B2.out.size))
    clear hrow3 hb3 hr3
    go_wp2_with fail
    refine (ints_same A2 A3 _ c2 c3 _ _ _ w3 hl9 R2'.out R3.out).mono ?_
    rintro e w4 ⟨rfl, q, rfl⟩
    go_wp2_with fail
    go_ret
    exact ⟨rfl, below_drewN B3.out q⟩
end Go.Proofs.Ytiapnaecdefonaa
