/- GraphReach. -/
import Derived.Test.YtfaciajnopkjlaaLaw10A
import Derived.Test.YtfaciajnopkjlaaGraN
namespace Go.Proofs.Ytfaciajnopkjlaa
open Go.RowKit
set_option linter.unusedVariables false
set_option linter.unusedSimpArgs false

theorem edg_of {W : World} {A : Option Addr} {len : Nat} {l : List (List Int)} (hl : l.length = len) (ha : ∀ x ∈ l, x.length = 4) (hw : ∀ x ∈ l, ∀ y ∈ x, (Lit.int .i64 y).wf = true) (hr : Reads W W.heap.size 4 A len (ints l.flatten)) : EdgM W W.heap.size A len l := ⟨hr, ha, hl, hw⟩
theorem EdgM.next {w w' : World} {A : Option Addr} {n : Nat} {l : List (List Int)} (h : EdgM w w.heap.size A n l) (hb : Below w.heap.size w w') : EdgM w' w'.heap.size A n l := (h.below hb).more hb.size
theorem EdgM.drewN {w : World} {A : Option Addr} {n : Nat} {l : List (List Int)} (h : EdgM w w.heap.size A n l) (q : Nat) : EdgM (w.drewN q) (w.drewN q).heap.size A n l := ⟨h.reads, h.four, h.count, h.wf⟩
theorem ris_len {l : List Int} {E : Egs} (h : Ris l) (hs : ∀ x ∈ l, x ∈ nds E) : l.length ≤ 2 * E.length := Nat.le_trans (nodup_len (ris_nodup h) hs) (nds_len E)
theorem rp_nds {E : Egs} {a b : Int} (h : Rp (nxt E) a b) : b ∈ nds E := by obtain ⟨d, _, h2⟩ := h; exact (nds_of h2).2
set_option maxRecDepth 100000 in
set_option maxHeartbeats 8000000 in
theorem graphReach_walk (a0 : Option Addr) (len0 cap0 : Nat) (l0 : List (List Int)) (a1 : Int) (W : World) (h : EdgM W W.heap.size a0 len0 l0) (hw : (Lit.int .i64 a1).wf = true) :
    Calls Try.prog 3 #[.slice a0 len0 cap0, .int .i64 a1] W fun e w' => e = .returned (.bool true) ∧ Below W.heap.size W w' := by
  have HH := Lib.hid h
  have WF := Lib.hid hw
  clear h hw
  by_cases h60 : 60 < len0
  · have d1 : decide ((60 : Int) < (len0 : Int)) = true := by simp; omega
    go_enter Try.func3, Try.ntmps3
    go_wp2_with (go_at_call 8; refine (alive10_any _).mono ?_; rintro e w1 ⟨rfl, hb1⟩; have B1 := Lib.hid hb1; clear hb1)
    go_ret
    exact ⟨rfl, B1.out⟩
  · have d1 : decide ((60 : Int) < (len0 : Int)) = false := by simp; omega
    have hel : (eds l0).length = len0 := HH.out.elen
    have HEL := Lib.hid hel
    clear hel
    go_enter Try.func3, Try.ntmps3
    go_wp2_with (go_at_call 8; refine (alive10_any _).mono ?_; rintro e w1 ⟨rfl, hb1⟩; have B1 := Lib.hid hb1; have E1 := Lib.hid (HH.out.next hb1); clear hb1)
    refine (reachG_any (c := cap0) (fr := a1) w1 E1.out (by omega) WF.out).mono ?_
    rintro e w2 ⟨v2, l2, rfl, hris2, hmem2, hrow2, hb2⟩
    obtain ⟨A2, c2, rfl, hr2, _⟩ := own_slice hrow2
    have R2 := Lib.hid hr2
    have I2 := Lib.hid hris2
    have M2 := Lib.hid hmem2
    have E2 := Lib.hid (E1.out.next hb2)
    have B2 := Lib.hid (B1.out.trans (hb2.mono B1.out.size))
    clear hris2 hmem2 hrow2 hb2 hr2
    go_wp2_with fail
    refine (reachR_any (c := cap0) (fr := a1) w2 E2.out (by omega)).mono ?_
    rintro e w3 ⟨v3, l3, rfl, hris3, hmem3, hrow3, hb3⟩
    obtain rfl : l3 = l2 := ris_ext hris3 I2.out fun x => (hmem3 x).trans (M2.out x).symm
    obtain ⟨A3, c3, rfl, hr3, _⟩ := own_slice hrow3
    have hl9 : l3.length ≤ 9223372036854775807 := by have := ris_len I2.out (fun x hx => rp_nds ((M2.out x).1 hx)); rw [HEL.out] at this; omega
    have R3 := Lib.hid hr3
    have R2' := Lib.hid (R2.out.below hb3)
    have E3 := Lib.hid (E2.out.next hb3)
    have B3 := Lib.hid (B2.out.trans (hb3.mono B2.out.size))
    clear hris3 hmem3 hrow3 hb3 hr3
    go_wp2_with fail
    refine (ints_same A2 A3 _ c2 c3 _ _ l3 w3 hl9 R2'.out R3.out).mono ?_
    rintro e w4 ⟨rfl, q, rfl⟩
    have E4 := Lib.hid (E3.out.drewN q)
    have B4 := Lib.hid (below_drewN B3.out q)
    generalize w3.drewN q = w4 at E4 B4 ⊢
    clear hl9 R2 R2' R3 I2 M2 E3 B3
    go_wp2_with fail
    refine (circlesG_any (c := cap0) w4 E4.out (by omega)).mono ?_
    rintro e w5 ⟨v5, l5, rfl, hris2, hmem2, hrow2, hb2⟩
    obtain ⟨A5, c5, rfl, hr2, _⟩ := own_slice hrow2
    have R2 := Lib.hid hr2
    have I2 := Lib.hid hris2
    have M2 := Lib.hid hmem2
    have E5 := Lib.hid (E4.out.next hb2)
    have B5 := Lib.hid (B4.out.trans (hb2.mono B4.out.size))
    clear hris2 hmem2 hrow2 hb2 hr2
    go_wp2_with fail
    refine (circlesR_any (c := cap0) w5 E5.out (by omega)).mono ?_
    rintro e w6 ⟨v6, l6, rfl, hris3, hmem3, hrow3, hb3⟩
    obtain rfl : l6 = l5 := ris_ext hris3 I2.out fun x => (hmem3 x).trans (M2.out x).symm
    obtain ⟨A6, c6, rfl, hr3, _⟩ := own_slice hrow3
    have hl9 : l6.length ≤ 9223372036854775807 := by have := ris_len I2.out (fun x hx => rp_nds ((M2.out x).1 hx)); rw [HEL.out] at this; omega
    have R3 := Lib.hid hr3
    have R2' := Lib.hid (R2.out.below hb3)
    have B6 := Lib.hid (B5.out.trans (hb3.mono B5.out.size))
    clear hris3 hmem3 hrow3 hb3 hr3
    go_wp2_with fail
    refine (ints_same A5 A6 _ c5 c6 _ _ l6 w6 hl9 R2'.out R3.out).mono ?_
    rintro e w7 ⟨rfl, q', rfl⟩
    go_wp2_with fail
    go_ret
    exact ⟨rfl, below_drewN B6.out q'⟩
end Go.Proofs.Ytfaciajnopkjlaa
