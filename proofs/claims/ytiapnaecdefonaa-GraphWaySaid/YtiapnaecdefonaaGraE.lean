/- The contract of Way. -/
import Derived.Test.YtiapnaecdefonaaGraD
namespace Go.Proofs.Ytiapnaecdefonaa
open Go.RowKit
set_option linter.unusedVariables false
set_option linter.unusedSimpArgs false

section
variable {w : World} {n : Nat} {A : Option Addr} {ls : List (List Int)} {fr to : Int}
set_option maxRecDepth 100000 in
set_option maxHeartbeats 4000000 in
theorem wayG_any {c : Nat} (w : World) (h : EdgM w w.heap.size A n ls) (hn : n ≤ 200) (hfr : (Lit.int .i64 fr).wf = true) (hto : (Lit.int .i64 to).wf = true) :
    Calls Try.prog 10 #[.slice A n c, .int .i64 fr, .int .i64 to] w fun e w' => ∃ i v, (bst (nxt (eds ls)) fr i).row.length ≤ i ∧ e = .returned v ∧ w'.ownsRow w.heap.size 3 1 v (wayL (bst (nxt (eds ls)) fr i) to).length (i64s (wayL (bst (nxt (eds ls)) fr i) to)) ∧ Below w.heap.size w w' := by
  have hF := h.fin hn
  have HF := Lib.hid hF
  have hUl := hF.len
  have HH := Lib.hid h
  have WF := Lib.hid hfr
  have WT := Lib.hid hto
  clear h hfr hto hF
  go_enter Try.func10, Try.ntmps10
  go_wp2_with fail
  refine (ends_any (c := c) w HH.out (by omega)).mono ?_
  rintro e w1 ⟨b, rfl, hbl, hnx, hb1⟩
  have NX := Lib.hid hnx
  have B1 := Lib.hid hb1
  clear hnx hb1
  go_wp2_with fail
  refine (reach_any (fr := fr) w1 NX.out (Nat.le_refl _) HF.out WF.out).mono ?_
  rintro e w2 ⟨rfl, hb2, i, m, hi, hm, hmap⟩
  have HI := Lib.hid hi
  have HM := Lib.hid hmap
  have hz1 := B1.out.size
  have B2 := Lib.hid (B1.out.trans (hb2.mono hz1))
  have HL := Lib.hid (bst_len (F := nxt (eds ls)) (fr := fr) HF.out.sub i)
  have BI := Lib.hid (binv (nxt (eds ls)) fr i)
  have PL := Lib.hid (plen (nxt (eds ls)) fr i)
  have GB := Lib.hid (show w.heap.size ≤ w1.heap.size ∧ w1.heap.size < w2.heap.size from ⟨hz1, hmap.lt⟩)
  clear hi hmap hb2 hz1
  generalize hS : bst (nxt (eds ls)) fr i = S at HI HM HL BI PL
  have HS := Lib.hid hS
  clear hS
  cases ht : S.ahead to with
  | none =>
    have his : (aheadV S to).isSome = false := by unfold aheadV; rw [ht]; rfl
    have HIS := Lib.hid his
    have HW := Lib.hid (show wayL S to = [] by unfold wayL; rw [ht]; rfl)
    clear his ht
    go_wp2_with (at_lookup; refine wpList_look_okV _ rfl _ _ 48 rfl 3 Try.underlying48 _ (zeroInt _) rfl HM.out to rfl WT.out _ rfl false HIS.out ?_)
    go_ret
    refine ⟨i, _, by rw [HS.out]; exact HI.out, rfl, ?_, B2.out⟩
    rw [HS.out, HW.out]
    exact World.ownsRow_nil _ _ _ _
  | some c0 =>
    have his : (aheadV S to).isSome = true := by unfold aheadV; rw [ht]; rfl
    have hv : (aheadV S to).getD (.int .i64 0) = .int .i64 c0 := by unfold aheadV; rw [ht]; rfl
    obtain ⟨p1, p2, p3, p4⟩ := BI.out.pred to c0 ht
    have HIS := Lib.hid his
    have HV := Lib.hid hv
    have HT := Lib.hid ht
    have P3 := Lib.hid p3
    have P4 := Lib.hid p4
    have HW := Lib.hid (show wayL S to = S.paths to by unfold wayL; rw [ht]; rfl)
    have hpl := PL.out.2 to (by rw [ht]; rfl)
    clear his hv ht p1 p2 p3 p4
    have TOK := Lib.hid True.intro
    go_wp2_with (first
      | (at_lookup; have _t := TOK; refine wpList_look_okV _ rfl _ _ 48 rfl 3 Try.underlying48 _ (zeroInt _) rfl HM.out to rfl WT.out _ HV.out true HIS.out ?_; clear TOK)
      | (at_lookup; refine wpList_lookV _ rfl _ _ 48 rfl 3 Try.underlying48 _ (zeroInt _) rfl (HM.out.alloc _) to rfl WT.out _ HV.out ?_))
    have hsz := GB.out
    have HP0 := Lib.hid (show Pof fr S c0 ++ [to] = S.paths to from P4.out.symm)
    go_loopw [10, 11] (fun s10 s11 wr => ∃ (x : Int) (wl : List Int), s11 = .int .i64 x ∧ (x = fr ∨ (S.ahead x).isSome = true) ∧ Pof fr S x ++ wl.reverse = S.paths to ∧ wr.ownsRow w.heap.size 3 1 s10 wl.length (i64s wl) ∧ MapV wr w1.heap.size m (aheadV S) ∧ Below w.heap.size w wr)
      (fun _ s11 _ => (Pof fr S (RowKit.intOf s11)).length)
    case atStart => exact ⟨c0, [to], rfl, P3.out, HP0.out, own_new w2 3 [to] rfl (by omega) rfl (by simp), HM.out.alloc _, B2.out.alloc (by omega) _⟩
    case round =>
      obtain ⟨x, wl, rfl, hx, hp, hrow, hmap, hb⟩ := hrel
      rename World => V
      have hlen : wl.length ≤ 1001 := by
        have h1 := congrArg List.length hp
        rw [List.length_append, List.length_reverse] at h1
        have := HL.out
        omega
      have HR := Lib.hid hrow
      have HMV := Lib.hid hmap
      have HB := Lib.hid hb
      have HP := Lib.hid hp
      have HZ := Lib.hid hb.size
      have NR := Lib.hid (MapV.ne_row hmap hrow)
      clear hrow hmap hb hp hpl
      by_cases hxf : x = fr
      · subst hxf
        have hpof : Pof x S x = [x] := by unfold Pof; rw [if_pos rfl]
        have HPF := Lib.hid hpof
        clear hpof
        go_wp2_with (at_builtin
                     refine wpList_app_new _ rfl (.tmp 39) (.tmp 41) _ rfl Try.underlying25 w.heap.size _ wl.length wl rfl (HR.out.alloc _) [x] 1 1 _ _ rfl _ rfl rfl rfl (by omega) (by have := HZ.out; simp; omega) ?_
                     intro v9 w9 hown9 hg9 hv9
                     have O9 := Lib.hid hown9
                     have G9 := Lib.hid hg9
                     clear hown9 hg9 hv9)
        refine (reverse_own _ O9.out (by omega)).mono ?_
        rintro e w5 ⟨rfl, h5, ht5⟩
        have H5 := Lib.hid h5
        have T5 := Lib.hid ht5
        clear h5 ht5
        go_wp2_with fail
        go_ret
        have e1 : (wl ++ [x]).reverse = S.paths to := by rw [List.reverse_append, ← HP.out, HPF.out]; rfl
        have B9 := below_own (HB.out.alloc HZ.out (.cells #[.int .i64 x] 3)) G9.out (HR.out.alloc _) (Nat.le_refl _) (by have := HZ.out; simp; omega)
        refine ⟨i, _, by rw [HS.out]; exact HI.out, rfl, ?_, B9.trans (T5.out.below (fun g hg hs => by have := ownBlock_ge O9.out g hs; omega) B9.size)⟩
        have h6 := H5.out
        rw [e1] at h6
        rw [HS.out, HW.out]
        have h7 : (S.paths to).length = wl.length + 1 := by rw [← e1]; simp
        rw [h7]; exact h6
      · have hbne : (x != fr) = true := by simpa using hxf
        have h0 : (S.ahead x).isSome = true := by
          rcases hx with e | e
          · exact absurd e hxf
          · exact e
        obtain ⟨d, hd⟩ := Option.isSome_iff_exists.1 h0
        obtain ⟨p1, p2, p3, p4⟩ := BI.out.pred x d hd
        have hxw : (Lit.int .i64 x).wf = true := HF.out.wf _ (HF.out.sub _ _ p2)
        have hpof : Pof fr S x = Pof fr S d ++ [x] := by unfold Pof at p4 ⊢; rw [if_neg hxf]; exact p4
        have hv : (aheadV S x).getD (.int .i64 0) = .int .i64 d := by unfold aheadV; rw [hd]; rfl
        have HPF := Lib.hid hpof
        have HV := Lib.hid hv
        have XW := Lib.hid hxw
        have P3' := Lib.hid p3
        clear hx h0 hd p1 p2 p3 p4 hpof hv hxw
        go_wp2_with (first
          | (at_builtin
             refine wpList_app_new _ rfl (.tmp 35) (.tmp 37) _ rfl Try.underlying25 w.heap.size _ wl.length wl rfl (HR.out.alloc _) [x] 1 1 _ _ rfl _ rfl rfl rfl (by omega) (by have := HZ.out; simp; omega) ?_
             intro v9 w9 hown9 hg9 hv9
             have O9 := Lib.hid hown9
             have G9 := Lib.hid hg9
             have M9 := Lib.hid ((HMV.out.alloc (.cells #[.int .i64 x] 3)).grown hg9 NR.out)
             clear hown9 hg9 hv9)
          | (at_lookup; refine wpList_lookV _ rfl _ _ 48 rfl 3 Try.underlying48 _ (zeroInt _) rfl M9.out x rfl XW.out _ HV.out ?_))
        go_roundw
        case rel =>
          refine ⟨d, wl ++ [x], rfl, P3'.out, ?_, by rw [List.length_append]; exact O9.out, M9.out, below_own (HB.out.alloc HZ.out (.cells #[.int .i64 x] 3)) G9.out (HR.out.alloc _) (Nat.le_refl _) (by have := HZ.out; simp; omega)⟩
          rw [List.reverse_append, ← HP.out, HPF.out]; simp
        case measure =>
          show (Pof fr S d).length < (Pof fr S x).length
          rw [HPF.out]; simp
end
end Go.Proofs.Ytiapnaecdefonaa
