/- The document's line: Push. -/
import Derived.Test.YtflnjechinfcdaaRef7H
namespace Go.Proofs.Ytflnjechinfcdaa
open Go.RowKit
set_option linter.unusedVariables false
set_option linter.unusedSimpArgs false

set_option maxRecDepth 100000 in
set_option maxHeartbeats 8000000 in
theorem refPush_up0 (A : Option Addr) (n cc B : Nat) (lim a b c : Int) (U D : List Wt) (w : World) (hup : ∀ q ∈ U, q.up = true) (hdn : ∀ q ∈ D, q.up = false) (hU : U = []) (h : Reads w B 4 A n (wvs (U ++ D))) (hB : B ≤ w.heap.size) (hcc : n ≤ cc) (hn : n ≤ 1000)
    (hm : mayW ⟨a, b, c, true⟩ = true) (hx : idx a (U ++ D) = none) (hl : (n : Int) < lim) : Calls Try.prog 11 #[.slice A n cc, .int .i64 lim, .agg #[.int .i64 a, .int .i64 b, .int .i64 c, .bool true]] w fun e w' => ∃ A' c', e = .returned (.tuple #[.slice A' (n + 1) c', .int .i64 0]) ∧
      Reads w' w'.heap.size 4 A' (n + 1) (wvs ((U ++ [⟨a, b, c, true⟩]) ++ D)) ∧ Below w.heap.size w w' ∧ n + 1 ≤ c' ∧ Kin w w' A A' := by
  have HM := Lib.hid hm
  have H := Lib.hid h
  have HL := Lib.hid h.w_len
  have HF := Lib.hid (show refF a (U ++ D) = -1 by unfold refF; rw [hx])
  have HUP := Lib.hid hup
  have HDN := Lib.hid hdn
  have HB := Lib.hid hB
  have hlenN : U.length + D.length = n := by have := h.w_len; rwa [List.length_append] at this
  have d1 : decide (lim ≤ (n : Int)) = false := by simp; omega
  obtain ⟨i0, hi0, hz0, hz1, hz2⟩ := info_parts info_wait
  clear hm h hx hup hdn hB
  have H0 := Lib.hid (show Blk (w.alloc (.cells #[.int .i64 a, .int .i64 b, .int .i64 c, .bool true] 33)) w.heap.size 33 (wc ⟨a, b, c, true⟩) from Blk.new _ _ _)
  go_enter Try.func11, Try.ntmps11
  go_wp2_with (go_at_call 21; refine (may_any ⟨a, b, c, true⟩ _).mono ?_; rintro e w1 ⟨rfl, hb⟩; rw [HM.out]; have B1 := Lib.hid (stepB (Joins.below_alloc1 w _) hb); have X1 := Lib.hid (H0.out.here hb); have k0 : w1.cell? ⟨w.heap.size, 0, none⟩ = some (.int .i64 a) := X1.out.cell 0; have k3 : w1.cell? ⟨w.heap.size, 3, none⟩ = some (.bool true) := X1.out.cell 3; have R1 := Lib.hid (((H.out.more HB.out).below B1.out).more B1.out.size); clear hb)
  refine (refFind_any A n cc w1.heap.size _ a w1 (by omega) R1.out).mono ?_
  rintro e w' ⟨rfl, rfl⟩
  rw [HF.out]
  go_wp2_with fail
  go_loopw [8] (fun s W => ∃ k : Nat, U.length ≤ k ∧ k ≤ n ∧ s = .int .i64 k ∧ W = w1) (fun s _ => (RowKit.intOf s).toNat)
  case atStart => exact ⟨n, by omega, Nat.le_refl _, rfl, rfl⟩
  case round =>
    obtain ⟨k, hk0, hk1, rfl, hw⟩ := hrel
    have hw := hw.symm
    subst hw
    by_cases hkU : k = U.length
    · subst hkU
      have d2 : decide (0 < (U.length : Int)) = false := by simp; omega
      have hU0 : U.length = 0 := by rw [hU]; rfl
      rw [hU0] at d2 ⊢
      go_wp2_with fail
      have BV := Lib.hid (below_drewN B1.out 1)
      have XV := Lib.hid (X1.out.drewN 1)
      have RV := Lib.hid (show Reads (w1.drewN 1) (w1.drewN 1).heap.size 4 A n (wvs (U ++ D)) from R1.out)
      clear k0 k3
      have hkn : 0 ≤ n := by omega
      have hkc : 0 ≤ cc := by omega
      have TK := Lib.hid (RV.out.w_take hkn)
      have DK := Lib.hid (RV.out.w_drop hkn hcc)
      refine wp_region_held_drew (S := fun w' => ∀ j v, (wv ⟨a, b, c, true⟩)[j]? = some v → w'.cell? ((⟨w.heap.size, 0, none⟩ : Addr).add j) = some v) (by kernel_rfl) (four_at XV.out) (fun hHeld => ?_)
      refine wpAnyH_take (i := 1) (v := ?_) rfl (by kernel_rfl) (by kernel_rfl) (by kernel_rfl) (fun _ _ _ h => h) (Or.inl ⟨by rfl, ?_⟩) (by assumption) ?_
      rotate_left
      · (intro w0 hSw; (try dsimp only at hSw); go_simp; try with_reducible rfl)
      try simp only [List.getElem_toArray, List.getElem_cons_succ, List.getElem_cons_zero, Act.put, List.setIfInBounds_toArray, List.set_cons_zero, List.set_cons_succ]
      refine wpAnyH_take (i := 2) (v := ?_) rfl (by kernel_rfl) (by kernel_rfl) (by kernel_rfl) (fun _ _ _ h => h) (Or.inl ⟨by rfl, ?_⟩) (by assumption) ?_
      rotate_left
      · (intro w0 hSw; (try dsimp only at hSw); go_simp; try with_reducible rfl)
      try simp only [List.getElem_toArray, List.getElem_cons_succ, List.getElem_cons_zero, Act.put, List.setIfInBounds_toArray, List.set_cons_zero, List.set_cons_succ]
      refine wpAnyH_take (i := 3) (v := ?_) rfl (by kernel_rfl) (by kernel_rfl) (by kernel_rfl) (fun _ _ _ h => h) (Or.inl ⟨by rfl, ?_⟩) (by assumption) ?_
      rotate_left
      · (intro w0 hSw; (try dsimp only at hSw); go_simp; try with_reducible rfl)
      try simp only [List.getElem_toArray, List.getElem_cons_succ, List.getElem_cons_zero, Act.put, List.setIfInBounds_toArray, List.set_cons_zero, List.set_cons_succ]
      refine wpAnyH_take (i := 5) (v := .agg (wc ⟨a, b, c, true⟩)) rfl (by kernel_rfl) (by kernel_rfl) (by kernel_rfl) (fun _ _ _ h => h) (Or.inl ⟨by rfl, fun w0 hSw => exec_load (x := .tmp 5) rfl (ad := ⟨w.heap.size, 0, none⟩) rfl (run_loadVar_cells w0 _ _ (wv ⟨a, b, c, true⟩) _ hSw Try.underlying33 rfl info_wait4)⟩) (by assumption) ?_
      try simp only [List.getElem_toArray, List.getElem_cons_succ, List.getElem_cons_zero, Act.put, List.setIfInBounds_toArray, List.set_cons_zero, List.set_cons_succ]
      refine wpAnyH_take (i := 8) (v := ?_) rfl (by kernel_rfl) (by kernel_rfl) (by kernel_rfl) (fun _ _ _ h => h) (Or.inl ⟨by rfl, ?_⟩) (by assumption) ?_
      rotate_left
      · (intro w0 hSw; (try dsimp only at hSw); go_simp; try with_reducible rfl)
      try simp only [List.getElem_toArray, List.getElem_cons_succ, List.getElem_cons_zero, Act.put, List.setIfInBounds_toArray, List.set_cons_zero, List.set_cons_succ]
      refine wpAnyH_take (i := 9) (v := ?_) rfl (by kernel_rfl) (by kernel_rfl) (by kernel_rfl) (fun _ _ _ h => h) (Or.inl ⟨by rfl, ?_⟩) (by assumption) ?_
      rotate_left
      · (intro w0 hSw; (try dsimp only at hSw); go_simp; try with_reducible rfl)
      try simp only [List.getElem_toArray, List.getElem_cons_succ, List.getElem_cons_zero, Act.put, List.setIfInBounds_toArray, List.set_cons_zero, List.set_cons_succ]
      refine wpAnyH_take (i := 10) (v := .slice (if cc = 0 then A else A.map (·.add (0 * 4))) (n - 0) (cc - 0)) rfl (by kernel_rfl) (by kernel_rfl) (by kernel_rfl) (fun _ _ _ h => h) (Or.inl ⟨by rfl, ?_⟩) (by assumption) ?_
      · intro w0 hSw
        clear hSw hHeld
        go_simp
      try simp only [List.getElem_toArray, List.getElem_cons_succ, List.getElem_cons_zero, Act.put, List.setIfInBounds_toArray, List.set_cons_zero, List.set_cons_succ]
      generalize (if cc = 0 then A else A.map (·.add (0 * 4))) = AD at DK ⊢
      rw [show w1.drew = w1.drewN 1 from rfl] at hHeld ⊢
      generalize w1.drewN 1 = V at BV XV RV TK DK hHeld ⊢
      have HS := Lib.hid (fun X (hb : Below V.heap.size V X) => four_at (XV.out.here hb))
      have K0 := Lib.hid (Below.refl V.heap.size V)
      have OW := Lib.hid (show ∀ u ∈ wv ⟨a, b, c, true⟩, u.oneCell' = true from fun v hv => wvs_one [⟨a, b, c, true⟩] v (by rw [wvs_single]; exact hv))
      refine wpAnyH_ready (rs := [0, 6]) (by kernel_rfl) (by simp) ?_
      refine AllReadyH.cons rfl (fun K hK => ?_) (AllReadyH.cons rfl (fun K hK => ?_) AllReadyH.nil)
      · refine step_build_w (by rfl) 0 _ rfl builds0 (by rfl) ?_
        have KX1 := Lib.hid (K0.out.alloc K0.out.size (.cells #[] 33))
        have OX1 := Lib.hid (own_made0 (w := V) K0.out.size)
        refine hK.out _ _ (HS.out _ KX1.out) (fun hHeld => ?_)
        clear hK K hHeld
        have hHeld := HS.out _ KX1.out
        generalize hO : (Value.slice (some ⟨V.heap.size, 0, none⟩) 0 0) = v0 at OX1 ⊢
        clear hO
        generalize V.alloc (.cells #[] 33) = X1 at KX1 OX1 hHeld ⊢
        refine wpAnyH_ready (rs := [4, 6]) (by kernel_rfl) (by simp) ?_
        refine AllReadyH.cons rfl (fun K hK => ?_) (AllReadyH.cons rfl (fun K hK => ?_) AllReadyH.nil)
        · refine step_append_any _ rfl (.tmp 43) (.tmp 46) _ rfl V.heap.size 33 i0 _ 4 32 Try.underlying30 hi0 hz0 hz1 hz2 rfl (by omega) v0 0 [] rfl
            OX1.out X1.heap.size A 0 cc (wvs ((U ++ D).take 0)) rfl ((TK.out.below KX1.out).more KX1.out.size) (wvs_one _) (by simp only [maxLen]; omega) (by omega) KX1.out.size ?_
          intro v4 X2 hown hg hv
          have KX2 := Lib.hid (below_app KX1.out hg OX1.out (Nat.le_refl _) KX1.out.size)
          have OX2 := Lib.hid hown
          clear hown hg hv
          refine hK.out _ _ (HS.out _ KX2.out) (fun hHeld => ?_)
          clear hK K hHeld
          have hHeld := HS.out _ KX2.out
          refine wpAnyH_ready (rs := [6]) (by kernel_rfl) (by simp) ?_
          refine AllReadyH.cons rfl (fun K hK => ?_) AllReadyH.nil
          refine step_build_w (by rfl) 1 _ rfl (builds1 ⟨a, b, c, true⟩) (by rfl) ?_
          have KX3 := Lib.hid (KX2.out.alloc KX2.out.size (.cells (wc ⟨a, b, c, true⟩) 33))
          have NX3 := Lib.hid (Blk.new X2 33 (wc ⟨a, b, c, true⟩))
          have OX3 := Lib.hid (World.ownsRow.alloc OX2.out (.cells (wc ⟨a, b, c, true⟩) 33))
          have EX3 := Lib.hid (show v4.ownBlock ≠ some X2.heap.size from fun e => by obtain ⟨cur, hh, _⟩ := own_heap OX2.out _ e; exact absurd (own_lt hh) (Nat.lt_irrefl _))
          refine hK.out _ _ (HS.out _ KX3.out) (fun hHeld => ?_)
          clear hK K hHeld
          have hHeld := HS.out _ KX3.out
          generalize X2.alloc (.cells (wc ⟨a, b, c, true⟩) 33) = X3 at KX3 NX3 OX3 hHeld ⊢
          generalize X2.heap.size = gq at NX3 EX3 ⊢
          refine wpAnyH_ready (rs := [7]) (by kernel_rfl) (by simp) ?_
          refine AllReadyH.cons rfl (fun K hK => ?_) AllReadyH.nil
          refine step_append_any _ rfl (.tmp 47) (.tmp 49) _ rfl V.heap.size 33 i0 _ 4 32 Try.underlying30 hi0 hz0 hz1 hz2 rfl (by omega) v4 (0 + 0) ([] ++ wvs ((U ++ D).take 0)) rfl
            OX3.out X3.heap.size (some ⟨gq, 0, none⟩) 1 1 (wv ⟨a, b, c, true⟩) rfl (reads_box NX3.out) OW.out (by simp only [maxLen]; omega) (by omega) KX3.out.size ?_
          intro v7 X7 hown hg hv
          have KX7 := Lib.hid (below_app KX3.out hg OX3.out (Nat.le_refl _) KX3.out.size)
          have OX7 := Lib.hid hown
          clear hown hg hv
          refine hK.out _ _ (HS.out _ KX7.out) (fun hHeld => ?_)
          clear hK K hHeld
          have hHeld := HS.out _ KX7.out
          refine wpAnyH_ready (rs := [11]) (by kernel_rfl) (by simp) ?_
          refine AllReadyH.cons rfl (fun K hK => ?_) AllReadyH.nil
          refine step_append_any _ rfl (.tmp 50) (.tmp 53) _ rfl V.heap.size 33 i0 _ 4 32 Try.underlying30 hi0 hz0 hz1 hz2 rfl (by omega) v7 (0 + 0 + 1) ([] ++ wvs ((U ++ D).take 0) ++ wv ⟨a, b, c, true⟩) rfl
            OX7.out X7.heap.size AD (n - 0) (cc - 0) (wvs ((U ++ D).drop 0)) rfl ((DK.out.below KX7.out).more KX7.out.size) (wvs_one _) (by simp only [maxLen]; omega) (by omega) KX7.out.size ?_
          intro v9 X9 hown hg hv
          have KX9 := Lib.hid (below_app KX7.out hg OX7.out (Nat.le_refl _) KX7.out.size)
          have OX9 := Lib.hid hown
          clear hown hg hv
          refine hK.out _ _ (HS.out _ KX9.out) (fun hHeld => ?_)
          clear hK K hHeld
          have hHeld := HS.out _ KX9.out
          obtain ⟨A9, c9, rfl, hr9, hc9, hA9⟩ := own_w' OX9.out (L := (U ++ D).take 0 ++ [⟨a, b, c, true⟩] ++ (U ++ D).drop 0) (by rw [wvs_append, wvs_append, wvs_single, List.nil_append])
          refine wpAnyH_take (i := 12) (v := ?_) rfl (by kernel_rfl) (by kernel_rfl) (by kernel_rfl) (fun _ _ _ h => h) (Or.inl ⟨by rfl, ?_⟩) (by assumption) ?_
          rotate_left
          · (intro w0 hSw; (try dsimp only at hSw); go_simp; try with_reducible rfl)
          try simp only [List.getElem_toArray, List.getElem_cons_succ, List.getElem_cons_zero, Act.put, List.setIfInBounds_toArray, List.set_cons_zero, List.set_cons_succ]
          refine wpAnyH_take (i := 13) (v := ?_) rfl (by kernel_rfl) (by kernel_rfl) (by kernel_rfl) (fun _ _ _ h => h) (Or.inl ⟨by rfl, ?_⟩) (by assumption) ?_
          rotate_left
          · (intro w0 hSw; (try dsimp only at hSw); go_simp; try with_reducible rfl)
          try simp only [List.getElem_toArray, List.getElem_cons_succ, List.getElem_cons_zero, Act.put, List.setIfInBounds_toArray, List.set_cons_zero, List.set_cons_succ]
          refine wpAnyH_done (by kernel_rfl) ?_ _
          clear hHeld
          have RES := Lib.hid (show (U ++ D).take 0 ++ [⟨a, b, c, true⟩] ++ (U ++ D).drop 0 = (U ++ [⟨a, b, c, true⟩]) ++ D by rw [hU]; simp)
          rw [RES.out, show 0 + 0 + 1 + (n - 0) = n + 1 by omega] at hr9
          rw [show 0 + 0 + 1 + (n - 0) = n + 1 by omega] at hc9 hA9 ⊢
          have R9 := Lib.hid hr9
          have C9 := Lib.hid (And.intro hc9 hA9)
          clear hr9 hc9 hA9
          go_wp2_with fail
          go_ret2
          exact ⟨A9, c9, by rw [show n + 1 = 1 + n by omega]; rfl, R9.out, stepB BV.out KX9.out, C9.out.1, .inr fun ad he => ⟨Nat.le_trans BV.out.size (C9.out.2 ad he).1, (C9.out.2 ad he).2.1⟩⟩
        · refine step_build_w (by rfl) 1 _ rfl (builds1 ⟨a, b, c, true⟩) (by rfl) ?_
          have KX2 := Lib.hid (KX1.out.alloc KX1.out.size (.cells (wc ⟨a, b, c, true⟩) 33))
          have NX2 := Lib.hid (Blk.new X1 33 (wc ⟨a, b, c, true⟩))
          have OX2 := Lib.hid (World.ownsRow.alloc OX1.out (.cells (wc ⟨a, b, c, true⟩) 33))
          have EX2 := Lib.hid (show v0.ownBlock ≠ some X1.heap.size from fun e => by obtain ⟨cur, hh, _⟩ := own_heap OX1.out _ e; exact absurd (own_lt hh) (Nat.lt_irrefl _))
          refine hK.out _ _ (HS.out _ KX2.out) (fun hHeld => ?_)
          clear hK K hHeld
          have hHeld := HS.out _ KX2.out
          generalize X1.alloc (.cells (wc ⟨a, b, c, true⟩) 33) = X2 at KX2 NX2 OX2 hHeld ⊢
          generalize X1.heap.size = gq at NX2 EX2 ⊢
          refine wpAnyH_ready (rs := [4]) (by kernel_rfl) (by simp) ?_
          refine AllReadyH.cons rfl (fun K hK => ?_) AllReadyH.nil
          refine step_append_any _ rfl (.tmp 43) (.tmp 46) _ rfl V.heap.size 33 i0 _ 4 32 Try.underlying30 hi0 hz0 hz1 hz2 rfl (by omega) v0 0 [] rfl
            OX2.out X2.heap.size A 0 cc (wvs ((U ++ D).take 0)) rfl ((TK.out.below KX2.out).more KX2.out.size) (wvs_one _) (by simp only [maxLen]; omega) (by omega) KX2.out.size ?_
          intro v4 X3 hown hg hv
          have KX3 := Lib.hid (below_app KX2.out hg OX2.out (Nat.le_refl _) KX2.out.size)
          have OX3 := Lib.hid hown
          have NX3 := Lib.hid (NX2.out.grown hg EX2.out)
          have EX3 := Lib.hid (show v4.ownBlock ≠ some gq from fun e => by
            rcases hv with h9 | h9
            · exact EX2.out (h9 ▸ e)
            · rw [e] at h9; injection h9 with h9; exact absurd NX2.out.lt (by omega))
          clear hown hg hv
          refine hK.out _ _ (HS.out _ KX3.out) (fun hHeld => ?_)
          clear hK K hHeld
          have hHeld := HS.out _ KX3.out
          refine wpAnyH_ready (rs := [7]) (by kernel_rfl) (by simp) ?_
          refine AllReadyH.cons rfl (fun K hK => ?_) AllReadyH.nil
          refine step_append_any _ rfl (.tmp 47) (.tmp 49) _ rfl V.heap.size 33 i0 _ 4 32 Try.underlying30 hi0 hz0 hz1 hz2 rfl (by omega) v4 (0 + 0) ([] ++ wvs ((U ++ D).take 0)) rfl
            OX3.out X3.heap.size (some ⟨gq, 0, none⟩) 1 1 (wv ⟨a, b, c, true⟩) rfl (reads_box NX3.out) OW.out (by simp only [maxLen]; omega) (by omega) KX3.out.size ?_
          intro v7 X7 hown hg hv
          have KX7 := Lib.hid (below_app KX3.out hg OX3.out (Nat.le_refl _) KX3.out.size)
          have OX7 := Lib.hid hown
          clear hown hg hv
          refine hK.out _ _ (HS.out _ KX7.out) (fun hHeld => ?_)
          clear hK K hHeld
          have hHeld := HS.out _ KX7.out
          refine wpAnyH_ready (rs := [11]) (by kernel_rfl) (by simp) ?_
          refine AllReadyH.cons rfl (fun K hK => ?_) AllReadyH.nil
          refine step_append_any _ rfl (.tmp 50) (.tmp 53) _ rfl V.heap.size 33 i0 _ 4 32 Try.underlying30 hi0 hz0 hz1 hz2 rfl (by omega) v7 (0 + 0 + 1) ([] ++ wvs ((U ++ D).take 0) ++ wv ⟨a, b, c, true⟩) rfl
            OX7.out X7.heap.size AD (n - 0) (cc - 0) (wvs ((U ++ D).drop 0)) rfl ((DK.out.below KX7.out).more KX7.out.size) (wvs_one _) (by simp only [maxLen]; omega) (by omega) KX7.out.size ?_
          intro v9 X9 hown hg hv
          have KX9 := Lib.hid (below_app KX7.out hg OX7.out (Nat.le_refl _) KX7.out.size)
          have OX9 := Lib.hid hown
          clear hown hg hv
          refine hK.out _ _ (HS.out _ KX9.out) (fun hHeld => ?_)
          clear hK K hHeld
          have hHeld := HS.out _ KX9.out
          obtain ⟨A9, c9, rfl, hr9, hc9, hA9⟩ := own_w' OX9.out (L := (U ++ D).take 0 ++ [⟨a, b, c, true⟩] ++ (U ++ D).drop 0) (by rw [wvs_append, wvs_append, wvs_single, List.nil_append])
          refine wpAnyH_take (i := 12) (v := ?_) rfl (by kernel_rfl) (by kernel_rfl) (by kernel_rfl) (fun _ _ _ h => h) (Or.inl ⟨by rfl, ?_⟩) (by assumption) ?_
          rotate_left
          · (intro w0 hSw; (try dsimp only at hSw); go_simp; try with_reducible rfl)
          try simp only [List.getElem_toArray, List.getElem_cons_succ, List.getElem_cons_zero, Act.put, List.setIfInBounds_toArray, List.set_cons_zero, List.set_cons_succ]
          refine wpAnyH_take (i := 13) (v := ?_) rfl (by kernel_rfl) (by kernel_rfl) (by kernel_rfl) (fun _ _ _ h => h) (Or.inl ⟨by rfl, ?_⟩) (by assumption) ?_
          rotate_left
          · (intro w0 hSw; (try dsimp only at hSw); go_simp; try with_reducible rfl)
          try simp only [List.getElem_toArray, List.getElem_cons_succ, List.getElem_cons_zero, Act.put, List.setIfInBounds_toArray, List.set_cons_zero, List.set_cons_succ]
          refine wpAnyH_done (by kernel_rfl) ?_ _
          clear hHeld
          have RES := Lib.hid (show (U ++ D).take 0 ++ [⟨a, b, c, true⟩] ++ (U ++ D).drop 0 = (U ++ [⟨a, b, c, true⟩]) ++ D by rw [hU]; simp)
          rw [RES.out, show 0 + 0 + 1 + (n - 0) = n + 1 by omega] at hr9
          rw [show 0 + 0 + 1 + (n - 0) = n + 1 by omega] at hc9 hA9 ⊢
          have R9 := Lib.hid hr9
          have C9 := Lib.hid (And.intro hc9 hA9)
          clear hr9 hc9 hA9
          go_wp2_with fail
          go_ret2
          exact ⟨A9, c9, by rw [show n + 1 = 1 + n by omega]; rfl, R9.out, stepB BV.out KX9.out, C9.out.1, .inr fun ad he => ⟨Nat.le_trans BV.out.size (C9.out.2 ad he).1, (C9.out.2 ad he).2.1⟩⟩
      · refine step_build_w (by rfl) 1 _ rfl (builds1 ⟨a, b, c, true⟩) (by rfl) ?_
        have KX1 := Lib.hid (K0.out.alloc K0.out.size (.cells (wc ⟨a, b, c, true⟩) 33))
        have NX1 := Lib.hid (Blk.new V 33 (wc ⟨a, b, c, true⟩))
        refine hK.out _ _ (HS.out _ KX1.out) (fun hHeld => ?_)
        clear hK K hHeld
        have hHeld := HS.out _ KX1.out
        generalize V.alloc (.cells (wc ⟨a, b, c, true⟩) 33) = X1 at KX1 NX1 hHeld ⊢
        generalize V.heap.size = gq at NX1 ⊢
        refine wpAnyH_ready (rs := [0]) (by kernel_rfl) (by simp) ?_
        refine AllReadyH.cons rfl (fun K hK => ?_) AllReadyH.nil
        refine step_build_w (by rfl) 0 _ rfl builds0 (by rfl) ?_
        have KX2 := Lib.hid (KX1.out.alloc KX1.out.size (.cells #[] 33))
        have OX2 := Lib.hid (own_made0 (w := X1) KX1.out.size)
        have NX2 := Lib.hid (NX1.out.alloc (.cells #[] 33))
        have AX2 := Lib.hid (show gq ≠ X1.heap.size from Nat.ne_of_lt NX1.out.lt)
        refine hK.out _ _ (HS.out _ KX2.out) (fun hHeld => ?_)
        clear hK K hHeld
        have hHeld := HS.out _ KX2.out
        generalize hO : (Value.slice (some ⟨X1.heap.size, 0, none⟩) 0 0) = v0 at OX2 ⊢
        have EX2 := Lib.hid (show v0.ownBlock ≠ some gq from by rw [← hO]; intro e; injection e with e; exact AX2.out e.symm)
        clear hO
        generalize X1.alloc (.cells #[] 33) = X2 at KX2 OX2 NX2 hHeld ⊢
        refine wpAnyH_ready (rs := [4]) (by kernel_rfl) (by simp) ?_
        refine AllReadyH.cons rfl (fun K hK => ?_) AllReadyH.nil
        refine step_append_any _ rfl (.tmp 43) (.tmp 46) _ rfl V.heap.size 33 i0 _ 4 32 Try.underlying30 hi0 hz0 hz1 hz2 rfl (by omega) v0 0 [] rfl
          OX2.out X2.heap.size A 0 cc (wvs ((U ++ D).take 0)) rfl ((TK.out.below KX2.out).more KX2.out.size) (wvs_one _) (by simp only [maxLen]; omega) (by omega) KX2.out.size ?_
        intro v4 X3 hown hg hv
        have KX3 := Lib.hid (below_app KX2.out hg OX2.out (Nat.le_refl _) KX2.out.size)
        have OX3 := Lib.hid hown
        have NX3 := Lib.hid (NX2.out.grown hg EX2.out)
        have EX3 := Lib.hid (show v4.ownBlock ≠ some gq from fun e => by
          rcases hv with h9 | h9
          · exact EX2.out (h9 ▸ e)
          · rw [e] at h9; injection h9 with h9; exact absurd NX2.out.lt (by omega))
        clear hown hg hv
        refine hK.out _ _ (HS.out _ KX3.out) (fun hHeld => ?_)
        clear hK K hHeld
        have hHeld := HS.out _ KX3.out
        refine wpAnyH_ready (rs := [7]) (by kernel_rfl) (by simp) ?_
        refine AllReadyH.cons rfl (fun K hK => ?_) AllReadyH.nil
        refine step_append_any _ rfl (.tmp 47) (.tmp 49) _ rfl V.heap.size 33 i0 _ 4 32 Try.underlying30 hi0 hz0 hz1 hz2 rfl (by omega) v4 (0 + 0) ([] ++ wvs ((U ++ D).take 0)) rfl
          OX3.out X3.heap.size (some ⟨gq, 0, none⟩) 1 1 (wv ⟨a, b, c, true⟩) rfl (reads_box NX3.out) OW.out (by simp only [maxLen]; omega) (by omega) KX3.out.size ?_
        intro v7 X7 hown hg hv
        have KX7 := Lib.hid (below_app KX3.out hg OX3.out (Nat.le_refl _) KX3.out.size)
        have OX7 := Lib.hid hown
        clear hown hg hv
        refine hK.out _ _ (HS.out _ KX7.out) (fun hHeld => ?_)
        clear hK K hHeld
        have hHeld := HS.out _ KX7.out
        refine wpAnyH_ready (rs := [11]) (by kernel_rfl) (by simp) ?_
        refine AllReadyH.cons rfl (fun K hK => ?_) AllReadyH.nil
        refine step_append_any _ rfl (.tmp 50) (.tmp 53) _ rfl V.heap.size 33 i0 _ 4 32 Try.underlying30 hi0 hz0 hz1 hz2 rfl (by omega) v7 (0 + 0 + 1) ([] ++ wvs ((U ++ D).take 0) ++ wv ⟨a, b, c, true⟩) rfl
          OX7.out X7.heap.size AD (n - 0) (cc - 0) (wvs ((U ++ D).drop 0)) rfl ((DK.out.below KX7.out).more KX7.out.size) (wvs_one _) (by simp only [maxLen]; omega) (by omega) KX7.out.size ?_
        intro v9 X9 hown hg hv
        have KX9 := Lib.hid (below_app KX7.out hg OX7.out (Nat.le_refl _) KX7.out.size)
        have OX9 := Lib.hid hown
        clear hown hg hv
        refine hK.out _ _ (HS.out _ KX9.out) (fun hHeld => ?_)
        clear hK K hHeld
        have hHeld := HS.out _ KX9.out
        obtain ⟨A9, c9, rfl, hr9, hc9, hA9⟩ := own_w' OX9.out (L := (U ++ D).take 0 ++ [⟨a, b, c, true⟩] ++ (U ++ D).drop 0) (by rw [wvs_append, wvs_append, wvs_single, List.nil_append])
        refine wpAnyH_take (i := 12) (v := ?_) rfl (by kernel_rfl) (by kernel_rfl) (by kernel_rfl) (fun _ _ _ h => h) (Or.inl ⟨by rfl, ?_⟩) (by assumption) ?_
        rotate_left
        · (intro w0 hSw; (try dsimp only at hSw); go_simp; try with_reducible rfl)
        try simp only [List.getElem_toArray, List.getElem_cons_succ, List.getElem_cons_zero, Act.put, List.setIfInBounds_toArray, List.set_cons_zero, List.set_cons_succ]
        refine wpAnyH_take (i := 13) (v := ?_) rfl (by kernel_rfl) (by kernel_rfl) (by kernel_rfl) (fun _ _ _ h => h) (Or.inl ⟨by rfl, ?_⟩) (by assumption) ?_
        rotate_left
        · (intro w0 hSw; (try dsimp only at hSw); go_simp; try with_reducible rfl)
        try simp only [List.getElem_toArray, List.getElem_cons_succ, List.getElem_cons_zero, Act.put, List.setIfInBounds_toArray, List.set_cons_zero, List.set_cons_succ]
        refine wpAnyH_done (by kernel_rfl) ?_ _
        clear hHeld
        have RES := Lib.hid (show (U ++ D).take 0 ++ [⟨a, b, c, true⟩] ++ (U ++ D).drop 0 = (U ++ [⟨a, b, c, true⟩]) ++ D by rw [hU]; simp)
        rw [RES.out, show 0 + 0 + 1 + (n - 0) = n + 1 by omega] at hr9
        rw [show 0 + 0 + 1 + (n - 0) = n + 1 by omega] at hc9 hA9 ⊢
        have R9 := Lib.hid hr9
        have C9 := Lib.hid (And.intro hc9 hA9)
        clear hr9 hc9 hA9
        go_wp2_with fail
        go_ret2
        exact ⟨A9, c9, by rw [show n + 1 = 1 + n by omega]; rfl, R9.out, stepB BV.out KX9.out, C9.out.1, .inr fun ad he => ⟨Nat.le_trans BV.out.size (C9.out.2 ad he).1, (C9.out.2 ad he).2.1⟩⟩
    · have hk : U.length < k := by omega
      have d2 : decide (0 < (k : Int)) = true := decide_eq_true (by omega)
      have d3 : decide (0 < k) = true := decide_eq_true (by omega)
      obtain ⟨j, rfl⟩ : ∃ j, k = j + 1 := ⟨k - 1, by omega⟩
      have hj : j < (U ++ D).length := by rw [HL.out]; omega
      obtain ⟨ab, off, rfl, hbl, _, _, _, hc3⟩ := R1.out.w_at hj
      have hq : (U ++ D)[j].up = false := by
        rw [List.getElem_append_right (by omega)]
        exact HDN.out _ (List.getElem_mem _)
      rw [hq] at hc3
      have s1 : IntKind.i64.wrap (((j + 1 : Nat) : Int) - 1) = (j : Int) := by rw [show ((j + 1 : Nat) : Int) - 1 = (j : Int) by omega]; exact IntWalk.i64_in _ (by omega)
      have s2 : IntKind.i64.wrap ((j : Int) + 1 - 1) = (j : Int) := by rw [show (j : Int) + 1 - 1 = (j : Int) by omega]; exact IntWalk.i64_in _ (by omega)
      clear hq hbl
      go_wp2_with fail
      go_roundw
      case rel => exact ⟨j, by omega, by omega, by go_num, trivial⟩
      case measure => simp [RowKit.intOf] <;> omega
end Go.Proofs.Ytflnjechinfcdaa
