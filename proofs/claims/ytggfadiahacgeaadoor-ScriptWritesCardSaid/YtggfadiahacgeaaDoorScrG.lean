/- The program's Parse. -/
import Derived.Test.YtggfadiahacgeaaDoorScrF
namespace Go.Proofs.YtggfadiahacgeaaDoor
open Go.RowKit Go.Shelf
set_option linter.unusedVariables false
set_option linter.unusedSimpArgs false
attribute [local go_sem] Oper.semAt_some

theorem flat_len6 {ls : List (List Int)} (h : ∀ x ∈ ls, x.length = 6) : (ints ls.flatten).length = ls.length * 6 := by
  induction ls with
  | nil => rfl
  | cons x r ih => rw [List.flatten_cons, ints, List.map_append, List.length_append, List.length_map, h x (by simp)]; have := ih (fun y hy => h y (by simp [hy])); rw [ints] at this; rw [this, List.length_cons]; omega
theorem stepIn_append {F : Fence} {n : Nat} {P : Program} (w : World) {ops : Array Oper} {o : Oper} {a : Act} {K : Act → World → Prop} {Q : Exit → Act → World → Prop} {E : Prop} (hgd : o.guard = none) (s x : Operand) (t : TypeId)
    (ho : o.op = .call { callee := .builtin .append, args := #[s, x], argTypes := #[t, t] }) {v u v' : Value} {w' : World} (hs : a.eval s = v) (hx : a.eval x = u) (hrun : (Builtin.append_ #[t, t] o.type #[v, u]).run P w = .ok v' w') (h : K (a.put o.dst v') w') :
    if Region.wanted o (yielded ops a.tmps) = true then Oper.wpIn F n P o a w K Q else E := by
  have hw : Region.wanted o (yielded ops a.tmps) = true := by simp [Region.wanted, hgd]
  rw [if_pos hw]
  unfold Oper.wpIn
  refine ⟨by simp [Oper.about, ho, resolve, Target.leads, Sem.run_pure], ?_⟩
  rw [Oper.semAt_plain F _ _ (by rw [ho]; intro c hc'; cases hc')]
  simp [execOp, ho, resolve, invoke, builtin, hs, hx, hrun, Result.andThen]
  exact h
/-- What lies between two rounds of Parse's loop. -/
structure ParI (w : World) (l : List UInt8) (n c : Nat) (A : Option Addr) (pre : List (Fin (pcN n))) (v : Value) (W : World) : Prop where
  box : Boxed W w.heap.size 24 v
  row : W.ownsRow w.heap.size 30 6 v pre.length (ints (pre.map fun x => entAt l x.1).flatten)
  bs : Boxed W (w.heap.size + 1) 25 (.slice A n c)
  bn : Boxed W (w.heap.size + 1 + 1) 3 (.int .i64 5)
theorem boxed_below {W W' : World} {B : Nat} {t : TypeId} {v : Value} (h : Boxed W B t v) (hb : Below W.heap.size W W') : Boxed W' B t v := (hb.block B h.lt).trans h
theorem own_stepS {w w' : World} {B n size : Nat} {e : TypeId} {v : Value} {xs : List Value} (h : w.ownsRow B e size v n xs) (hb : Below w.heap.size w w') : w'.ownsRow B e size v n xs := own_turn h (Turn.of_below hb (S := fun _ => False)) (fun _ _ => id)
set_option maxRecDepth 100000 in
theorem par_app {w : World} {l : List UInt8} {n cap : Nat} {A : Option Addr} {pre : List (Fin (pcN n))} {v : Value} {W : World} (hI : ParI w l n cap A pre v W) (hB : Below w.heap.size w W) (x : Fin (pcN n)) (hlt : pre.length < pcN n) (hn : n ≤ 20000) {a b c d e f : Int} (hm : entAt l x.1 = [a, b, c, d, e, f]) {w9 : World} (hb9' : Below W.drew.heap.size W.drew w9) :
    ∃ g' cap' w1, (Builtin.append_ #[24, 24] 24 #[v, .slice (some ⟨w9.heap.size, 0, none⟩) 1 1]).run Tryd.prog (w9.alloc (.cells #[.int .i64 a, .int .i64 b, .int .i64 c, .int .i64 d, .int .i64 e, .int .i64 f] 30)) = .ok (.slice (some ⟨g', 0, none⟩) (pre.length + 1) cap') w1 ∧
      w9.cell? ⟨w.heap.size, 0, none⟩ = some v ∧ (∀ o, (w9.alloc o).cell? ⟨w.heap.size, 0, none⟩ = some v) ∧ w1.cell? ⟨w.heap.size, 0, none⟩ = some v ∧ w1.frozen? ⟨w.heap.size, 0, none⟩ = false ∧
      ∀ B, KeepsFrom B W (w1.setCell ⟨w.heap.size, 0, none⟩ (.slice (some ⟨g', 0, none⟩) (pre.length + 1) cap')) ∧ KpC (w.heap.size + 1) (w.heap.size + 1 + 1) W (w1.setCell ⟨w.heap.size, 0, none⟩ (.slice (some ⟨g', 0, none⟩) (pre.length + 1) cap')) ∧
        (∃ v, ParI w l n cap A (pre ++ [x]) v (w1.setCell ⟨w.heap.size, 0, none⟩ (.slice (some ⟨g', 0, none⟩) (pre.length + 1) cap'))) ∧ Below w.heap.size w (w1.setCell ⟨w.heap.size, 0, none⟩ (.slice (some ⟨g', 0, none⟩) (pre.length + 1) cap')) := by
  obtain ⟨i0, hi0, hz0, hz1, hz2⟩ := info_parts info_entry
  have hb9 : Below W.heap.size W w9 := ⟨hb9'.os, hb9'.tape, hb9'.output, hb9'.size, hb9'.block⟩
  have b9 := boxed_below hI.box hb9
  have s9 := boxed_below hI.bs hb9
  have n9 := boxed_below hI.bn hb9
  have r9 := own_stepS hI.row hb9
  have hw9 : w.heap.size ≤ w9.heap.size := Nat.le_trans hB.size hb9.size
  have hpn : pcN n ≤ 20000 := by unfold pcN; omega
  obtain ⟨v', w1, hrun, hown', hg', _⟩ := run_append_any (P := Tryd.prog) (w9.alloc (.cells #[.int .i64 a, .int .i64 b, .int .i64 c, .int .i64 d, .int .i64 e, .int .i64 f] 30)) w.heap.size 24 24 30 i0 _ 6 48 Tryd.underlying24 hi0 hz0 hz1 hz2 rfl (by omega) v pre.length _ (r9.alloc _) _ _ 1 1 _ (reads_ent w9 a b c d e f) (ints_one6 _) (by simp only [maxLen]; omega) (by omega) (by simp; omega)
  obtain ⟨g', cap', rfl⟩ := ownsRow_succ hown'
  obtain ⟨hv1, hv2, hr2, hk2, hb2⟩ := b9.appended (by decide) r9 hw9 (Nat.le_refl _) hown' hg'
  have s1 := (s9.alloc _).kept hg' ((s9).not_row (by decide) r9)
  have n1 := (n9.alloc _).kept hg' ((n9).not_row (by decide) r9)
  have s2 := s1.kept (grownBy_setCell' w1 w.heap.size (.slice (some ⟨g', 0, none⟩) (pre.length + 1) cap')) (by simp)
  have n2 := n1.kept (grownBy_setCell' w1 w.heap.size (.slice (some ⟨g', 0, none⟩) (pre.length + 1) cap')) (by simp; omega)
  have hbW : Below w.heap.size W (w1.setCell ⟨w.heap.size, 0, none⟩ (.slice (some ⟨g', 0, none⟩) (pre.length + 1) cap')) := (hb9.mono hB.size).trans hb2
  refine ⟨g', cap', w1, hrun, b9.cell, fun o => (b9.alloc o).cell, hv1.cell, hv1.frozen, fun B => ⟨(keeps_below hb9 (Nat.le_refl _)).trans (hk2.from _), ⟨fun u hu => ?_, fun u hu => ?_⟩, ⟨_, hv2, ?_, s2, n2⟩, hB.trans hbW⟩⟩
  · rw [hI.bs.cell] at hu; injection hu with hu; subst hu; exact s2.cell
  · rw [hI.bn.cell] at hu; injection hu with hu; subst hu; exact n2.cell
  · have e1 : ints ((pre ++ [x]).map fun x => entAt l x.1).flatten = ints (pre.map fun x => entAt l x.1).flatten ++ ints [a, b, c, d, e, f] := by
      rw [List.map_append, List.flatten_append, ints, List.map_append]
      simp [ints, hm]
    rw [e1, List.length_append, List.length_singleton]
    exact hr2
set_option maxRecDepth 100000 in
set_option maxHeartbeats 2000000 in
theorem parse_any (A : Option Addr) (n cap : Nat) (l : List UInt8) (hcap : n ≤ cap) (hn : n ≤ 20000) (w : World) (h : Reads w w.heap.size 1 A n (u8s l)) :
    Calls Tryd.prog 12 #[.slice A n cap] w fun e w' => ∃ v, e = .returned v ∧ w'.ownsRow w.heap.size 30 6 v (entsL l).length (ints (entsL l).flatten) ∧ Below w.heap.size w w' := by
  obtain ⟨i0, hi0, hz0, hz1, hz2⟩ := info_parts info_entry
  obtain ⟨pv, hpv, hread⟩ := piece_read A n l w h
  have hl := h.u8_len
  have hA : 0 < n → ∃ b off, A = some ⟨b, off, none⟩ := fun h0 => by obtain ⟨b, off, e, _⟩ := u8_cells h h0; exact ⟨b, off, e⟩
  refine (callsIn_wide (n := 3)).1 ?_
  refine callsIn_of_wp_marks Tryd.func12 rfl trivial ?_ rfl
  simp only [Tryd.ntmps12, List.size_toArray, List.length_cons, List.length_nil, Nat.reduceAdd, Nat.reduceSub, Array.replicate_succ, Array.replicate_zero, List.push_toArray, List.append_toArray, List.nil_append, List.cons_append]
  gi_wp2_with (refine ⟨trivial, ?_⟩; gi_at_call 20; refine (chunk_in Fence.wide _ trivial rfl _ _ _ _).mono ?_; rintro e w' ⟨rfl, rfl⟩)
  have bO := ((Boxed.new w 24 (.slice none 0 0)).alloc (.cells #[.slice A n cap] 25)).alloc (.cells #[.int .i64 5] 3)
  have bS := (Boxed.new (w.alloc (.cells #[.slice none 0 0] 24)) 25 (.slice A n cap)).alloc (.cells #[.int .i64 5] 3)
  have bN := Boxed.new ((w.alloc (.cells #[.slice none 0 0] 24)).alloc (.cells #[.slice A n cap] 25)) 3 (.int .i64 5)
  rw [World.size_alloc] at bS
  rw [World.size_alloc, World.size_alloc] at bN
  have hB0 : Below w.heap.size w (((w.alloc (.cells #[.slice none 0 0] 24)).alloc (.cells #[.slice A n cap] 25)).alloc (.cells #[.int .i64 5] 3)) := (((Below.refl _ w).alloc (Nat.le_refl _) _).alloc (by simp) _).alloc (by simp; omega) _
  have hst := chunk_stops Fence.wide (3 - 1) trivial rfl (by omega) (w.heap.size + 1) (w.heap.size + 1 + 1) A n cap (by omega) hcap (((w.alloc (.cells #[.slice none 0 0] 24)).alloc (.cells #[.slice A n cap] 25)).alloc (.cells #[.int .i64 5] 3)) (by simp) (by simp) hA bS.cell bN.cell
  rw [hpv] at hst
  refine wpIn_rangeFunc_ownG rfl (by omega) (gf := 31) (lb := #[.pointer (some ⟨w.heap.size + 1, 0, none⟩), .pointer (some ⟨w.heap.size + 1 + 1, 0, none⟩)]) rfl trivial (enters_of Tryd.func31 (by kernel_rfl) rfl)
    hst (fun {A B C} h k => h.trans k) (fun W l o o' _ hl hc _ => kpC_b W l o o' hl hc) (Below.refl _ _) (fun _ => rfl)
    (fun pre W => (∃ v, ParI w l n cap A pre v W) ∧ Below w.heap.size w W)
    (fun _ _ _ => False)
    (OwnFrom.and (Own.from (fun s X Y row hs hg hr => by
      obtain ⟨v, hv⟩ := hs
      obtain ⟨v', h1, h2, h3⟩ := holdsRow_own w.heap.size w.heap.size 24 30 6 (fun pre : List (Fin (pcN n)) => pre.length) (fun pre => ints (pre.map fun x => entAt l x.1).flatten) (fun _ _ => True) s X Y row ⟨v, hv.box, hv.row, trivial⟩ hg hr
      exact ⟨v', h1, h2, boxed_own (w.heap.size + 1) 25 (fun _ : List (Fin (pcN n)) => .slice A n cap) s X Y row hv.bs hg hr, boxed_own (w.heap.size + 1 + 1) 3 (fun _ : List (Fin (pcN n)) => .int .i64 5) s X Y row hv.bn hg hr⟩) _) (ownFrom_below (Nat.le_refl _) (by simp; omega)))
    (fun _ _ _ _ _ hs _ _ => hs)
    ⟨⟨_, bO, World.ownsRow_nil _ _ _ _, bS, bN⟩, hB0⟩
    (fun x => { tmps := #[.slice A n cap, undef, .slice none 0 0, .pointer (some ⟨w.heap.size, 0, none⟩), pv x, .slice A n cap, .func (.func 31) #[] #[.pointer (some ⟨w.heap.size + 1, 0, none⟩), .pointer (some ⟨w.heap.size + 1 + 1, 0, none⟩)], pv x, undef, undef, undef, undef, undef, undef], defers := [] }) ?assign ?body ?done ?stop
  case assign =>
    intro l x W K hK
    gi_wp2
    exact hK
  case body =>
    rintro q pre x W ⟨⟨v, hI⟩, hB⟩ hlt
    obtain ⟨a, b, c, d, e, f, hm⟩ := six_ints (entAt_length l x.1)
    have hrd := hread x W.drew hB.drew
    rw [hm] at hrd
    have hmx : Tryd.prog.follows .mixedOrders = true := by kernel_rfl
    have hd : 1 ≤ 3 - 1 - 1 := by omega
    have hc := hI.box.cell
    generalize hpx : pv x = px at hrd ⊢
    gi_wp2
    refine wpIn_region_any (by assumption) ?_
    change wpAnyIn _ _ _ _ _ _ _ _ _ (World.drew _)
    refine wpAnyIn_ready (rs := [0, 1]) (by kernel_rfl) (by simp) ?_
    refine AllReadyIn.cons rfl (fun K hK => ?_) ?_
    · go_simp
      refine hK _ _ ?_
      clear hK K
      refine wpAnyIn_ready (rs := [1]) (by kernel_rfl) (by simp) ?_
      refine AllReadyIn.cons rfl (fun K hK => ?_) ?_
      · go_simp
        refine hK _ _ ?_
        clear hK K
        refine wpAnyIn_ready (rs := [2]) (by kernel_rfl) (by simp) ?_
        refine AllReadyIn.cons rfl (fun K hK => ?_) ?_
        · go_simp
          gi_wp2_with (refine ⟨trivial, ?_⟩; gi_at_call 21; refine (CallsIn.inRound q (callsIn_wide.2 hrd)).mono ?_; rintro e9 w9 ⟨rfl, hb9⟩; have hbs := run_build_ent a b c d e f w9; obtain ⟨g', cap', w1, hrun, c9, ca9, c1, f1, hfin⟩ := par_app hI hB x hlt hn hm hb9)
          try clear hK K
          refine wpAnyIn_ready (rs := [3]) (by kernel_rfl) (by simp) ?_
          refine AllReadyIn.cons rfl (fun K hK => ?_) ?_
          · go_simp
            refine hK _ _ ?_
            clear hK K
            refine wpAnyIn_ready (rs := [4]) (by kernel_rfl) (by simp) ?_
            refine AllReadyIn.cons rfl (fun K hK => ?_) ?_
            · refine stepIn_append _ rfl (.tmp 8) (.tmp 11) _ rfl rfl rfl hrun ?_
              refine hK _ _ ?_
              clear hK K
              refine wpAnyIn_ready (rs := [5]) (by kernel_rfl) (by simp) ?_
              refine AllReadyIn.cons rfl (fun K hK => ?_) ?_
              · go_simp
                refine hK _ _ ?_
                clear hK K
                refine wpAnyIn_done (by kernel_rfl) ?_ _
                exact hfin _
              exact AllReadyIn.nil
            exact AllReadyIn.nil
          exact AllReadyIn.nil
        exact AllReadyIn.nil
      exact AllReadyIn.nil
    refine AllReadyIn.cons rfl (fun K hK => ?_) ?_
    · go_simp
      refine hK _ _ ?_
      clear hK K
      refine wpAnyIn_ready (rs := [0, 2]) (by kernel_rfl) (by simp) ?_
      refine AllReadyIn.cons rfl (fun K hK => ?_) ?_
      · go_simp
        refine hK _ _ ?_
        clear hK K
        refine wpAnyIn_ready (rs := [2]) (by kernel_rfl) (by simp) ?_
        refine AllReadyIn.cons rfl (fun K hK => ?_) ?_
        · go_simp
          gi_wp2_with (refine ⟨trivial, ?_⟩; gi_at_call 21; refine (CallsIn.inRound q (callsIn_wide.2 hrd)).mono ?_; rintro e9 w9 ⟨rfl, hb9⟩; have hbs := run_build_ent a b c d e f w9; obtain ⟨g', cap', w1, hrun, c9, ca9, c1, f1, hfin⟩ := par_app hI hB x hlt hn hm hb9)
          try clear hK K
          refine wpAnyIn_ready (rs := [3]) (by kernel_rfl) (by simp) ?_
          refine AllReadyIn.cons rfl (fun K hK => ?_) ?_
          · go_simp
            refine hK _ _ ?_
            clear hK K
            refine wpAnyIn_ready (rs := [4]) (by kernel_rfl) (by simp) ?_
            refine AllReadyIn.cons rfl (fun K hK => ?_) ?_
            · refine stepIn_append _ rfl (.tmp 8) (.tmp 11) _ rfl rfl rfl hrun ?_
              refine hK _ _ ?_
              clear hK K
              refine wpAnyIn_ready (rs := [5]) (by kernel_rfl) (by simp) ?_
              refine AllReadyIn.cons rfl (fun K hK => ?_) ?_
              · go_simp
                refine hK _ _ ?_
                clear hK K
                refine wpAnyIn_done (by kernel_rfl) ?_ _
                exact hfin _
              exact AllReadyIn.nil
            exact AllReadyIn.nil
          exact AllReadyIn.nil
        exact AllReadyIn.nil
      refine AllReadyIn.cons rfl (fun K hK => ?_) ?_
      · go_simp
        gi_wp2_with (refine ⟨trivial, ?_⟩; gi_at_call 21; refine (CallsIn.inRound q (callsIn_wide.2 hrd)).mono ?_; rintro e9 w9 ⟨rfl, hb9⟩; have hbs := run_build_ent a b c d e f w9; obtain ⟨g', cap', w1, hrun, c9, ca9, c1, f1, hfin⟩ := par_app hI hB x hlt hn hm hb9)
        try clear hK K
        refine wpAnyIn_ready (rs := [0, 3]) (by kernel_rfl) (by simp) ?_
        refine AllReadyIn.cons rfl (fun K hK => ?_) ?_
        · go_simp
          refine hK _ _ ?_
          clear hK K
          refine wpAnyIn_ready (rs := [3]) (by kernel_rfl) (by simp) ?_
          refine AllReadyIn.cons rfl (fun K hK => ?_) ?_
          · go_simp
            refine hK _ _ ?_
            clear hK K
            refine wpAnyIn_ready (rs := [4]) (by kernel_rfl) (by simp) ?_
            refine AllReadyIn.cons rfl (fun K hK => ?_) ?_
            · refine stepIn_append _ rfl (.tmp 8) (.tmp 11) _ rfl rfl rfl hrun ?_
              refine hK _ _ ?_
              clear hK K
              refine wpAnyIn_ready (rs := [5]) (by kernel_rfl) (by simp) ?_
              refine AllReadyIn.cons rfl (fun K hK => ?_) ?_
              · go_simp
                refine hK _ _ ?_
                clear hK K
                refine wpAnyIn_done (by kernel_rfl) ?_ _
                exact hfin _
              exact AllReadyIn.nil
            exact AllReadyIn.nil
          exact AllReadyIn.nil
        refine AllReadyIn.cons rfl (fun K hK => ?_) ?_
        · go_simp
          refine hK _ _ ?_
          clear hK K
          refine wpAnyIn_ready (rs := [0]) (by kernel_rfl) (by simp) ?_
          refine AllReadyIn.cons rfl (fun K hK => ?_) ?_
          · go_simp
            refine hK _ _ ?_
            clear hK K
            refine wpAnyIn_ready (rs := [4]) (by kernel_rfl) (by simp) ?_
            refine AllReadyIn.cons rfl (fun K hK => ?_) ?_
            · refine stepIn_append _ rfl (.tmp 8) (.tmp 11) _ rfl rfl rfl hrun ?_
              refine hK _ _ ?_
              clear hK K
              refine wpAnyIn_ready (rs := [5]) (by kernel_rfl) (by simp) ?_
              refine AllReadyIn.cons rfl (fun K hK => ?_) ?_
              · go_simp
                refine hK _ _ ?_
                clear hK K
                refine wpAnyIn_done (by kernel_rfl) ?_ _
                exact hfin _
              exact AllReadyIn.nil
            exact AllReadyIn.nil
          exact AllReadyIn.nil
        exact AllReadyIn.nil
      exact AllReadyIn.nil
    exact AllReadyIn.nil
  case done =>
    rintro D ys W hD rfl ⟨⟨v, hI⟩, hB⟩ hK
    have hc := hI.box.cell
    gi_wp2
    refine ⟨by simp, .inl ⟨_, _, rfl, run_takeDeferred hK, ?_⟩⟩
    refine ⟨_, results_tmp rfl _ _ _, v, rfl, ?_, hB.trans (belowK_b (w := w) (Nat.le_refl _) W D _ _ (by simp at hD; omega) hK rfl rfl)⟩
    have hr := ownsRow_putObj hI.row (.deferred none) hK rfl
    rw [← hl, pcs_ents, List.length_finRange] at hr
    rw [entsL_length]
    exact hr
  case stop =>
    rintro D c pre W _ _ h _
    exact h.elim
end Go.Proofs.YtggfadiahacgeaaDoor
