/- The document's Circles. -/
import Derived.Test.YtfaciajnopkjlaaGraL
namespace Go.Proofs.Ytfaciajnopkjlaa
open Go.RowKit
set_option linter.unusedVariables false
set_option linter.unusedSimpArgs false

theorem circ_nodesL {E : Egs} {x : Int} (h : Rp (nxt E) x x) : x ∈ nds E := by obtain ⟨b, _, h2⟩ := h; exact (nds_of h2).2
section
variable {w : World} {B n : Nat} {A : Option Addr} {ls : List (List Int)}
set_option maxRecDepth 100000 in
set_option maxHeartbeats 8000000 in
theorem circlesR_any {c : Nat} (w : World) (h : EdgM w w.heap.size A n ls) (hn : n ≤ 200) :
    Calls Try.prog 13 #[.slice A n c] w fun e w' => ∃ v l, e = .returned v ∧ Ris l ∧ (∀ x, x ∈ l ↔ Rp (nxt (eds ls)) x x) ∧ w'.ownsRow w.heap.size 3 1 v l.length (i64s l) ∧ Below w.heap.size w w' := by
  have hN : (nds (eds ls)).length ≤ 400 := by have := nds_len (eds ls); rw [h.elen] at this; omega
  have HH := Lib.hid h
  clear h
  go_enter Try.func13, Try.ntmps13
  go_wp2_with fail
  refine (nodesR_any (c := c) w HH.out hn).mono ?_
  rintro e w1 ⟨vn, rfl, hrn, hb1⟩
  obtain ⟨An, cn, rfl, hrd, hcn, _⟩ := own_slice hrn
  have RD := Lib.hid hrd
  have B1 := Lib.hid hb1
  clear hrn hb1 hrd
  go_wp2_with fail
  go_loopw [4, 5] (fun s4 s5 wr => ∃ (k : Nat) (o : List Int), s5 = .int .i64 k ∧ k ≤ (nds (eds ls)).length ∧ wr.ownsRow w1.heap.size 3 1 s4 o.length (i64s o) ∧ Ris o ∧ (∀ y, y ∈ o ↔ y ∈ (nds (eds ls)).take k ∧ Rp (nxt (eds ls)) y y) ∧ o.length ≤ k ∧ Below w1.heap.size w1 wr) (fun _ s5 _ => 1000 - (RowKit.intOf s5).toNat)
  case atStart => exact ⟨0, [], rfl, Nat.zero_le _, World.ownsRow_nil _ _ _ _, List.Pairwise.nil, by simp, by simp, Below.refl _ _⟩
  case round =>
    obtain ⟨k, o, rfl, hk, hrow, hris, hmem, hol, hb⟩ := hrel
    rename World => W
    have RO := Lib.hid hrow
    have RI := Lib.hid hris
    have ME := Lib.hid hmem
    have HB := Lib.hid hb
    have HZ := Lib.hid hb.size
    clear hrow hris hmem hb
    by_cases hlt : k < (nds (eds ls)).length
    · obtain ⟨bn, on, rfl, hbn, hcell⟩ := int_cells RD.out (by omega)
      have hcx := hcell k hlt
      rw [gd_get hlt] at hcx
      have CX := Lib.hid (show ∀ X, Below w1.heap.size w1 X → X.cell? ⟨bn, on + k, none⟩ = some (.int .i64 (nds (eds ls))[k]) from fun X hx => (hx.cell (p := ⟨bn, on + k, none⟩) hbn).trans hcx)
      have hts := List.take_add_one (l := nds (eds ls)) (i := k)
      rw [List.getElem?_eq_getElem hlt] at hts
      have TS := Lib.hid hts
      have BG := Lib.hid (show ∀ y ∈ (nds (eds ls)).take k, y < (nds (eds ls))[k] from fun y hy => by
        obtain ⟨i, hi, e⟩ := List.mem_iff_getElem.1 hy
        rw [List.getElem_take] at e
        have hi2 : i < k := by have : i < min k (nds (eds ls)).length := by simpa using hi
                               omega
        have := List.pairwise_iff_getElem.1 (nds_ris (eds ls)) i k (by omega) hlt hi2
        omega)
      clear hcell hcx hts
      generalize (nds (eds ls))[k] = x at CX TS BG
      go_wp2_with fail
      refine wp_region_held_drew (S := fun w' => w'.cell? ⟨bn, on + k, none⟩ = some (.int .i64 x)) (by kernel_rfl) (CX.out _ HB.out.drew) (fun hHeld => ?_)
      refine wpAnyH_take (i := 0) (v := ?_) rfl (by kernel_rfl) (by kernel_rfl) (by kernel_rfl) (fun _ _ _ h => h) (Or.inl ⟨by rfl, ?_⟩) (by assumption) ?_
      rotate_left
      · (intro w0 hSw; (try dsimp only at hSw); go_simp; try with_reducible rfl)
      try simp only [List.getElem_toArray, List.getElem_cons_succ, List.getElem_cons_zero, Act.put, List.setIfInBounds_toArray, List.set_cons_zero, List.set_cons_succ]
      refine wpAnyH_take (i := 1) (v := ?_) rfl (by kernel_rfl) (by kernel_rfl) (by kernel_rfl) (fun _ _ _ h => h) (Or.inl ⟨by rfl, ?_⟩) (by assumption) ?_
      rotate_left
      · (intro w0 hSw; (try dsimp only at hSw); go_simp; try with_reducible rfl)
      try simp only [List.getElem_toArray, List.getElem_cons_succ, List.getElem_cons_zero, Act.put, List.setIfInBounds_toArray, List.set_cons_zero, List.set_cons_succ]
      refine wpAnyH_take (i := 2) (v := ?_) rfl (by kernel_rfl) (by kernel_rfl) (by kernel_rfl) (fun _ _ _ h => h) (Or.inl ⟨by rfl, ?_⟩) (by assumption) ?_
      rotate_left
      · (intro w0 hSw; (try dsimp only at hSw); go_simp; try with_reducible rfl)
      try simp only [List.getElem_toArray, List.getElem_cons_succ, List.getElem_cons_zero, Act.put, List.setIfInBounds_toArray, List.set_cons_zero, List.set_cons_succ]
      refine wpAnyH_take (i := 3) (v := ?_) rfl (by kernel_rfl) (by kernel_rfl) (by kernel_rfl) (fun _ _ _ h => h) (Or.inl ⟨by rfl, ?_⟩) (by assumption) ?_
      rotate_left
      · (intro w0 hSw; (try dsimp only at hSw); go_simp; try with_reducible rfl)
      try simp only [List.getElem_toArray, List.getElem_cons_succ, List.getElem_cons_zero, Act.put, List.setIfInBounds_toArray, List.set_cons_zero, List.set_cons_succ]
      refine wpAnyH_take (i := 4) (v := ?_) rfl (by kernel_rfl) (by kernel_rfl) (by kernel_rfl) (fun _ _ _ h => h) (Or.inl ⟨by rfl, ?_⟩) (by assumption) ?_
      rotate_left
      · (intro w0 hSw; (try dsimp only at hSw); go_simp; try with_reducible rfl)
      try simp only [List.getElem_toArray, List.getElem_cons_succ, List.getElem_cons_zero, Act.put, List.setIfInBounds_toArray, List.set_cons_zero, List.set_cons_succ]
      refine wpAnyH_take (i := 6) (v := ?_) rfl (by kernel_rfl) (by kernel_rfl) (by kernel_rfl) (fun _ _ _ h => h) (Or.inl ⟨by rfl, ?_⟩) (by assumption) ?_
      rotate_left
      · (intro w0 hSw; (try dsimp only at hSw); go_simp; try with_reducible rfl)
      try simp only [List.getElem_toArray, List.getElem_cons_succ, List.getElem_cons_zero, Act.put, List.setIfInBounds_toArray, List.set_cons_zero, List.set_cons_succ]
      refine wpAnyH_take (i := 7) (v := ?_) rfl (by kernel_rfl) (by kernel_rfl) (by kernel_rfl) (fun _ _ _ h => h) (Or.inl ⟨by rfl, ?_⟩) (by assumption) ?_
      rotate_left
      · (intro w0 hSw; (try dsimp only at hSw); go_simp; try with_reducible rfl)
      try simp only [List.getElem_toArray, List.getElem_cons_succ, List.getElem_cons_zero, Act.put, List.setIfInBounds_toArray, List.set_cons_zero, List.set_cons_succ]
      refine wpAnyH_take (i := 8) (v := ?_) rfl (by kernel_rfl) (by kernel_rfl) (by kernel_rfl) (fun _ _ _ h => h) (Or.inl ⟨by rfl, ?_⟩) (by assumption) ?_
      rotate_left
      · (intro w0 hSw; (try dsimp only at hSw); go_simp; try with_reducible rfl)
      try simp only [List.getElem_toArray, List.getElem_cons_succ, List.getElem_cons_zero, Act.put, List.setIfInBounds_toArray, List.set_cons_zero, List.set_cons_succ]
      refine wpAnyH_take (i := 9) (v := ?_) rfl (by kernel_rfl) (by kernel_rfl) (by kernel_rfl) (fun _ _ _ h => h) (Or.inl ⟨by rfl, ?_⟩) (by assumption) ?_
      rotate_left
      · (intro w0 hSw; (try dsimp only at hSw); go_simp; try with_reducible rfl)
      try simp only [List.getElem_toArray, List.getElem_cons_succ, List.getElem_cons_zero, Act.put, List.setIfInBounds_toArray, List.set_cons_zero, List.set_cons_succ]
      refine wpAnyH_ready (rs := [5]) (by kernel_rfl) (by simp) ?_
      refine AllReadyH.cons rfl (fun K hK => ?_) AllReadyH.nil
      go_simp
      have HW := Lib.hid (show EdgM W.drew W.drew.heap.size A n ls from ((HH.out.below B1.out).below (HB.out.drew.mono B1.out.size)).more (Nat.le_trans B1.out.size HZ.out))
      refine (reachR_any (c := c) (fr := x) W.drew HW.out hn).mono ?_
      rintro e w2 ⟨v2, l2, rfl, hris2, hm2, hrow2, hb2⟩
      obtain ⟨A2, c2, rfl, hr2, _⟩ := own_slice hrow2
      have R2 := Lib.hid hr2
      have M2 := Lib.hid (hm2 x)
      have B2 := Lib.hid (show Below w1.heap.size w1 w2 from HB.out.drew.trans (hb2.mono HZ.out))
      have RO2 := Lib.hid (show w2.ownsRow w1.heap.size 3 1 u4 o.length (i64s o) from own_turn (World.ownsRow.drew RO.out) (Turn.of_below hb2 (S := fun _ => False)) (fun _ _ => id))
      have HZ2 := Lib.hid (show w1.heap.size ≤ w2.heap.size from B2.out.size)
      have hl2 : l2.length ≤ 9223372036854775807 := by
        have := nodup_len (ris_nodup hris2) (m := nds (eds ls)) fun y hy => by obtain ⟨d, _, h4⟩ := (hm2 y).1 hy; exact (nds_of h4).2
        omega
      clear hris2 hm2 hrow2 hb2 hr2
      try go_simp
      refine hK.out _ _ (CX.out _ B2.out) (fun hHeld => ?_)
      clear hK K
      refine wpAnyH_ready (rs := [10]) (by kernel_rfl) (by simp) ?_
      refine AllReadyH.cons rfl (fun K hK => ?_) AllReadyH.nil
      go_simp
      refine (has_any _ _ _ _ l2 x _ hl2 R2.out).mono ?_
      rintro e w' ⟨rfl, hww⟩
      subst hww
      try go_simp
      cases hd : decide (x ∈ l2) with
      | true =>
        have HR := Lib.hid (M2.out.1 (by simpa using hd))
        clear hd
        refine hK.out _ _ (CX.out _ B2.out) (fun hHeld => ?_)
        clear hK K
        refine wpAnyH_done (by kernel_rfl) ?_ _
        have kx := CX.out _ B2.out
        go_wp2_with (at_builtin
                     refine wpList_app_new _ rfl (.tmp 25) (.tmp 30) _ rfl Try.underlying25 w1.heap.size _ o.length o rfl (RO2.out.alloc _) [x] 1 1 _ _ rfl _ rfl rfl rfl (by omega) (by have := HZ2.out; simp; omega) ?_
                     intro v9 w9 hown9 hg9 hv9
                     have O9 := Lib.hid hown9
                     have G9 := Lib.hid hg9
                     clear hown9 hg9 hv9)
        go_roundw
        case rel =>
          refine ⟨k + 1, o ++ [x], by go_num, hlt, by rw [List.length_append]; exact O9.out, List.pairwise_append.2 ⟨RI.out, by simp, fun a ha b hb => ?_⟩, fun y => ?_, by simp; omega, below_own (B2.out.alloc HZ2.out _) G9.out (RO2.out.alloc _) (Nat.le_refl _) (by have := HZ2.out; simp; omega)⟩
          · simp at hb; subst hb
            exact BG.out a ((ME.out a).1 ha).1
          · rw [TS.out, List.mem_append, List.mem_append, ME.out y]
            simp only [Option.toList_some, List.mem_singleton]
            constructor
            · rintro (⟨h1, h2⟩ | h1)
              · exact ⟨.inl h1, h2⟩
              · rw [h1]; exact ⟨.inr rfl, HR.out⟩
            · rintro ⟨h1 | h1, h2⟩
              · exact .inl ⟨h1, h2⟩
              · exact .inr h1
        case measure => simp [RowKit.intOf]; omega
      | false =>
        have HR := Lib.hid (show ¬ Rp (nxt (eds ls)) x x from fun h => by have := M2.out.2 h; simp at hd; exact hd this)
        clear hd
        refine hK.out _ _ (CX.out _ B2.out) (fun hHeld => ?_)
        clear hK K
        refine wpAnyH_done (by kernel_rfl) ?_ _
        go_wp2_with fail
        go_roundw
        case rel =>
          refine ⟨k + 1, o, by go_num, hlt, RO2.out, RI.out, fun y => ?_, by omega, B2.out⟩
          rw [TS.out, List.mem_append, ME.out y]
          simp only [Option.toList_some, List.mem_singleton]
          constructor
          · rintro ⟨h1, h2⟩; exact ⟨.inl h1, h2⟩
          · rintro ⟨h1 | h1, h2⟩
            · exact ⟨h1, h2⟩
            · rw [h1] at h2; exact absurd h2 HR.out
        case measure => simp [RowKit.intOf]; omega
    · obtain rfl : k = (nds (eds ls)).length := by omega
      go_wp2_with fail
      go_ret
      refine ⟨_, o, rfl, RI.out, fun x => ?_, own_less RO.out B1.out.size, B1.out.trans (HB.out.mono B1.out.size)⟩
      rw [ME.out x, List.take_length]
      exact ⟨fun h => h.2, fun h => ⟨circ_nodesL h, h⟩⟩
end
end Go.Proofs.Ytfaciajnopkjlaa
