/- The document's Rising. -/
import Derived.Test.YtmfoffigmojdcaaGreatIntsA
import Derived.Deep.RegionHeld
import Derived.Test.YtmfoffigmojdcaaGreatHeld
namespace Go.Proofs.YtmfoffigmojdcaaGreat
open Go.RowKit
set_option linter.unusedVariables false
set_option linter.unusedSimpArgs false

theorem step_app_reads {ops : Array Oper} {o : Oper} {a : Act} {K : Act → World → Prop} {Q : Exit → Act → World → Prop} {E : Prop} (w : World) (hgd : o.guard = none) (s x : Operand) (t : TypeId) (ho : o.op = .call { callee := .builtin .append, args := #[s, x], argTypes := #[t, t] }) (ht : Tryz.prog.underlying t = some (.slice 3))
    (base : Nat) (v : Value) (n : Nat) (xs : List Int) (hs : a.eval s = v) (hown : w.ownsRow base 3 1 v n (i64s xs)) (B : Nat) (A : Option Addr) (m c : Nat) (ys : List Int) (hx : a.eval x = .slice A m c) (hr : Reads w B 1 A m (i64s ys))
    (hn : n + m ≤ 1000000) (hb : base ≤ w.heap.size)
    (h : ∀ v' w', w'.ownsRow base 3 1 v' (n + m) (i64s (xs ++ ys)) → w.grownBy w' v.ownBlock → K (a.put o.dst v') w') :
    if Region.wanted o (yielded ops a.tmps) = true then Oper.wp Tryz.prog o a w K Q else E := by
  obtain ⟨i0, hi0, hz0, hz1, hz2⟩ := info_parts info_int
  refine step_append_any w hgd s x t ho base 3 i0 _ 1 8 ht hi0 hz0 hz1 hz2 rfl (by omega) v n (i64s xs) hs hown B A m c (i64s ys) hx hr (i64s_one _) (by simp only [maxLen]; omega) (by omega) hb ?_
  intro v' w' h1 h2 _
  rw [show i64s xs ++ i64s ys = i64s (xs ++ ys) by simp [i64s]] at h1
  exact h v' w' h1 h2
theorem own_empty (V : World) {base : Nat} (t : TypeId) (hb : base ≤ V.heap.size) : (V.alloc (.cells #[] t)).ownsRow base t 1 (.slice (some ⟨V.heap.size, 0, none⟩) 0 0) 0 (i64s []) :=
  ⟨rfl, .inr ⟨_, _, #[], rfl, hb, Blk.new V t #[], Nat.le_refl _, by simp only [maxLen]; omega, rfl, rfl⟩⟩
/-- A number where it belongs. -/
theorem ris_ins {L : List Int} {x : Int} {j : Nat} (hL : Ris L) (hj : j ≤ L.length) (h1 : ∀ y ∈ L.take j, y < x) (h2 : ∀ h : j < L.length, x < L[j]) : Ris (L.take j ++ [x] ++ L.drop j) ∧ ∀ y, y ∈ L.take j ++ [x] ++ L.drop j ↔ y ∈ L ∨ y = x := by
  have hd : ∀ y ∈ L.drop j, x < y := by
    intro y hy
    obtain ⟨i, hi, e⟩ := List.mem_iff_getElem.1 hy
    rw [List.getElem_drop] at e
    have hl : j + i < L.length := by simp at hi; omega
    have h3 := h2 (by omega)
    rcases Nat.eq_zero_or_pos i with h0 | h0
    · subst h0; rw [← e]; exact h3
    · have := List.pairwise_iff_getElem.1 hL j (j + i) (by omega) hl (by omega)
      omega
  refine ⟨?_, fun y => ?_⟩
  · unfold Ris
    rw [List.append_assoc]
    refine List.pairwise_append.2 ⟨hL.sublist (List.take_sublist _ _), List.pairwise_cons.2 ⟨fun y hy => hd y hy, hL.sublist (List.drop_sublist _ _)⟩, fun a ha b hb => ?_⟩
    have := h1 a ha
    rcases List.mem_cons.1 hb with rfl | hb
    · exact this
    · have := hd b hb; omega
  · have h4 : y ∈ L ↔ y ∈ L.take j ∨ y ∈ L.drop j := by rw [← List.mem_append, List.take_append_drop]
    rw [h4]
    simp only [List.mem_append, List.mem_singleton]
    constructor
    · rintro ((h | h) | h)
      · exact .inl (.inl h)
      · exact .inr h
      · exact .inl (.inr h)
    · rintro ((h | h) | h)
      · exact .inl (.inl h)
      · exact .inr h
      · exact .inl (.inr h)
theorem drop_reads {V : World} {B g n' j : Nat} {L : List Int} {A' : Option Addr} (h : Reads V B 1 (some ⟨g, 0, none⟩) L.length (i64s L)) (hA : j < L.length → A' = some ⟨g, j, none⟩) (hn : n' = L.length - j) : Reads V B 1 A' n' (i64s (L.drop j)) := by
  subst hn
  have hl : (L.drop j).length = L.length - j := List.length_drop
  refine ⟨by rw [i64s_length]; omega, fun h0 => ?_⟩
  obtain ⟨ad, e, hb, hcell⟩ := h.2 (by omega)
  injection e with e
  subst e
  refine ⟨_, hA (by omega), hb, fun k u hu => ?_⟩
  have h1 : (i64s L)[j + k]? = some u := by
    rw [← hu]
    unfold i64s
    rw [List.getElem?_map, List.getElem?_map, List.getElem?_drop]
  have h2 := hcell _ u h1
  have e2 : (⟨g, j, none⟩ : Addr).add k = (⟨g, 0, none⟩ : Addr).add (j + k) := by
    unfold Addr.add
    split <;> split <;> simp_all <;> omega
  rw [e2]; exact h2
theorem take_reads {V : World} {B n j : Nat} {L : List Int} {A : Option Addr} (h : Reads V B 1 A n (i64s L)) (hj : j ≤ n) : Reads V B 1 A j (i64s (L.take j)) := by
  have hl := h.inum
  refine ⟨by rw [i64s_length, List.length_take]; omega, fun h0 => ?_⟩
  obtain ⟨ad, e, hb, hcell⟩ := h.2 (by omega)
  refine ⟨ad, e, hb, fun k u hu => hcell k u ?_⟩
  rw [← hu]
  have hk : k < j := by have := (List.getElem?_eq_some_iff.1 hu).1; rw [i64s_length, List.length_take] at this; omega
  unfold i64s
  rw [List.getElem?_map, List.getElem?_map, List.getElem?_take, if_pos hk]
section
variable {w : World} {B n : Nat} {A : Option Addr} {l : List Int}
set_option maxRecDepth 100000 in
set_option maxHeartbeats 16000000 in
theorem rising_any {c : Nat} (w : World) (h : Reads w B 1 A n (i64s l)) (hB : B ≤ w.heap.size) (hn : n ≤ 1000) :
    Calls Tryz.prog 129 #[.slice A n c] w fun e w' => ∃ v r, e = .returned v ∧ Ris r ∧ (∀ y, y ∈ r ↔ y ∈ l) ∧ r.length ≤ n ∧ w'.ownsRow w.heap.size 3 1 v r.length (i64s r) ∧ Below w.heap.size w w' := by
  have HH := Lib.hid h
  have HL := Lib.hid h.inum
  clear h
  go_enter Tryz.func129, Tryz.ntmps129
  go_wp2_with fail
  go_loopw [3, 4] (fun s3 s4 wr => ∃ (i : Nat) (L : List Int), s4 = .int .i64 i ∧ i ≤ n ∧ Ris L ∧ (∀ y, y ∈ L ↔ y ∈ l.take i) ∧ L.length ≤ i ∧ wr.ownsRow w.heap.size 3 1 s3 L.length (i64s L) ∧ (L = [] → s3 = .slice none 0 0) ∧ Below w.heap.size w wr) (fun _ s4 _ => 2000 - (RowKit.intOf s4).toNat)
  case atStart => exact ⟨0, [], rfl, Nat.zero_le _, List.Pairwise.nil, by simp, by simp, World.ownsRow_nil _ _ _ _, fun _ => rfl, Below.refl _ _⟩
  case round =>
    obtain ⟨i, L, rfl, hi, hris, hmem, hlen, hrow, hnil, hb⟩ := hrel
    rename World => W
    have RI := Lib.hid hris
    have ME := Lib.hid hmem
    have RO := Lib.hid hrow
    have HB := Lib.hid hb
    clear hris hmem hrow hb
    by_cases hlt : i < n
    · obtain ⟨bl, ol, rfl, hbl, hcell⟩ := int_cells HH.out (by omega)
      have hil : i < l.length := by rw [HL.out]; exact hlt
      have hx0 := (HB.out.cell (p := ⟨bl, ol + i, none⟩) (by show bl < w.heap.size; omega)).trans (hcell i hil)
      have hts := List.take_add_one (l := l) (i := i)
      rw [List.getElem?_eq_getElem hil, ← gd_get hil] at hts
      have TS := Lib.hid hts
      have CX := Lib.hid (show ∀ X, Below w.heap.size w X → X.cell? ⟨bl, ol + i, none⟩ = some (.int .i64 (gd l i)) from fun X hb => (hb.cell (p := ⟨bl, ol + i, none⟩) (by show bl < w.heap.size; omega)).trans (hcell i hil))
      clear hx0 hts hcell hil
      generalize gd l i = x at TS CX
      have kx := CX.out W HB.out
      have hsz := HB.out.size
      by_cases hL0 : L = []
      · obtain rfl := hnil hL0
        subst hL0
        clear hnil
        have INS := Lib.hid (show Ris (([] : List Int).take 0 ++ [x] ++ ([] : List Int).drop 0) ∧ ∀ y, y ∈ ([] : List Int).take 0 ++ [x] ++ ([] : List Int).drop 0 ↔ y ∈ ([] : List Int) ∨ y = x from ⟨by simp [Ris], by simp⟩)
        go_wp2_with fail
        refine wp_loop_rounds 1 ?_
        rw [rounds_succ]
        go_wp2_with fail
        go_quiet (fail)
        go_wp2_with fail
        go_quiet (fail)
        go_wp2_with fail
        generalize hV : (W.drewN _).drewN _ = V
        have BV := Lib.hid (show Below w.heap.size w V from by rw [← hV]; exact below_drewN (below_drewN HB.out _) _)
        have RT := Lib.hid (show Reads V V.heap.size 1 none 0 (i64s (([] : List Int).take 0)) from Reads.none_)
        clear hV
        refine wp_region_held_drew (S := fun w' => w'.cell? ⟨bl, ol + i, none⟩ = some (.int .i64 x)) (by kernel_rfl) (CX.out _ BV.out.drew) (fun hHeld => ?_)
        have BX0 := Lib.hid (show Below V.heap.size V V.drew from (Below.refl _ V).drew)
        refine wpAnyH_take (i := 1) (v := ?_) rfl (by kernel_rfl) (by kernel_rfl) (by kernel_rfl) (fun _ _ _ h => h) (Or.inl ⟨by rfl, ?_⟩) (by assumption) ?_
        rotate_left
        · (intro w0 hSw; (try dsimp only at hSw); go_simp; try with_reducible rfl)
        try simp only [List.getElem_toArray, List.getElem_cons_succ, List.getElem_cons_zero, Act.put, List.setIfInBounds_toArray, List.set_cons_zero, List.set_cons_succ]
        refine wpAnyH_take (i := 2) (v := ?_) rfl (by kernel_rfl) (by kernel_rfl) (by kernel_rfl) (fun _ _ _ h => h) (Or.inl ⟨by rfl, ?_⟩) (by assumption) ?_
        rotate_left
        · (intro w0 hSw; (try dsimp only at hSw); go_simp; try with_reducible rfl)
        try simp only [List.getElem_toArray, List.getElem_cons_succ, List.getElem_cons_zero, Act.put, List.setIfInBounds_toArray, List.set_cons_zero, List.set_cons_succ]
        refine wpAnyH_take (i := 3) (v := ?_) rfl (by kernel_rfl) (by kernel_rfl) (by kernel_rfl) (fun _ _ _ h => h) (Or.inl ⟨by rfl, ?_⟩) (by assumption) ?_
        rotate_left
        · (intro w0 hSw; (try dsimp only at hSw); go_simp; try with_reducible rfl)
        try simp only [List.getElem_toArray, List.getElem_cons_succ, List.getElem_cons_zero, Act.put, List.setIfInBounds_toArray, List.set_cons_zero, List.set_cons_succ]
        refine wpAnyH_take (i := 5) (v := ?_) rfl (by kernel_rfl) (by kernel_rfl) (by kernel_rfl) (fun _ _ _ h => h) (Or.inl ⟨by rfl, ?_⟩) (by assumption) ?_
        rotate_left
        · (intro w0 hSw; (try dsimp only at hSw); go_simp; try with_reducible rfl)
        try simp only [List.getElem_toArray, List.getElem_cons_succ, List.getElem_cons_zero, Act.put, List.setIfInBounds_toArray, List.set_cons_zero, List.set_cons_succ]
        refine wpAnyH_take (i := 6) (v := ?_) rfl (by kernel_rfl) (by kernel_rfl) (by kernel_rfl) (fun _ _ _ h => h) (Or.inl ⟨by rfl, ?_⟩) (by assumption) ?_
        rotate_left
        · (intro w0 hSw; (try dsimp only at hSw); go_simp; try with_reducible rfl)
        try simp only [List.getElem_toArray, List.getElem_cons_succ, List.getElem_cons_zero, Act.put, List.setIfInBounds_toArray, List.set_cons_zero, List.set_cons_succ]
        refine wpAnyH_take (i := 7) (v := ?_) rfl (by kernel_rfl) (by kernel_rfl) (by kernel_rfl) (fun _ _ _ h => h) (Or.inl ⟨by rfl, ?_⟩) (by assumption) ?_
        rotate_left
        · (intro w0 hSw; (try dsimp only at hSw); go_simp; try with_reducible rfl)
        try simp only [List.getElem_toArray, List.getElem_cons_succ, List.getElem_cons_zero, Act.put, List.setIfInBounds_toArray, List.set_cons_zero, List.set_cons_succ]
        refine wpAnyH_take (i := 8) (v := ?_) rfl (by kernel_rfl) (by kernel_rfl) (by kernel_rfl) (fun _ _ _ h => h) (Or.inl ⟨by rfl, ?_⟩) (by assumption) ?_
        rotate_left
        · (intro w0 hSw; (try dsimp only at hSw); go_simp; try with_reducible rfl)
        try simp only [List.getElem_toArray, List.getElem_cons_succ, List.getElem_cons_zero, Act.put, List.setIfInBounds_toArray, List.set_cons_zero, List.set_cons_succ]
        refine wpAnyH_take (i := 11) (v := ?_) rfl (by kernel_rfl) (by kernel_rfl) (by kernel_rfl) (fun _ _ _ h => h) (Or.inl ⟨by rfl, ?_⟩) (by assumption) ?_
        rotate_left
        · (intro w0 hSw; (try dsimp only at hSw); go_simp; try with_reducible rfl)
        try simp only [List.getElem_toArray, List.getElem_cons_succ, List.getElem_cons_zero, Act.put, List.setIfInBounds_toArray, List.set_cons_zero, List.set_cons_succ]
        refine wpAnyH_take (i := 12) (v := ?_) rfl (by kernel_rfl) (by kernel_rfl) (by kernel_rfl) (fun _ _ _ h => h) (Or.inl ⟨by rfl, ?_⟩) (by assumption) ?_
        rotate_left
        · (intro w0 hSw; (try dsimp only at hSw); go_simp; try with_reducible rfl)
        try simp only [List.getElem_toArray, List.getElem_cons_succ, List.getElem_cons_zero, Act.put, List.setIfInBounds_toArray, List.set_cons_zero, List.set_cons_succ]
        refine wpAnyH_take (i := 13) (v := ?_) rfl (by kernel_rfl) (by kernel_rfl) (by kernel_rfl) (fun _ _ _ h => h) (Or.inl ⟨by rfl, ?_⟩) (by assumption) ?_
        rotate_left
        · (intro w0 hSw; (try dsimp only at hSw); go_simp; try with_reducible rfl)
        try simp only [List.getElem_toArray, List.getElem_cons_succ, List.getElem_cons_zero, Act.put, List.setIfInBounds_toArray, List.set_cons_zero, List.set_cons_succ]
        generalize V.drew = X0 at BX0 hHeld ⊢
        refine wpAnyH_ready (rs := [0, 9]) (by kernel_rfl) (by simp) ?_
        refine AllReadyH.cons rfl (fun K hK => ?_) (AllReadyH.cons rfl (fun K hK => ?_) AllReadyH.nil)
        · go_simp
          have RX1 := Lib.hid (own_empty (base := V.heap.size) X0 3 BX0.out.size)
          have BX1 := Lib.hid (BX0.out.alloc BX0.out.size (.cells #[] 3))
          refine hK.out _ _ (CX.out _ (BV.out.trans (BX1.out.mono BV.out.size))) (fun hHeld => ?_)
          clear hK K hHeld
          have hHeld := CX.out _ (BV.out.trans (BX1.out.mono BV.out.size))
          obtain ⟨rb, hrb⟩ : ∃ rb, rb = X0.heap.size := ⟨_, rfl⟩
          rw [← hrb] at RX1  ⊢
          have RB := Lib.hid hrb
          clear hrb
          generalize X0.alloc (.cells #[] 3) = X1 at RX1 BX1  hHeld ⊢
          refine wpAnyH_ready (rs := [4, 9]) (by kernel_rfl) (by simp) ?_
          refine AllReadyH.cons rfl (fun K hK => ?_) (AllReadyH.cons rfl (fun K hK => ?_) AllReadyH.nil)
          · refine step_app_reads _ rfl (.tmp 44) (.tmp 47) _ rfl Tryz.underlying59 V.heap.size (.slice (some ⟨rb, 0, none⟩) 0 0) 0 [] rfl RX1.out V.heap.size _ _ _ (([] : List Int).take 0) rfl (RT.out.below BX1.out) (by omega) BX1.out.size ?_
            intro v4 X2 hown hg
            rw [Nat.zero_add, List.nil_append] at hown
            have BX2 := Lib.hid (BX1.out.grown hg BX1.out.size (fun q hq => ownBlock_ge RX1.out q hq))
            have RX2 := Lib.hid hown
            clear hown hg
            refine hK.out _ _ (CX.out _ (BV.out.trans (BX2.out.mono BV.out.size))) (fun hHeld => ?_)
            clear hK K
            refine wpAnyH_ready (rs := [9]) (by kernel_rfl) (by simp) ?_
            refine AllReadyH.cons rfl (fun K hK => ?_) AllReadyH.nil
            go_simp
            have NX3 := Lib.hid (show Blk (X2.alloc (.cells #[.int .i64 x] 3)) X2.heap.size 3 (i64s [x]).toArray from Blk.new _ _ _)
            have BX3 := Lib.hid (BX2.out.alloc BX2.out.size (.cells #[.int .i64 x] 3))
            have RX3 := Lib.hid (World.ownsRow.alloc RX2.out (.cells #[.int .i64 x] 3))
            refine hK.out _ _ (CX.out _ (BV.out.trans (BX3.out.mono BV.out.size))) (fun hHeld => ?_)
            clear hK K hHeld
            have hHeld := CX.out _ (BV.out.trans (BX3.out.mono BV.out.size))
            obtain ⟨nb, hnb⟩ : ∃ nb, nb = X2.heap.size := ⟨_, rfl⟩
            rw [← hnb] at NX3  ⊢
            clear hnb
            generalize X2.alloc (.cells #[.int .i64 x] 3) = X3 at NX3 BX3 RX3 hHeld ⊢
            refine wpAnyH_ready (rs := [10]) (by kernel_rfl) (by simp) ?_
            refine AllReadyH.cons rfl (fun K hK => ?_) AllReadyH.nil
            refine step_app_reads _ rfl (.tmp 48) (.tmp 53) _ rfl Tryz.underlying59 V.heap.size v4 0 (([] : List Int).take 0) rfl RX3.out X3.heap.size _ _ _ [x] rfl (readsI_blk NX3.out) (by omega) BX3.out.size ?_
            intro v5 X4 hown hg
            have BX4 := Lib.hid (BX3.out.grown hg BX3.out.size (fun q hq => ownBlock_ge RX3.out q hq))
            have RX4 := Lib.hid hown
            clear hown hg
            refine hK.out _ _ (CX.out _ (BV.out.trans (BX4.out.mono BV.out.size))) (fun hHeld => ?_)
            clear hK K
            refine wpAnyH_ready (rs := [14]) (by kernel_rfl) (by simp) ?_
            refine AllReadyH.cons rfl (fun K hK => ?_) AllReadyH.nil
            refine step_app_reads _ rfl (.tmp 54) (.tmp 57) _ rfl Tryz.underlying59 V.heap.size v5 1 (([] : List Int).take 0 ++ [x]) rfl RX4.out V.heap.size _ _ _ (([] : List Int).drop 0) rfl ((show Reads V V.heap.size 1 none 0 (i64s (([] : List Int).drop 0)) from Reads.none_).below BX4.out) (by omega) BX4.out.size ?_
            intro v6 X5 hown hg
            have BX5 := Lib.hid (BX4.out.grown hg BX4.out.size (fun q hq => ownBlock_ge RX4.out q hq))
            have RX5 := Lib.hid hown
            clear hown hg
            refine hK.out _ _ (CX.out _ (BV.out.trans (BX5.out.mono BV.out.size))) (fun hHeld => ?_)
            clear hK K
            refine wpAnyH_take (i := 15) (v := ?_) rfl (by kernel_rfl) (by kernel_rfl) (by kernel_rfl) (fun _ _ _ h => h) (Or.inl ⟨by rfl, ?_⟩) (by assumption) ?_
            rotate_left
            · (intro w0 hSw; (try dsimp only at hSw); go_simp; try with_reducible rfl)
            try simp only [List.getElem_toArray, List.getElem_cons_succ, List.getElem_cons_zero, Act.put, List.setIfInBounds_toArray, List.set_cons_zero, List.set_cons_succ]
            refine wpAnyH_done (by kernel_rfl) ?_ _
            go_wp2_with fail
            go_roundw
            case rel =>
              have hlen2 : (([] : List Int).take 0 ++ [x] ++ ([] : List Int).drop 0).length = 1 := by first | (simp; done) | (simp; omega)
              refine ⟨i + 1, ([] : List Int).take 0 ++ [x] ++ ([] : List Int).drop 0, by go_num, hlt, INS.out.1, fun y => ?_, by rw [hlen2]; omega, by rw [hlen2]; exact own_less RX5.out BV.out.size, fun h => absurd h (by simp), BV.out.trans (BX5.out.mono BV.out.size)⟩
              rw [INS.out.2 y, ME.out y, TS.out, List.mem_append]; simp
            case measure => simp [RowKit.intOf]; omega
          · go_simp
            have NX2 := Lib.hid (show Blk (X1.alloc (.cells #[.int .i64 x] 3)) X1.heap.size 3 (i64s [x]).toArray from Blk.new _ _ _)
            have BX2 := Lib.hid (BX1.out.alloc BX1.out.size (.cells #[.int .i64 x] 3))
            have RX2 := Lib.hid (World.ownsRow.alloc RX1.out (.cells #[.int .i64 x] 3))
            have NE := Lib.hid (show rb ≠ X1.heap.size from fun e => by have := own_lt (own_heap RX1.out rb rfl).choose_spec.1; omega)
            refine hK.out _ _ (CX.out _ (BV.out.trans (BX2.out.mono BV.out.size))) (fun hHeld => ?_)
            clear hK K hHeld
            have hHeld := CX.out _ (BV.out.trans (BX2.out.mono BV.out.size))
            obtain ⟨nb, hnb⟩ : ∃ nb, nb = X1.heap.size := ⟨_, rfl⟩
            rw [← hnb] at NX2 NE ⊢
            clear hnb
            generalize X1.alloc (.cells #[.int .i64 x] 3) = X2 at NX2 BX2 RX2 hHeld ⊢
            refine wpAnyH_ready (rs := [4]) (by kernel_rfl) (by simp) ?_
            refine AllReadyH.cons rfl (fun K hK => ?_) AllReadyH.nil
            refine step_app_reads _ rfl (.tmp 44) (.tmp 47) _ rfl Tryz.underlying59 V.heap.size (.slice (some ⟨rb, 0, none⟩) 0 0) 0 [] rfl RX2.out V.heap.size _ _ _ (([] : List Int).take 0) rfl (RT.out.below BX2.out) (by omega) BX2.out.size ?_
            intro v4 X3 hown hg
            rw [Nat.zero_add, List.nil_append] at hown
            have BX3 := Lib.hid (BX2.out.grown hg BX2.out.size (fun q hq => ownBlock_ge RX2.out q hq))
            have RX3 := Lib.hid hown
            have NX3 := Lib.hid (NX2.out.grown hg (fun e => NE.out (by injection e)))
            clear hown hg
            refine hK.out _ _ (CX.out _ (BV.out.trans (BX3.out.mono BV.out.size))) (fun hHeld => ?_)
            clear hK K
            refine wpAnyH_ready (rs := [10]) (by kernel_rfl) (by simp) ?_
            refine AllReadyH.cons rfl (fun K hK => ?_) AllReadyH.nil
            refine step_app_reads _ rfl (.tmp 48) (.tmp 53) _ rfl Tryz.underlying59 V.heap.size v4 0 (([] : List Int).take 0) rfl RX3.out X3.heap.size _ _ _ [x] rfl (readsI_blk NX3.out) (by omega) BX3.out.size ?_
            intro v5 X4 hown hg
            have BX4 := Lib.hid (BX3.out.grown hg BX3.out.size (fun q hq => ownBlock_ge RX3.out q hq))
            have RX4 := Lib.hid hown
            clear hown hg
            refine hK.out _ _ (CX.out _ (BV.out.trans (BX4.out.mono BV.out.size))) (fun hHeld => ?_)
            clear hK K
            refine wpAnyH_ready (rs := [14]) (by kernel_rfl) (by simp) ?_
            refine AllReadyH.cons rfl (fun K hK => ?_) AllReadyH.nil
            refine step_app_reads _ rfl (.tmp 54) (.tmp 57) _ rfl Tryz.underlying59 V.heap.size v5 1 (([] : List Int).take 0 ++ [x]) rfl RX4.out V.heap.size _ _ _ (([] : List Int).drop 0) rfl ((show Reads V V.heap.size 1 none 0 (i64s (([] : List Int).drop 0)) from Reads.none_).below BX4.out) (by omega) BX4.out.size ?_
            intro v6 X5 hown hg
            have BX5 := Lib.hid (BX4.out.grown hg BX4.out.size (fun q hq => ownBlock_ge RX4.out q hq))
            have RX5 := Lib.hid hown
            clear hown hg
            refine hK.out _ _ (CX.out _ (BV.out.trans (BX5.out.mono BV.out.size))) (fun hHeld => ?_)
            clear hK K
            refine wpAnyH_take (i := 15) (v := ?_) rfl (by kernel_rfl) (by kernel_rfl) (by kernel_rfl) (fun _ _ _ h => h) (Or.inl ⟨by rfl, ?_⟩) (by assumption) ?_
            rotate_left
            · (intro w0 hSw; (try dsimp only at hSw); go_simp; try with_reducible rfl)
            try simp only [List.getElem_toArray, List.getElem_cons_succ, List.getElem_cons_zero, Act.put, List.setIfInBounds_toArray, List.set_cons_zero, List.set_cons_succ]
            refine wpAnyH_done (by kernel_rfl) ?_ _
            go_wp2_with fail
            go_roundw
            case rel =>
              have hlen2 : (([] : List Int).take 0 ++ [x] ++ ([] : List Int).drop 0).length = 1 := by first | (simp; done) | (simp; omega)
              refine ⟨i + 1, ([] : List Int).take 0 ++ [x] ++ ([] : List Int).drop 0, by go_num, hlt, INS.out.1, fun y => ?_, by rw [hlen2]; omega, by rw [hlen2]; exact own_less RX5.out BV.out.size, fun h => absurd h (by simp), BV.out.trans (BX5.out.mono BV.out.size)⟩
              rw [INS.out.2 y, ME.out y, TS.out, List.mem_append]; simp
            case measure => simp [RowKit.intOf]; omega
        · go_simp
          have NX1 := Lib.hid (show Blk (X0.alloc (.cells #[.int .i64 x] 3)) X0.heap.size 3 (i64s [x]).toArray from Blk.new _ _ _)
          have BX1 := Lib.hid (BX0.out.alloc BX0.out.size (.cells #[.int .i64 x] 3))
          refine hK.out _ _ (CX.out _ (BV.out.trans (BX1.out.mono BV.out.size))) (fun hHeld => ?_)
          clear hK K hHeld
          have hHeld := CX.out _ (BV.out.trans (BX1.out.mono BV.out.size))
          obtain ⟨nb, hnb⟩ : ∃ nb, nb = X0.heap.size := ⟨_, rfl⟩
          rw [← hnb] at NX1  ⊢
          clear hnb
          generalize X0.alloc (.cells #[.int .i64 x] 3) = X1 at NX1 BX1  hHeld ⊢
          refine wpAnyH_ready (rs := [0]) (by kernel_rfl) (by simp) ?_
          refine AllReadyH.cons rfl (fun K hK => ?_) AllReadyH.nil
          go_simp
          have RX2 := Lib.hid (own_empty (base := V.heap.size) X1 3 BX1.out.size)
          have BX2 := Lib.hid (BX1.out.alloc BX1.out.size (.cells #[] 3))
          have NX2 := Lib.hid (NX1.out.alloc (.cells #[] 3))
          have NE := Lib.hid (show X1.heap.size ≠ nb from fun e => by have := NX1.out.lt; omega)
          refine hK.out _ _ (CX.out _ (BV.out.trans (BX2.out.mono BV.out.size))) (fun hHeld => ?_)
          clear hK K hHeld
          have hHeld := CX.out _ (BV.out.trans (BX2.out.mono BV.out.size))
          obtain ⟨rb, hrb⟩ : ∃ rb, rb = X1.heap.size := ⟨_, rfl⟩
          rw [← hrb] at RX2 NE ⊢
          have RB := Lib.hid hrb
          clear hrb
          generalize X1.alloc (.cells #[] 3) = X2 at RX2 BX2 NX2 hHeld ⊢
          refine wpAnyH_ready (rs := [4]) (by kernel_rfl) (by simp) ?_
          refine AllReadyH.cons rfl (fun K hK => ?_) AllReadyH.nil
          refine step_app_reads _ rfl (.tmp 44) (.tmp 47) _ rfl Tryz.underlying59 V.heap.size (.slice (some ⟨rb, 0, none⟩) 0 0) 0 [] rfl RX2.out V.heap.size _ _ _ (([] : List Int).take 0) rfl (RT.out.below BX2.out) (by omega) BX2.out.size ?_
          intro v4 X3 hown hg
          rw [Nat.zero_add, List.nil_append] at hown
          have BX3 := Lib.hid (BX2.out.grown hg BX2.out.size (fun q hq => ownBlock_ge RX2.out q hq))
          have RX3 := Lib.hid hown
          have NX3 := Lib.hid (NX2.out.grown hg (fun e => NE.out (by injection e)))
          clear hown hg
          refine hK.out _ _ (CX.out _ (BV.out.trans (BX3.out.mono BV.out.size))) (fun hHeld => ?_)
          clear hK K
          refine wpAnyH_ready (rs := [10]) (by kernel_rfl) (by simp) ?_
          refine AllReadyH.cons rfl (fun K hK => ?_) AllReadyH.nil
          refine step_app_reads _ rfl (.tmp 48) (.tmp 53) _ rfl Tryz.underlying59 V.heap.size v4 0 (([] : List Int).take 0) rfl RX3.out X3.heap.size _ _ _ [x] rfl (readsI_blk NX3.out) (by omega) BX3.out.size ?_
          intro v5 X4 hown hg
          have BX4 := Lib.hid (BX3.out.grown hg BX3.out.size (fun q hq => ownBlock_ge RX3.out q hq))
          have RX4 := Lib.hid hown
          clear hown hg
          refine hK.out _ _ (CX.out _ (BV.out.trans (BX4.out.mono BV.out.size))) (fun hHeld => ?_)
          clear hK K
          refine wpAnyH_ready (rs := [14]) (by kernel_rfl) (by simp) ?_
          refine AllReadyH.cons rfl (fun K hK => ?_) AllReadyH.nil
          refine step_app_reads _ rfl (.tmp 54) (.tmp 57) _ rfl Tryz.underlying59 V.heap.size v5 1 (([] : List Int).take 0 ++ [x]) rfl RX4.out V.heap.size _ _ _ (([] : List Int).drop 0) rfl ((show Reads V V.heap.size 1 none 0 (i64s (([] : List Int).drop 0)) from Reads.none_).below BX4.out) (by omega) BX4.out.size ?_
          intro v6 X5 hown hg
          have BX5 := Lib.hid (BX4.out.grown hg BX4.out.size (fun q hq => ownBlock_ge RX4.out q hq))
          have RX5 := Lib.hid hown
          clear hown hg
          refine hK.out _ _ (CX.out _ (BV.out.trans (BX5.out.mono BV.out.size))) (fun hHeld => ?_)
          clear hK K
          refine wpAnyH_take (i := 15) (v := ?_) rfl (by kernel_rfl) (by kernel_rfl) (by kernel_rfl) (fun _ _ _ h => h) (Or.inl ⟨by rfl, ?_⟩) (by assumption) ?_
          rotate_left
          · (intro w0 hSw; (try dsimp only at hSw); go_simp; try with_reducible rfl)
          try simp only [List.getElem_toArray, List.getElem_cons_succ, List.getElem_cons_zero, Act.put, List.setIfInBounds_toArray, List.set_cons_zero, List.set_cons_succ]
          refine wpAnyH_done (by kernel_rfl) ?_ _
          go_wp2_with fail
          go_roundw
          case rel =>
            have hlen2 : (([] : List Int).take 0 ++ [x] ++ ([] : List Int).drop 0).length = 1 := by first | (simp; done) | (simp; omega)
            refine ⟨i + 1, ([] : List Int).take 0 ++ [x] ++ ([] : List Int).drop 0, by go_num, hlt, INS.out.1, fun y => ?_, by rw [hlen2]; omega, by rw [hlen2]; exact own_less RX5.out BV.out.size, fun h => absurd h (by simp), BV.out.trans (BX5.out.mono BV.out.size)⟩
            rw [INS.out.2 y, ME.out y, TS.out, List.mem_append]; simp
          case measure => simp [RowKit.intOf]; omega
      · obtain ⟨g, cap, rfl, _⟩ := RO.out.form (List.length_pos_iff.2 hL0)
        have hcap : L.length ≤ cap := by
          obtain ⟨_, h1 | ⟨g', cap', cur, hv, hb, hh, hnc, _⟩⟩ := RO.out
          · obtain ⟨h1, _⟩ := h1; cases h1
          · injection hv with e1 e2 e3; omega
        have L0 := Lib.hid hL0
        clear hL0 hnil kx hsz
        go_wp2_with fail
        go_loopw [5] (fun s5 wr => ∃ j : Nat, s5 = .int .i64 j ∧ j ≤ L.length ∧ (∀ y ∈ L.take j, y < x) ∧ wr.ownsRow w.heap.size 3 1 (.slice (some ⟨g, 0, none⟩) L.length cap) L.length (i64s L) ∧ Below w.heap.size w wr) (fun s5 _ => 2000 - (RowKit.intOf s5).toNat)
        case atStart => exact ⟨0, rfl, Nat.zero_le _, by simp, RO.out, HB.out⟩
        case round =>
          obtain ⟨j, rfl, hj, hlow, hrow, hb⟩ := hrel
          rename World => Y
          have LO := Lib.hid hlow
          have RY := Lib.hid hrow
          have BY := Lib.hid hb
          clear hlow hrow hb
          have kx := CX.out Y BY.out
          by_cases hjl : j < L.length
          · have kj : Y.cell? ⟨g, j, none⟩ = some (.int .i64 (gd L j)) := own_gd RY.out hjl
            have hgd := gd_get hjl
            have GD := Lib.hid hgd
            have hts2 := List.take_add_one (l := L) (i := j)
            rw [List.getElem?_eq_getElem hjl, ← hgd] at hts2
            have TS2 := Lib.hid hts2
            have hmy : gd L j ∈ L := by rw [hgd]; exact List.getElem_mem hjl
            have MY := Lib.hid hmy
            clear hgd hts2 hmy
            generalize hy : gd L j = y at kj GD TS2 MY
            clear hy
            by_cases hlt2 : y < x
            · have d1 : decide (y < x) = true := by simpa using hlt2
              go_wp2_with fail
              go_quiet (fail)
              go_wp2_with fail
              go_roundw
              case rel =>
                refine ⟨j + 1, by go_num, hjl, fun z hz => ?_, RY.out, below_drewN BY.out _⟩
                rw [TS2.out] at hz
                rcases List.mem_append.1 hz with hz | hz
                · exact LO.out z hz
                · simp at hz; subst hz; exact hlt2
              case measure => simp [RowKit.intOf]; omega
            · by_cases hye : y = x
              · subst hye
                have d1 : decide (y < y) = false := by simp
                have d2 : (y == y) = true := by simp
                go_wp2_with fail
                go_quiet (fail)
                go_wp2_with fail
                generalize hV0 : Y.drewN _ = V0
                have kx0 : V0.cell? ⟨bl, ol + i, none⟩ = some (.int .i64 y) := by rw [← hV0]; exact kx
                have kj0 : V0.cell? ⟨g, j, none⟩ = some (.int .i64 y) := by rw [← hV0]; exact kj
                have RV0 := Lib.hid (show V0.ownsRow w.heap.size 3 1 (.slice (some ⟨g, 0, none⟩) L.length cap) L.length (i64s L) from by rw [← hV0]; exact RY.out)
                have BV0 := Lib.hid (show Below w.heap.size w V0 from by rw [← hV0]; exact below_drewN BY.out _)
                clear hV0 kx kj
                go_quiet (fail)
                go_wp2_with fail
                go_roundw
                case rel =>
                  refine ⟨i + 1, L, by go_num, hlt, RI.out, fun z => ?_, by omega, RV0.out, fun h => absurd h L0.out, below_drewN BV0.out _⟩
                  rw [TS.out, List.mem_append, ← ME.out z]
                  constructor
                  · exact .inl
                  · rintro (h | h)
                    · exact h
                    · simp at h; rw [h]; exact MY.out
                case measure => simp [RowKit.intOf]; omega
              · have d1 : decide (y < x) = false := by simpa using hlt2
                have d2 : (y == x) = false := by simpa using hye
                have INS := Lib.hid (ris_ins (x := x) RI.out hj LO.out (fun h => by have := GD.out; omega))
                go_wp2_with fail
                go_quiet (fail)
                go_wp2_with fail
                generalize hV0 : Y.drewN _ = V0
                have kx0 : V0.cell? ⟨bl, ol + i, none⟩ = some (.int .i64 x) := by rw [← hV0]; exact kx
                have kj0 : V0.cell? ⟨g, j, none⟩ = some (.int .i64 y) := by rw [← hV0]; exact kj
                have RV0 := Lib.hid (show V0.ownsRow w.heap.size 3 1 (.slice (some ⟨g, 0, none⟩) L.length cap) L.length (i64s L) from by rw [← hV0]; exact RY.out)
                have BV0 := Lib.hid (show Below w.heap.size w V0 from by rw [← hV0]; exact below_drewN BY.out _)
                clear hV0 kx kj
                go_quiet (fail)
                go_wp2_with fail
                generalize hV : V0.drewN _ = V
                have BV := Lib.hid (show Below w.heap.size w V from by rw [← hV]; exact below_drewN BV0.out _)
                have RL := Lib.hid (Reads.of_own (show V.ownsRow w.heap.size 3 1 (.slice (some ⟨g, 0, none⟩) L.length cap) L.length (i64s L) from by rw [← hV]; exact RV0.out))
                have RT := Lib.hid (take_reads RL.out hj)
                have hjc : j ≤ cap := by omega
                clear hV kx0 kj0
                refine wp_region_held_drew (S := fun w' => w'.cell? ⟨bl, ol + i, none⟩ = some (.int .i64 x)) (by kernel_rfl) (CX.out _ BV.out.drew) (fun hHeld => ?_)
                have BX0 := Lib.hid (show Below V.heap.size V V.drew from (Below.refl _ V).drew)
                refine wpAnyH_take (i := 1) (v := ?_) rfl (by kernel_rfl) (by kernel_rfl) (by kernel_rfl) (fun _ _ _ h => h) (Or.inl ⟨by rfl, ?_⟩) (by assumption) ?_
                rotate_left
                · (intro w0 hSw; (try dsimp only at hSw); go_simp; try with_reducible rfl)
                try simp only [List.getElem_toArray, List.getElem_cons_succ, List.getElem_cons_zero, Act.put, List.setIfInBounds_toArray, List.set_cons_zero, List.set_cons_succ]
                refine wpAnyH_take (i := 2) (v := ?_) rfl (by kernel_rfl) (by kernel_rfl) (by kernel_rfl) (fun _ _ _ h => h) (Or.inl ⟨by rfl, ?_⟩) (by assumption) ?_
                rotate_left
                · (intro w0 hSw; (try dsimp only at hSw); go_simp; try with_reducible rfl)
                try simp only [List.getElem_toArray, List.getElem_cons_succ, List.getElem_cons_zero, Act.put, List.setIfInBounds_toArray, List.set_cons_zero, List.set_cons_succ]
                refine wpAnyH_take (i := 3) (v := ?_) rfl (by kernel_rfl) (by kernel_rfl) (by kernel_rfl) (fun _ _ _ h => h) (Or.inl ⟨by rfl, ?_⟩) (by assumption) ?_
                rotate_left
                · (intro w0 hSw; (try dsimp only at hSw); go_simp; try with_reducible rfl)
                try simp only [List.getElem_toArray, List.getElem_cons_succ, List.getElem_cons_zero, Act.put, List.setIfInBounds_toArray, List.set_cons_zero, List.set_cons_succ]
                refine wpAnyH_take (i := 5) (v := ?_) rfl (by kernel_rfl) (by kernel_rfl) (by kernel_rfl) (fun _ _ _ h => h) (Or.inl ⟨by rfl, ?_⟩) (by assumption) ?_
                rotate_left
                · (intro w0 hSw; (try dsimp only at hSw); go_simp; try with_reducible rfl)
                try simp only [List.getElem_toArray, List.getElem_cons_succ, List.getElem_cons_zero, Act.put, List.setIfInBounds_toArray, List.set_cons_zero, List.set_cons_succ]
                refine wpAnyH_take (i := 6) (v := ?_) rfl (by kernel_rfl) (by kernel_rfl) (by kernel_rfl) (fun _ _ _ h => h) (Or.inl ⟨by rfl, ?_⟩) (by assumption) ?_
                rotate_left
                · (intro w0 hSw; (try dsimp only at hSw); go_simp; try with_reducible rfl)
                try simp only [List.getElem_toArray, List.getElem_cons_succ, List.getElem_cons_zero, Act.put, List.setIfInBounds_toArray, List.set_cons_zero, List.set_cons_succ]
                refine wpAnyH_take (i := 7) (v := ?_) rfl (by kernel_rfl) (by kernel_rfl) (by kernel_rfl) (fun _ _ _ h => h) (Or.inl ⟨by rfl, ?_⟩) (by assumption) ?_
                rotate_left
                · (intro w0 hSw; (try dsimp only at hSw); go_simp; try with_reducible rfl)
                try simp only [List.getElem_toArray, List.getElem_cons_succ, List.getElem_cons_zero, Act.put, List.setIfInBounds_toArray, List.set_cons_zero, List.set_cons_succ]
                refine wpAnyH_take (i := 8) (v := ?_) rfl (by kernel_rfl) (by kernel_rfl) (by kernel_rfl) (fun _ _ _ h => h) (Or.inl ⟨by rfl, ?_⟩) (by assumption) ?_
                rotate_left
                · (intro w0 hSw; (try dsimp only at hSw); go_simp; try with_reducible rfl)
                try simp only [List.getElem_toArray, List.getElem_cons_succ, List.getElem_cons_zero, Act.put, List.setIfInBounds_toArray, List.set_cons_zero, List.set_cons_succ]
                refine wpAnyH_take (i := 11) (v := ?_) rfl (by kernel_rfl) (by kernel_rfl) (by kernel_rfl) (fun _ _ _ h => h) (Or.inl ⟨by rfl, ?_⟩) (by assumption) ?_
                rotate_left
                · (intro w0 hSw; (try dsimp only at hSw); go_simp; try with_reducible rfl)
                try simp only [List.getElem_toArray, List.getElem_cons_succ, List.getElem_cons_zero, Act.put, List.setIfInBounds_toArray, List.set_cons_zero, List.set_cons_succ]
                refine wpAnyH_take (i := 12) (v := ?_) rfl (by kernel_rfl) (by kernel_rfl) (by kernel_rfl) (fun _ _ _ h => h) (Or.inl ⟨by rfl, ?_⟩) (by assumption) ?_
                rotate_left
                · (intro w0 hSw; (try dsimp only at hSw); go_simp; try with_reducible rfl)
                try simp only [List.getElem_toArray, List.getElem_cons_succ, List.getElem_cons_zero, Act.put, List.setIfInBounds_toArray, List.set_cons_zero, List.set_cons_succ]
                refine wpAnyH_take (i := 13) (v := ?_) rfl (by kernel_rfl) (by kernel_rfl) (by kernel_rfl) (fun _ _ _ h => h) (Or.inl ⟨by rfl, ?_⟩) (by assumption) ?_
                rotate_left
                · (intro w0 hSw; (try dsimp only at hSw); go_simp; try with_reducible rfl)
                try simp only [List.getElem_toArray, List.getElem_cons_succ, List.getElem_cons_zero, Act.put, List.setIfInBounds_toArray, List.set_cons_zero, List.set_cons_succ]
                generalize V.drew = X0 at BX0 hHeld ⊢
                refine wpAnyH_ready (rs := [0, 9]) (by kernel_rfl) (by simp) ?_
                refine AllReadyH.cons rfl (fun K hK => ?_) (AllReadyH.cons rfl (fun K hK => ?_) AllReadyH.nil)
                · go_simp
                  have RX1 := Lib.hid (own_empty (base := V.heap.size) X0 3 BX0.out.size)
                  have BX1 := Lib.hid (BX0.out.alloc BX0.out.size (.cells #[] 3))
                  refine hK.out _ _ (CX.out _ (BV.out.trans (BX1.out.mono BV.out.size))) (fun hHeld => ?_)
                  clear hK K hHeld
                  have hHeld := CX.out _ (BV.out.trans (BX1.out.mono BV.out.size))
                  obtain ⟨rb, hrb⟩ : ∃ rb, rb = X0.heap.size := ⟨_, rfl⟩
                  rw [← hrb] at RX1  ⊢
                  have RB := Lib.hid hrb
                  clear hrb
                  generalize X0.alloc (.cells #[] 3) = X1 at RX1 BX1  hHeld ⊢
                  refine wpAnyH_ready (rs := [4, 9]) (by kernel_rfl) (by simp) ?_
                  refine AllReadyH.cons rfl (fun K hK => ?_) (AllReadyH.cons rfl (fun K hK => ?_) AllReadyH.nil)
                  · refine step_app_reads _ rfl (.tmp 44) (.tmp 47) _ rfl Tryz.underlying59 V.heap.size (.slice (some ⟨rb, 0, none⟩) 0 0) 0 [] rfl RX1.out V.heap.size _ _ _ (L.take j) rfl (RT.out.below BX1.out) (by omega) BX1.out.size ?_
                    intro v4 X2 hown hg
                    rw [Nat.zero_add, List.nil_append] at hown
                    have BX2 := Lib.hid (BX1.out.grown hg BX1.out.size (fun q hq => ownBlock_ge RX1.out q hq))
                    have RX2 := Lib.hid hown
                    clear hown hg
                    refine hK.out _ _ (CX.out _ (BV.out.trans (BX2.out.mono BV.out.size))) (fun hHeld => ?_)
                    clear hK K
                    refine wpAnyH_ready (rs := [9]) (by kernel_rfl) (by simp) ?_
                    refine AllReadyH.cons rfl (fun K hK => ?_) AllReadyH.nil
                    go_simp
                    have NX3 := Lib.hid (show Blk (X2.alloc (.cells #[.int .i64 x] 3)) X2.heap.size 3 (i64s [x]).toArray from Blk.new _ _ _)
                    have BX3 := Lib.hid (BX2.out.alloc BX2.out.size (.cells #[.int .i64 x] 3))
                    have RX3 := Lib.hid (World.ownsRow.alloc RX2.out (.cells #[.int .i64 x] 3))
                    refine hK.out _ _ (CX.out _ (BV.out.trans (BX3.out.mono BV.out.size))) (fun hHeld => ?_)
                    clear hK K hHeld
                    have hHeld := CX.out _ (BV.out.trans (BX3.out.mono BV.out.size))
                    obtain ⟨nb, hnb⟩ : ∃ nb, nb = X2.heap.size := ⟨_, rfl⟩
                    rw [← hnb] at NX3  ⊢
                    clear hnb
                    generalize X2.alloc (.cells #[.int .i64 x] 3) = X3 at NX3 BX3 RX3 hHeld ⊢
                    refine wpAnyH_ready (rs := [10]) (by kernel_rfl) (by simp) ?_
                    refine AllReadyH.cons rfl (fun K hK => ?_) AllReadyH.nil
                    refine step_app_reads _ rfl (.tmp 48) (.tmp 53) _ rfl Tryz.underlying59 V.heap.size v4 j (L.take j) rfl RX3.out X3.heap.size _ _ _ [x] rfl (readsI_blk NX3.out) (by omega) BX3.out.size ?_
                    intro v5 X4 hown hg
                    have BX4 := Lib.hid (BX3.out.grown hg BX3.out.size (fun q hq => ownBlock_ge RX3.out q hq))
                    have RX4 := Lib.hid hown
                    clear hown hg
                    refine hK.out _ _ (CX.out _ (BV.out.trans (BX4.out.mono BV.out.size))) (fun hHeld => ?_)
                    clear hK K
                    refine wpAnyH_ready (rs := [14]) (by kernel_rfl) (by simp) ?_
                    refine AllReadyH.cons rfl (fun K hK => ?_) AllReadyH.nil
                    refine step_app_reads _ rfl (.tmp 54) (.tmp 57) _ rfl Tryz.underlying59 V.heap.size v5 (j + 1) (L.take j ++ [x]) rfl RX4.out V.heap.size _ _ _ (L.drop j) rfl ((drop_reads RL.out (fun h => by first | rfl | (rw [if_neg (by omega)]) | (rw [if_neg (by omega)]; simp) | simp | (exfalso; omega)) (by first | rfl | omega)).below BX4.out) (by omega) BX4.out.size ?_
                    intro v6 X5 hown hg
                    have BX5 := Lib.hid (BX4.out.grown hg BX4.out.size (fun q hq => ownBlock_ge RX4.out q hq))
                    have RX5 := Lib.hid hown
                    clear hown hg
                    refine hK.out _ _ (CX.out _ (BV.out.trans (BX5.out.mono BV.out.size))) (fun hHeld => ?_)
                    clear hK K
                    refine wpAnyH_take (i := 15) (v := ?_) rfl (by kernel_rfl) (by kernel_rfl) (by kernel_rfl) (fun _ _ _ h => h) (Or.inl ⟨by rfl, ?_⟩) (by assumption) ?_
                    rotate_left
                    · (intro w0 hSw; (try dsimp only at hSw); go_simp; try with_reducible rfl)
                    try simp only [List.getElem_toArray, List.getElem_cons_succ, List.getElem_cons_zero, Act.put, List.setIfInBounds_toArray, List.set_cons_zero, List.set_cons_succ]
                    refine wpAnyH_done (by kernel_rfl) ?_ _
                    go_wp2_with fail
                    go_roundw
                    case rel =>
                      have hlen2 : (L.take j ++ [x] ++ L.drop j).length = j + 1 + (L.length - j) := by first | (simp; done) | (simp; omega)
                      refine ⟨i + 1, L.take j ++ [x] ++ L.drop j, by go_num, hlt, INS.out.1, fun y => ?_, by rw [hlen2]; omega, by rw [hlen2]; exact own_less RX5.out BV.out.size, fun h => absurd h (by simp), BV.out.trans (BX5.out.mono BV.out.size)⟩
                      rw [INS.out.2 y, ME.out y, TS.out, List.mem_append]; simp
                    case measure => simp [RowKit.intOf]; omega
                  · go_simp
                    have NX2 := Lib.hid (show Blk (X1.alloc (.cells #[.int .i64 x] 3)) X1.heap.size 3 (i64s [x]).toArray from Blk.new _ _ _)
                    have BX2 := Lib.hid (BX1.out.alloc BX1.out.size (.cells #[.int .i64 x] 3))
                    have RX2 := Lib.hid (World.ownsRow.alloc RX1.out (.cells #[.int .i64 x] 3))
                    have NE := Lib.hid (show rb ≠ X1.heap.size from fun e => by have := own_lt (own_heap RX1.out rb rfl).choose_spec.1; omega)
                    refine hK.out _ _ (CX.out _ (BV.out.trans (BX2.out.mono BV.out.size))) (fun hHeld => ?_)
                    clear hK K hHeld
                    have hHeld := CX.out _ (BV.out.trans (BX2.out.mono BV.out.size))
                    obtain ⟨nb, hnb⟩ : ∃ nb, nb = X1.heap.size := ⟨_, rfl⟩
                    rw [← hnb] at NX2 NE ⊢
                    clear hnb
                    generalize X1.alloc (.cells #[.int .i64 x] 3) = X2 at NX2 BX2 RX2 hHeld ⊢
                    refine wpAnyH_ready (rs := [4]) (by kernel_rfl) (by simp) ?_
                    refine AllReadyH.cons rfl (fun K hK => ?_) AllReadyH.nil
                    refine step_app_reads _ rfl (.tmp 44) (.tmp 47) _ rfl Tryz.underlying59 V.heap.size (.slice (some ⟨rb, 0, none⟩) 0 0) 0 [] rfl RX2.out V.heap.size _ _ _ (L.take j) rfl (RT.out.below BX2.out) (by omega) BX2.out.size ?_
                    intro v4 X3 hown hg
                    rw [Nat.zero_add, List.nil_append] at hown
                    have BX3 := Lib.hid (BX2.out.grown hg BX2.out.size (fun q hq => ownBlock_ge RX2.out q hq))
                    have RX3 := Lib.hid hown
                    have NX3 := Lib.hid (NX2.out.grown hg (fun e => NE.out (by injection e)))
                    clear hown hg
                    refine hK.out _ _ (CX.out _ (BV.out.trans (BX3.out.mono BV.out.size))) (fun hHeld => ?_)
                    clear hK K
                    refine wpAnyH_ready (rs := [10]) (by kernel_rfl) (by simp) ?_
                    refine AllReadyH.cons rfl (fun K hK => ?_) AllReadyH.nil
                    refine step_app_reads _ rfl (.tmp 48) (.tmp 53) _ rfl Tryz.underlying59 V.heap.size v4 j (L.take j) rfl RX3.out X3.heap.size _ _ _ [x] rfl (readsI_blk NX3.out) (by omega) BX3.out.size ?_
                    intro v5 X4 hown hg
                    have BX4 := Lib.hid (BX3.out.grown hg BX3.out.size (fun q hq => ownBlock_ge RX3.out q hq))
                    have RX4 := Lib.hid hown
                    clear hown hg
                    refine hK.out _ _ (CX.out _ (BV.out.trans (BX4.out.mono BV.out.size))) (fun hHeld => ?_)
                    clear hK K
                    refine wpAnyH_ready (rs := [14]) (by kernel_rfl) (by simp) ?_
                    refine AllReadyH.cons rfl (fun K hK => ?_) AllReadyH.nil
                    refine step_app_reads _ rfl (.tmp 54) (.tmp 57) _ rfl Tryz.underlying59 V.heap.size v5 (j + 1) (L.take j ++ [x]) rfl RX4.out V.heap.size _ _ _ (L.drop j) rfl ((drop_reads RL.out (fun h => by first | rfl | (rw [if_neg (by omega)]) | (rw [if_neg (by omega)]; simp) | simp | (exfalso; omega)) (by first | rfl | omega)).below BX4.out) (by omega) BX4.out.size ?_
                    intro v6 X5 hown hg
                    have BX5 := Lib.hid (BX4.out.grown hg BX4.out.size (fun q hq => ownBlock_ge RX4.out q hq))
                    have RX5 := Lib.hid hown
                    clear hown hg
                    refine hK.out _ _ (CX.out _ (BV.out.trans (BX5.out.mono BV.out.size))) (fun hHeld => ?_)
                    clear hK K
                    refine wpAnyH_take (i := 15) (v := ?_) rfl (by kernel_rfl) (by kernel_rfl) (by kernel_rfl) (fun _ _ _ h => h) (Or.inl ⟨by rfl, ?_⟩) (by assumption) ?_
                    rotate_left
                    · (intro w0 hSw; (try dsimp only at hSw); go_simp; try with_reducible rfl)
                    try simp only [List.getElem_toArray, List.getElem_cons_succ, List.getElem_cons_zero, Act.put, List.setIfInBounds_toArray, List.set_cons_zero, List.set_cons_succ]
                    refine wpAnyH_done (by kernel_rfl) ?_ _
                    go_wp2_with fail
                    go_roundw
                    case rel =>
                      have hlen2 : (L.take j ++ [x] ++ L.drop j).length = j + 1 + (L.length - j) := by first | (simp; done) | (simp; omega)
                      refine ⟨i + 1, L.take j ++ [x] ++ L.drop j, by go_num, hlt, INS.out.1, fun y => ?_, by rw [hlen2]; omega, by rw [hlen2]; exact own_less RX5.out BV.out.size, fun h => absurd h (by simp), BV.out.trans (BX5.out.mono BV.out.size)⟩
                      rw [INS.out.2 y, ME.out y, TS.out, List.mem_append]; simp
                    case measure => simp [RowKit.intOf]; omega
                · go_simp
                  have NX1 := Lib.hid (show Blk (X0.alloc (.cells #[.int .i64 x] 3)) X0.heap.size 3 (i64s [x]).toArray from Blk.new _ _ _)
                  have BX1 := Lib.hid (BX0.out.alloc BX0.out.size (.cells #[.int .i64 x] 3))
                  refine hK.out _ _ (CX.out _ (BV.out.trans (BX1.out.mono BV.out.size))) (fun hHeld => ?_)
                  clear hK K hHeld
                  have hHeld := CX.out _ (BV.out.trans (BX1.out.mono BV.out.size))
                  obtain ⟨nb, hnb⟩ : ∃ nb, nb = X0.heap.size := ⟨_, rfl⟩
                  rw [← hnb] at NX1  ⊢
                  clear hnb
                  generalize X0.alloc (.cells #[.int .i64 x] 3) = X1 at NX1 BX1  hHeld ⊢
                  refine wpAnyH_ready (rs := [0]) (by kernel_rfl) (by simp) ?_
                  refine AllReadyH.cons rfl (fun K hK => ?_) AllReadyH.nil
                  go_simp
                  have RX2 := Lib.hid (own_empty (base := V.heap.size) X1 3 BX1.out.size)
                  have BX2 := Lib.hid (BX1.out.alloc BX1.out.size (.cells #[] 3))
                  have NX2 := Lib.hid (NX1.out.alloc (.cells #[] 3))
                  have NE := Lib.hid (show X1.heap.size ≠ nb from fun e => by have := NX1.out.lt; omega)
                  refine hK.out _ _ (CX.out _ (BV.out.trans (BX2.out.mono BV.out.size))) (fun hHeld => ?_)
                  clear hK K hHeld
                  have hHeld := CX.out _ (BV.out.trans (BX2.out.mono BV.out.size))
                  obtain ⟨rb, hrb⟩ : ∃ rb, rb = X1.heap.size := ⟨_, rfl⟩
                  rw [← hrb] at RX2 NE ⊢
                  have RB := Lib.hid hrb
                  clear hrb
                  generalize X1.alloc (.cells #[] 3) = X2 at RX2 BX2 NX2 hHeld ⊢
                  refine wpAnyH_ready (rs := [4]) (by kernel_rfl) (by simp) ?_
                  refine AllReadyH.cons rfl (fun K hK => ?_) AllReadyH.nil
                  refine step_app_reads _ rfl (.tmp 44) (.tmp 47) _ rfl Tryz.underlying59 V.heap.size (.slice (some ⟨rb, 0, none⟩) 0 0) 0 [] rfl RX2.out V.heap.size _ _ _ (L.take j) rfl (RT.out.below BX2.out) (by omega) BX2.out.size ?_
                  intro v4 X3 hown hg
                  rw [Nat.zero_add, List.nil_append] at hown
                  have BX3 := Lib.hid (BX2.out.grown hg BX2.out.size (fun q hq => ownBlock_ge RX2.out q hq))
                  have RX3 := Lib.hid hown
                  have NX3 := Lib.hid (NX2.out.grown hg (fun e => NE.out (by injection e)))
                  clear hown hg
                  refine hK.out _ _ (CX.out _ (BV.out.trans (BX3.out.mono BV.out.size))) (fun hHeld => ?_)
                  clear hK K
                  refine wpAnyH_ready (rs := [10]) (by kernel_rfl) (by simp) ?_
                  refine AllReadyH.cons rfl (fun K hK => ?_) AllReadyH.nil
                  refine step_app_reads _ rfl (.tmp 48) (.tmp 53) _ rfl Tryz.underlying59 V.heap.size v4 j (L.take j) rfl RX3.out X3.heap.size _ _ _ [x] rfl (readsI_blk NX3.out) (by omega) BX3.out.size ?_
                  intro v5 X4 hown hg
                  have BX4 := Lib.hid (BX3.out.grown hg BX3.out.size (fun q hq => ownBlock_ge RX3.out q hq))
                  have RX4 := Lib.hid hown
                  clear hown hg
                  refine hK.out _ _ (CX.out _ (BV.out.trans (BX4.out.mono BV.out.size))) (fun hHeld => ?_)
                  clear hK K
                  refine wpAnyH_ready (rs := [14]) (by kernel_rfl) (by simp) ?_
                  refine AllReadyH.cons rfl (fun K hK => ?_) AllReadyH.nil
                  refine step_app_reads _ rfl (.tmp 54) (.tmp 57) _ rfl Tryz.underlying59 V.heap.size v5 (j + 1) (L.take j ++ [x]) rfl RX4.out V.heap.size _ _ _ (L.drop j) rfl ((drop_reads RL.out (fun h => by first | rfl | (rw [if_neg (by omega)]) | (rw [if_neg (by omega)]; simp) | simp | (exfalso; omega)) (by first | rfl | omega)).below BX4.out) (by omega) BX4.out.size ?_
                  intro v6 X5 hown hg
                  have BX5 := Lib.hid (BX4.out.grown hg BX4.out.size (fun q hq => ownBlock_ge RX4.out q hq))
                  have RX5 := Lib.hid hown
                  clear hown hg
                  refine hK.out _ _ (CX.out _ (BV.out.trans (BX5.out.mono BV.out.size))) (fun hHeld => ?_)
                  clear hK K
                  refine wpAnyH_take (i := 15) (v := ?_) rfl (by kernel_rfl) (by kernel_rfl) (by kernel_rfl) (fun _ _ _ h => h) (Or.inl ⟨by rfl, ?_⟩) (by assumption) ?_
                  rotate_left
                  · (intro w0 hSw; (try dsimp only at hSw); go_simp; try with_reducible rfl)
                  try simp only [List.getElem_toArray, List.getElem_cons_succ, List.getElem_cons_zero, Act.put, List.setIfInBounds_toArray, List.set_cons_zero, List.set_cons_succ]
                  refine wpAnyH_done (by kernel_rfl) ?_ _
                  go_wp2_with fail
                  go_roundw
                  case rel =>
                    have hlen2 : (L.take j ++ [x] ++ L.drop j).length = j + 1 + (L.length - j) := by first | (simp; done) | (simp; omega)
                    refine ⟨i + 1, L.take j ++ [x] ++ L.drop j, by go_num, hlt, INS.out.1, fun y => ?_, by rw [hlen2]; omega, by rw [hlen2]; exact own_less RX5.out BV.out.size, fun h => absurd h (by simp), BV.out.trans (BX5.out.mono BV.out.size)⟩
                    rw [INS.out.2 y, ME.out y, TS.out, List.mem_append]; simp
                  case measure => simp [RowKit.intOf]; omega
          · obtain rfl : j = L.length := by omega
            have INS := Lib.hid (ris_ins (x := x) RI.out hj LO.out (fun h => absurd h (by omega)))
            go_wp2_with fail
            go_quiet (fail)
            go_wp2_with fail
            generalize hV0 : Y.drewN _ = V0
            have kx0 : V0.cell? ⟨bl, ol + i, none⟩ = some (.int .i64 x) := by rw [← hV0]; exact kx
            have RV0 := Lib.hid (show V0.ownsRow w.heap.size 3 1 (.slice (some ⟨g, 0, none⟩) L.length cap) L.length (i64s L) from by rw [← hV0]; exact RY.out)
            have BV0 := Lib.hid (show Below w.heap.size w V0 from by rw [← hV0]; exact below_drewN BY.out _)
            clear hV0 kx
            go_quiet (fail)
            go_wp2_with fail
            generalize hV : V0.drewN _ = V
            have BV := Lib.hid (show Below w.heap.size w V from by rw [← hV]; exact below_drewN BV0.out _)
            have RL := Lib.hid (Reads.of_own (show V.ownsRow w.heap.size 3 1 (.slice (some ⟨g, 0, none⟩) L.length cap) L.length (i64s L) from by rw [← hV]; exact RV0.out))
            have RT := Lib.hid (take_reads RL.out hj)
            clear hV kx0
            refine wp_region_held_drew (S := fun w' => w'.cell? ⟨bl, ol + i, none⟩ = some (.int .i64 x)) (by kernel_rfl) (CX.out _ BV.out.drew) (fun hHeld => ?_)
            have BX0 := Lib.hid (show Below V.heap.size V V.drew from (Below.refl _ V).drew)
            refine wpAnyH_take (i := 1) (v := ?_) rfl (by kernel_rfl) (by kernel_rfl) (by kernel_rfl) (fun _ _ _ h => h) (Or.inl ⟨by rfl, ?_⟩) (by assumption) ?_
            rotate_left
            · (intro w0 hSw; (try dsimp only at hSw); go_simp; try with_reducible rfl)
            try simp only [List.getElem_toArray, List.getElem_cons_succ, List.getElem_cons_zero, Act.put, List.setIfInBounds_toArray, List.set_cons_zero, List.set_cons_succ]
            refine wpAnyH_take (i := 2) (v := ?_) rfl (by kernel_rfl) (by kernel_rfl) (by kernel_rfl) (fun _ _ _ h => h) (Or.inl ⟨by rfl, ?_⟩) (by assumption) ?_
            rotate_left
            · (intro w0 hSw; (try dsimp only at hSw); go_simp; try with_reducible rfl)
            try simp only [List.getElem_toArray, List.getElem_cons_succ, List.getElem_cons_zero, Act.put, List.setIfInBounds_toArray, List.set_cons_zero, List.set_cons_succ]
            refine wpAnyH_take (i := 3) (v := ?_) rfl (by kernel_rfl) (by kernel_rfl) (by kernel_rfl) (fun _ _ _ h => h) (Or.inl ⟨by rfl, ?_⟩) (by assumption) ?_
            rotate_left
            · (intro w0 hSw; (try dsimp only at hSw); go_simp; try with_reducible rfl)
            try simp only [List.getElem_toArray, List.getElem_cons_succ, List.getElem_cons_zero, Act.put, List.setIfInBounds_toArray, List.set_cons_zero, List.set_cons_succ]
            refine wpAnyH_take (i := 5) (v := ?_) rfl (by kernel_rfl) (by kernel_rfl) (by kernel_rfl) (fun _ _ _ h => h) (Or.inl ⟨by rfl, ?_⟩) (by assumption) ?_
            rotate_left
            · (intro w0 hSw; (try dsimp only at hSw); go_simp; try with_reducible rfl)
            try simp only [List.getElem_toArray, List.getElem_cons_succ, List.getElem_cons_zero, Act.put, List.setIfInBounds_toArray, List.set_cons_zero, List.set_cons_succ]
            refine wpAnyH_take (i := 6) (v := ?_) rfl (by kernel_rfl) (by kernel_rfl) (by kernel_rfl) (fun _ _ _ h => h) (Or.inl ⟨by rfl, ?_⟩) (by assumption) ?_
            rotate_left
            · (intro w0 hSw; (try dsimp only at hSw); go_simp; try with_reducible rfl)
            try simp only [List.getElem_toArray, List.getElem_cons_succ, List.getElem_cons_zero, Act.put, List.setIfInBounds_toArray, List.set_cons_zero, List.set_cons_succ]
            refine wpAnyH_take (i := 7) (v := ?_) rfl (by kernel_rfl) (by kernel_rfl) (by kernel_rfl) (fun _ _ _ h => h) (Or.inl ⟨by rfl, ?_⟩) (by assumption) ?_
            rotate_left
            · (intro w0 hSw; (try dsimp only at hSw); go_simp; try with_reducible rfl)
            try simp only [List.getElem_toArray, List.getElem_cons_succ, List.getElem_cons_zero, Act.put, List.setIfInBounds_toArray, List.set_cons_zero, List.set_cons_succ]
            refine wpAnyH_take (i := 8) (v := ?_) rfl (by kernel_rfl) (by kernel_rfl) (by kernel_rfl) (fun _ _ _ h => h) (Or.inl ⟨by rfl, ?_⟩) (by assumption) ?_
            rotate_left
            · (intro w0 hSw; (try dsimp only at hSw); go_simp; try with_reducible rfl)
            try simp only [List.getElem_toArray, List.getElem_cons_succ, List.getElem_cons_zero, Act.put, List.setIfInBounds_toArray, List.set_cons_zero, List.set_cons_succ]
            refine wpAnyH_take (i := 11) (v := ?_) rfl (by kernel_rfl) (by kernel_rfl) (by kernel_rfl) (fun _ _ _ h => h) (Or.inl ⟨by rfl, ?_⟩) (by assumption) ?_
            rotate_left
            · (intro w0 hSw; (try dsimp only at hSw); go_simp; try with_reducible rfl)
            try simp only [List.getElem_toArray, List.getElem_cons_succ, List.getElem_cons_zero, Act.put, List.setIfInBounds_toArray, List.set_cons_zero, List.set_cons_succ]
            refine wpAnyH_take (i := 12) (v := ?_) rfl (by kernel_rfl) (by kernel_rfl) (by kernel_rfl) (fun _ _ _ h => h) (Or.inl ⟨by rfl, ?_⟩) (by assumption) ?_
            rotate_left
            · (intro w0 hSw; (try dsimp only at hSw); go_simp; try with_reducible rfl)
            try simp only [List.getElem_toArray, List.getElem_cons_succ, List.getElem_cons_zero, Act.put, List.setIfInBounds_toArray, List.set_cons_zero, List.set_cons_succ]
            refine wpAnyH_take (i := 13) (v := ?_) rfl (by kernel_rfl) (by kernel_rfl) (by kernel_rfl) (fun _ _ _ h => h) (Or.inl ⟨by rfl, ?_⟩) (by assumption) ?_
            rotate_left
            · (intro w0 hSw; (try dsimp only at hSw); go_simp; try with_reducible rfl)
            try simp only [List.getElem_toArray, List.getElem_cons_succ, List.getElem_cons_zero, Act.put, List.setIfInBounds_toArray, List.set_cons_zero, List.set_cons_succ]
            generalize V.drew = X0 at BX0 hHeld ⊢
            refine wpAnyH_ready (rs := [0, 9]) (by kernel_rfl) (by simp) ?_
            refine AllReadyH.cons rfl (fun K hK => ?_) (AllReadyH.cons rfl (fun K hK => ?_) AllReadyH.nil)
            · go_simp
              have RX1 := Lib.hid (own_empty (base := V.heap.size) X0 3 BX0.out.size)
              have BX1 := Lib.hid (BX0.out.alloc BX0.out.size (.cells #[] 3))
              refine hK.out _ _ (CX.out _ (BV.out.trans (BX1.out.mono BV.out.size))) (fun hHeld => ?_)
              clear hK K hHeld
              have hHeld := CX.out _ (BV.out.trans (BX1.out.mono BV.out.size))
              obtain ⟨rb, hrb⟩ : ∃ rb, rb = X0.heap.size := ⟨_, rfl⟩
              rw [← hrb] at RX1  ⊢
              have RB := Lib.hid hrb
              clear hrb
              generalize X0.alloc (.cells #[] 3) = X1 at RX1 BX1  hHeld ⊢
              refine wpAnyH_ready (rs := [4, 9]) (by kernel_rfl) (by simp) ?_
              refine AllReadyH.cons rfl (fun K hK => ?_) (AllReadyH.cons rfl (fun K hK => ?_) AllReadyH.nil)
              · refine step_app_reads _ rfl (.tmp 44) (.tmp 47) _ rfl Tryz.underlying59 V.heap.size (.slice (some ⟨rb, 0, none⟩) 0 0) 0 [] rfl RX1.out V.heap.size _ _ _ (L.take L.length) rfl (RT.out.below BX1.out) (by omega) BX1.out.size ?_
                intro v4 X2 hown hg
                rw [Nat.zero_add, List.nil_append] at hown
                have BX2 := Lib.hid (BX1.out.grown hg BX1.out.size (fun q hq => ownBlock_ge RX1.out q hq))
                have RX2 := Lib.hid hown
                clear hown hg
                refine hK.out _ _ (CX.out _ (BV.out.trans (BX2.out.mono BV.out.size))) (fun hHeld => ?_)
                clear hK K
                refine wpAnyH_ready (rs := [9]) (by kernel_rfl) (by simp) ?_
                refine AllReadyH.cons rfl (fun K hK => ?_) AllReadyH.nil
                go_simp
                have NX3 := Lib.hid (show Blk (X2.alloc (.cells #[.int .i64 x] 3)) X2.heap.size 3 (i64s [x]).toArray from Blk.new _ _ _)
                have BX3 := Lib.hid (BX2.out.alloc BX2.out.size (.cells #[.int .i64 x] 3))
                have RX3 := Lib.hid (World.ownsRow.alloc RX2.out (.cells #[.int .i64 x] 3))
                refine hK.out _ _ (CX.out _ (BV.out.trans (BX3.out.mono BV.out.size))) (fun hHeld => ?_)
                clear hK K hHeld
                have hHeld := CX.out _ (BV.out.trans (BX3.out.mono BV.out.size))
                obtain ⟨nb, hnb⟩ : ∃ nb, nb = X2.heap.size := ⟨_, rfl⟩
                rw [← hnb] at NX3  ⊢
                clear hnb
                generalize X2.alloc (.cells #[.int .i64 x] 3) = X3 at NX3 BX3 RX3 hHeld ⊢
                refine wpAnyH_ready (rs := [10]) (by kernel_rfl) (by simp) ?_
                refine AllReadyH.cons rfl (fun K hK => ?_) AllReadyH.nil
                refine step_app_reads _ rfl (.tmp 48) (.tmp 53) _ rfl Tryz.underlying59 V.heap.size v4 L.length (L.take L.length) rfl RX3.out X3.heap.size _ _ _ [x] rfl (readsI_blk NX3.out) (by omega) BX3.out.size ?_
                intro v5 X4 hown hg
                have BX4 := Lib.hid (BX3.out.grown hg BX3.out.size (fun q hq => ownBlock_ge RX3.out q hq))
                have RX4 := Lib.hid hown
                clear hown hg
                refine hK.out _ _ (CX.out _ (BV.out.trans (BX4.out.mono BV.out.size))) (fun hHeld => ?_)
                clear hK K
                refine wpAnyH_ready (rs := [14]) (by kernel_rfl) (by simp) ?_
                refine AllReadyH.cons rfl (fun K hK => ?_) AllReadyH.nil
                refine step_app_reads _ rfl (.tmp 54) (.tmp 57) _ rfl Tryz.underlying59 V.heap.size v5 (L.length + 1) (L.take L.length ++ [x]) rfl RX4.out V.heap.size _ _ _ (L.drop L.length) rfl ((drop_reads RL.out (fun h => by first | rfl | (rw [if_neg (by omega)]) | (rw [if_neg (by omega)]; simp) | simp | (exfalso; omega)) (by first | rfl | omega)).below BX4.out) (by omega) BX4.out.size ?_
                intro v6 X5 hown hg
                have BX5 := Lib.hid (BX4.out.grown hg BX4.out.size (fun q hq => ownBlock_ge RX4.out q hq))
                have RX5 := Lib.hid hown
                clear hown hg
                refine hK.out _ _ (CX.out _ (BV.out.trans (BX5.out.mono BV.out.size))) (fun hHeld => ?_)
                clear hK K
                refine wpAnyH_take (i := 15) (v := ?_) rfl (by kernel_rfl) (by kernel_rfl) (by kernel_rfl) (fun _ _ _ h => h) (Or.inl ⟨by rfl, ?_⟩) (by assumption) ?_
                rotate_left
                · (intro w0 hSw; (try dsimp only at hSw); go_simp; try with_reducible rfl)
                try simp only [List.getElem_toArray, List.getElem_cons_succ, List.getElem_cons_zero, Act.put, List.setIfInBounds_toArray, List.set_cons_zero, List.set_cons_succ]
                refine wpAnyH_done (by kernel_rfl) ?_ _
                go_wp2_with fail
                go_roundw
                case rel =>
                  have hlen2 : (L.take L.length ++ [x] ++ L.drop L.length).length = L.length + 1 + 0 := by first | (simp; done) | (simp; omega)
                  refine ⟨i + 1, L.take L.length ++ [x] ++ L.drop L.length, by go_num, hlt, INS.out.1, fun y => ?_, by rw [hlen2]; omega, by rw [hlen2]; exact own_less RX5.out BV.out.size, fun h => absurd h (by simp), BV.out.trans (BX5.out.mono BV.out.size)⟩
                  rw [INS.out.2 y, ME.out y, TS.out, List.mem_append]; simp
                case measure => simp [RowKit.intOf]; omega
              · go_simp
                have NX2 := Lib.hid (show Blk (X1.alloc (.cells #[.int .i64 x] 3)) X1.heap.size 3 (i64s [x]).toArray from Blk.new _ _ _)
                have BX2 := Lib.hid (BX1.out.alloc BX1.out.size (.cells #[.int .i64 x] 3))
                have RX2 := Lib.hid (World.ownsRow.alloc RX1.out (.cells #[.int .i64 x] 3))
                have NE := Lib.hid (show rb ≠ X1.heap.size from fun e => by have := own_lt (own_heap RX1.out rb rfl).choose_spec.1; omega)
                refine hK.out _ _ (CX.out _ (BV.out.trans (BX2.out.mono BV.out.size))) (fun hHeld => ?_)
                clear hK K hHeld
                have hHeld := CX.out _ (BV.out.trans (BX2.out.mono BV.out.size))
                obtain ⟨nb, hnb⟩ : ∃ nb, nb = X1.heap.size := ⟨_, rfl⟩
                rw [← hnb] at NX2 NE ⊢
                clear hnb
                generalize X1.alloc (.cells #[.int .i64 x] 3) = X2 at NX2 BX2 RX2 hHeld ⊢
                refine wpAnyH_ready (rs := [4]) (by kernel_rfl) (by simp) ?_
                refine AllReadyH.cons rfl (fun K hK => ?_) AllReadyH.nil
                refine step_app_reads _ rfl (.tmp 44) (.tmp 47) _ rfl Tryz.underlying59 V.heap.size (.slice (some ⟨rb, 0, none⟩) 0 0) 0 [] rfl RX2.out V.heap.size _ _ _ (L.take L.length) rfl (RT.out.below BX2.out) (by omega) BX2.out.size ?_
                intro v4 X3 hown hg
                rw [Nat.zero_add, List.nil_append] at hown
                have BX3 := Lib.hid (BX2.out.grown hg BX2.out.size (fun q hq => ownBlock_ge RX2.out q hq))
                have RX3 := Lib.hid hown
                have NX3 := Lib.hid (NX2.out.grown hg (fun e => NE.out (by injection e)))
                clear hown hg
                refine hK.out _ _ (CX.out _ (BV.out.trans (BX3.out.mono BV.out.size))) (fun hHeld => ?_)
                clear hK K
                refine wpAnyH_ready (rs := [10]) (by kernel_rfl) (by simp) ?_
                refine AllReadyH.cons rfl (fun K hK => ?_) AllReadyH.nil
                refine step_app_reads _ rfl (.tmp 48) (.tmp 53) _ rfl Tryz.underlying59 V.heap.size v4 L.length (L.take L.length) rfl RX3.out X3.heap.size _ _ _ [x] rfl (readsI_blk NX3.out) (by omega) BX3.out.size ?_
                intro v5 X4 hown hg
                have BX4 := Lib.hid (BX3.out.grown hg BX3.out.size (fun q hq => ownBlock_ge RX3.out q hq))
                have RX4 := Lib.hid hown
                clear hown hg
                refine hK.out _ _ (CX.out _ (BV.out.trans (BX4.out.mono BV.out.size))) (fun hHeld => ?_)
                clear hK K
                refine wpAnyH_ready (rs := [14]) (by kernel_rfl) (by simp) ?_
                refine AllReadyH.cons rfl (fun K hK => ?_) AllReadyH.nil
                refine step_app_reads _ rfl (.tmp 54) (.tmp 57) _ rfl Tryz.underlying59 V.heap.size v5 (L.length + 1) (L.take L.length ++ [x]) rfl RX4.out V.heap.size _ _ _ (L.drop L.length) rfl ((drop_reads RL.out (fun h => by first | rfl | (rw [if_neg (by omega)]) | (rw [if_neg (by omega)]; simp) | simp | (exfalso; omega)) (by first | rfl | omega)).below BX4.out) (by omega) BX4.out.size ?_
                intro v6 X5 hown hg
                have BX5 := Lib.hid (BX4.out.grown hg BX4.out.size (fun q hq => ownBlock_ge RX4.out q hq))
                have RX5 := Lib.hid hown
                clear hown hg
                refine hK.out _ _ (CX.out _ (BV.out.trans (BX5.out.mono BV.out.size))) (fun hHeld => ?_)
                clear hK K
                refine wpAnyH_take (i := 15) (v := ?_) rfl (by kernel_rfl) (by kernel_rfl) (by kernel_rfl) (fun _ _ _ h => h) (Or.inl ⟨by rfl, ?_⟩) (by assumption) ?_
                rotate_left
                · (intro w0 hSw; (try dsimp only at hSw); go_simp; try with_reducible rfl)
                try simp only [List.getElem_toArray, List.getElem_cons_succ, List.getElem_cons_zero, Act.put, List.setIfInBounds_toArray, List.set_cons_zero, List.set_cons_succ]
                refine wpAnyH_done (by kernel_rfl) ?_ _
                go_wp2_with fail
                go_roundw
                case rel =>
                  have hlen2 : (L.take L.length ++ [x] ++ L.drop L.length).length = L.length + 1 + 0 := by first | (simp; done) | (simp; omega)
                  refine ⟨i + 1, L.take L.length ++ [x] ++ L.drop L.length, by go_num, hlt, INS.out.1, fun y => ?_, by rw [hlen2]; omega, by rw [hlen2]; exact own_less RX5.out BV.out.size, fun h => absurd h (by simp), BV.out.trans (BX5.out.mono BV.out.size)⟩
                  rw [INS.out.2 y, ME.out y, TS.out, List.mem_append]; simp
                case measure => simp [RowKit.intOf]; omega
            · go_simp
              have NX1 := Lib.hid (show Blk (X0.alloc (.cells #[.int .i64 x] 3)) X0.heap.size 3 (i64s [x]).toArray from Blk.new _ _ _)
              have BX1 := Lib.hid (BX0.out.alloc BX0.out.size (.cells #[.int .i64 x] 3))
              refine hK.out _ _ (CX.out _ (BV.out.trans (BX1.out.mono BV.out.size))) (fun hHeld => ?_)
              clear hK K hHeld
              have hHeld := CX.out _ (BV.out.trans (BX1.out.mono BV.out.size))
              obtain ⟨nb, hnb⟩ : ∃ nb, nb = X0.heap.size := ⟨_, rfl⟩
              rw [← hnb] at NX1  ⊢
              clear hnb
              generalize X0.alloc (.cells #[.int .i64 x] 3) = X1 at NX1 BX1  hHeld ⊢
              refine wpAnyH_ready (rs := [0]) (by kernel_rfl) (by simp) ?_
              refine AllReadyH.cons rfl (fun K hK => ?_) AllReadyH.nil
              go_simp
              have RX2 := Lib.hid (own_empty (base := V.heap.size) X1 3 BX1.out.size)
              have BX2 := Lib.hid (BX1.out.alloc BX1.out.size (.cells #[] 3))
              have NX2 := Lib.hid (NX1.out.alloc (.cells #[] 3))
              have NE := Lib.hid (show X1.heap.size ≠ nb from fun e => by have := NX1.out.lt; omega)
              refine hK.out _ _ (CX.out _ (BV.out.trans (BX2.out.mono BV.out.size))) (fun hHeld => ?_)
              clear hK K hHeld
              have hHeld := CX.out _ (BV.out.trans (BX2.out.mono BV.out.size))
              obtain ⟨rb, hrb⟩ : ∃ rb, rb = X1.heap.size := ⟨_, rfl⟩
              rw [← hrb] at RX2 NE ⊢
              have RB := Lib.hid hrb
              clear hrb
              generalize X1.alloc (.cells #[] 3) = X2 at RX2 BX2 NX2 hHeld ⊢
              refine wpAnyH_ready (rs := [4]) (by kernel_rfl) (by simp) ?_
              refine AllReadyH.cons rfl (fun K hK => ?_) AllReadyH.nil
              refine step_app_reads _ rfl (.tmp 44) (.tmp 47) _ rfl Tryz.underlying59 V.heap.size (.slice (some ⟨rb, 0, none⟩) 0 0) 0 [] rfl RX2.out V.heap.size _ _ _ (L.take L.length) rfl (RT.out.below BX2.out) (by omega) BX2.out.size ?_
              intro v4 X3 hown hg
              rw [Nat.zero_add, List.nil_append] at hown
              have BX3 := Lib.hid (BX2.out.grown hg BX2.out.size (fun q hq => ownBlock_ge RX2.out q hq))
              have RX3 := Lib.hid hown
              have NX3 := Lib.hid (NX2.out.grown hg (fun e => NE.out (by injection e)))
              clear hown hg
              refine hK.out _ _ (CX.out _ (BV.out.trans (BX3.out.mono BV.out.size))) (fun hHeld => ?_)
              clear hK K
              refine wpAnyH_ready (rs := [10]) (by kernel_rfl) (by simp) ?_
              refine AllReadyH.cons rfl (fun K hK => ?_) AllReadyH.nil
              refine step_app_reads _ rfl (.tmp 48) (.tmp 53) _ rfl Tryz.underlying59 V.heap.size v4 L.length (L.take L.length) rfl RX3.out X3.heap.size _ _ _ [x] rfl (readsI_blk NX3.out) (by omega) BX3.out.size ?_
              intro v5 X4 hown hg
              have BX4 := Lib.hid (BX3.out.grown hg BX3.out.size (fun q hq => ownBlock_ge RX3.out q hq))
              have RX4 := Lib.hid hown
              clear hown hg
              refine hK.out _ _ (CX.out _ (BV.out.trans (BX4.out.mono BV.out.size))) (fun hHeld => ?_)
              clear hK K
              refine wpAnyH_ready (rs := [14]) (by kernel_rfl) (by simp) ?_
              refine AllReadyH.cons rfl (fun K hK => ?_) AllReadyH.nil
              refine step_app_reads _ rfl (.tmp 54) (.tmp 57) _ rfl Tryz.underlying59 V.heap.size v5 (L.length + 1) (L.take L.length ++ [x]) rfl RX4.out V.heap.size _ _ _ (L.drop L.length) rfl ((drop_reads RL.out (fun h => by first | rfl | (rw [if_neg (by omega)]) | (rw [if_neg (by omega)]; simp) | simp | (exfalso; omega)) (by first | rfl | omega)).below BX4.out) (by omega) BX4.out.size ?_
              intro v6 X5 hown hg
              have BX5 := Lib.hid (BX4.out.grown hg BX4.out.size (fun q hq => ownBlock_ge RX4.out q hq))
              have RX5 := Lib.hid hown
              clear hown hg
              refine hK.out _ _ (CX.out _ (BV.out.trans (BX5.out.mono BV.out.size))) (fun hHeld => ?_)
              clear hK K
              refine wpAnyH_take (i := 15) (v := ?_) rfl (by kernel_rfl) (by kernel_rfl) (by kernel_rfl) (fun _ _ _ h => h) (Or.inl ⟨by rfl, ?_⟩) (by assumption) ?_
              rotate_left
              · (intro w0 hSw; (try dsimp only at hSw); go_simp; try with_reducible rfl)
              try simp only [List.getElem_toArray, List.getElem_cons_succ, List.getElem_cons_zero, Act.put, List.setIfInBounds_toArray, List.set_cons_zero, List.set_cons_succ]
              refine wpAnyH_done (by kernel_rfl) ?_ _
              go_wp2_with fail
              go_roundw
              case rel =>
                have hlen2 : (L.take L.length ++ [x] ++ L.drop L.length).length = L.length + 1 + 0 := by first | (simp; done) | (simp; omega)
                refine ⟨i + 1, L.take L.length ++ [x] ++ L.drop L.length, by go_num, hlt, INS.out.1, fun y => ?_, by rw [hlen2]; omega, by rw [hlen2]; exact own_less RX5.out BV.out.size, fun h => absurd h (by simp), BV.out.trans (BX5.out.mono BV.out.size)⟩
                rw [INS.out.2 y, ME.out y, TS.out, List.mem_append]; simp
              case measure => simp [RowKit.intOf]; omega
    · obtain rfl : i = n := by omega
      go_wp2_with fail
      go_ret
      refine ⟨_, L, rfl, RI.out, fun y => ?_, hlen, RO.out, HB.out⟩
      have := ME.out y
      rw [List.take_of_length_le (by rw [HL.out]; exact Nat.le_refl _)] at this
      exact this
end
end Go.Proofs.YtmfoffigmojdcaaGreat
