/- The contract of Circles. -/
import Derived.Test.YtiapnaecdefonaaGraD
import Derived.Test.YtiapnaecdefonaaGraF
namespace Go.Proofs.Ytiapnaecdefonaa
open Go.RowKit
set_option linter.unusedVariables false
set_option linter.unusedSimpArgs false

theorem WOut.snoc {F : Int → List Int} {L left : List Int} {fr : Int} (h : WOut F (· ∈ L) fr left) (hd : L.Nodup) (hk : Kos F L) : (L ++ left).Nodup ∧ Kos F (L ++ left) :=
  ⟨List.nodup_append.2 ⟨hd, h.nodup, fun a ha b hb e => h.off b hb (e ▸ ha)⟩, h.kos L (fun x => Iff.rfl) hk⟩
theorem WOut.sub {F : Int → List Int} {S : Int → Prop} {left U : List Int} {fr : Int} (h : WOut F S fr left) (hU : ∀ x y, y ∈ F x → y ∈ U) (hf : fr ∈ U) : ∀ x ∈ left, x ∈ U := fun x hx => by
  have h1 := h.rt x hx
  cases h1 with
  | refl => exact hf
  | tail _ h2 => exact hU _ _ h2
theorem split_rev {L : List Int} {k : Nat} {x : Int} (h : L.reverse[k]? = some x) : L = (L.reverse.drop (k + 1)).reverse ++ x :: (L.reverse.take k).reverse := by
  obtain ⟨hk, e⟩ := List.getElem?_eq_some_iff.1 h
  have h1 : L.reverse = L.reverse.take k ++ x :: L.reverse.drop (k + 1) := by rw [← e, List.getElem_cons_drop, List.take_append_drop]
  have h2 := congrArg List.reverse h1
  rw [List.reverse_reverse] at h2
  conv => lhs; rw [h2]
  rw [List.reverse_append, List.reverse_cons, List.append_assoc]
  rfl
theorem circ_yes {F : Int → List Int} {T : Int → Prop} {al lot : List Int} {x : Int} (hal : ∀ u, u ∈ al ↔ T u ∧ Rp F u u) (hl : ∀ u ∈ lot, Rp F u u) : ∀ u, u ∈ al ++ lot ↔ (T u ∨ u ∈ lot) ∧ Rp F u u := fun u => by
  rw [List.mem_append, hal]
  constructor
  · rintro (⟨h1, h2⟩ | h)
    · exact ⟨.inl h1, h2⟩
    · exact ⟨.inr h, hl u h⟩
  · rintro ⟨h1 | h1, h2⟩
    · exact .inl ⟨h1, h2⟩
    · exact .inr h1
theorem circ_no {F : Int → List Int} {T : Int → Prop} {al lot : List Int} {x : Int} (hal : ∀ u, u ∈ al ↔ T u ∧ Rp F u u) (hl : ∀ u ∈ lot, ¬ Rp F u u) : ∀ u, u ∈ al ↔ (T u ∨ u ∈ lot) ∧ Rp F u u := fun u => by
  rw [hal]
  constructor
  · rintro ⟨h1, h2⟩; exact ⟨.inl h1, h2⟩
  · rintro ⟨h1 | h1, h2⟩
    · exact ⟨h1, h2⟩
    · exact absurd h2 (hl u h1)
theorem circ_nodes {E : Egs} {x : Int} (h : Rp (nxt E) x x) : x ∈ nds E := by obtain ⟨b, _, h2⟩ := h; exact (nds_of h2).2
theorem seen_made (w : World) : SeenM (w.alloc (.map #[] 0)) w.heap.size 0 (fun _ => False) := ⟨_, mapV_made w, fun k => .inr ⟨id, rfl⟩⟩
section
variable {w : World} {n : Nat} {A : Option Addr} {ls : List (List Int)}
set_option maxRecDepth 100000 in
set_option maxHeartbeats 16000000 in
theorem circlesG_any {c : Nat} (w : World) (h : EdgM w w.heap.size A n ls) (hn : n ≤ 200) :
    Calls Try.prog 22 #[.slice A n c] w fun e w' => ∃ v l, e = .returned v ∧ Ris l ∧ (∀ x, x ∈ l ↔ Rp (nxt (eds ls)) x x) ∧ w'.ownsRow w.heap.size 3 1 v l.length (i64s l) ∧ Below w.heap.size w w' := by
  have hF := h.fin hn
  have HF := Lib.hid hF
  have hN : (nds (eds ls)).length ≤ 400 := by have := nds_len (eds ls); rw [h.elen] at this; omega
  have HH := Lib.hid h
  have hmm := @run_makeMap Try.prog
  clear h hF
  go_enter Try.func22, Try.ntmps22
  go_wp2_with fail
  refine (ends_any (c := c) w HH.out (by omega)).mono ?_
  rintro e w1 ⟨b1, rfl, hbl1, hnx1, hb1⟩
  have NX1 := Lib.hid hnx1
  have B1 := Lib.hid hb1
  have Z1 := Lib.hid hb1.size
  clear hnx1 hb1 hbl1
  go_wp2_with fail
  refine (turned_any (c := c) w1 ((HH.out.below B1.out).more Z1.out) (by omega)).mono ?_
  rintro e w2 ⟨A', c', rfl, hed2, hb2⟩
  have ED2 := Lib.hid hed2
  have B2 := Lib.hid hb2
  have Z2 := Lib.hid hb2.size
  clear hed2 hb2
  go_wp2_with fail
  refine (ends_any (c := c') w2 ED2.out (by omega)).mono ?_
  rintro e w3 ⟨b2, rfl, hbl2, hnx2, hb3⟩
  rw [eds_trn] at hnx2
  have B3 := Lib.hid (B1.out.trans ((B2.out.mono Z1.out).trans (hb3.mono (Nat.le_trans Z1.out Z2.out))))
  have N1 := Lib.hid (((NX1.out.below (B2.out.trans (hb3.mono Z2.out))).more (Nat.le_trans Z2.out hb3.size)))
  have N2 := Lib.hid hnx2
  have Z3 := Lib.hid (show w.heap.size ≤ w3.heap.size from B3.out.size)
  clear hnx2 hb3 NX1 B1 B2 ED2 Z1 Z2 hbl2
  go_wp2_with fail
  obtain ⟨B, hB⟩ : ∃ B, B = w3.heap.size := ⟨_, rfl⟩
  have Q1 := Lib.hid ((N1.out.below (Below.alloc (Below.refl _ _) (Nat.le_refl _) (.map #[] 0))).below (Below.alloc (Below.refl _ _) (by simp) (.map #[] 0)) : NextM ((w3.alloc (.map #[] 0)).alloc (.map #[] 0)) w3.heap.size b1 (nxt (eds ls)))
  have Q2 := Lib.hid ((N2.out.below (Below.alloc (Below.refl _ _) (Nat.le_refl _) (.map #[] 0))).below (Below.alloc (Below.refl _ _) (by simp) (.map #[] 0)) : NextM ((w3.alloc (.map #[] 0)).alloc (.map #[] 0)) w3.heap.size b2 (nxt (turnE (eds ls))))
  have S1 := Lib.hid ((seen_made w3).here (w' := (w3.alloc (.map #[] 0)).alloc (.map #[] 0)) (Below.heap_alloc _ _ _ (by simp)))
  have S2 := Lib.hid (show SeenM ((w3.alloc (.map #[] 0)).alloc (.map #[] 0)) (w3.heap.size + 1) 0 (fun _ => False) from by have := seen_made (w3.alloc (.map #[] 0)); simpa using this)
  have B4 := Lib.hid ((B3.out.alloc Z3.out (.map #[] 0)).alloc (by have := Z3.out; simp; omega) (.map #[] 0))
  rw [← hB] at Q1 Q2 S1 S2 Z3 ⊢
  clear hB N1 N2 B3
  generalize (w3.alloc (.map #[] 0)).alloc (.map #[] 0) = w4 at *
  refine (numbers_any (c := c) w4 ((HH.out.below B4.out).more B4.out.size) (by omega)).mono ?_
  rintro e w5 ⟨vn, rfl, hrn, hb5⟩
  obtain ⟨An, cn, rfl, hrd, hcn, _⟩ := own_slice hrn
  have RN := Lib.hid hrn
  have Z4 := Lib.hid (show B < w4.heap.size ∧ B + 1 < w4.heap.size from ⟨S1.out.lt, S2.out.lt⟩)
  have P1 := Lib.hid (Q1.out.below (hb5.mono (Nat.le_of_lt Z4.out.1)))
  have P2 := Lib.hid (Q2.out.below (hb5.mono (Nat.le_of_lt Z4.out.1)))
  have U1 := Lib.hid (S1.out.here (hb5.block _ Z4.out.1))
  have U2 := Lib.hid (S2.out.here (hb5.block _ Z4.out.2))
  have B5 := Lib.hid (B4.out.trans (hb5.mono B4.out.size))
  have Z5 := Lib.hid hb5.size
  clear Q1 Q2 S1 S2 B4 hb5 hrn
  have FT := Lib.hid (show Fin (nxt (turnE (eds ls))) (nds (eds ls)) from ⟨fun x y h => (nds_of (nxt_turn.1 h)).1, HF.out.wf, HF.out.len, fun x => by
    have h1 := outs_len (turnE (eds ls)) x
    have h3 : (nxt (turnE (eds ls)) x).length = (outs (turnE (eds ls)) x).length := srt_len _
    have h2 : (turnE (eds ls)).length = n := by unfold turnE; rw [List.length_map, HH.out.elen]
    omega⟩)
  go_wp2_with fail
  go_loopw [5, 24] (fun s5 s24 wr => ∃ (k : Nat) (L : List Int), s24 = .int .i64 k ∧ k ≤ (nds (eds ls)).length ∧ wr.ownsRow w.heap.size 3 1 s5 L.length (i64s L) ∧ SeenM wr B (1000 * k) (· ∈ L) ∧ SeenM wr (B + 1) 0 (fun _ => False) ∧ L.Nodup ∧ Kos (nxt (eds ls)) L ∧ (∀ x ∈ L, x ∈ nds (eds ls)) ∧
      (∀ j x, j < k → (nds (eds ls))[j]? = some x → x ∈ L) ∧ Below B w5 wr ∧ Below w.heap.size w wr ∧ Turn (fun k => k = B ∨ w5.heap.size ≤ k) w5 wr ∧ (∀ g, s5.ownBlock = some g → w5.heap.size ≤ g)) (fun _ s24 _ => 1000 - (RowKit.intOf s24).toNat)
  case atStart => exact ⟨0, [], rfl, Nat.zero_le _, World.ownsRow_nil _ _ _ _, U1.out.to (fun k => by simp), U2.out, List.nodup_nil, kos_nil _, by simp, fun j x hj => by omega, Below.refl _ _, B5.out, Turn.refl _ _, fun g hg => by simp [Value.ownBlock] at hg⟩
  case round =>
    obtain ⟨k, L, rfl, hk, hrow, hs1, hs2, hnd, hkos, hsub, hall, hbB, hb, ht, hg5⟩ := hrel
    rename World => W
    have hL9 : L.length ≤ 400 := Nat.le_trans (nodup_len hnd hsub) hN
    have HR := Lib.hid hrow
    have H1 := Lib.hid hs1
    have H2 := Lib.hid hs2
    have ND := Lib.hid hnd
    have KO := Lib.hid hkos
    have SU := Lib.hid hsub
    have AL := Lib.hid hall
    have BB := Lib.hid hbB
    have BW := Lib.hid hb
    have TT := Lib.hid ht
    have G5 := Lib.hid hg5
    clear hrow hs1 hs2 hnd hkos hsub hall hbB hb ht hg5
    by_cases hlt : k < (nds (eds ls)).length
    · obtain ⟨bn, on, rfl, hbn, hcell⟩ := int_cells hrd (by omega)
      have hx0 := hcell k hlt
      rw [gd_get hlt] at hx0
      have hxw := HF.out.wf _ (List.getElem_mem hlt)
      have hxN : (nds (eds ls))[k] ∈ nds (eds ls) := List.getElem_mem hlt
      have hxk : (nds (eds ls))[k]? = some (nds (eds ls))[k] := List.getElem?_eq_getElem hlt
      have hbn2 : bn ≠ B := fun e => by
        obtain ⟨es, ck, hm⟩ := (show MapV w5 B 0 _ from U1.out.choose_spec.1).heap
        have h2 := World.block_lt_of_cell? _ _ hx0
        unfold World.cell? at hx0
        subst e
        rw [hm] at hx0
        simp at hx0
      have hx : W.cell? ⟨bn, on + k, none⟩ = some (.int .i64 (nds (eds ls))[k]) := (World.cell?_of_block (TT.out.block bn hbn (by rintro (e | e); exact hbn2 e; omega))).trans hx0
      have HX := Lib.hid hx
      have XW := Lib.hid hxw
      have XN := Lib.hid hxN
      have XK := Lib.hid hxk
      clear hx hxw hxN hxk hx0 hcell
      generalize (nds (eds ls))[k] = x at *
      have kx := HX.out
      go_wp2_with fail
      refine (walk_any W (P1.out.below BB.out) (Nat.le_refl _) H1.out (by omega) HF.out XW.out XN.out).mono ?_
      rintro e w6 ⟨Al, cl, lot, rfl, hcase, hll, hsn, hrl, htl⟩
      have hstep : (L ++ lot).Nodup ∧ Kos (nxt (eds ls)) (L ++ lot) ∧ (∀ y ∈ L ++ lot, y ∈ nds (eds ls)) ∧ x ∈ L ++ lot := by
        rcases hcase with ⟨h1, h2⟩ | ⟨h1, h2⟩
        · rw [h2, List.append_nil]; exact ⟨ND.out, KO.out, SU.out, h1⟩
        · obtain ⟨h3, h4⟩ := h2.snoc ND.out KO.out
          refine ⟨h3, h4, fun y hy => ?_, by simp [h2.has]⟩
          rcases List.mem_append.1 hy with hy | hy
          · exact SU.out y hy
          · exact h2.sub HF.out.sub XN.out y hy
      have hlen9 := nodup_len hstep.1 hstep.2.2.1
      rw [List.length_append] at hlen9
      have ST := Lib.hid hstep
      have SN := Lib.hid hsn
      have RL := Lib.hid hrl
      have TL := Lib.hid htl
      have NR := Lib.hid (show u5.ownBlock ≠ some B from H1.out.choose_spec.1.ne_row HR.out)
      have NR2 := Lib.hid (show u5.ownBlock ≠ some (B + 1) from H2.out.choose_spec.1.ne_row HR.out)
      have R6 := Lib.hid (own_turn HR.out htl (fun g hg e => NR.out (by rw [← e]; exact hg)))
      have Z6 := Lib.hid (show w5.heap.size ≤ W.heap.size ∧ W.heap.size ≤ w6.heap.size ∧ w.heap.size ≤ W.heap.size from ⟨TT.out.size, htl.size, BW.out.size⟩)
      clear hcase hsn hrl htl hstep
      go_wp2_with (at_builtin
                   refine wpList_app_reads _ rfl (.tmp 28) (.tmp 32) _ rfl Try.underlying25 w.heap.size _ L.length L rfl R6.out _ Al lot.length cl lot rfl RL.out (by omega) (by have := Z6.out; omega) ?_
                   intro v9 w9 hown9 hg9 hv9
                   have O9 := Lib.hid hown9
                   have G9 := Lib.hid hg9
                   have V9 := Lib.hid hv9
                   clear hown9 hg9 hv9)
      go_roundw
      case rel =>
        have z6 := Z6.out
        have z5 := Z5.out
        have hw5 := B5.out.size
        have tg : Turn (fun g => u5.ownBlock = some g) w6 w9 := (Turn.refl _ _).grown G9.out (fun g hg _ => hg)
        have tall : Turn (fun g => g = B ∨ w5.heap.size ≤ g) W w9 := (TL.out.mono (fun _ _ h => .inl h)).trans tg (fun g _ h => .inr (G5.out g h))
        have hB1 : B + 1 < w6.heap.size := Nat.lt_of_lt_of_le (Nat.lt_of_lt_of_le Z4.out.2 z5) (by omega)
        refine ⟨k + 1, L ++ lot, by go_num, hlt, by rw [List.length_append]; exact O9.out, ?_, ?_, ST.out.1, ST.out.2.1, ST.out.2.2.1, fun j y hj hy => ?_, ?_, ?_, TT.out.trans tall (fun _ _ h => h), fun g hg => ?_⟩
        · have h1 := SN.out.here (w' := w9) (tg.block B (by omega) NR.out)
          rw [show 1000 * (k + 1) = 1000 * k + 1000 by omega]
          exact h1.to fun y => by simp
        · exact (H2.out.here (TL.out.block (B + 1) H2.out.lt (by omega))).here (tg.block (B + 1) hB1 NR2.out)
        · by_cases e : j = k
          · subst e
            have := XK.out
            rw [hy] at this; injection this with this
            rw [this]; exact ST.out.2.2.2
          · have := AL.out j y (by omega) hy
            simp [this]
        · exact (TT.out.trans tall (fun _ _ h => h)).below (fun g hg h => by have := Z4.out.1; omega) (by have := Z4.out.1; omega)
        · exact BW.out.trans (tall.below (fun g hg h => by have := Z4.out.1; have := Z3.out; omega) (by omega))
        · rcases V9.out with h | h
          · rw [h] at hg; exact G5.out g hg
          · rw [h] at hg; injection hg with hg; omega
      case measure => simp [RowKit.intOf]; omega
    · obtain rfl : k = (nds (eds ls)).length := by omega
      obtain ⟨A5, c5, rfl, _⟩ := own_slice HR.out
      have ALL := Lib.hid (show ∀ x ∈ nds (eds ls), x ∈ L from fun x hx => by
        obtain ⟨j, hj, e⟩ := List.mem_iff_getElem.1 hx
        exact AL.out j x hj (by rw [List.getElem?_eq_getElem hj, e]))
      go_wp2_with fail
      refine (reverse_own _ HR.out (by omega)).mono ?_
      rintro e w6 ⟨rfl, hr6, ht6⟩
      have NR := Lib.hid (H1.out.choose_spec.1.ne_row HR.out)
      have NR2 := Lib.hid (H2.out.choose_spec.1.ne_row HR.out)
      have R6 := Lib.hid hr6
      have T6 := Lib.hid ht6
      have Q2 := Lib.hid ((P2.out.below BB.out).below (ht6.below (fun g hg e => by have := G5.out g e; have := Z4.out.1; have := Z5.out; omega) (by have := Z4.out.1; have := Z5.out; have := TT.out.size; omega)))
      have Q1 := Lib.hid ((P1.out.below BB.out).below (ht6.below (fun g hg e => by have := G5.out g e; have := Z4.out.1; have := Z5.out; omega) (by have := Z4.out.1; have := Z5.out; have := TT.out.size; omega)))
      have V2 := Lib.hid (H2.out.here (ht6.block (B + 1) H2.out.lt NR2.out))
      have B6 := Lib.hid (BW.out.trans (ht6.below (fun g hg e => by have := G5.out g e; have := B5.out.size; omega) BW.out.size))
      have Z6 := Lib.hid (show w5.heap.size ≤ w6.heap.size ∧ B + 1 < w5.heap.size ∧ w.heap.size ≤ B from ⟨Nat.le_trans TT.out.size ht6.size, by have := Z4.out.2; have := Z5.out; omega, Z3.out⟩)
      have RD6 := Lib.hid (Reads.of_own hr6)
      have NB := Lib.hid (show ∀ ad, A5 = some ad → ad.block ≠ B + 1 from fun ad e e2 => NR2.out (by rw [e]; show some ad.block = _; rw [e2]))
      clear hr6 ht6
      have hrl : L.reverse.length = L.length := List.length_reverse
      go_wp2_with fail
      go_loopw [6, 39] (fun s6 s39 wr => ∃ (k : Nat) (T : Int → Prop) (al : List Int), s39 = .int .i64 k ∧ k ≤ L.length ∧ wr.ownsRow w6.heap.size 3 1 s6 al.length (i64s al) ∧ SeenM wr (B + 1) (1000 * k) T ∧ (∀ u, T u ↔ ∃ x ∈ L.reverse.take k, Tog (nxt (eds ls)) u x) ∧ al.Nodup ∧ (∀ u, u ∈ al ↔ T u ∧ Rp (nxt (eds ls)) u u) ∧ Turn (fun g => g = B + 1) w6 wr) (fun _ s39 _ => 1000 - (RowKit.intOf s39).toNat)
      case atStart => exact ⟨0, _, [], rfl, Nat.zero_le _, World.ownsRow_nil _ _ _ _, V2.out, fun u => by simp, List.nodup_nil, fun u => by simp, Turn.refl _ _⟩
      case round =>
        obtain ⟨k, T, al, rfl, hk, hrow, hs2, hT, hand, hal, ht⟩ := hrel
        rename World => X
        have hal9 : al.length ≤ 400 := Nat.le_trans (nodup_len hand fun u hu => circ_nodes ((hal u).1 hu).2) hN
        have HA := Lib.hid hrow
        have HS2 := Lib.hid hs2
        have HT := Lib.hid hT
        have AN := Lib.hid hand
        have AM := Lib.hid hal
        have TX := Lib.hid ht
        have BX := Lib.hid (show Below B w6 X from ht.below (fun g hg e => by omega) (by have := Z6.out; omega))
        clear hrow hs2 hT hand hal ht
        by_cases hlt : k < L.length
        · have hlr : k < L.reverse.length := by omega
          obtain ⟨b5, o5, rfl, hb5, hcell⟩ := int_cells RD6.out (by omega)
          have hx0 := hcell k hlr
          rw [gd_get hlr] at hx0
          have hx : X.cell? ⟨b5, o5 + k, none⟩ = some (.int .i64 L.reverse[k]) := (World.cell?_of_block (TX.out.block b5 hb5 (NB.out _ rfl))).trans hx0
          have hxL : L.reverse[k] ∈ L := List.mem_reverse.1 (List.getElem_mem hlr)
          have hxk : L.reverse[k]? = some L.reverse[k] := List.getElem?_eq_getElem hlr
          have hts := List.take_add_one (l := L.reverse) (i := k)
          rw [hxk] at hts
          have HX := Lib.hid hx
          have XL := Lib.hid hxL
          have XK := Lib.hid hxk
          have TS := Lib.hid hts
          clear hx hxL hxk hts hx0 hcell
          generalize L.reverse[k] = x at *
          have XN := Lib.hid (SU.out x XL.out)
          have XW := Lib.hid (HF.out.wf x XN.out)
          have kx := HX.out
          go_wp2_with fail
          refine (walk_any (sb := B + 1) X (Q2.out.below BX.out) (Nat.le_add_right B 1) HS2.out (by omega) FT.out XW.out XN.out).mono ?_
          rintro e w7 ⟨Al, cl, lot, rfl, hcase, hll, hsn, hrl7, htl⟩
          have hlot : (T x ∧ lot = []) ∨ (¬ T x ∧ lot.Nodup ∧ (∀ y ∈ lot, ¬ T y) ∧ ∀ u, u ∈ lot ↔ Tog (nxt (eds ls)) u x) := by
            rcases hcase with h1 | ⟨h1, h2⟩
            · exact .inl h1
            · refine .inr ⟨h1, h2.nodup, h2.off, ?_⟩
              exact lot_tog (B := nxt (turnE (eds ls))) (L := L) (fun a b => nxt_turn) KO.out ND.out (fun a b hab => ALL.out a (nds_of hab).1) (split_rev XK.out) (fun u => by rw [HT.out u]; constructor <;> (rintro ⟨y, hy, h3⟩; exact ⟨y, by simpa using hy, h3⟩)) h1 h2
          have hT' : ∀ u, (T u ∨ u ∈ lot) ↔ ∃ y ∈ L.reverse.take (k + 1), Tog (nxt (eds ls)) u y := by
            intro u
            rw [TS.out]
            rcases hlot with ⟨h1, h2⟩ | ⟨h1, h2, h3, h4⟩
            · rw [h2]
              have := told_none HT.out h1 u
              constructor
              · rintro (h | h)
                · obtain ⟨y, hy, h5⟩ := this.1 h; exact ⟨y, by simp at hy ⊢; exact hy.symm, h5⟩
                · cases h
              · rintro ⟨y, hy, h5⟩; exact .inl (this.2 ⟨y, by simp at hy ⊢; exact hy.symm, h5⟩)
            · have := told_lot HT.out h4 u
              rw [this]
              constructor <;> (rintro ⟨y, hy, h5⟩; exact ⟨y, by simp at hy ⊢; exact hy.symm, h5⟩)
          have LOT := Lib.hid hlot
          have TT' := Lib.hid hT'
          have SN := Lib.hid hsn
          have RL := Lib.hid hrl7
          have TL := Lib.hid htl
          have hlt9 : lot.length ≤ 1000 := hll
          have R7 := Lib.hid (own_turn HA.out htl (fun g hg e => (HS2.out.choose_spec.1.ne_row HA.out) (by rw [← e]; exact hg)))
          have T7 := Lib.hid (TX.out.trans htl (fun _ _ h => h))
          have Z7 := Lib.hid (show w6.heap.size ≤ w7.heap.size from Nat.le_trans TX.out.size htl.size)
          clear hcase hsn hrl7 htl hlot hT'
          by_cases hc1 : 1 < lot.length
          · have d1 : decide ((1 : Int) < (lot.length : Int)) = true := by simp; omega
            go_wp2_with (at_builtin
                         refine wpList_app_reads _ rfl (.tmp 62) (.tmp 63) _ rfl Try.underlying25 w6.heap.size _ al.length al rfl R7.out _ Al lot.length cl lot rfl RL.out (by omega) Z7.out ?_
                         intro v9 w9 hown9 hg9 hv9
                         have O9 := Lib.hid hown9
                         have G9 := Lib.hid hg9
                         clear hown9 hg9 hv9)
            go_roundw
            case rel =>
              have tg : Turn (fun g => u6.ownBlock = some g) w7 w9 := (Turn.refl _ _).grown G9.out (fun g hg _ => hg)
              have hge : ∀ g, u6.ownBlock = some g → w6.heap.size ≤ g := fun g hg => ownBlock_ge HA.out g hg
              have hnt : ¬ T x ∧ lot.Nodup ∧ (∀ y ∈ lot, ¬ T y) ∧ ∀ u, u ∈ lot ↔ Tog (nxt (eds ls)) u x := by
                rcases LOT.out with ⟨_, h⟩ | h
                · rw [h] at hc1; exact absurd hc1 (by simp)
                · exact h
              have hz6 := Z6.out
              refine ⟨k + 1, _, al ++ lot, by go_num, hlt, by rw [List.length_append]; exact O9.out, ?_, TT'.out, ?_, circ_yes (x := x) AM.out (lot_circle hnt.2.2.2 hnt.2.1 (.inl hc1)), T7.out.trans tg (fun g hg e => by have := hge g e; omega)⟩
              · have h1 := SN.out.here (w' := w9) (tg.block (B + 1) (by have := Z7.out; omega) (fun e => by have := hge _ e; omega))
                exact h1.more (by omega)
              · exact List.nodup_append.2 ⟨AN.out, hnt.2.1, fun a ha b hb e => hnt.2.2.1 b hb (by rw [← e]; exact ((AM.out a).1 ha).1)⟩
            case measure => simp [RowKit.intOf]; omega
          · have d1 : decide ((1 : Int) < (lot.length : Int)) = false := by simp; omega
            by_cases hc2 : lot.length = 1
            · have d2 : ((lot.length : Int) == 1) = true := by simp; omega
              have HC2 := Lib.hid hc2
              have hll1 : lot.length ≤ 1 := by omega
              clear hc2
              have Q1B := Lib.hid (show Below B w6 w7 from T7.out.below (fun g hg e => by omega) (by have := Z6.out; omega))
              have hl2 : (nxt (eds ls) x).length ≤ 1000 := HF.out.each x
              cases hcx : (nxt (eds ls) x).contains x
              · have CX := Lib.hid hcx
                have NX := Lib.hid (show x ∉ nxt (eds ls) x from fun h => by rw [List.contains_iff_mem.2 h] at hcx; cases hcx)
                clear hcx
                go_wp2_with (first
                  | (refine wpList_lookN_g _ (by rfl) _ _ rfl rfl Q1.out Q1B.out x rfl XW.out ?_
                     intro A2 c2 hc2 hr2
                     have HR2 := Lib.hid hr2
                     clear hr2)
                  | (go_at_call 41; refine (contains_any x _ (HR2.out.below Q1B.out) (by omega)).mono ?_; rintro e w' ⟨rfl, hww⟩; replace hww := hww.symm; subst hww; rw [CX.out])
                  | (at_builtin
                     refine wpList_app_reads _ rfl (.tmp 62) (.tmp 63) _ rfl Try.underlying25 w6.heap.size _ al.length al rfl R7.out _ Al lot.length cl lot rfl RL.out (by omega) Z7.out ?_
                     intro v9 w9 hown9 hg9 hv9
                     have O9 := Lib.hid hown9
                     have G9 := Lib.hid hg9
                     clear hown9 hg9 hv9))
                go_roundw
                case rel =>
                  refine ⟨k + 1, _, al, by go_num, hlt, R7.out, SN.out.more (by omega), TT'.out, AN.out, circ_no (x := x) AM.out ?_, T7.out⟩
                  rcases LOT.out with ⟨_, h⟩ | ⟨h1, h2, h3, h4⟩
                  · rw [h]; simp
                  · exact fun u hu => lot_none h4 h2 hc1 NX.out u ((h4 u).1 hu)
                case measure => simp [RowKit.intOf]; omega
              · have CX := Lib.hid hcx
                have NX := Lib.hid (List.contains_iff_mem.1 hcx)
                clear hcx
                go_wp2_with (first
                  | (refine wpList_lookN_g _ (by rfl) _ _ rfl rfl Q1.out Q1B.out x rfl XW.out ?_
                     intro A2 c2 hc2 hr2
                     have HR2 := Lib.hid hr2
                     clear hr2)
                  | (go_at_call 41; refine (contains_any x _ (HR2.out.below Q1B.out) (by omega)).mono ?_; rintro e w' ⟨rfl, hww⟩; replace hww := hww.symm; subst hww; rw [CX.out])
                  | (at_builtin
                     refine wpList_app_reads _ rfl (.tmp 62) (.tmp 63) _ rfl Try.underlying25 w6.heap.size _ al.length al rfl R7.out _ Al lot.length cl lot rfl RL.out (by omega) Z7.out ?_
                     intro v9 w9 hown9 hg9 hv9
                     have O9 := Lib.hid hown9
                     have G9 := Lib.hid hg9
                     clear hown9 hg9 hv9))
                go_roundw
                case rel =>
                  have tg : Turn (fun g => u6.ownBlock = some g) w7 w9 := (Turn.refl _ _).grown G9.out (fun g hg _ => hg)
                  have hge : ∀ g, u6.ownBlock = some g → w6.heap.size ≤ g := fun g hg => ownBlock_ge HA.out g hg
                  have hnt : ¬ T x ∧ lot.Nodup ∧ (∀ y ∈ lot, ¬ T y) ∧ ∀ u, u ∈ lot ↔ Tog (nxt (eds ls)) u x := by
                    rcases LOT.out with ⟨_, h⟩ | h
                    · have hc2 := HC2.out; rw [h] at hc2; exact absurd hc2 (by simp)
                    · exact h
                  have hz6 := Z6.out
                  refine ⟨k + 1, _, al ++ lot, by go_num, hlt, by rw [List.length_append]; exact O9.out, ?_, TT'.out, ?_, circ_yes (x := x) AM.out (lot_circle hnt.2.2.2 hnt.2.1 (.inr NX.out)), T7.out.trans tg (fun g hg e => by have := hge g e; omega)⟩
                  · have h1 := SN.out.here (w' := w9) (tg.block (B + 1) (by have := Z7.out; omega) (fun e => by have := hge _ e; omega))
                    exact h1.more (by omega)
                  · exact List.nodup_append.2 ⟨AN.out, hnt.2.1, fun a ha b hb e => hnt.2.2.1 b hb (by rw [← e]; exact ((AM.out a).1 ha).1)⟩
                case measure => simp [RowKit.intOf]; omega
            · have d2 : ((lot.length : Int) == 1) = false := by simp; omega
              go_wp2_with fail
              go_roundw
              case rel =>
                refine ⟨k + 1, _, al, by go_num, hlt, R7.out, SN.out.more (by omega), TT'.out, AN.out, circ_no (x := x) AM.out ?_, T7.out⟩
                rcases LOT.out with ⟨_, h⟩ | ⟨h1, h2, h3, h4⟩
                · rw [h]; simp
                · exact fun u hu => absurd (List.length_pos_of_mem hu) (by omega)
              case measure => simp [RowKit.intOf]; omega
        · obtain rfl : k = L.length := by omega
          go_wp2_with fail
          refine (sort_own _ HA.out (by omega)).mono ?_
          rintro e w9 ⟨rfl, h9, ht9⟩
          have H9 := Lib.hid h9
          have T9 := Lib.hid ht9
          clear h9 ht9
          go_wp2_with fail
          go_ret
          have hz6 := Z6.out
          refine ⟨_, srt al, rfl, srt_ris AN.out, fun u => ?_, by rw [srt_len]; exact own_less H9.out (by omega), ?_⟩
          · rw [srt_mem, AM.out u]
            constructor
            · exact fun h => h.2
            · intro h
              refine ⟨(HT.out u).2 ⟨u, ?_, Tog.refl _ u⟩, h⟩
              rw [List.take_of_length_le (by omega)]
              exact List.mem_reverse.2 (ALL.out u (circ_nodes h))
          · exact B6.out.trans ((TX.out.below (fun g hg e => by omega) (by omega)).trans (T9.out.below (fun g hg e => by have := ownBlock_ge HA.out g e; omega) (by have := TX.out.size; omega)))
end
end Go.Proofs.Ytiapnaecdefonaa
