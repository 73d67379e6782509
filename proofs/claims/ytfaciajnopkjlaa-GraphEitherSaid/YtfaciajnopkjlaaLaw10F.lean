/- GraphEither. -/
import Derived.Test.YtfaciajnopkjlaaLaw10E
namespace Go.Proofs.Ytfaciajnopkjlaa
open Go.RowKit
set_option linter.unusedVariables false
set_option linter.unusedSimpArgs false

/-- What a way is: it begins, it ends, and each step is an edge between what lies on the way. -/
theorem PathTo.facts {F : Int → List Int} {fr x : Int} {p : List Int} (h : PathTo F fr x p) :
    2 ≤ p.length ∧ gd p 0 = fr ∧ gd p (p.length - 1) = x ∧ ∀ k, k + 1 < p.length → gd p (k + 1) ∈ F (gd p k) ∧ Rt F fr (gd p k) ∧ Rt F (gd p (k + 1)) x := by
  induction h with
  | one hx => exact ⟨by simp, rfl, rfl, fun k h2 => by
      simp at h2
      obtain rfl : k = 0 := by omega
      exact ⟨hx, .refl, .refl⟩⟩
  | @more c x p hp hx ih =>
    obtain ⟨i1, i2, i3, i4⟩ := ih
    have g1 : ∀ k, k < p.length → gd (p ++ [x]) k = gd p k := fun k hk => by simp [gd, List.getD, List.getElem?_append_left hk]
    have g2 : gd (p ++ [x]) p.length = x := by simp [gd, List.getD]
    refine ⟨by simp; omega, by rw [g1 0 (by omega)]; exact i2, by rw [show (p ++ [x]).length - 1 = p.length by simp]; exact g2, fun k h2 => ?_⟩
    by_cases hk : k + 1 < p.length
    · rw [g1 k (by omega), g1 (k + 1) hk]
      obtain ⟨a, b, c'⟩ := i4 k hk
      exact ⟨a, b, c'.tail hx⟩
    · have e : k + 1 = p.length := by simp at h2; omega
      rw [e, g2, g1 k (by omega), show k = p.length - 1 by omega, i3]
      exact ⟨hx, hp.rp.rt, .refl⟩
theorem way_circle {F : Int → List Int} {x : Int} {i : Nat} (hi : (bst F x i).row.length ≤ i) (h : Rp F x x) : PathTo F x x (wayL (bst F x i) x) := by
  have h1 := (bst_reach hi x).2 h
  unfold wayL
  rw [if_pos h1]
  exact (binv F x i).path x h1
theorem way_len {F : Int → List Int} {U : List Int} (hU : ∀ x y, y ∈ F x → y ∈ U) (x y : Int) (i : Nat) : (wayL (bst F x i) y).length ≤ U.length + 1 := by
  unfold wayL
  split
  · rename_i h; exact Nat.le_trans ((plen F x i).2 y h) (bst_len hU i)
  · simp
set_option maxRecDepth 100000 in
set_option maxHeartbeats 32000000 in
theorem eitherNot_walk (a0 : Option Addr) (len0 cap0 : Nat) (l0 : List (List Int)) (W : World) (h : EdgM W W.heap.size a0 len0 l0) (h60 : len0 ≤ 60) (hfull : ¬ (ordF (eds l0) (nds (eds l0))).length = (nds (eds l0)).length) :
    Calls Try.prog 6 #[.slice a0 len0 cap0] W fun e w' => e = .returned (.bool true) ∧ Below W.heap.size W w' := by
  have HH := Lib.hid h
  have hF := h.fin (by omega)
  have HF := Lib.hid hF
  have d1 : decide ((60 : Int) < (len0 : Int)) = false := by simp; omega
  have hN : (nds (eds l0)).length ≤ 400 := by have := nds_len (eds l0); rw [HH.out.elen] at this; omega
  have hn1 := fun W => run_eql_held_nil (P := Try.prog) W 32 65 (.int .i64 11) Try.underlying32
  have hmm := @run_makeMap Try.prog
  have NC := Lib.hid (fun h => hfull ((full_iff (eds l0)).2 h))
  have hz : 0 < len0 := by
    have h1 := nds_len (eds l0)
    have h2 := ordF_len (eds l0)
    rw [HH.out.elen] at h1
    omega
  have hE : ordE (eds l0) = errno 11 := by unfold ordE; rw [if_neg hfull]
  have hR : ordR (eds l0) = [] := by unfold ordR; rw [if_neg hfull]
  have HE := Lib.hid hE
  have HR := Lib.hid hR
  have WL := Lib.hid (fun x y i => way_len (F := nxt (eds l0)) (U := nds (eds l0)) HF.out.sub x y i)
  clear h hfull hE hR hF
  go_enter Try.func6, Try.ntmps6
  go_wp2_with (go_at_call 8; refine (alive10_any _).mono ?_; rintro e w1 ⟨rfl, hb1⟩; have B1 := Lib.hid hb1; have E1 := Lib.hid (HH.out.next hb1); clear hb1)
  refine (orderG_any (c := cap0) w1 E1.out (by omega)).mono ?_
  rintro e w2 ⟨v2, rfl, hrow2, hb2⟩
  rw [HE.out]
  rw [HR.out] at hrow2
  clear HE HR
  obtain ⟨A2, c2, rfl, hr2, _⟩ := own_slice hrow2
  have E2 := Lib.hid (E1.out.next hb2)
  have B2 := Lib.hid (B1.out.trans (hb2.mono B1.out.size))
  clear hrow2 hb2 hr2
  go_wp2_with fail
  refine (circlesG_any (c := cap0) w2 E2.out (by omega)).mono ?_
  rintro e w3 ⟨v3, l3, rfl, hris3, hmem3, hrow3, hb3⟩
  have hl4 : l3.length ≤ 400 := Nat.le_trans (nodup_len (ris_nodup hris3) fun y hy => rp_nds ((hmem3 y).1 hy)) hN
  have hl0 : 0 < l3.length := by
    cases l3 with
    | nil => exact absurd (NC.out fun x hx => by have := (hmem3 x).2 hx; simp at this) id
    | cons a l => simp
  have z1 : ((l3.length : Int) == 0) = false := beq_eq_false_iff_ne.2 (by omega)
  have z2 : (l3.length == 0) = false := beq_eq_false_iff_ne.2 (by omega)
  obtain ⟨A3, c3, rfl, hr3, _⟩ := own_slice hrow3
  have B3 := Lib.hid (B2.out.trans (hb3.mono B2.out.size))
  have R4 := Lib.hid ((hr3.below (Below.alloc (Below.refl _ _) (Nat.le_refl _) (.map #[] 0))).more (B' := (w3.alloc (.map #[] 0)).heap.size) (by simp))
  have M3 := Lib.hid hmem3
  have B4 := Lib.hid (B3.out.alloc B3.out.size (.map #[] 0))
  clear hris3 hmem3 hrow3 hb3 hr3 B1 B2 B3 E1 E2 NC
  go_wp2_with fail
  generalize w3.alloc (.map #[] 0) = w4 at *
  go_loopw [7] (fun s7 wr => s7 = .int .i64 0 ∧ w4 = wr) (fun _ _ => 0)
  case atStart => exact ⟨rfl, rfl⟩
  case round =>
    obtain ⟨rfl, rfl⟩ := hrel
    go_wp2_with fail
    go_loopw [8] (fun s8 wr => s8 = .int .i64 0 ∧ w4 = wr) (fun _ _ => 0)
    case atStart => exact ⟨rfl, rfl⟩
    case round =>
      obtain ⟨rfl, rfl⟩ := hrel
      go_wp2_with fail
      go_loopw [13] (fun s13 wr => ∃ (k : Nat), s13 = .int .i64 k ∧ k ≤ l3.length ∧ Below w4.heap.size w4 wr) (fun s13 _ => 1000 - (RowKit.intOf s13).toNat)
      case atStart => exact ⟨0, rfl, Nat.zero_le _, Below.refl _ _⟩
      case round =>
        obtain ⟨k, rfl, hk, hb⟩ := hrel
        rename World => X
        have HB := Lib.hid hb
        clear hb
        by_cases hlt : k < l3.length
        · obtain ⟨bc, oc, rfl, hbc, hcc⟩ := int_cells R4.out (by omega)
          have CC := Lib.hid (show ∀ Y, Below w4.heap.size w4 Y → ∀ j, j < l3.length → Y.cell? ⟨bc, oc + j, none⟩ = some (.int .i64 (gd l3 j)) from fun Y hy j hj => (hy.cell (p := ⟨bc, oc + j, none⟩) hbc).trans (hcc j hj))
          have hrp := (M3.out (gd l3 k)).1 (by rw [gd_get hlt]; exact List.getElem_mem hlt)
          have hxw : (Lit.int .i64 (gd l3 k)).wf = true := HF.out.wf _ (rp_nds hrp)
          have RP := Lib.hid hrp
          have XW := Lib.hid hxw
          have CX := Lib.hid (show ∀ Y, Below w4.heap.size w4 Y → Y.cell? ⟨bc, oc + k, none⟩ = some (.int .i64 (gd l3 k)) from fun Y hy => CC.out Y hy k hlt)
          clear hcc hrp hxw hbc
          generalize gd l3 k = x at RP XW CX
          go_wp2_with fail
          refine wp_region_held_drew (S := fun w' => w'.cell? ⟨bc, oc + k, none⟩ = some (.int .i64 x)) (by kernel_rfl) (CX.out _ HB.out.drew) (fun hHeld => ?_)
          refine wpAnyH_take (i := 0) (v := ?_) rfl (by kernel_rfl) (by kernel_rfl) (by kernel_rfl) (fun _ _ _ h => h) (Or.inl ⟨by rfl, ?_⟩) (by assumption) ?_
          rotate_left
          · (intro w0 hSw; (try dsimp only at hSw); go_simp; try with_reducible rfl)
          try simp only [List.getElem_toArray, List.getElem_cons_succ, List.getElem_cons_zero, Act.put, List.setIfInBounds_toArray, List.set_cons_zero, List.set_cons_succ]
          refine wpAnyH_take (i := 1) (v := ?_) rfl (by kernel_rfl) (by kernel_rfl) (by kernel_rfl) (fun _ _ _ h => h) (Or.inl ⟨by rfl, ?_⟩) (by assumption) ?_
          rotate_left
          · (intro w0 hSw; (try dsimp only at hSw); go_simp; try with_reducible rfl)
          try simp only [List.getElem_toArray, List.getElem_cons_succ, List.getElem_cons_zero, Act.put, List.setIfInBounds_toArray, List.set_cons_zero, List.set_cons_succ]
          refine wpAnyH_take (i := 2) (v := ?_) rfl (by kernel_rfl) (by kernel_rfl) (by kernel_rfl) (fun _ _ _ h => h) (Or.inl ⟨by rfl, ?_⟩) (by assumption) ?_
          rotate_left
          · (intro w0 hSw; (try dsimp only at hSw); go_simp; try with_reducible rfl)
          try simp only [List.getElem_toArray, List.getElem_cons_succ, List.getElem_cons_zero, Act.put, List.setIfInBounds_toArray, List.set_cons_zero, List.set_cons_succ]
          refine wpAnyH_take (i := 3) (v := ?_) rfl (by kernel_rfl) (by kernel_rfl) (by kernel_rfl) (fun _ _ _ h => h) (Or.inl ⟨by rfl, ?_⟩) (by assumption) ?_
          rotate_left
          · (intro w0 hSw; (try dsimp only at hSw); go_simp; try with_reducible rfl)
          try simp only [List.getElem_toArray, List.getElem_cons_succ, List.getElem_cons_zero, Act.put, List.setIfInBounds_toArray, List.set_cons_zero, List.set_cons_succ]
          refine wpAnyH_take (i := 4) (v := ?_) rfl (by kernel_rfl) (by kernel_rfl) (by kernel_rfl) (fun _ _ _ h => h) (Or.inl ⟨by rfl, ?_⟩) (by assumption) ?_
          rotate_left
          · (intro w0 hSw; (try dsimp only at hSw); go_simp; try with_reducible rfl)
          try simp only [List.getElem_toArray, List.getElem_cons_succ, List.getElem_cons_zero, Act.put, List.setIfInBounds_toArray, List.set_cons_zero, List.set_cons_succ]
          refine wpAnyH_take (i := 5) (v := ?_) rfl (by kernel_rfl) (by kernel_rfl) (by kernel_rfl) (fun _ _ _ h => h) (Or.inl ⟨by rfl, ?_⟩) (by assumption) ?_
          rotate_left
          · (intro w0 hSw; (try dsimp only at hSw); go_simp; try with_reducible rfl)
          try simp only [List.getElem_toArray, List.getElem_cons_succ, List.getElem_cons_zero, Act.put, List.setIfInBounds_toArray, List.set_cons_zero, List.set_cons_succ]
          refine wpAnyH_take (i := 6) (v := ?_) rfl (by kernel_rfl) (by kernel_rfl) (by kernel_rfl) (fun _ _ _ h => h) (Or.inl ⟨by rfl, ?_⟩) (by assumption) ?_
          rotate_left
          · (intro w0 hSw; (try dsimp only at hSw); go_simp; try with_reducible rfl)
          try simp only [List.getElem_toArray, List.getElem_cons_succ, List.getElem_cons_zero, Act.put, List.setIfInBounds_toArray, List.set_cons_zero, List.set_cons_succ]
          refine wpAnyH_take (i := 7) (v := ?_) rfl (by kernel_rfl) (by kernel_rfl) (by kernel_rfl) (fun _ _ _ h => h) (Or.inl ⟨by rfl, ?_⟩) (by assumption) ?_
          rotate_left
          · (intro w0 hSw; (try dsimp only at hSw); go_simp; try with_reducible rfl)
          try simp only [List.getElem_toArray, List.getElem_cons_succ, List.getElem_cons_zero, Act.put, List.setIfInBounds_toArray, List.set_cons_zero, List.set_cons_succ]
          refine wpAnyH_take (i := 8) (v := ?_) rfl (by kernel_rfl) (by kernel_rfl) (by kernel_rfl) (fun _ _ _ h => h) (Or.inl ⟨by rfl, ?_⟩) (by assumption) ?_
          rotate_left
          · (intro w0 hSw; (try dsimp only at hSw); go_simp; try with_reducible rfl)
          try simp only [List.getElem_toArray, List.getElem_cons_succ, List.getElem_cons_zero, Act.put, List.setIfInBounds_toArray, List.set_cons_zero, List.set_cons_succ]
          refine wpAnyH_ready (rs := [9]) (by kernel_rfl) (by simp) ?_
          refine AllReadyH.cons rfl (fun K hK => ?_) AllReadyH.nil
          go_simp
          have HW := Lib.hid (show EdgM X.drew X.drew.heap.size a0 len0 l0 from (HH.out.below (B4.out.trans (HB.out.drew.mono B4.out.size))).more (Nat.le_trans B4.out.size HB.out.size))
          refine (wayG_any (c := cap0) (fr := x) X.drew HW.out (by omega) XW.out XW.out).mono ?_
          rintro e V ⟨i, v, hi, rfl, hrow, hbv⟩
          have PF := Lib.hid (way_circle hi RP.out).facts
          have hpl := WL.out x x i
          generalize wayL (bst (nxt (eds l0)) x i) x = p at PF hrow hpl
          obtain ⟨m, hm⟩ : ∃ m, p.length = m + 2 := ⟨p.length - 2, by have := PF.out.1; omega⟩
          rw [hm] at hrow
          obtain ⟨A6, c6, rfl, hr6, _⟩ := own_slice hrow
          obtain ⟨bp, op, rfl, hbp, hcp⟩ := int_cells hr6 (by omega)
          have CP := Lib.hid (show ∀ j, j < m + 2 → V.cell? ⟨bp, op + j, none⟩ = some (.int .i64 (gd p j)) from fun j hj => hcp j (by omega))
          have HBV := Lib.hid (show Below w4.heap.size w4 V from HB.out.drew.trans (hbv.mono HB.out.size))
          have EV := Lib.hid (show EdgM V V.heap.size a0 len0 l0 from HW.out.next hbv)
          have PM := Lib.hid hm
          have hm4 : m ≤ 400 := by omega
          clear hrow hr6 hcp hbv hi hpl hm HB
          try go_simp
          refine hK.out _ _ (CX.out _ HBV.out) (fun hHeld => ?_)
          clear hK K
          refine wpAnyH_take (i := 10) (v := ?_) rfl (by kernel_rfl) (by kernel_rfl) (by kernel_rfl) (fun _ _ _ h => h) (Or.inl ⟨by rfl, ?_⟩) (by assumption) ?_
          rotate_left
          · (intro w0 hSw; (try dsimp only at hSw); go_simp; try with_reducible rfl)
          try simp only [List.getElem_toArray, List.getElem_cons_succ, List.getElem_cons_zero, Act.put, List.setIfInBounds_toArray, List.set_cons_zero, List.set_cons_succ]
          refine wpAnyH_done (by kernel_rfl) ?_ _
          have kx := CX.out _ HBV.out
          have p0 : V.cell? ⟨bp, op, none⟩ = some (.int .i64 x) := by have := CP.out 0 (by omega); rw [PF.out.2.1] at this; exact this
          have p1 : V.cell? ⟨bp, op + (m + 1), none⟩ = some (.int .i64 x) := by have := CP.out (m + 1) (by omega); have h2 := PF.out.2.2.1; rw [PM.out] at h2; rw [← h2]; exact this
          have q1 : IntKind.i64.wrap (((m + 2 : Nat) : Int) - 1) = ((m + 1 : Nat) : Int) := by rw [show ((m + 2 : Nat) : Int) - 1 = ((m + 1 : Nat) : Int) by omega]; exact IntWalk.i64_in _ (by omega)
          have q2 : IntKind.i64.wrap ((m : Int) + 2 - 1) = (m : Int) + 1 := by rw [show (m : Int) + 2 - 1 = (m : Int) + 1 by omega]; exact IntWalk.i64_in _ (by omega)
          have y1 : decide ((m : Int) + 2 < 2) = false := by simp; omega
          have y2 : decide (((m + 2 : Nat) : Int) < 2) = false := by simp; omega
          go_wp2_with fail
          go_quiet (fail)
          go_wp2_with fail
          go_loopw [15] (fun s15 wr => ∃ (j q : Nat), s15 = .int .i64 ((j : Int) + 1) ∧ j + 1 ≤ m + 2 ∧ wr = V.drewN q) (fun s15 _ => 2000 - (RowKit.intOf s15).toNat)
          case atStart => exact ⟨0, _, rfl, by omega, rfl⟩
          case round =>
            obtain ⟨j, q, rfl, hj, rfl⟩ := hrel
            by_cases hjl : j + 1 < m + 2
            · have ky := CP.out (j + 1) hjl
              have kz := CP.out j (by omega)
              obtain ⟨f1, f2, f3⟩ := PF.out.2.2.2 j (by rw [PM.out]; exact hjl)
              have hyc : gd p (j + 1) ∈ l3 := (M3.out _).2 ⟨gd p j, f3.trans f2, f1⟩
              have hye : (gd p j, gd p (j + 1)) ∈ eds l0 := nxt_mem.1 f1
              have YC := Lib.hid hyc
              have YE := Lib.hid hye
              clear f1 f2 f3 hyc hye
              generalize gd p (j + 1) = y at ky YC YE
              generalize gd p j = z at kz YE
              have j4 : j ≤ 401 := by omega
              have j5 : decide ((j : Int) + 1 < (m : Int) + 2) = true := decide_eq_true (by omega)
              have j6 : (j : Int) + 1 < (m : Int) + 2 := by omega
              go_wp2_with fail
              go_loopw [16, 18] (fun s16 s18 wr => ∃ (i : Nat) (f : Bool) (q : Nat), s16 = .bool f ∧ s18 = .int .i64 (i : Nat) ∧ i ≤ l3.length ∧ (f = true ↔ y ∈ l3.take i) ∧ wr = V.drewN q) (fun _ s18 _ => 1000 - (RowKit.intOf s18).toNat)
              case atStart => exact ⟨0, false, _, rfl, rfl, Nat.zero_le _, by simp, rfl⟩
              case round =>
                obtain ⟨i, f, q1, rfl, rfl, hi, hf, rfl⟩ := hrel
                have FF := Lib.hid hf
                clear hf
                by_cases hil : i < l3.length
                · have kc := CC.out V HBV.out i hil
                  have hts := List.take_add_one (l := l3) (i := i)
                  rw [List.getElem?_eq_getElem hil, ← gd_get hil] at hts
                  have TS := Lib.hid hts
                  clear hts
                  generalize gd l3 i = u at kc TS
                  cases f with
                  | true =>
                    go_wp2_with fail
                    go_quiet (fail)
                    go_wp2_with fail
                    go_roundw
                    case rel => exact ⟨i + 1, true, _, rfl, by go_num, hil, by rw [TS.out, List.mem_append]; exact ⟨fun h => .inl (FF.out.1 (by first | rfl | trivial)), fun _ => by first | rfl | trivial⟩, rfl⟩
                    case measure => simp [RowKit.intOf]; omega
                  | false =>
                    by_cases e : u = y
                    · have d2 : (u == y) = true := by simpa using e
                      have EE := Lib.hid e
                      clear e
                      go_wp2_with fail
                      go_quiet (fail)
                      go_wp2_with fail
                      go_roundw
                      case rel => exact ⟨i + 1, true, _, rfl, by go_num, hil, by rw [TS.out, List.mem_append]; exact ⟨fun h => .inr (by simp [EE.out]), fun _ => rfl⟩, rfl⟩
                      case measure => simp [RowKit.intOf]; omega
                    · have d2 : (u == y) = false := by simpa using e
                      have EE := Lib.hid e
                      clear e
                      go_wp2_with fail
                      go_quiet (fail)
                      go_wp2_with fail
                      go_roundw
                      case rel => exact ⟨i + 1, false, _, rfl, by go_num, hil, by
                        rw [TS.out, List.mem_append]
                        exact ⟨fun h => .inl (FF.out.1 h), fun h => h.elim (fun h => FF.out.2 h) (fun h => by simp at h; exact absurd h.symm EE.out)⟩, rfl⟩
                      case measure => simp [RowKit.intOf]; omega
                · obtain rfl : i = l3.length := by omega
                  obtain rfl : f = true := by have := FF.out; rw [List.take_length] at this; exact this.2 YC.out
                  clear FF
                  have w1 : IntKind.i64.wrap (((j + 1 : Nat) : Int) - 1) = (j : Int) := by rw [show ((j + 1 : Nat) : Int) - 1 = (j : Int) by omega]; exact IntWalk.i64_in _ (by omega)
                  have w2 : IntKind.i64.wrap ((j : Int) + 1 - 1) = (j : Int) := by rw [show (j : Int) + 1 - 1 = (j : Int) by omega]; exact IntWalk.i64_in _ (by omega)
                  go_wp2_with fail
                  go_loopw [17, 19] (fun s17 s19 wr => ∃ (n : Nat) (f : Bool) (q : Nat), s17 = .bool f ∧ s19 = .int .i64 (n : Nat) ∧ n ≤ len0 ∧ (f = true ↔ (z, y) ∈ eds (l0.take n)) ∧ wr = V.drewN q) (fun _ s19 _ => 1000 - (RowKit.intOf s19).toNat)
                  case atStart => exact ⟨0, false, _, rfl, rfl, Nat.zero_le _, by simp [eds], rfl⟩
                  case round =>
                    obtain ⟨n, f, q2, rfl, rfl, hn, hf, rfl⟩ := hrel
                    have FF := Lib.hid hf
                    clear hf
                    by_cases hnl : n < len0
                    · obtain ⟨b, off, a, s, t, u, rfl, hbl, ⟨hl, e⟩, hc, wa, wt⟩ := EV.out.at_ hnl
                      have HE := Lib.hid (eds_take l0 hl e)
                      have k0 : V.cell? ⟨b, off + n * 4, none⟩ = some (.int .i64 a) := by have := hc 0 _ rfl; simpa [Addr.add] using this
                      have k2 : V.cell? ⟨b, off + n * 4 + 2, none⟩ = some (.int .i64 t) := by have := hc 2 _ rfl; simpa [Addr.add] using this
                      clear hc wa wt e hbl
                      cases f with
                      | true =>
                        go_wp2_with fail
                        go_quiet (fail)
                        go_wp2_with fail
                        go_roundw
                        case rel => exact ⟨n + 1, true, _, rfl, by go_num, hnl, by rw [HE.out, List.mem_append]; exact ⟨fun h => .inl (FF.out.1 (by first | rfl | trivial)), fun _ => by first | rfl | trivial⟩, rfl⟩
                        case measure => simp [RowKit.intOf]; omega
                      | false =>
                        by_cases e1 : a = z
                        · have d2 : (a == z) = true := by simpa using e1
                          have EA := Lib.hid e1
                          clear e1
                          by_cases e2 : t = y
                          · have d3 : (t == y) = true := by simpa using e2
                            have ET := Lib.hid e2
                            clear e2
                            go_wp2_with fail
                            go_quiet (fail)
                            go_wp2_with fail
                            go_roundw
                            case rel => exact ⟨n + 1, true, _, rfl, by go_num, hnl, by rw [HE.out, List.mem_append]; exact ⟨fun h => .inr (by simp [EA.out, ET.out]), fun _ => rfl⟩, rfl⟩
                            case measure => simp [RowKit.intOf]; omega
                          · have d3 : (t == y) = false := by simpa using e2
                            have ET := Lib.hid e2
                            clear e2
                            go_wp2_with fail
                            go_quiet (fail)
                            go_wp2_with fail
                            go_roundw
                            case rel => exact ⟨n + 1, false, _, rfl, by go_num, hnl, by
                              rw [HE.out, List.mem_append]
                              exact ⟨fun h => .inl (FF.out.1 h), fun h => h.elim (fun h => FF.out.2 h) (fun h => by simp at h; exact absurd h.2.symm ET.out)⟩, rfl⟩
                            case measure => simp [RowKit.intOf]; omega
                        · have d2 : (a == z) = false := by simpa using e1
                          have EA := Lib.hid e1
                          clear e1
                          go_wp2_with fail
                          go_quiet (fail)
                          go_wp2_with fail
                          go_roundw
                          case rel => exact ⟨n + 1, false, _, rfl, by go_num, hnl, by
                            rw [HE.out, List.mem_append]
                            exact ⟨fun h => .inl (FF.out.1 h), fun h => h.elim (fun h => FF.out.2 h) (fun h => by simp at h; exact absurd h.1.symm EA.out)⟩, rfl⟩
                          case measure => simp [RowKit.intOf]; omega
                    · obtain rfl : n = len0 := by omega
                      obtain rfl : f = true := by
                        have := FF.out
                        rw [List.take_of_length_le (by have := HH.out.count; omega)] at this
                        exact this.2 YE.out
                      clear FF
                      go_wp2_with fail
                      go_roundw
                      case rel => exact ⟨j + 1, _, by go_num, by omega, rfl⟩
                      case measure => simp [RowKit.intOf]; omega
            · obtain rfl : j = m + 1 := by omega
              have v1 : decide ((m : Int) + 1 + 1 < (m : Int) + 2) = false := decide_eq_false (by omega)
              have v2 : decide (((m + 1 + 1 : Nat) : Int) < ((m + 2 : Nat) : Int)) = false := decide_eq_false (by omega)
              go_wp2_with fail
              go_roundw
              case rel => exact ⟨k + 1, by go_num, hlt, below_drewN HBV.out q⟩
              case measure => simp [RowKit.intOf]; omega
        · obtain rfl : k = l3.length := by omega
          go_wp2_with fail
          go_ret
          exact ⟨rfl, B4.out.trans (HB.out.mono B4.out.size)⟩
end Go.Proofs.Ytfaciajnopkjlaa
