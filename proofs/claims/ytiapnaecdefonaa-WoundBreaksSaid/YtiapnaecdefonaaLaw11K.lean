/- WoundBreaks. -/
import Derived.Test.YtiapnaecdefonaaWndL
import Derived.Test.YtiapnaecdefonaaWndK
import Derived.Test.YtiapnaecdefonaaEdgB
import Derived.Test.YtiapnaecdefonaaGraH
import Derived.Test.YtiapnaecdefonaaGraE
import Derived.Test.YtiapnaecdefonaaGraL
namespace Go.Proofs.Ytiapnaecdefonaa
open Go.RowKit
set_option linter.unusedVariables false
set_option linter.unusedSimpArgs false

theorem own_drewN {w : World} {base size n : Nat} {t : TypeId} {v : Value} {xs : List Value} (q : Nat) (h : w.ownsRow base t size v n xs) : (w.drewN q).ownsRow base t size v n xs := h
set_option maxRecDepth 100000 in
set_option maxHeartbeats 16000000 in
theorem woundBreaks_walk (a0 : Option Addr) (len0 cap0 : Nat) (l0 : List (List Int)) (W : World) (h : EdgM W W.heap.size a0 len0 l0) :
    Calls Try.prog 6 #[.slice a0 len0 cap0] W fun e w' => e = .returned (.bool true) ∧ Below W.heap.size W w' := by
  have HH := Lib.hid h
  clear h
  by_cases h60 : 60 < len0
  · have d1 : decide ((60 : Int) < (len0 : Int)) = true := by simp; omega
    go_enter Try.func6, Try.ntmps6
    go_wp2_with (go_at_call 12; refine (alive11_any _).mono ?_; rintro e w1 ⟨rfl, hb1⟩; have B1 := Lib.hid hb1; clear hb1)
    go_ret
    exact ⟨rfl, B1.out⟩
  have d1 : decide ((60 : Int) < (len0 : Int)) = false := by simp; omega
  obtain ⟨i0, hi0, hz0, hz1, hz2⟩ := info_parts info_edge
  have hnn : ∀ W, (binOp .neq 43 .nilIface .nilIface).run Try.prog W = .ok (.bool false) W := fun W => run_neq_nil_nil (P := Try.prog) W 43 Try.underlying43
  have HI := Lib.hid info_edge4
  have HL := Lib.hid (show (hurtL (eds l0)).length ≤ 400 from by have := hurt_len (eds l0); rw [HH.out.elen] at this; omega)
  have HF := Lib.hid (HH.out.fin (by omega))
  have HN := Lib.hid (show (nds (eds l0)).length ≤ 400 from by have := nds_len (eds l0); rw [HH.out.elen] at this; omega)
  have O1 := Lib.hid (show ∀ l : List Int, ∀ v ∈ ints l, v.oneCell' = true from fun l v hv => by obtain ⟨c, _, rfl⟩ := List.mem_map.1 hv; rfl)
  go_enter Try.func6, Try.ntmps6
  go_wp2_with (go_at_call 12; refine (alive11_any _).mono ?_; rintro e w1 ⟨rfl, hb1⟩; have B1 := Lib.hid hb1; have E1 := Lib.hid (HH.out.next hb1); clear hb1)
  refine (restG_any (c := cap0) w1 E1.out (by omega)).mono ?_
  rintro e w2 ⟨A2, c2, rfl, hr2, hb2⟩
  have R2 := Lib.hid hr2
  have E2 := Lib.hid (E1.out.next hb2)
  have B2 := Lib.hid (B1.out.trans (hb2.mono B1.out.size))
  have RLEN := Lib.hid (show (restL (eds l0) l0).length ≤ 60 from by unfold restL; have := List.length_filter_le (leftE (eds l0)) l0; have := HH.out.count; omega)
  clear hr2 hb2
  go_wp2_with fail
  refine (ofG_any (c := cap0) w2 E2.out (by omega)).mono ?_
  rintro e w3 ⟨v3, rfl, hrow3, hb3⟩
  obtain ⟨A3, c3, rfl, hr3, _⟩ := own_slice hrow3
  have K3 := Lib.hid hr3
  have R3 := Lib.hid (R2.out.next hb3)
  have E3 := Lib.hid (E2.out.next hb3)
  have B3 := Lib.hid (B2.out.trans (hb3.mono B2.out.size))
  have rlen := RLEN.out
  have DN := Lib.hid (show ∀ l ∈ restL (eds l0) l0, fld l 2 ≤ fld l 0 from fun l hl => rest_down hl)
  have PO := Lib.hid (show ordE (eds (plainL (restL (eds l0) l0))) = .nilIface from by unfold ordE; rw [if_pos (plain_order l0)])
  clear hrow3 hb3 hr3 R2 E1 E2 B1 B2
  generalize restL (eds l0) l0 = rs at R3 DN PO rlen RLEN
  go_wp2_with fail
  go_loopw [5, 6] (fun s5 s6 wr => ∃ k : Nat, s6 = .int .i64 k ∧ k ≤ rs.length ∧ wr.ownsRow w3.heap.size 41 4 s5 (plainL (rs.take k)).length (ints (plainL (rs.take k)).flatten) ∧ Below w3.heap.size w3 wr) (fun _ s6 _ => 1000 - (RowKit.intOf s6).toNat)
  case atStart => exact ⟨0, rfl, Nat.zero_le _, World.ownsRow_nil _ _ _ _, Below.refl _ _⟩
  case round =>
    obtain ⟨k, rfl, hk, hrow, hb⟩ := hrel
    rename World => X
    have HR := Lib.hid hrow
    have HB := Lib.hid hb
    have HS := Lib.hid hb.size
    clear hrow hb
    by_cases hlt : k < rs.length
    · obtain ⟨b, off, a, s, t, u, rfl, hbl, ⟨hl, e⟩, hc, wa, wt⟩ := (R3.out.below HB.out).at_ hlt
      have hdn : t ≤ a := by have := DN.out _ (List.getElem_mem hl); rw [e] at this; exact this
      have PY := Lib.hid (fun h => plain_yes (ls := rs) hl e h)
      have PN := Lib.hid (fun h => plain_no (ls := rs) hl e h)
      have PL := Lib.hid (plain_len rs k)
      have HC := Lib.hid hc
      have k0 : X.cell? ⟨b, off + k * 4, none⟩ = some (.int .i64 a) := by have := hc 0 _ rfl; simpa [Addr.add] using this
      have k2 : X.cell? ⟨b, off + k * 4 + 2, none⟩ = some (.int .i64 t) := by have := hc 2 _ rfl; simpa [Addr.add] using this
      have g1 : decide (a < t) = false := by simpa using hdn
      clear hc wa wt e hdn hl
      generalize plainL (rs.take k) = O at HR PY PN PL
      by_cases hat : a = t
      · have g2 : (a == t) = true := by simpa using hat
        have g3 : (a != t) = false := by simpa using hat
        have HX := Lib.hid (PN.out hat)
        clear hat
        go_wp2_with fail
        go_quiet (fail)
        go_wp2_with fail
        go_quiet (fail)
        go_wp2_with fail
        go_roundw
        case rel => exact ⟨k + 1, by go_num, by omega, by rw [HX.out]; exact own_drewN _ HR.out, below_drewN HB.out _⟩
        case measure => simp [RowKit.intOf]; omega
      · have g2 : (a == t) = false := by simpa using hat
        have g3 : (a != t) = true := by simpa using hat
        have HX := Lib.hid (PY.out hat)
        have RN := Lib.hid (fun q => reads_newStruct (X.drewN q) 41 [a, s, t, u] (size := 4) rfl)
        have HRd := Lib.hid (fun q => own_drewN q HR.out)
        have HBd := Lib.hid (fun q => below_drewN HB.out q)
        have pl := PL.out
        clear hat
        go_wp2_with fail
        go_quiet (fail)
        go_wp2_with fail
        go_quiet (fail)
        go_wp2_with (first
          | (refine wpList_load_cells rfl 41 (.tmp 55) rfl ⟨b, off + k * 4, none⟩ rfl [.int .i64 a, .int .i64 s, .int .i64 t, .int .i64 u] _ HC.out Try.underlying41 rfl HI.out ?_)
          | (at_builtin; refine wpList_append_any _ rfl (.tmp 52) (.tmp 57) _ rfl w3.heap.size 41 i0 _ 4 32 Try.underlying22 hi0 hz0 hz1 hz2 rfl (by omega) _ O.length _ rfl ((HRd.out _).alloc _) _ _ 1 1 (ints [a, s, t, u]) rfl (RN.out _) (O1.out _) (by simp only [maxLen]; omega) (by omega) (((HBd.out _).alloc (HBd.out _).size _).size) ?_
             intro v9 w9 hown9 hg9 hv9
             have O9 := Lib.hid hown9
             have G9 := Lib.hid hg9
             clear hown9 hg9 hv9))
        go_roundw
        case rel =>
          refine ⟨k + 1, by go_num, by omega, ?_, below_own ((HBd.out _).alloc (HBd.out _).size _) G9.out ((HRd.out _).alloc _) (Nat.le_refl _) (((HBd.out _).alloc (HBd.out _).size _).size)⟩
          rw [HX.out, List.length_append, List.flatten_append, show ints (O.flatten ++ [[a, s, t, u]].flatten) = ints O.flatten ++ ints [a, s, t, u] by simp [ints]]
          exact O9.out
        case measure => simp [RowKit.intOf]; omega
    · obtain rfl : k = rs.length := by omega
      rw [List.take_length] at HR
      obtain ⟨A4, c4, rfl, hr4, _⟩ := own_slice HR.out
      have P4 := Lib.hid (plain_edg R3.out hr4)
      have plen4 : (plainL rs).length ≤ 60 := by unfold plainL; have := List.length_filter_le (fun l => decide (fld l 0 ≠ fld l 2)) rs; omega
      have K4 := Lib.hid (K3.out.below HB.out)
      have E4 := Lib.hid (E3.out.next HB.out)
      have B4 := Lib.hid (B3.out.trans (HB.out.mono B3.out.size))
      clear hr4 K3 E3 B3
      go_wp2_with fail
      refine (orderG_any (c := c4) X P4.out (by omega)).mono ?_
      rintro e w5 ⟨v5, rfl, _, hb5⟩
      rw [PO.out]
      have K5 := Lib.hid (K4.out.below (hb5.mono HB.out.size))
      have E5 := Lib.hid (E4.out.next hb5)
      have B5 := Lib.hid (B4.out.trans (hb5.mono B4.out.size))
      have Z5 := Lib.hid (Nat.le_trans HB.out.size hb5.size)
      clear hb5 P4 E4 B4 K4
      go_wp2_with fail
      refine (nodesR_any (c := cap0) w5 E5.out (by omega)).mono ?_
      rintro e w6 ⟨v6, rfl, hrow6, hb6⟩
      obtain ⟨A6, c6, rfl, hr6, _⟩ := own_slice hrow6
      have N6 := Lib.hid hr6
      have K6 := Lib.hid ((K5.out.more Z5.out).below hb6)
      have K6' := Lib.hid (K6.out.more hb6.size)
      have E6 := Lib.hid (E5.out.next hb6)
      have B6 := Lib.hid (B5.out.trans (hb6.mono B5.out.size))
      have hn4 := HN.out
      have hl4 := HL.out
      clear hrow6 hb6 hr6 E5 B5 K5 K6
      go_wp2_with fail
      go_loopw [10] (fun s10 wr => ∃ i : Nat, s10 = .int .i64 i ∧ i ≤ (nds (eds l0)).length ∧ Below w6.heap.size w6 wr) (fun s10 _ => 1000 - (RowKit.intOf s10).toNat)
      case atStart => exact ⟨0, rfl, Nat.zero_le _, Below.refl _ _⟩
      case round =>
        obtain ⟨i, rfl, hi, hb⟩ := hrel
        rename World => Y
        have HBY := Lib.hid hb
        clear hb
        by_cases hil : i < (nds (eds l0)).length
        · obtain ⟨bn, on, rfl, hbn, hcn⟩ := int_cells (N6.out.below HBY.out) (by omega)
          have kx := hcn i hil
          have WX := Lib.hid (show (Lit.int .i64 (gd (nds (eds l0)) i)).wf = true from HF.out.wf _ (by rw [gd_get hil]; exact List.getElem_mem hil))
          clear hcn hbn
          generalize gd (nds (eds l0)) i = x at kx WX
          have KX := Lib.hid kx
          have EY := Lib.hid (show EdgM Y.drew Y.drew.heap.size a0 len0 l0 from E6.out.next HBY.out.drew)
          go_wp2_with fail
          refine wp_region_held_drew (S := fun w' => w'.cell? ⟨bn, on + i, none⟩ = some (.int .i64 x)) (by kernel_rfl) KX.out (fun hHeld => ?_)
          refine wpAnyH_take (i := 0) (v := ?_) rfl (by kernel_rfl) (by kernel_rfl) (by kernel_rfl) (fun _ _ _ h => h) (Or.inl ⟨by rfl, ?_⟩) (by assumption) ?_
          rotate_left
          · (intro w0 hSw; (try dsimp only at hSw); go_simp; try with_reducible rfl)
          try simp only [List.getElem_toArray, List.getElem_cons_succ, List.getElem_cons_zero, Act.put, List.setIfInBounds_toArray, List.set_cons_zero, List.set_cons_succ]
          refine wpAnyH_take (i := 1) (v := ?_) rfl (by kernel_rfl) (by kernel_rfl) (by kernel_rfl) (fun _ _ _ h => h) (Or.inl ⟨by rfl, ?_⟩) (by assumption) ?_
          rotate_left
          · (intro w0 hSw; (try dsimp only at hSw); go_simp; try with_reducible rfl)
          try simp only [List.getElem_toArray, List.getElem_cons_succ, List.getElem_cons_zero, Act.put, List.setIfInBounds_toArray, List.set_cons_zero, List.set_cons_succ]
          refine wpAnyH_take (i := 2) (v := ?_) rfl (by kernel_rfl) (by kernel_rfl) (by kernel_rfl) (fun _ _ _ h => h) (Or.inl ⟨by rfl, ?_⟩) (by assumption) ?_
          rotate_left
          · (intro w0 hSw; (try dsimp only at hSw); go_simp; try with_reducible rfl)
          try simp only [List.getElem_toArray, List.getElem_cons_succ, List.getElem_cons_zero, Act.put, List.setIfInBounds_toArray, List.set_cons_zero, List.set_cons_succ]
          refine wpAnyH_take (i := 3) (v := ?_) rfl (by kernel_rfl) (by kernel_rfl) (by kernel_rfl) (fun _ _ _ h => h) (Or.inl ⟨by rfl, ?_⟩) (by assumption) ?_
          rotate_left
          · (intro w0 hSw; (try dsimp only at hSw); go_simp; try with_reducible rfl)
          try simp only [List.getElem_toArray, List.getElem_cons_succ, List.getElem_cons_zero, Act.put, List.setIfInBounds_toArray, List.set_cons_zero, List.set_cons_succ]
          refine wpAnyH_take (i := 4) (v := ?_) rfl (by kernel_rfl) (by kernel_rfl) (by kernel_rfl) (fun _ _ _ h => h) (Or.inl ⟨by rfl, ?_⟩) (by assumption) ?_
          rotate_left
          · (intro w0 hSw; (try dsimp only at hSw); go_simp; try with_reducible rfl)
          try simp only [List.getElem_toArray, List.getElem_cons_succ, List.getElem_cons_zero, Act.put, List.setIfInBounds_toArray, List.set_cons_zero, List.set_cons_succ]
          refine wpAnyH_take (i := 5) (v := ?_) rfl (by kernel_rfl) (by kernel_rfl) (by kernel_rfl) (fun _ _ _ h => h) (Or.inl ⟨by rfl, ?_⟩) (by assumption) ?_
          rotate_left
          · (intro w0 hSw; (try dsimp only at hSw); go_simp; try with_reducible rfl)
          try simp only [List.getElem_toArray, List.getElem_cons_succ, List.getElem_cons_zero, Act.put, List.setIfInBounds_toArray, List.set_cons_zero, List.set_cons_succ]
          refine wpAnyH_take (i := 6) (v := ?_) rfl (by kernel_rfl) (by kernel_rfl) (by kernel_rfl) (fun _ _ _ h => h) (Or.inl ⟨by rfl, ?_⟩) (by assumption) ?_
          rotate_left
          · (intro w0 hSw; (try dsimp only at hSw); go_simp; try with_reducible rfl)
          try simp only [List.getElem_toArray, List.getElem_cons_succ, List.getElem_cons_zero, Act.put, List.setIfInBounds_toArray, List.set_cons_zero, List.set_cons_succ]
          refine wpAnyH_take (i := 7) (v := ?_) rfl (by kernel_rfl) (by kernel_rfl) (by kernel_rfl) (fun _ _ _ h => h) (Or.inl ⟨by rfl, ?_⟩) (by assumption) ?_
          rotate_left
          · (intro w0 hSw; (try dsimp only at hSw); go_simp; try with_reducible rfl)
          try simp only [List.getElem_toArray, List.getElem_cons_succ, List.getElem_cons_zero, Act.put, List.setIfInBounds_toArray, List.set_cons_zero, List.set_cons_succ]
          refine wpAnyH_take (i := 8) (v := ?_) rfl (by kernel_rfl) (by kernel_rfl) (by kernel_rfl) (fun _ _ _ h => h) (Or.inl ⟨by rfl, ?_⟩) (by assumption) ?_
          rotate_left
          · (intro w0 hSw; (try dsimp only at hSw); go_simp; try with_reducible rfl)
          try simp only [List.getElem_toArray, List.getElem_cons_succ, List.getElem_cons_zero, Act.put, List.setIfInBounds_toArray, List.set_cons_zero, List.set_cons_succ]
          refine wpAnyH_ready (rs := [9]) (by kernel_rfl) (by simp) ?_
          refine AllReadyH.cons rfl (fun K hK => ?_) AllReadyH.nil
          go_simp
          refine (wayG_any (c := cap0) (fr := x) Y.drew EY.out (by omega) WX.out WX.out).mono ?_
          rintro e Z ⟨j, v, hj, rfl, hrow, hbZ⟩
          obtain ⟨A7, c7, rfl, hr7, _⟩ := own_slice hrow
          have WY := Lib.hid (fun h => way_hurt hj h)
          have WL := Lib.hid (way_len (E := eds l0) (x := x) (i := j) HF.out.sub)
          have R7 := Lib.hid hr7
          have BZ := Lib.hid (show Below w6.heap.size w6 Z from HBY.out.drew.trans (hbZ.mono (by have := HBY.out.size; simpa using this)))
          generalize wayL (bst (nxt (eds l0)) x j) x = p at R7 WY WL
          clear hj hrow hr7
          refine hK.out _ _ ?_ (fun hHeld => ?_)
          · exact (hbZ.cell (p := ⟨bn, on + i, none⟩) (by have := World.block_lt_of_cell? _ _ KX.out; simpa using this)).trans KX.out
          clear hK K hbZ
          refine wpAnyH_take (i := 10) (v := ?_) rfl (by kernel_rfl) (by kernel_rfl) (by kernel_rfl) (fun _ _ _ h => h) (Or.inl ⟨by rfl, ?_⟩) (by assumption) ?_
          rotate_left
          · (intro w0 hSw; (try dsimp only at hSw); go_simp; try with_reducible rfl)
          try simp only [List.getElem_toArray, List.getElem_cons_succ, List.getElem_cons_zero, Act.put, List.setIfInBounds_toArray, List.set_cons_zero, List.set_cons_succ]
          refine wpAnyH_done (by kernel_rfl) ?_ _
          clear hHeld
          have KZ := Lib.hid (K6'.out.below BZ.out)
          have wl := WL.out
          by_cases h3 : p.length < 3
          · have g1 : decide ((p.length : Int) < 3) = true := by simp; omega
            have g2 : decide (p.length < 3) = true := by simpa using h3
            clear h3
            go_wp2_with fail
            go_roundw
            case rel => exact ⟨i + 1, by go_num, by omega, BZ.out⟩
            case measure => simp [RowKit.intOf]; omega
          · have g1 : decide ((p.length : Int) < 3) = false := by simp; omega
            have g2 : decide (p.length < 3) = false := by simpa using h3
            obtain ⟨J, hJ, M, hM, hJM⟩ := WY.out (by omega)
            have JM := Lib.hid hJM
            clear h3 hJM
            go_wp2_with fail
            go_loopw [12, 13] (fun s12 s13 wr => ∃ (k' q : Nat) (f : Bool), s12 = .bool f ∧ s13 = .int .i64 k' ∧ k' ≤ p.length ∧ (J < k' → f = true) ∧ wr = Z.drewN q) (fun _ s13 _ => 1000 - (RowKit.intOf s13).toNat)
            case atStart => exact ⟨0, 0, false, rfl, rfl, Nat.zero_le _, fun h => absurd h (by omega), rfl⟩
            case round =>
              obtain ⟨k', q, f0, rfl, rfl, hk', hf0, rfl⟩ := hrel
              have HF0 := Lib.hid hf0
              clear hf0
              by_cases hkl : k' < p.length
              · obtain ⟨bp, op, rfl, hbp, hcp⟩ := int_cells R7.out (by omega)
                have KP := Lib.hid (hcp k' hkl)
                clear hcp hbp
                go_wp2_with fail
                go_loopw [12, 14] (fun s12 s14 wr => ∃ (m q : Nat) (f : Bool), s12 = .bool f ∧ s14 = .int .i64 m ∧ m ≤ (hurtL (eds l0)).length ∧ (f0 = true → f = true) ∧ (k' = J → M < m → f = true) ∧ wr = Z.drewN q) (fun _ s14 _ => 1000 - (RowKit.intOf s14).toNat)
                case atStart => exact ⟨0, _, f0, rfl, rfl, Nat.zero_le _, id, fun _ h => absurd h (by omega), rfl⟩
                case round =>
                  obtain ⟨m, q, f, rfl, rfl, hm, hf1, hf2, rfl⟩ := hrel
                  have HF1 := Lib.hid hf1
                  have HF2 := Lib.hid hf2
                  clear hf1 hf2
                  by_cases hml : m < (hurtL (eds l0)).length
                  · obtain ⟨b', off', rfl, _, k2, _⟩ := wnd_at KZ.out rfl hml
                    have kp := KP.out
                    have EQ := Lib.hid (show k' = J → gd (hurtL (eds l0)) m ≠ gd p k' → M ≠ m from fun e hne e2 => hne (by rw [e, ← e2]; exact JM.out))
                    generalize gd (hurtL (eds l0)) m = y at k2 EQ
                    generalize gd p k' = z at kp EQ
                    cases f with
                    | true =>
                      go_wp2_with fail
                      go_quiet (fail)
                      go_wp2_with fail
                      go_roundw
                      case rel => exact ⟨m + 1, _, true, rfl, by go_num, by omega, fun _ => rfl, fun _ _ => rfl, rfl⟩
                      case measure => simp [RowKit.intOf]; omega
                    | false =>
                      by_cases e : y = z
                      · have g3 : (y == z) = true := by simpa using e
                        clear e
                        go_wp2_with fail
                        go_quiet (fail)
                        go_wp2_with fail
                        go_roundw
                        case rel => exact ⟨m + 1, _, true, rfl, by go_num, by omega, fun _ => rfl, fun _ _ => rfl, rfl⟩
                        case measure => simp [RowKit.intOf]; omega
                      · have g3 : (y == z) = false := by simpa using e
                        have EQ2 := Lib.hid (fun h => EQ.out h e)
                        clear e
                        go_wp2_with fail
                        go_quiet (fail)
                        go_wp2_with fail
                        go_roundw
                        case rel => exact ⟨m + 1, _, false, rfl, by go_num, by omega, HF1.out, fun h1 h2 => HF2.out h1 (by have := EQ2.out h1; omega), rfl⟩
                        case measure => simp [RowKit.intOf]; omega
                  · go_wp2_with fail
                    go_roundw
                    case rel =>
                      refine ⟨k' + 1, _, f, rfl, by go_num, by omega, fun hlt => ?_, rfl⟩
                      by_cases e : k' = J
                      · exact HF2.out e (by omega)
                      · exact HF1.out (HF0.out (by omega))
                    case measure => simp [RowKit.intOf]; omega
              · obtain rfl : f0 = true := HF0.out (by omega)
                go_wp2_with fail
                go_roundw
                case rel => exact ⟨i + 1, by go_num, by omega, below_drewN BZ.out q⟩
                case measure => simp [RowKit.intOf]; omega
        · go_wp2_with fail
          go_ret
          exact ⟨rfl, B6.out.trans (HBY.out.mono B6.out.size)⟩
end Go.Proofs.Ytiapnaecdefonaa
