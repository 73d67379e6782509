/- The document's Of and Rest. -/
import Derived.Test.YtiapnaecdefonaaWndC
import Derived.Test.YtiapnaecdefonaaWndG
import Derived.Test.YtiapnaecdefonaaWndD
import Derived.Test.YtiapnaecdefonaaGraL
namespace Go.Proofs.Ytiapnaecdefonaa
open Go.RowKit
set_option linter.unusedVariables false
set_option linter.unusedSimpArgs false

theorem info_two : (Try.prog.info? 34).map (fun i => (i.zero, i.size, i.bytes)) = some (some (.agg #[.int .i64 0, .int .i64 0]), 2, 16) := by kernel_rfl
/-- Of the first k numbers those that are wounded. -/
def hurtT (E : Egs) (k : Nat) : List Int := ((nds E).take k).filter fun t => (byL E t).isSome
theorem hurtT_yes {E : Egs} {k : Nat} (hk : k < (nds E).length) {x : Int} (e : gd (nds E) k = x) (h : (byL E x).isSome = true) : hurtT E (k + 1) = hurtT E k ++ [x] := by
  unfold hurtT
  rw [List.take_add_one, List.getElem?_eq_getElem hk, ← gd_get hk, e, List.filter_append]
  simp [h]
theorem hurtT_no {E : Egs} {k : Nat} (hk : k < (nds E).length) {x : Int} (e : gd (nds E) k = x) (h : (byL E x).isSome = false) : hurtT E (k + 1) = hurtT E k := by
  unfold hurtT
  rw [List.take_add_one, List.getElem?_eq_getElem hk, ← gd_get hk, e, List.filter_append]
  simp [h]
theorem hurtT_len (E : Egs) (k : Nat) : (hurtT E k).length ≤ k := Nat.le_trans (List.length_filter_le _ _) (by rw [List.length_take]; omega)
theorem hurtT_all (E : Egs) : hurtT E (nds E).length = hurtL E := by unfold hurtT hurtL; rw [List.take_length]
section
variable {w : World} {n : Nat} {A : Option Addr} {ls : List (List Int)}
set_option maxRecDepth 100000 in
set_option maxHeartbeats 8000000 in
theorem ofR_any {c : Nat} (w : World) (h : EdgM w w.heap.size A n ls) (hn : n ≤ 200) :
    Calls Try.prog 14 #[.slice A n c] w fun e w' => ∃ v, e = .returned v ∧ w'.ownsRow w.heap.size 34 2 v (hurtL (eds ls)).length (ints (woundsL (eds ls) (hurtL (eds ls))).flatten) ∧ Below w.heap.size w w' := by
  obtain ⟨i0, hi0, hz0, hz1, hz2⟩ := info_parts info_two
  have HN := Lib.hid (show (nds (eds ls)).length ≤ 400 from by have := nds_len (eds ls); rw [h.elen] at this; omega)
  have HH := Lib.hid h
  clear h
  go_enter Try.func14, Try.ntmps14
  go_wp2_with (go_at_call 20; refine (nodesR_any (c := c) _ HH.out hn).mono ?_; rintro e w3 ⟨v3, rfl, hrow, hb3⟩; have R30 := Lib.hid hrow; have B3 := Lib.hid hb3; clear hrow hb3)
  obtain ⟨A3, c3, rfl, hr3, _⟩ := own_slice R30.out
  have R3 := Lib.hid hr3
  have EL := Lib.hid ((HH.out.below B3.out).more B3.out.size)
  clear hr3 R30
  go_wp2_with fail
  go_loopw [4, 5] (fun s4 s5 wr => ∃ (k : Nat), s5 = .int .i64 k ∧ k ≤ (nds (eds ls)).length ∧ wr.ownsRow w3.heap.size 34 2 s4 (hurtT (eds ls) k).length (ints (woundsL (eds ls) (hurtT (eds ls) k)).flatten) ∧ Below w3.heap.size w3 wr) (fun _ s5 _ => 1000 - (RowKit.intOf s5).toNat)
  case atStart => exact ⟨0, rfl, Nat.zero_le _, World.ownsRow_nil _ _ _ _, Below.refl _ _⟩
  case round =>
    obtain ⟨k, rfl, hk, hrow, hb⟩ := hrel
    rename World => X
    have HR := Lib.hid hrow
    have HB := Lib.hid hb
    have HS := Lib.hid hb.size
    clear hrow hb
    by_cases hlt : k < (nds (eds ls)).length
    · obtain ⟨bn, on, rfl, hbn, hcn⟩ := int_cells (R3.out.below HB.out) (by omega)
      have kx := hcn k hlt
      have KX := Lib.hid (show ∀ Y, Below w3.heap.size X Y → Y.cell? ⟨bn, on + k, none⟩ = some (.int .i64 (gd (nds (eds ls)) k)) from fun Y hy => (hy.cell (p := ⟨bn, on + k, none⟩) hbn).trans kx)
      have TY := Lib.hid (fun x e h => hurtT_yes hlt (x := x) e h)
      have TN := Lib.hid (fun x e h => hurtT_no hlt (x := x) e h)
      have TL := Lib.hid (hurtT_len (eds ls) k)
      have EX := Lib.hid (EL.out.below HB.out)
      have h4 := HN.out
      clear hcn hbn
      obtain ⟨x, hx⟩ : ∃ x, gd (nds (eds ls)) k = x := ⟨_, rfl⟩
      have TY2 := Lib.hid (TY.out x hx)
      have TN2 := Lib.hid (TN.out x hx)
      rw [hx] at kx KX
      clear TY TN hx
      have RWX := Lib.hid (show rowW (eds ls) x = [x, (byL (eds ls) x).getD 0] from rfl)
      generalize hurtT (eds ls) k = O at HR TY2 TN2 TL
      cases hs : (byL (eds ls) x).isSome with
      | true =>
        have HS2 := Lib.hid hs
        have TK := Lib.hid (TY2.out hs)
        clear hs TY2 TN2
        obtain ⟨y, hy⟩ : ∃ y, (byL (eds ls) x).getD 0 = y := ⟨_, rfl⟩
        have HY := Lib.hid hy
        rw [hy] at RWX
        clear hy
        have O1 := Lib.hid (show ∀ v ∈ ints [x, y], v.oneCell' = true from fun v hv => by obtain ⟨c, _, rfl⟩ := List.mem_map.1 hv; rfl)
        have RN := Lib.hid (reads_newStruct X 34 [x, y] (size := 2) rfl)
        have TL4 := TL.out
        go_wp2_with (first
          | (go_at_call 31; refine (byR_any x _ EX.out (by omega)).mono ?_; rintro e w' ⟨rfl, hww⟩; subst hww; rw [HS2.out, HY.out])
          | (at_builtin; refine wpList_append_any _ rfl (.tmp 26) (.tmp 33) _ rfl w3.heap.size 34 i0 _ 2 16 Try.underlying30 hi0 hz0 hz1 hz2 rfl (by omega) _ O.length _ rfl (HR.out.alloc _) _ _ 1 1 (ints [x, y]) rfl RN.out O1.out (by simp only [maxLen]; omega) (by omega) (by have := HS.out; simp; omega) ?_
             intro v9 w9 hown9 hg9 hv9
             have O9 := Lib.hid hown9
             have G9 := Lib.hid hg9
             clear hown9 hg9 hv9))
        go_roundw
        case rel =>
          refine ⟨k + 1, by go_num, by omega, ?_, below_own (HB.out.alloc HS.out _) G9.out (HR.out.alloc _) (Nat.le_refl _) (by have := HS.out; simp; omega)⟩
          rw [TK.out, List.length_append, woundsL_snoc, RWX.out, List.flatten_append, show ints ((woundsL (eds ls) O).flatten ++ [[x, y]].flatten) = ints (woundsL (eds ls) O).flatten ++ ints [x, y] by simp [ints]]
          exact O9.out
        case measure => simp [RowKit.intOf]; omega
      | false =>
        have HS2 := Lib.hid hs
        have TK := Lib.hid (TN2.out hs)
        clear hs TY2 TN2
        generalize (byL (eds ls) x).getD 0 = y at RWX
        go_wp2_with (go_at_call 31; refine (byR_any x _ EX.out (by omega)).mono ?_; rintro e w' ⟨rfl, hww⟩; subst hww; rw [HS2.out])
        go_roundw
        case rel => exact ⟨k + 1, by go_num, by omega, by rw [TK.out]; exact HR.out, HB.out⟩
        case measure => simp [RowKit.intOf]; omega
    · obtain rfl : k = (nds (eds ls)).length := by omega
      rw [hurtT_all] at HR
      go_wp2_with fail
      go_ret
      exact ⟨_, rfl, own_less HR.out B3.out.size, B3.out.trans (HB.out.mono B3.out.size)⟩
set_option maxRecDepth 100000 in
set_option maxHeartbeats 8000000 in
theorem restR_any {c : Nat} (w : World) (h : EdgM w w.heap.size A n ls) (hn : n ≤ 200) :
    Calls Try.prog 17 #[.slice A n c] w fun e w' => ∃ A' c', e = .returned (.slice A' (restL (eds ls) ls).length c') ∧ EdgM w' w'.heap.size A' (restL (eds ls) ls).length (restL (eds ls) ls) ∧ Below w.heap.size w w' := by
  obtain ⟨i0, hi0, hz0, hz1, hz2⟩ := info_parts info_edge
  have HH := Lib.hid h
  have HI := Lib.hid info_edge4
  have TOK := Lib.hid True.intro
  clear h
  go_enter Try.func17, Try.ntmps17
  go_wp2_with fail
  go_loopw [3, 4] (fun s3 s4 wr => ∃ (k : Nat), s4 = .int .i64 k ∧ k ≤ n ∧ wr.ownsRow w.heap.size 41 4 s3 (restL (eds ls) (ls.take k)).length (ints (restL (eds ls) (ls.take k)).flatten) ∧ Below w.heap.size w wr) (fun _ s4 _ => n - (RowKit.intOf s4).toNat)
  case atStart => exact ⟨0, rfl, Nat.zero_le _, World.ownsRow_nil _ _ _ _, Below.refl _ _⟩
  case round =>
    obtain ⟨k, rfl, hk, hrow, hb⟩ := hrel
    rename World => W
    have HR := Lib.hid hrow
    have HB := Lib.hid hb
    have HS := Lib.hid hb.size
    clear hrow hb
    by_cases hlt : k < n
    · have EX := Lib.hid (HH.out.below HB.out)
      obtain ⟨b, off, a, s, t, u, rfl, hbl, ⟨hl, e⟩, hc, wa, wt⟩ := EX.out.at_ hlt
      have RY := Lib.hid (fun h => rest_yes (E := eds ls) hl e h)
      have RN := Lib.hid (fun h => rest_no (E := eds ls) hl e h)
      have HC := Lib.hid hc
      have k0 : W.cell? ⟨b, off + k * 4, none⟩ = some (.int .i64 a) := by have := hc 0 _ rfl; simpa [Addr.add] using this
      have k2 : W.cell? ⟨b, off + k * 4 + 2, none⟩ = some (.int .i64 t) := by have := hc 2 _ rfl; simpa [Addr.add] using this
      have RL := Lib.hid (rest_len (eds ls) ls k)
      have HLE := Lib.hid (show leftE (eds ls) [a, s, t, u] = ((byL (eds ls) a).isNone && (byL (eds ls) t).isNone) from rfl)
      clear hc wa wt e
      generalize restL (eds ls) (ls.take k) = O at HR RY RN RL
      obtain ⟨ya, hya⟩ : ∃ y, (byL (eds ls) a).getD 0 = y := ⟨_, rfl⟩
      obtain ⟨yt, hyt⟩ : ∃ y, (byL (eds ls) t).getD 0 = y := ⟨_, rfl⟩
      obtain ⟨ra, hra⟩ : ∃ r, (byL (eds ls) a).isSome = r := ⟨_, rfl⟩
      obtain ⟨rt, hrt⟩ : ∃ r, (byL (eds ls) t).isSome = r := ⟨_, rfl⟩
      have YA := Lib.hid (And.intro hya hra)
      have YT := Lib.hid (And.intro hyt hrt)
      have HLE2 := Lib.hid (show leftE (eds ls) [a, s, t, u] = (!ra && !rt) from by rw [HLE.out, ← hra, ← hrt]; cases byL (eds ls) a <;> cases byL (eds ls) t <;> rfl)
      clear hya hyt hra hrt HLE
      cases ra with
      | true =>
        have HN := Lib.hid (RN.out (by rw [HLE2.out]; rfl))
        go_wp2_with (first
          | (go_at_call 31; have _t := TOK; refine (byR_any a _ EX.out (by omega)).mono ?_; rintro e w' ⟨rfl, hww⟩; subst hww; rw [YA.out.1, YA.out.2]; clear _t TOK)
          | (go_at_call 31; refine (byR_any t _ EX.out (by omega)).mono ?_; rintro e w' ⟨rfl, hww⟩; subst hww; rw [YT.out.1, YT.out.2]))
        go_roundw
        case rel => exact ⟨k + 1, by go_num, by omega, by rw [HN.out]; exact HR.out, HB.out⟩
        case measure => simp [RowKit.intOf]; omega
      | false =>
        cases rt with
        | true =>
          have HN := Lib.hid (RN.out (by rw [HLE2.out]; rfl))
          go_wp2_with (first
            | (go_at_call 31; have _t := TOK; refine (byR_any a _ EX.out (by omega)).mono ?_; rintro e w' ⟨rfl, hww⟩; subst hww; rw [YA.out.1, YA.out.2]; clear _t TOK)
            | (go_at_call 31; refine (byR_any t _ EX.out (by omega)).mono ?_; rintro e w' ⟨rfl, hww⟩; subst hww; rw [YT.out.1, YT.out.2]))
          go_roundw
          case rel => exact ⟨k + 1, by go_num, by omega, by rw [HN.out]; exact HR.out, HB.out⟩
          case measure => simp [RowKit.intOf]; omega
        | false =>
          have HY := Lib.hid (RY.out (by rw [HLE2.out]; rfl))
          have O1 := Lib.hid (show ∀ v ∈ ints [a, s, t, u], v.oneCell' = true from fun v hv => by obtain ⟨c, _, rfl⟩ := List.mem_map.1 hv; rfl)
          have RW := Lib.hid (reads_newStruct W 41 [a, s, t, u] (size := 4) rfl)
          have RL4 := RL.out
          go_wp2_with (first
            | (go_at_call 31; have _t := TOK; refine (byR_any a _ EX.out (by omega)).mono ?_; rintro e w' ⟨rfl, hww⟩; subst hww; rw [YA.out.1, YA.out.2]; clear _t TOK)
            | (go_at_call 31; refine (byR_any t _ EX.out (by omega)).mono ?_; rintro e w' ⟨rfl, hww⟩; subst hww; rw [YT.out.1, YT.out.2])
            | (refine wpList_load_cells rfl 41 (.tmp 44) rfl ⟨b, off + k * 4, none⟩ rfl [.int .i64 a, .int .i64 s, .int .i64 t, .int .i64 u] _ HC.out Try.underlying41 rfl HI.out ?_)
            | (at_builtin; refine wpList_append_any _ rfl (.tmp 41) (.tmp 46) _ rfl w.heap.size 41 i0 _ 4 32 Try.underlying22 hi0 hz0 hz1 hz2 rfl (by omega) _ O.length _ rfl (HR.out.alloc _) _ _ 1 1 (ints [a, s, t, u]) rfl RW.out O1.out (by simp only [maxLen]; omega) (by omega) (by have := HS.out; simp; omega) ?_; intro v9 w9 hown9 hg9 hv9; have O9 := Lib.hid hown9; have G9 := Lib.hid hg9; clear hown9 hg9 hv9))
          go_roundw
          case rel =>
            refine ⟨k + 1, by go_num, by omega, ?_, below_own (HB.out.alloc HS.out _) G9.out (HR.out.alloc _) (Nat.le_refl _) (by have := HS.out; simp; omega)⟩
            rw [HY.out, List.length_append, List.flatten_append, show ints (O.flatten ++ [[a, s, t, u]].flatten) = ints O.flatten ++ ints [a, s, t, u] by simp [ints]]
            exact O9.out
          case measure => simp [RowKit.intOf]; omega
    · obtain rfl : k = n := by omega
      rw [List.take_of_length_le (by have := HH.out.count; omega)] at HR
      obtain ⟨A8, c8, rfl, hr8, _⟩ := own_slice HR.out
      have ER := Lib.hid (rest_edg HH.out hr8)
      clear hr8
      go_wp2_with fail
      go_ret
      exact ⟨A8, c8, rfl, ER.out, HB.out⟩
end
end Go.Proofs.Ytiapnaecdefonaa
