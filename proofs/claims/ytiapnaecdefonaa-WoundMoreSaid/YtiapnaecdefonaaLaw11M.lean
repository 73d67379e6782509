/- WoundMore. -/
import Derived.Test.YtiapnaecdefonaaWndL
import Derived.Test.YtiapnaecdefonaaEdgB
namespace Go.Proofs.Ytiapnaecdefonaa
open Go.RowKit
set_option linter.unusedVariables false
set_option linter.unusedSimpArgs false

theorem own_emptyV11 (V : World) {base size : Nat} (t : TypeId) (hb : base ≤ V.heap.size) : (V.alloc (.cells #[] t)).ownsRow base t size (.slice (some ⟨V.heap.size, 0, none⟩) 0 0) 0 [] :=
  ⟨by simp, .inr ⟨_, _, #[], rfl, hb, Blk.new V t #[], Nat.le_refl _, by simp only [maxLen]; omega, by simp, by simp⟩⟩
theorem more_at {E D : Egs} {k : Nat} (hk : k < (hurtL E).length) : (∃ J, J < (hurtL (E ++ D)).length ∧ gd (hurtL (E ++ D)) J = gd (hurtL E) k) ∧ (byL (E ++ D) (gd (hurtL E) k)).getD 0 ≤ (byL E (gd (hurtL E) k)).getD 0 := by
  have h1 : gd (hurtL E) k ∈ hurtL E := by rw [gd_get hk]; exact List.getElem_mem hk
  obtain ⟨b, hb⟩ := Option.isSome_iff_exists.1 (hurt_mem.1 h1)
  obtain ⟨b', hb', hle⟩ := byL_more (D := D) hb
  refine ⟨?_, by rw [hb, hb']; exact hle⟩
  have h2 : gd (hurtL E) k ∈ hurtL (E ++ D) := hurt_mem.2 (by rw [hb']; rfl)
  obtain ⟨J, hJ, e⟩ := List.mem_iff_getElem.1 h2
  exact ⟨J, hJ, by rw [gd_get hJ, e]⟩
set_option maxRecDepth 100000 in
set_option maxHeartbeats 16000000 in
theorem woundMore_walk (a0 : Option Addr) (len0 cap0 : Nat) (l0 : List (List Int)) (a1 : Option Addr) (len1 cap1 : Nat) (l1 : List (List Int)) (W : World) (h : EdgM W W.heap.size a0 len0 l0) (h' : EdgM W W.heap.size a1 len1 l1) :
    Calls Try.prog 7 #[.slice a0 len0 cap0, .slice a1 len1 cap1] W fun e w' => e = .returned (.bool true) ∧ Below W.heap.size W w' := by
  have HH := Lib.hid h
  have HH' := Lib.hid h'
  clear h h'
  by_cases h40 : 40 < len0
  · have d1 : decide ((40 : Int) < (len0 : Int)) = true := by simp; omega
    go_enter Try.func7, Try.ntmps7
    go_wp2_with (go_at_call 12; refine (alive11_any _).mono ?_; rintro e w1 ⟨rfl, hb1⟩; have B1 := Lib.hid hb1; clear hb1)
    go_ret
    exact ⟨rfl, B1.out⟩
  have d1 : decide ((40 : Int) < (len0 : Int)) = false := by simp; omega
  by_cases h41 : 40 < len1
  · have d2 : decide ((40 : Int) < (len1 : Int)) = true := by simp; omega
    go_enter Try.func7, Try.ntmps7
    go_wp2_with (go_at_call 12; refine (alive11_any _).mono ?_; rintro e w1 ⟨rfl, hb1⟩; have B1 := Lib.hid hb1; clear hb1)
    go_ret
    exact ⟨rfl, B1.out⟩
  have d2 : decide ((40 : Int) < (len1 : Int)) = false := by simp; omega
  obtain ⟨i0, hi0, hz0, hz1, hz2⟩ := info_parts info_edge
  have O1 := Lib.hid (show ∀ l : List Int, ∀ v ∈ ints l, v.oneCell' = true from fun l v hv => by obtain ⟨c, _, rfl⟩ := List.mem_map.1 hv; rfl)
  have TOK := Lib.hid True.intro
  go_enter Try.func7, Try.ntmps7
  go_wp2_with (go_at_call 12; refine (alive11_any _).mono ?_; rintro e w1 ⟨rfl, hb1⟩; have B1 := Lib.hid hb1; have E1 := Lib.hid (HH.out.next hb1); have E1' := Lib.hid (HH'.out.next hb1); clear hb1)
  refine (ofG_any (c := cap0) w1 E1.out (by omega)).mono ?_
  rintro e w2 ⟨v2, rfl, hrow2, hb2⟩
  obtain ⟨A2, c2, rfl, hr2, _⟩ := own_slice hrow2
  have R2 := Lib.hid hr2
  have E2 := Lib.hid (E1.out.next hb2)
  have E2' := Lib.hid (E1'.out.next hb2)
  have B2 := Lib.hid (B1.out.trans (hb2.mono B1.out.size))
  have Z2 := Lib.hid B2.out.size
  clear hrow2 hb2 hr2 E1 E1' B1
  go_wp2_with (first
    | (at_builtin; have _t := TOK
       refine wpList_append_any _ rfl (.tmp 22) (.tmp 23) _ rfl w2.heap.size 41 i0 _ 4 32 Try.underlying22 hi0 hz0 hz1 hz2 rfl (by omega) _ 0 [] rfl (own_emptyV11 w2 41 (Nat.le_refl _)) w2.heap.size a0 len0 cap0 (ints l0.flatten) rfl (E2.out.reads.below (Joins.below_alloc1 _ _)) (O1.out _) (by simp only [maxLen]; omega) (by omega) (by simp) ?_
       intro v4 w4 hown4 hg4 _
       rw [Nat.zero_add, List.nil_append] at hown4
       have O4 := Lib.hid hown4
       have B4 := Lib.hid (show Below w2.heap.size w2 w4 from (Joins.below_alloc1 w2 (.cells #[] 41)).grown hg4 (by simp) (fun q hq => by injection hq with hq; rw [← hq]; exact Nat.le_refl _))
       clear hown4 hg4 TOK)
    | (at_builtin
       refine wpList_append_any _ rfl (.tmp 24) (.tmp 25) _ rfl w2.heap.size 41 i0 _ 4 32 Try.underlying22 hi0 hz0 hz1 hz2 rfl (by omega) v4 len0 (ints l0.flatten) rfl O4.out w2.heap.size a1 len1 cap1 (ints l1.flatten) rfl (E2'.out.reads.below B4.out) (O1.out _) (by simp only [maxLen]; omega) (by omega) B4.out.size ?_
       intro v5 w5 hown5 hg5 _
       have O5 := Lib.hid hown5
       have B5 := Lib.hid (show Below w2.heap.size w2 w5 from B4.out.grown hg5 B4.out.size (fun q hq => ownBlock_ge O4.out q hq))
       clear hown5 hg5))
  have h5 := O5.out
  rw [show ints l0.flatten ++ ints l1.flatten = ints (l0 ++ l1).flatten by simp [ints]] at h5
  obtain ⟨A5, c5, rfl, hr5, _⟩ := own_slice h5
  have EB := Lib.hid (show EdgM w5 w5.heap.size A5 (len0 + len1) (l0 ++ l1) from ⟨hr5, fun x hx => (List.mem_append.1 hx).elim (HH.out.four x) (HH'.out.four x), by rw [List.length_append, HH.out.count, HH'.out.count], fun x hx => (List.mem_append.1 hx).elim (HH.out.wf x) (HH'.out.wf x)⟩)
  have heb : eds (l0 ++ l1) = eds l0 ++ eds l1 := by simp [eds]
  have R5 := Lib.hid (R2.out.below B5.out)
  have BW5 := Lib.hid (B2.out.trans (B5.out.mono B2.out.size))
  clear h5 hr5 O4 O5 B4 R2
  refine (ofG_any (c := c5) w5 EB.out (by omega)).mono ?_
  rintro e w6 ⟨v6, rfl, hrow6, hb6⟩
  rw [heb] at hrow6
  obtain ⟨A6, c6, rfl, hr6, _⟩ := own_slice hrow6
  have R6 := Lib.hid hr6
  have R5' := Lib.hid (R5.out.below (hb6.mono B5.out.size))
  have B6 := Lib.hid (BW5.out.trans (hb6.mono BW5.out.size))
  have HL := Lib.hid (show (hurtL (eds l0)).length ≤ 400 ∧ (hurtL (eds l0 ++ eds l1)).length ≤ 400 from ⟨by have := hurt_len (eds l0); rw [HH.out.elen] at this; omega, by have := hurt_len (eds l0 ++ eds l1); rw [List.length_append, HH.out.elen, HH'.out.elen] at this; omega⟩)
  have h4 := HL.out.1
  have h4' := HL.out.2
  clear hrow6 hb6 hr6 heb EB R5 B5 BW5 E2 E2'
  go_wp2_with fail
  go_loopw [7] (fun s7 wr => ∃ i q : Nat, s7 = .int .i64 i ∧ i ≤ (hurtL (eds l0)).length ∧ wr = w6.drewN q) (fun s7 _ => 1000 - (RowKit.intOf s7).toNat)
  case atStart => exact ⟨0, 0, rfl, Nat.zero_le _, rfl⟩
  case round =>
    obtain ⟨i, q, rfl, hi, rfl⟩ := hrel
    by_cases hil : i < (hurtL (eds l0)).length
    · obtain ⟨b, off, rfl, _, k0, k1⟩ := wnd_at R5'.out rfl hil
      obtain ⟨⟨J, hJ, hJx⟩, hle⟩ := more_at (D := eds l1) hil
      have HJ := Lib.hid hJx
      have HLE := Lib.hid hle
      have K0 := Lib.hid k0
      have K1 := Lib.hid k1
      clear hJx hle k0 k1
      generalize (byL (eds l0) (gd (hurtL (eds l0)) i)).getD 0 = y at K1 HLE
      generalize gd (hurtL (eds l0)) i = x at K0 HJ HLE
      go_wp2_with fail
      go_loopw [8, 9] (fun s8 s9 wr => ∃ (k q : Nat) (f : Bool), s8 = .bool f ∧ s9 = .int .i64 k ∧ k ≤ (hurtL (eds l0 ++ eds l1)).length ∧ (J < k → f = true) ∧ wr = w6.drewN q) (fun _ s9 _ => 1000 - (RowKit.intOf s9).toNat)
      case atStart => exact ⟨0, _, false, rfl, rfl, Nat.zero_le _, fun h => absurd h (by omega), rfl⟩
      case round =>
        obtain ⟨k, q, f, rfl, rfl, hk, hf, rfl⟩ := hrel
        have HF := Lib.hid hf
        clear hf
        by_cases hkl : k < (hurtL (eds l0 ++ eds l1)).length
        · obtain ⟨b', off', rfl, _, k2, k3⟩ := wnd_at R6.out rfl hkl
          have k0 := K0.out
          have k1 := K1.out
          have EQ := Lib.hid (show gd (hurtL (eds l0 ++ eds l1)) k = x → (byL (eds l0 ++ eds l1) (gd (hurtL (eds l0 ++ eds l1)) k)).getD 0 ≤ y from fun e => by rw [e]; exact HLE.out)
          have JN := Lib.hid (show gd (hurtL (eds l0 ++ eds l1)) k ≠ x → J ≠ k from fun hne e => hne (by rw [← e]; exact HJ.out))
          generalize (byL (eds l0 ++ eds l1) (gd (hurtL (eds l0 ++ eds l1)) k)).getD 0 = y' at k3 EQ
          generalize gd (hurtL (eds l0 ++ eds l1)) k = x' at k2 EQ JN
          cases f with
          | true =>
            go_wp2_with fail
            go_quiet (fail)
            go_wp2_with fail
            go_roundw
            case rel => exact ⟨k + 1, _, true, rfl, by go_num, by omega, fun _ => rfl, rfl⟩
            case measure => simp [RowKit.intOf]; omega
          | false =>
            by_cases e : x' = x
            · have g1 : (x' == x) = true := by simpa using e
              have g2 : decide (y' ≤ y) = true := by have := EQ.out e; simpa using this
              clear e
              go_wp2_with fail
              go_quiet (fail)
              go_wp2_with fail
              go_roundw
              case rel => exact ⟨k + 1, _, true, rfl, by go_num, by omega, fun _ => rfl, rfl⟩
              case measure => simp [RowKit.intOf]; omega
            · have g1 : (x' == x) = false := by simpa using e
              have JN2 := Lib.hid (JN.out e)
              clear e
              go_wp2_with fail
              go_quiet (fail)
              go_wp2_with fail
              go_roundw
              case rel => exact ⟨k + 1, _, false, rfl, by go_num, by omega, fun hlt => HF.out (by have := JN2.out; omega), rfl⟩
              case measure => simp [RowKit.intOf]; omega
        · obtain rfl : f = true := HF.out (by omega)
          go_wp2_with fail
          go_roundw
          case rel => exact ⟨i + 1, _, by go_num, by omega, rfl⟩
          case measure => simp [RowKit.intOf]; omega
    · go_wp2_with fail
      go_ret
      exact ⟨rfl, below_drewN B6.out q⟩
end Go.Proofs.Ytiapnaecdefonaa
