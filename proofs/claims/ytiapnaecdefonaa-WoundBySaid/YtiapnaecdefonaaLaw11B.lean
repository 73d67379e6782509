/- WoundBy. -/
import Derived.Test.YtiapnaecdefonaaWndL
import Derived.Test.YtiapnaecdefonaaEdgB
namespace Go.Proofs.Ytiapnaecdefonaa
open Go.RowKit
set_option linter.unusedVariables false
set_option linter.unusedSimpArgs false

theorem oldest_both {n : Nat} {A : Option Addr} {ls : List (List Int)} {c : Nat} (w : World) (h : EdgM w w.heap.size A n ls) (hn : n ≤ 200) :
    Calls Try.prog 18 #[.slice A n c] w fun e w' => ∃ o r, e = .returned (.tuple #[.int .i64 o, .bool r]) ∧ decide ((0 : Int) < (n : Int)) = r ∧ (∀ p ∈ eds ls, o ≤ p.1 ∧ o ≤ p.2) ∧ Below w.heap.size w w' := by
  by_cases h0 : 0 < n
  · refine (oldestG_any w h hn h0).mono ?_
    rintro e w' ⟨rfl, hb⟩
    exact ⟨_, _, rfl, by simp; omega, (oldL_spec _ _).2, hb⟩
  · obtain rfl : n = 0 := by omega
    have : ls = [] := List.eq_nil_of_length_eq_zero h.count
    subst this
    refine (oldestG_none w A).mono ?_
    rintro e w' ⟨rfl, rfl⟩
    exact ⟨_, _, rfl, by simp, by simp [eds], Below.refl _ _⟩
theorem edge_ix {ls : List (List Int)} {p : Int × Int} (h : p ∈ eds ls) : ∃ J, ∃ hJ : J < ls.length, fld ls[J] 0 = p.1 ∧ fld ls[J] 2 = p.2 := by
  obtain ⟨l, hl, e⟩ := List.mem_map.1 h
  obtain ⟨J, hJ, rfl⟩ := List.mem_iff_getElem.1 hl
  exact ⟨J, hJ, by rw [← e], by rw [← e]⟩
theorem hurt_by {E : Egs} {k : Nat} (hk : k < (hurtL E).length) : (byL E (gd (hurtL E) k)).getD 0 < gd (hurtL E) k ∧ ((byL E (gd (hurtL E) k)).getD 0, gd (hurtL E) k) ∈ E ∧ ∀ a, (a, gd (hurtL E) k) ∈ E → (byL E (gd (hurtL E) k)).getD 0 ≤ a := by
  have h1 : gd (hurtL E) k ∈ hurtL E := by rw [gd_get hk]; exact List.getElem_mem hk
  obtain ⟨b, hb⟩ := Option.isSome_iff_exists.1 (hurt_mem.1 h1)
  obtain ⟨h2, h3⟩ := byL_some hb
  rw [hb]
  exact ⟨h2, h3, fun a ha => byL_least hb ha⟩
theorem hurt_next {E : Egs} {i : Nat} (hi : i + 1 < (hurtL E).length) : gd (hurtL E) i < gd (hurtL E) (i + 1) := by
  rw [gd_get hi, gd_get (by omega)]
  exact List.pairwise_iff_getElem.1 (hurt_ris E) i (i + 1) (by omega) hi (by omega)
set_option maxRecDepth 100000 in
set_option maxHeartbeats 16000000 in
theorem woundBy_walk (a0 : Option Addr) (len0 cap0 : Nat) (l0 : List (List Int)) (W : World) (h : EdgM W W.heap.size a0 len0 l0) :
    Calls Try.prog 5 #[.slice a0 len0 cap0] W fun e w' => e = .returned (.bool true) ∧ Below W.heap.size W w' := by
  have HH := Lib.hid h
  clear h
  by_cases h60 : 60 < len0
  · have d1 : decide ((60 : Int) < (len0 : Int)) = true := by simp; omega
    go_enter Try.func5, Try.ntmps5
    go_wp2_with (go_at_call 12; refine (alive11_any _).mono ?_; rintro e w1 ⟨rfl, hb1⟩; have B1 := Lib.hid hb1; clear hb1)
    go_ret
    exact ⟨rfl, B1.out⟩
  have d1 : decide ((60 : Int) < (len0 : Int)) = false := by simp; omega
  have HL := Lib.hid (show (hurtL (eds l0)).length ≤ 400 from by have := hurt_len (eds l0); rw [HH.out.elen] at this; omega)
  go_enter Try.func5, Try.ntmps5
  go_wp2_with (go_at_call 12; refine (alive11_any _).mono ?_; rintro e w1 ⟨rfl, hb1⟩; have B1 := Lib.hid hb1; have E1 := Lib.hid (HH.out.next hb1); clear hb1)
  refine (ofG_any (c := cap0) w1 E1.out (by omega)).mono ?_
  rintro e w2 ⟨v2, rfl, hrow2, hb2⟩
  obtain ⟨A2, c2, rfl, hr2, _⟩ := own_slice hrow2
  have R2 := Lib.hid hr2
  have E2 := Lib.hid (E1.out.next hb2)
  have B2 := Lib.hid (B1.out.trans (hb2.mono B1.out.size))
  clear hrow2 hb2 hr2
  go_wp2_with fail
  refine (oldest_both (c := cap0) w2 E2.out (by omega)).mono ?_
  rintro e w3 ⟨o, r, rfl, hr, hold, hb3⟩
  have R3 := Lib.hid (R2.out.below hb3)
  have E3 := Lib.hid (E2.out.next hb3)
  have B3 := Lib.hid (B2.out.trans (hb3.mono B2.out.size))
  have hr2 : decide (0 < len0) = r := by rw [← hr]; simp
  have OLD := Lib.hid hold
  have h4 := HL.out
  clear hb3 hold R2 E1 E2 B1 B2
  go_wp2_with fail
  go_loopw [6] (fun s6 wr => ∃ k : Nat, s6 = .int .i64 k ∧ k ≤ len0 ∧ w3 = wr) (fun s6 _ => 1000 - (RowKit.intOf s6).toNat)
  case atStart => exact ⟨0, rfl, Nat.zero_le _, rfl⟩
  case round =>
    obtain ⟨k, rfl, hk, rfl⟩ := hrel
    by_cases hlt : k < len0
    · obtain ⟨b, off, a, s, t, u, rfl, hbl, ⟨hl, e⟩, hc, wa, wt⟩ := E3.out.at_ hlt
      have hm : (a, t) ∈ eds l0 := List.mem_map.2 ⟨_, List.getElem_mem hl, by rw [e]; rfl⟩
      have ho := OLD.out _ hm
      have g1 : decide (a < o) = false := by have := ho.1; simpa using this
      have g2 : decide (t < o) = false := by have := ho.2; simpa using this
      have k0 : w3.cell? ⟨b, off + k * 4, none⟩ = some (.int .i64 a) := by have := hc 0 _ rfl; simpa [Addr.add] using this
      have k2 : w3.cell? ⟨b, off + k * 4 + 2, none⟩ = some (.int .i64 t) := by have := hc 2 _ rfl; simpa [Addr.add] using this
      clear hc wa wt e hm ho
      go_wp2_with fail
      go_roundw
      case rel => exact ⟨k + 1, by go_num, by omega, by first | rfl | trivial⟩
      case measure => simp [RowKit.intOf]; omega
    · obtain rfl : k = len0 := by omega
      go_wp2_with fail
      go_loopw [7] (fun s7 wr => ∃ i q : Nat, s7 = .int .i64 i ∧ i ≤ (hurtL (eds l0)).length ∧ wr = w3.drewN q) (fun s7 _ => 1000 - (RowKit.intOf s7).toNat)
      case atStart => exact ⟨0, 0, rfl, Nat.zero_le _, rfl⟩
      case round =>
        obtain ⟨i, q, rfl, hi, rfl⟩ := hrel
        by_cases hil : i < (hurtL (eds l0)).length
        · obtain ⟨b, off, rfl, hbR, kx, ky⟩ := wnd_at R3.out rfl hil
          obtain ⟨hyx, hmem, hlst⟩ := hurt_by hil
          obtain ⟨J, hJ, hJ0, hJ2⟩ := edge_ix hmem
          have ho := OLD.out _ hmem
          have LST := Lib.hid hlst
          have JX := Lib.hid (And.intro hJ0 hJ2)
          have KX := Lib.hid kx
          have KY := Lib.hid ky
          have g5 : decide (gd (hurtL (eds l0)) i ≤ (byL (eds l0) (gd (hurtL (eds l0)) i)).getD 0) = false := by simpa using hyx
          have g6 : (gd (hurtL (eds l0)) i == o) = false := by have := ho.1; rw [beq_eq_false_iff_ne]; dsimp only at this; omega
          have NXT := Lib.hid (show ∀ i', i = i' + 1 → gd (hurtL (eds l0)) i' < gd (hurtL (eds l0)) i from fun i' e => by subst e; exact hurt_next hil)
          have hJn : J < k := by have := HH.out.count; omega
          clear hlst hJ0 hJ2 hyx hmem ho kx ky
          generalize (byL (eds l0) (gd (hurtL (eds l0)) i)).getD 0 = y at KY LST JX g5
          obtain ⟨x, hx⟩ : ∃ x, gd (hurtL (eds l0)) i = x := ⟨_, rfl⟩
          rw [hx] at KX LST JX g5 g6 NXT
          clear hx
          go_wp2_with fail
          go_loopw [8, 9] (fun s8 s9 wr => ∃ (j q : Nat) (f : Bool), s8 = .bool f ∧ s9 = .int .i64 j ∧ j ≤ k ∧ (J < j → f = true) ∧ wr = w3.drewN q) (fun _ s9 _ => 1000 - (RowKit.intOf s9).toNat)
          case atStart => exact ⟨0, _, false, rfl, rfl, Nat.zero_le _, fun h => absurd h (by omega), rfl⟩
          case round =>
            obtain ⟨j, q, f, rfl, rfl, hj, hf, rfl⟩ := hrel
            have HF := Lib.hid hf
            clear hf
            by_cases hjl : j < k
            · obtain ⟨be, oe, a, s, t, u, rfl, hbl, ⟨hl, e⟩, hc, wa, wt⟩ := E3.out.at_ hjl
              have hm : (a, t) ∈ eds l0 := List.mem_map.2 ⟨_, List.getElem_mem hl, by rw [e]; rfl⟩
              have k0 : w3.cell? ⟨be, oe + j * 4, none⟩ = some (.int .i64 a) := by have := hc 0 _ rfl; simpa [Addr.add] using this
              have k2 : w3.cell? ⟨be, oe + j * 4 + 2, none⟩ = some (.int .i64 t) := by have := hc 2 _ rfl; simpa [Addr.add] using this
              have kx := KX.out
              have ky := KY.out
              have LS := Lib.hid (show t = x → y ≤ a from fun e2 => LST.out a (by rw [← e2]; exact hm))
              have JN := Lib.hid (show ¬ (a = y ∧ t = x) → J ≠ j from fun hne e2 => hne (by
                subst e2
                have h1 := JX.out
                rw [e] at h1
                exact h1))
              clear hc wa wt e hm hl
              by_cases e2 : t = x
              · have g2 : (t == x) = true := by simpa using e2
                have g3 : decide (a < y) = false := by have := LS.out e2; simpa using this
                cases f with
                | true =>
                  clear e2
                  go_wp2_with fail
                  go_quiet (fail)
                  go_wp2_with fail
                  go_quiet (fail)
                  go_wp2_with fail
                  go_roundw
                  case rel => exact ⟨j + 1, _, true, rfl, by go_num, by omega, fun _ => rfl, rfl⟩
                  case measure => simp [RowKit.intOf]; omega
                | false =>
                  by_cases e1 : a = y
                  · have g1 : (a == y) = true := by simpa using e1
                    clear e1 e2
                    go_wp2_with fail
                    go_quiet (fail)
                    go_wp2_with fail
                    go_quiet (fail)
                    go_wp2_with fail
                    go_roundw
                    case rel => exact ⟨j + 1, _, true, rfl, by go_num, by omega, fun _ => rfl, rfl⟩
                    case measure => simp [RowKit.intOf]; omega
                  · have g1 : (a == y) = false := by simpa using e1
                    have JN2 := Lib.hid (JN.out (fun h => e1 h.1))
                    clear e1 e2
                    go_wp2_with fail
                    go_quiet (fail)
                    go_wp2_with fail
                    go_quiet (fail)
                    go_wp2_with fail
                    go_roundw
                    case rel => exact ⟨j + 1, _, false, rfl, by go_num, by omega, fun hlt => HF.out (by have := JN2.out; omega), rfl⟩
                    case measure => simp [RowKit.intOf]; omega
              · have g2 : (t == x) = false := by simpa using e2
                cases f with
                | true =>
                  clear e2
                  go_wp2_with fail
                  go_quiet (fail)
                  go_wp2_with fail
                  go_quiet (fail)
                  go_wp2_with fail
                  go_roundw
                  case rel => exact ⟨j + 1, _, true, rfl, by go_num, by omega, fun _ => rfl, rfl⟩
                  case measure => simp [RowKit.intOf]; omega
                | false =>
                  have JN2 := Lib.hid (JN.out (fun h => e2 h.2))
                  clear e2
                  by_cases e1 : a = y
                  · have g1 : (a == y) = true := by simpa using e1
                    clear e1
                    go_wp2_with fail
                    go_quiet (fail)
                    go_wp2_with fail
                    go_quiet (fail)
                    go_wp2_with fail
                    go_roundw
                    case rel => exact ⟨j + 1, _, false, rfl, by go_num, by omega, fun hlt => HF.out (by have := JN2.out; omega), rfl⟩
                    case measure => simp [RowKit.intOf]; omega
                  · have g1 : (a == y) = false := by simpa using e1
                    clear e1
                    go_wp2_with fail
                    go_quiet (fail)
                    go_wp2_with fail
                    go_quiet (fail)
                    go_wp2_with fail
                    go_roundw
                    case rel => exact ⟨j + 1, _, false, rfl, by go_num, by omega, fun hlt => HF.out (by have := JN2.out; omega), rfl⟩
                    case measure => simp [RowKit.intOf]; omega
            · obtain rfl : f = true := HF.out (by omega)
              have kx := KX.out
              have ky := KY.out
              by_cases hi0 : i = 0
              · have g7 : decide ((0 : Int) < (i : Int)) = false := by subst hi0; simp
                have g8 : (i == 0) = true := by simpa using hi0
                have g9 : decide (0 < i) = false := by subst hi0; simp
                clear hi0
                go_wp2_with fail
                go_quiet (fail)
                go_wp2_with fail
                go_roundw
                case rel => exact ⟨i + 1, _, by go_num, by omega, rfl⟩
                case measure => simp [RowKit.intOf]; omega
              · obtain ⟨i', hi'⟩ : ∃ i', i = i' + 1 := ⟨i - 1, by omega⟩
                obtain ⟨b', off', eb, _, kp, _⟩ := wnd_at (k := i') R3.out rfl (by omega)
                cases eb
                have g8 : decide (x ≤ gd (hurtL (eds l0)) i') = false := by have := NXT.out i' hi'; simpa using this
                generalize gd (hurtL (eds l0)) i' = p at kp g8
                have q1 : IntKind.i64.wrap ((i : Int) - 1) = (i' : Int) := by rw [show (i : Int) - 1 = (i' : Int) by omega]; exact IntWalk.i64_in _ (by omega)
                have q2 : (i : Int) - 1 = (i' : Int) := by omega
                have g7 : decide ((0 : Int) < (i : Int)) = true := by simp; omega
                have g9 : decide (0 < i) = true := by simp; omega
                have hib : i' ≤ 400 := by omega
                have hil' : i' < (hurtL (eds l0)).length := by omega
                clear hi0 hi'
                go_wp2_with fail
                go_quiet (fail)
                go_wp2_with fail
                go_roundw
                case rel => exact ⟨i + 1, _, by go_num, by omega, rfl⟩
                case measure => simp [RowKit.intOf]; omega
        · go_wp2_with fail
          go_ret
          exact ⟨rfl, below_drewN B3.out q⟩
end Go.Proofs.Ytiapnaecdefonaa
