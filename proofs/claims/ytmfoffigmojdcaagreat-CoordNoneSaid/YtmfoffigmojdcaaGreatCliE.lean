/- The document's clients: Lost. -/
import Derived.Test.YtmfoffigmojdcaaGreatCliC
import Derived.Test.YtmfoffigmojdcaaGreatGraJ
namespace Go.Proofs.YtmfoffigmojdcaaGreat
open Go.RowKit
set_option linter.unusedVariables false
set_option linter.unusedSimpArgs false

def isLost (now span : Int) (c : Cl) : Bool := c.dead && decide (0 < c.tx) && decide (span ≤ now - c.since)
def lostL (now span : Int) (L : List Cl) : List Int := (L.filter (isLost now span)).map (·.tx)
/-- Whose clients are dead for long. -/
def lostIds (now span : Int) (L : List Cl) : List Int := if isT now ∧ 0 ≤ span then lostL now span L else []
theorem lostL_succ (now span : Int) {L : List Cl} {k : Nat} (h : k < L.length) : lostL now span (L.take (k + 1)) = lostL now span (L.take k) ++ (if isLost now span L[k] then [L[k].tx] else []) := by
  unfold lostL
  rw [List.take_add_one, List.getElem?_eq_getElem h, Option.toList_some, List.filter_append, List.map_append, List.filter_cons]
  split <;> simp
theorem lostL_length (now span : Int) (L : List Cl) : (lostL now span L).length ≤ L.length := by unfold lostL; rw [List.length_map]; exact List.length_filter_le _ _

set_option maxRecDepth 100000 in
set_option maxHeartbeats 4000000 in
theorem refLost_any (A : Option Addr) (n c B : Nat) (L : List Cl) (now span : Int) (w : World) (h : Reads w B 3 A n (cls L)) (hB : B ≤ w.heap.size) (hn : n ≤ 1000) (hok : ∀ x ∈ L, x.dead = true → isT x.since = true) :
    Calls Tryz.prog 80 #[.slice A n c, .int .i64 now, .int .i64 span] w fun e w' => ∃ v r,
      e = .returned v ∧ Ris r ∧ (∀ y, y ∈ r ↔ y ∈ lostIds now span L) ∧ r.length ≤ n ∧ w'.ownsRow w.heap.size 3 1 v r.length (i64s r) ∧ Below w.heap.size w w' := by
  have HL := Lib.hid h.c_len
  have H := Lib.hid h
  have HB := Lib.hid hB
  have HO := Lib.hid hok
  clear h hB hok
  by_cases hg : isT now = true ∧ 0 ≤ span
  · obtain ⟨ht, hs⟩ := hg
    have HI := Lib.hid (show lostIds now span L = lostL now span L from if_pos ⟨ht, hs⟩)
    have TI := Lib.hid ht
    have hT := isT_iff.1 ht
    have d0 : decide (0 ≤ span) = true := decide_eq_true hs
    clear ht
    go_enter Tryz.func80, Tryz.ntmps80
    go_wp2_with fail
    go_loopw [7, 8] (fun v i W => ∃ k : Nat, k ≤ n ∧ i = .int .i64 k ∧ W.ownsRow w.heap.size 3 1 v (lostL now span (L.take k)).length (i64s (lostL now span (L.take k))) ∧ Below w.heap.size w W) (fun _ i _ => n - (RowKit.intOf i).toNat)
    case atStart => exact ⟨0, Nat.zero_le _, rfl, World.ownsRow_nil _ _ _ _, Below.refl _ _⟩
    case round =>
      obtain ⟨k, hk, rfl, hrow, hbel⟩ := hrel
      have HR := Lib.hid hrow
      have HX := Lib.hid hbel
      clear hrow hbel
      rename World => W
      by_cases hlt : k < n
      · have hkl : k < L.length := by rw [HL.out]; exact hlt
        have d1 : decide ((k : Int) < (n : Int)) = true := decide_eq_true (by omega)
        obtain ⟨b, off, rfl, hb, h0, h1, h2⟩ := ((H.out.more HB.out).below HX.out).c_at hkl
        have HT := Lib.hid (lostL_succ now span hkl)
        have HD := Lib.hid (show (lostL now span (L.take k)).length ≤ 1000 from Nat.le_trans (lostL_length _ _ _) (by rw [List.length_take]; omega))
        have hsn := HO.out _ (List.getElem_mem hkl)
        generalize L[k] = x at h0 h1 h2 HT hsn
        obtain ⟨xt, xd, xs⟩ := x
        simp only at h0 h1 h2 hsn HT
        generalize lostL now span (L.take k) = M at HR HD HT
        clear hb
        cases xd with
        | false =>
          have HT2 := Lib.hid (HT.out.trans (by rw [if_neg (by simp [isLost]), List.append_nil]))
          clear HT
          go_wp2_with (go_at_call 114; refine (refTime_any _ _).mono ?_; rintro e w' ⟨rfl, rfl⟩; rw [TI.out])
          go_roundw
          case rel => exact ⟨k + 1, by omega, by go_num, by rw [HT2.out]; exact HR.out, HX.out⟩
          case measure => simp [RowKit.intOf]; omega
        | true =>
          by_cases hp : 0 < xt
          · have d2 : decide (0 < xt) = true := decide_eq_true hp
            have hx2 := isT_iff.1 (hsn rfl)
            have hwr : IntKind.i64.wrap (now - xs) = now - xs := IntWalk.i64_in _ (by omega)
            by_cases hd : span ≤ now - xs
            · have d3 : decide (span ≤ now - xs) = true := decide_eq_true hd
              have HT2 := Lib.hid (HT.out.trans (by rw [if_pos (by simp [isLost, hp, hd])]))
              clear HT hsn
              go_wp2_with (first
                | (go_at_call 114; refine (refTime_any _ _).mono ?_; rintro e w' ⟨rfl, rfl⟩; rw [TI.out])
                | (at_builtin
                   refine wpList_app_new _ rfl (.tmp 47) (.tmp 53) _ rfl Tryz.underlying59 w.heap.size _ M.length M rfl (HR.out.alloc _) [xt] 1 1 W _ rfl W.heap.size rfl rfl rfl (by have := HD.out; omega) (by have := HX.out.size; simp; omega) ?_
                   intro v9 w9 hown9 hg9 _
                   have O9 := Lib.hid hown9
                   have B9 := Lib.hid (below_own (HX.out.alloc HX.out.size _) hg9 (HR.out.alloc _) (Nat.le_refl _) (by have := HX.out.size; simp; omega))
                   clear hown9 hg9))
              go_roundw
              case rel => exact ⟨k + 1, by omega, by go_num, by rw [HT2.out, List.length_append]; exact O9.out, B9.out⟩
              case measure => simp [RowKit.intOf]; omega
            · have d3 : decide (span ≤ now - xs) = false := decide_eq_false hd
              have HT2 := Lib.hid (HT.out.trans (by rw [if_neg (by simp [isLost]; omega), List.append_nil]))
              clear HT
              go_wp2_with (go_at_call 114; refine (refTime_any _ _).mono ?_; rintro e w' ⟨rfl, rfl⟩; rw [TI.out])
              go_roundw
              case rel => exact ⟨k + 1, by omega, by go_num, by rw [HT2.out]; exact HR.out, HX.out⟩
              case measure => simp [RowKit.intOf]; omega
          · have d2 : decide (0 < xt) = false := decide_eq_false hp
            have HT2 := Lib.hid (HT.out.trans (by rw [if_neg (by simp [isLost]; omega), List.append_nil]))
            clear HT
            go_wp2_with (go_at_call 114; refine (refTime_any _ _).mono ?_; rintro e w' ⟨rfl, rfl⟩; rw [TI.out])
            go_roundw
            case rel => exact ⟨k + 1, by omega, by go_num, by rw [HT2.out]; exact HR.out, HX.out⟩
            case measure => simp [RowKit.intOf]; omega
      · obtain rfl : k = n := by omega
        have d1 : decide ((k : Int) < (k : Int)) = false := by simp
        rw [List.take_of_length_le (by rw [HL.out]; exact Nat.le_refl _)] at HR
        have HD := Lib.hid (show (lostL now span L).length ≤ k from Nat.le_trans (lostL_length _ _ _) (by rw [HL.out]; exact Nat.le_refl _))
        obtain ⟨A9, c9, e9, hr9, _⟩ := own_el HR.out
        subst e9
        have R9 := Lib.hid hr9
        clear hr9
        go_wp2_with (first
          | (go_at_call 114; refine (refTime_any _ _).mono ?_; rintro e w' ⟨rfl, rfl⟩; rw [TI.out])
          | (go_at_call 129; refine (rising_any _ R9.out (Nat.le_refl _) (by have := HD.out; omega)).mono ?_; rintro e w' ⟨v, r, rfl, hr, hm, hl, ho, hb⟩; have HZ := Lib.hid (And.intro hr (And.intro hm (And.intro hl ho))); have BZ := Lib.hid (stepB HX.out hb); clear hr hm hl ho hb))
        go_ret
        have HI2 := HI.out
        exact ⟨_, _, rfl, HZ.out.1, fun y => by rw [HI2]; exact HZ.out.2.1 y, by have := HZ.out.2.2.1; have := HD.out; omega, own_less HZ.out.2.2.2 HX.out.size, BZ.out⟩
  · have HI := Lib.hid (show lostIds now span L = [] from if_neg hg)
    have R0 := Lib.hid (show Reads w w.heap.size 1 none 0 (i64s []) from Reads.none_)
    by_cases h0 : 0 < n
    · have d1 : decide ((0 : Int) < (n : Int)) = true := decide_eq_true (by omega)
      cases ht : isT now with
      | false =>
        have TI := Lib.hid ht
        clear ht hg
        go_enter Tryz.func80, Tryz.ntmps80
        go_wp2_with fail
        refine wp_loop_rounds 1 ?_
        rw [rounds_succ]
        go_wp2_with (first
          | (go_at_call 114; refine (refTime_any _ _).mono ?_; rintro e w' ⟨rfl, rfl⟩; rw [TI.out])
          | (go_at_call 129; refine (rising_any _ R0.out (Nat.le_refl _) (by omega)).mono ?_; rintro e w' ⟨v, r, rfl, hr, hm, hl, ho, hb⟩; have HZ := Lib.hid (And.intro hr (And.intro hm (And.intro hl (And.intro ho hb)))); clear hr hm hl ho hb))
        go_ret
        have HI2 := HI.out
        exact ⟨_, _, rfl, HZ.out.1, fun y => by rw [HI2]; exact HZ.out.2.1 y, Nat.le_trans HZ.out.2.2.1 (Nat.zero_le _), HZ.out.2.2.2.1, HZ.out.2.2.2.2⟩
      | true =>
        have TI := Lib.hid ht
        have d0 : decide (0 ≤ span) = false := decide_eq_false fun h => hg ⟨ht, h⟩
        clear ht hg
        go_enter Tryz.func80, Tryz.ntmps80
        go_wp2_with fail
        refine wp_loop_rounds 1 ?_
        rw [rounds_succ]
        go_wp2_with (first
          | (go_at_call 114; refine (refTime_any _ _).mono ?_; rintro e w' ⟨rfl, rfl⟩; rw [TI.out])
          | (go_at_call 129; refine (rising_any _ R0.out (Nat.le_refl _) (by omega)).mono ?_; rintro e w' ⟨v, r, rfl, hr, hm, hl, ho, hb⟩; have HZ := Lib.hid (And.intro hr (And.intro hm (And.intro hl (And.intro ho hb)))); clear hr hm hl ho hb))
        go_ret
        have HI2 := HI.out
        exact ⟨_, _, rfl, HZ.out.1, fun y => by rw [HI2]; exact HZ.out.2.1 y, Nat.le_trans HZ.out.2.2.1 (Nat.zero_le _), HZ.out.2.2.2.1, HZ.out.2.2.2.2⟩
    · obtain rfl : n = 0 := by omega
      by_cases h9 : 0 ≤ span
      · have d0 : decide (0 ≤ span) = true := decide_eq_true h9
        go_enter Tryz.func80, Tryz.ntmps80
        go_wp2_with fail
        refine wp_loop_rounds 1 ?_
        rw [rounds_succ]
        go_wp2_with (go_at_call 129; refine (rising_any _ R0.out (Nat.le_refl _) (by omega)).mono ?_; rintro e w' ⟨v, r, rfl, hr, hm, hl, ho, hb⟩; have HZ := Lib.hid (And.intro hr (And.intro hm (And.intro hl (And.intro ho hb)))); clear hr hm hl ho hb)
        go_ret
        have HI2 := HI.out
        exact ⟨_, _, rfl, HZ.out.1, fun y => by rw [HI2]; exact HZ.out.2.1 y, Nat.le_trans HZ.out.2.2.1 (Nat.zero_le _), HZ.out.2.2.2.1, HZ.out.2.2.2.2⟩
      · have d0 : decide (0 ≤ span) = false := decide_eq_false h9
        go_enter Tryz.func80, Tryz.ntmps80
        go_wp2_with fail
        refine wp_loop_rounds 1 ?_
        rw [rounds_succ]
        go_wp2_with (go_at_call 129; refine (rising_any _ R0.out (Nat.le_refl _) (by omega)).mono ?_; rintro e w' ⟨v, r, rfl, hr, hm, hl, ho, hb⟩; have HZ := Lib.hid (And.intro hr (And.intro hm (And.intro hl (And.intro ho hb)))); clear hr hm hl ho hb)
        go_ret
        have HI2 := HI.out
        exact ⟨_, _, rfl, HZ.out.1, fun y => by rw [HI2]; exact HZ.out.2.1 y, Nat.le_trans HZ.out.2.2.1 (Nat.zero_le _), HZ.out.2.2.2.1, HZ.out.2.2.2.2⟩
end Go.Proofs.YtmfoffigmojdcaaGreat
