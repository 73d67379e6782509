/- The walk of ScriptAdds. -/
import Derived.Test.YtggfadiahacgeaaScrL
namespace Go.Proofs.Ytggfadiahacgeaa
open Go.RowKit
set_option linter.unusedVariables false
set_option linter.unusedSimpArgs false

theorem reads_takeS {w : World} {B n k : Nat} {A : Option Addr} {l : List UInt8} (h : Reads w B 1 A n (u8s l)) (hk : k ≤ n) : Reads w B 1 A k (u8s (l.take k)) := by
  have hl := h.u8_len
  refine ⟨by rw [u8s_length, List.length_take]; omega, fun h0 => ?_⟩
  obtain ⟨ad, e, hb, hc⟩ := h.2 (by omega)
  refine ⟨ad, e, hb, fun j u hu => hc j u ?_⟩
  unfold u8s at hu ⊢
  rw [List.map_take, List.getElem?_take] at hu
  split at hu
  · exact hu
  · cases hu
structure ThreeE (w W : World) (A A' A'' : Option Addr) (n1 n2 n : Nat) (l1 l2 l : List (List Int)) : Prop where
  z : Reads W W.heap.size 6 A n (ints l.flatten)
  x : Reads W W.heap.size 6 A' n1 (ints l1.flatten)
  y : Reads W W.heap.size 6 A'' n2 (ints l2.flatten)
  bel : Below w.heap.size w W
theorem ThreeE.drewN {w W : World} {A A' A'' : Option Addr} {n1 n2 n : Nat} {l1 l2 l : List (List Int)} (h : ThreeE w W A A' A'' n1 n2 n l1 l2 l) (q : Nat) : ThreeE w (W.drewN q) A A' A'' n1 n2 n l1 l2 l := ⟨h.z, h.x, h.y, below_drewN h.bel q⟩
theorem app_post {w w3 w4 : World} {n m c3 : Nat} {l l' : List UInt8} {A3 : Option Addr} {v4 : Value} (h3 : w3.ownsRow w.heap.size 5 1 (.slice A3 n c3) n (u8s l)) (hb3 : Below w.heap.size w w3) (hown4 : w4.ownsRow w.heap.size 5 1 v4 (n + m) (u8s l ++ u8s l')) (hg : w3.grownBy w4 (Value.slice A3 n c3).ownBlock) :
    ∃ A4 c4, v4 = .slice A4 (n + m) c4 ∧ Reads w4 w4.heap.size 1 A4 (n + m) (u8s (l ++ l')) ∧ n + m ≤ c4 ∧ Below w.heap.size w w4 := by
  rw [← u8s_append] at hown4
  obtain ⟨A4, c4, e, hr, hc, _⟩ := own_el hown4
  exact ⟨A4, c4, e, hr, hc, below_own hb3 hg h3 (Nat.le_refl _) hb3.size⟩
theorem copy_own {w w1 w3 : World} {len : Nat} {l : List UInt8} {v3 : Value} (hB1 : Below w.heap.size w w1) (hown3 : w3.ownsRow w.heap.size 5 1 v3 (0 + len) ([] ++ u8s l)) (hg3 : (w1.alloc (.cells #[] 5)).grownBy w3 (Value.slice (some ⟨w1.heap.size, 0, none⟩) 0 0).ownBlock) :
    ∃ A3 c3, v3 = .slice A3 len c3 ∧ w3.ownsRow w.heap.size 5 1 (.slice A3 len c3) len (u8s l) ∧ Below w.heap.size w w3 := by
  rw [Nat.zero_add, List.nil_append] at hown3
  have hb : Below w.heap.size w w3 := below_own (hB1.alloc hB1.size (.cells #[] 5)) hg3 (own_emptyV w1 (base := w.heap.size) (size := 1) 5 hB1.size) (Nat.le_refl _) (by have := hB1.size; simp; omega)
  obtain ⟨A3, c3, rfl, _, _, _⟩ := own_el hown3
  exact ⟨A3, c3, rfl, hown3, hb⟩

set_option maxRecDepth 100000 in
set_option maxHeartbeats 4000000 in
theorem scriptAdds_walk (A : Option Addr) (n cap : Nat) (l : List UInt8) (A' : Option Addr) (n' cap' : Nat) (l' : List UInt8) (hcap : n ≤ cap) (hcap' : n' ≤ cap') (w : World) (h : Reads w w.heap.size 1 A n (u8s l)) (h' : Reads w w.heap.size 1 A' n' (u8s l')) :
    Calls Try.prog 5 #[.slice A n cap, .slice A' n' cap'] w fun e w' => e = .returned (.bool true) ∧ Below w.heap.size w w' := by
  obtain ⟨i0, hi0, hz0, hz1, hz2⟩ := info_parts info_u8
  by_cases hbig : 2000 < n
  · have d1 : decide ((2000 : Int) < (n : Int)) = true := decide_eq_true (by omega)
    have d2 : decide (2000 < n) = true := decide_eq_true hbig
    clear h h'
    go_enter Try.func5, Try.ntmps5
    go_wp2_with (go_at_call 6; refine (scrAlive _).mono ?_; rintro e w1 ⟨rfl, hb⟩; have B1 := Lib.hid hb; clear hb)
    go_ret
    exact ⟨rfl, B1.out⟩
  · have d1 : decide ((2000 : Int) < (n : Int)) = false := decide_eq_false (by omega)
    have d2 : decide (2000 < n) = false := decide_eq_false hbig
    by_cases hbig' : 2000 < n'
    · have d3 : decide ((2000 : Int) < (n' : Int)) = true := decide_eq_true (by omega)
      have d4 : decide (2000 < n') = true := decide_eq_true hbig'
      clear h h'
      go_enter Try.func5, Try.ntmps5
      go_wp2_with (go_at_call 6; refine (scrAlive _).mono ?_; rintro e w1 ⟨rfl, hb⟩; have B1 := Lib.hid hb; clear hb)
      go_ret
      exact ⟨rfl, B1.out⟩
    · have d3 : decide ((2000 : Int) < (n' : Int)) = false := decide_eq_false (by omega)
      have d4 : decide (2000 < n') = false := decide_eq_false hbig'
      obtain ⟨m, hm⟩ : ∃ m, m = n / 5 * 5 := ⟨_, rfl⟩
      have hmn : m ≤ n := by omega
      have t1 : (n : Int).tdiv 5 = (n : Int) / 5 := Int.tdiv_eq_ediv_of_nonneg (by omega)
      have t2 : IntKind.i64.wrap ((n : Int) / 5) = (n : Int) / 5 := IntWalk.i64_in _ (by omega)
      have t3 : IntKind.i64.wrap ((n : Int) / 5 * 5) = (m : Int) := by rw [IntWalk.i64_in _ (by omega)]; omega
      have t4 : (n : Int) / 5 * 5 = (m : Int) := by omega
      have c1 : m ≤ cap := by omega
      have HLL := Lib.hid (And.intro h.u8_len h'.u8_len)
      have HM := Lib.hid (show m % 5 = 0 ∧ m ≤ n ∧ n ≤ 2000 ∧ n' ≤ 2000 ∧ m ≤ cap from ⟨by omega, hmn, by omega, by omega, c1⟩)
      have H := Lib.hid (reads_takeS h hmn)
      have HC' := Lib.hid hcap'
      have H' := Lib.hid h'
      have HLT := Lib.hid (show (l.take m).length = m from by rw [List.length_take]; have := h.u8_len; omega)
      clear h h' hm hbig hbig' hcap hcap'
      have hm2 : m ≤ 2000 := by have := HM.out; omega
      generalize l.take m = la at H HLT
      go_enter Try.func5, Try.ntmps5
      go_upto_region 8 with (first
        | (go_at_call 6; refine (scrAlive _).mono ?_; rintro e w1 ⟨rfl, hb⟩; have B1 := Lib.hid hb; have H1 := Lib.hid (reads_stepE H.out hb); have H1' := Lib.hid (reads_stepE H'.out hb); have TX := True.intro; clear hb)
        | (go_at_call 7; have _t := TX; clear _t TX; refine (parse_any A m cap la HM.out.2.2.2.2 (by have := HM.out; omega) _ H1.out).mono ?_; rintro e w2 ⟨v2, rfl, hown, hb⟩; obtain ⟨A2, c2, rfl, hr2, _⟩ := own_ents hown; have B2 := Lib.hid (B1.out.trans (hb.mono B1.out.size)); have R2 := Lib.hid hr2; have H2 := Lib.hid (reads_stepE H1.out hb); have H2' := Lib.hid (reads_stepE H1'.out hb); have TY := True.intro; clear hown hb hr2)
        | (go_at_call 7; have _t := TY; clear _t TY; refine (parse_any A' n' cap' l' HC'.out (by have := HM.out; omega) _ H2'.out).mono ?_; rintro e w3 ⟨v3, rfl, hown, hb⟩; obtain ⟨A3, c3, rfl, hr3, _⟩ := own_ents hown; have B3 := Lib.hid (B2.out.trans (hb.mono B2.out.size)); have R3 := Lib.hid (reads_stepE R2.out hb); have S3 := Lib.hid hr3; have H3 := Lib.hid (reads_stepE H2.out hb); have H3' := Lib.hid (reads_stepE H2'.out hb); have TA := True.intro; clear hown hb hr3)
        | (at_builtin
           have _t := TA
           have y1 := own_emptyV (base := w3.heap.size) (size := 1) w3 5 (Nat.le_refl _)
           have y2 := reads_stepE H3.out (Joins.below_alloc1 w3 (.cells #[] 5))
           have y3 : 0 + m ≤ maxLen := by have := HM.out; simp only [maxLen]; omega
           have y4 : (0 + m) * 1 ≤ 140737488355328 := by have := HM.out; omega
           have y5 : w3.heap.size ≤ (w3.alloc (.cells #[] 5)).heap.size := by simp
           refine wpList_append_any _ rfl (.tmp 29) (.tmp 30) _ rfl w3.heap.size 5 i0 _ 1 1 Try.underlying22 hi0 hz0 hz1 hz2 rfl (by omega) _ 0 _ rfl y1 _ _ m cap _ rfl y2 (u8s_one _) y3 y4 y5 ?_
           intro v4 w4 hown4 hg4 hv4
           obtain ⟨A4, c4, rfl, ho4, hb4⟩ := copy_own (Below.refl w3.heap.size w3) hown4 hg4
           have O4 := Lib.hid ho4
           have B4 := Lib.hid hb4
           have H4' := Lib.hid (reads_stepE H3'.out hb4)
           have TB := True.intro
           clear hown4 hg4 hv4 y1 y2 y3 y4 y5 ho4 hb4 _t TA)
        | (at_builtin
           have _t := TB
           have y3 : m + n' ≤ maxLen := by have := HM.out; simp only [maxLen]; omega
           have y4 : (m + n') * 1 ≤ 140737488355328 := by have := HM.out; omega
           refine wpList_append_any _ rfl (.tmp 31) (.tmp 32) _ rfl w3.heap.size 5 i0 _ 1 1 Try.underlying22 hi0 hz0 hz1 hz2 rfl (by omega) _ m _ rfl O4.out _ _ n' cap' _ rfl H4'.out (u8s_one _) y3 y4 B4.out.size ?_
           intro v5 w5 hown5 hg5 hv5
           obtain ⟨A5, c5, rfl, hr5, hc5, hb5⟩ := app_post (A3 := A4) (c3 := c4) O4.out B4.out hown5 hg5
           have R5 := Lib.hid hr5
           have C5 := Lib.hid hc5
           have B5 := Lib.hid hb5
           have TZ := True.intro
           clear hown5 hg5 hv5 y3 y4 hr5 hc5 hb5 _t TB)
        | (go_at_call 7; have _t := TZ; clear _t TZ; refine (parse_any A5 (m + n') c5 (la ++ l') C5.out (by have := HM.out; omega) _ R5.out).mono ?_; rintro e w6 ⟨v6, rfl, hown, hb⟩; obtain ⟨A6, c6, rfl, hr6, _⟩ := own_ents hown; have T6 := Lib.hid (show ThreeE w w6 A6 A2 A3 (entsL la).length (entsL l').length (entsL (la ++ l')).length (entsL la) (entsL l') (entsL (la ++ l')) from ⟨hr6, reads_stepE (reads_stepE R3.out B5.out) hb, reads_stepE (reads_stepE S3.out B5.out) hb, stepB (B3.out.trans (B5.out.mono B3.out.size)) hb⟩); clear hown hb hr6))
      have HEQ := Lib.hid (show entsL (la ++ l') = entsL la ++ entsL l' from ents_app (by rw [HLT.out]; exact HM.out.1))
      have HE := Lib.hid (show (∀ x ∈ entsL la, x.length = 6) ∧ (∀ x ∈ entsL l', x.length = 6) ∧ (∀ x ∈ entsL (la ++ l'), x.length = 6) from ⟨entN_all _ _, entN_all _ _, entN_all _ _⟩)
      have HLB := Lib.hid (show (entsL la).length ≤ 2000 ∧ (entsL l').length ≤ 2000 from by rw [entsL_length, entsL_length]; have := HLT.out; have := HLL.out; have := HM.out; omega)
      have HLS := Lib.hid (show (entsL (la ++ l')).length = (entsL la).length + (entsL l').length from by rw [HEQ.out, List.length_append])
      obtain ⟨p1, hp1⟩ : ∃ p, (entsL la).length = p := ⟨_, rfl⟩
      obtain ⟨p2, hp2⟩ : ∃ p, (entsL l').length = p := ⟨_, rfl⟩
      obtain ⟨p3, hp3⟩ : ∃ p, (entsL (la ++ l')).length = p := ⟨_, rfl⟩
      have HPP := Lib.hid (And.intro hp1 (And.intro hp2 hp3))
      rw [hp1, hp2] at HLB
      rw [hp1, hp2, hp3] at HLS
      rw [hp1, hp2, hp3] at T6
      rw [hp1, hp2, hp3]
      clear hp1 hp2 hp3
      have hs3 : p3 = p1 + p2 := HLS.out
      subst hs3
      have b1 : p1 ≤ 2000 := HLB.out.1
      have b2 : p2 ≤ 2000 := HLB.out.2
      go_wp2_with fail
      go_loopw [8] (fun i W => ∃ k : Nat, k ≤ p1 + p2 ∧ i = .int .i64 k ∧ ThreeE w W A6 A2 A3 p1 p2 (p1 + p2) (entsL la) (entsL l') (entsL (la ++ l'))) (fun i _ => p1 + p2 - (intOf i).toNat)
      case atStart => exact ⟨0, Nat.zero_le _, rfl, T6.out⟩
      case round =>
        obtain ⟨k, hk, rfl, ht⟩ := hrel
        rename World => W
        have T := Lib.hid ht
        clear ht
        have hk2 : k ≤ 4000 := by omega
        by_cases hlt : k < p1 + p2
        · obtain ⟨b, off, rfl, hb, hc⟩ := ent_cells T.out.z HE.out.2.2 HPP.out.2.2 hlt
          have d5 : decide ((k : Int) < (p1 : Int) + (p2 : Int)) = true := decide_eq_true (by omega)
          have d5' : decide (k < p1 + p2) = true := decide_eq_true hlt
          by_cases hl1 : k < p1
          · obtain ⟨b', off', rfl, hb', hc'⟩ := ent_cells T.out.x HE.out.1 HPP.out.1 hl1
            have hkl : k < (entsL la).length := by have := HPP.out.1; omega
            have hg : (entsL (la ++ l')).getD k [] = (entsL la).getD k [] := by rw [HEQ.out, List.getD_eq_getElem?_getD, List.getD_eq_getElem?_getD, List.getElem?_append_left hkl]
            have hl6 : ((entsL la).getD k []).length = 6 := by rw [List.getD_eq_getElem?_getD, List.getElem?_eq_getElem hkl]; exact HE.out.1 _ (List.getElem_mem hkl)
            rw [hg] at hc
            obtain ⟨e0, e1, e2, e3, e4, e5, hee⟩ := six_ints hl6
            obtain ⟨x0, x1, x2, x3, x4, x5⟩ := hc _ _ _ _ _ _ hee
            obtain ⟨z0, z1, z2, z3, z4, z5⟩ := hc' _ _ _ _ _ _ hee
            have q := neq_entS e0 e1 e2 e3 e4 e5 e0 e1 e2 e3 e4 e5 false (by simp)
            have gq := guard_ent
            have d6 : decide ((k : Int) < (p1 : Int)) = true := decide_eq_true (by omega)
            have d6' : decide (k < p1) = true := decide_eq_true hl1
            have d7 : decide ((p1 : Int) ≤ (k : Int)) = false := decide_eq_false (by omega)
            have d7' : decide (p1 ≤ k) = false := decide_eq_false (by omega)
            clear hc hc' hg hl6 hee hb hb' hkl
            go_upto_region 13 with fail
            go_quiet (fail)
            go_wp2_with fail
            go_roundw
            case rel => exact ⟨k + 1, by omega, by go_num, T.out.drewN _⟩
            case measure => simp [intOf]; omega
          · obtain ⟨r, hr⟩ : ∃ r, k = p1 + r := ⟨k - p1, by omega⟩
            subst hr
            have hr2 : r < p2 := by omega
            obtain ⟨b', off', rfl, hb', hc'⟩ := ent_cells T.out.y HE.out.2.1 HPP.out.2.1 hr2
            have hkl : r < (entsL l').length := by have := HPP.out.2.1; omega
            have hg : (entsL (la ++ l')).getD (p1 + r) [] = (entsL l').getD r [] := by rw [HEQ.out, List.getD_eq_getElem?_getD, List.getD_eq_getElem?_getD, List.getElem?_append_right (by have := HPP.out.1; omega), HPP.out.1, Nat.add_sub_cancel_left]
            have hl6 : ((entsL l').getD r []).length = 6 := by rw [List.getD_eq_getElem?_getD, List.getElem?_eq_getElem hkl]; exact HE.out.2.1 _ (List.getElem_mem hkl)
            rw [hg] at hc
            obtain ⟨e0, e1, e2, e3, e4, e5, hee⟩ := six_ints hl6
            obtain ⟨k', hk'⟩ : ∃ k', k' = p1 + r := ⟨_, rfl⟩
            have HKK := Lib.hid hk'
            rw [← hk'] at hc hk2 hlt hk d5 d5' ⊢
            obtain ⟨x0, x1, x2, x3, x4, x5⟩ := hc _ _ _ _ _ _ hee
            obtain ⟨z0, z1, z2, z3, z4, z5⟩ := hc' _ _ _ _ _ _ hee
            have q := neq_entS e0 e1 e2 e3 e4 e5 e0 e1 e2 e3 e4 e5 false (by simp)
            have gq := guard_ent
            have d6 : decide ((k' : Int) < (p1 : Int)) = false := decide_eq_false (by omega)
            have d6' : decide (k' < p1) = false := decide_eq_false (by omega)
            have d7 : decide ((p1 : Int) ≤ (k' : Int)) = true := decide_eq_true (by omega)
            have d7' : decide (p1 ≤ k') = true := decide_eq_true (by omega)
            have s1 : IntKind.i64.wrap ((k' : Int) - (p1 : Int)) = (r : Int) := by rw [IntWalk.i64_in _ (by omega)]; omega
            have s2 : (k' : Int) - (p1 : Int) = (r : Int) := by omega
            have s3 : (r : Int) < (p2 : Int) := by omega
            clear hc hc' hg hl6 hee hb hb' hkl hk' hl1 hlt
            have hlt : k' < p1 + p2 := by have := HKK.out; omega
            go_upto_region 13 with fail
            go_quiet (fail)
            go_wp2_with fail
            go_roundw
            case rel => exact ⟨k' + 1, by omega, by go_num, T.out.drewN _⟩
            case measure => simp [intOf]; omega
        · have d5 : decide ((k : Int) < (p1 : Int) + (p2 : Int)) = false := decide_eq_false (by omega)
          have d5' : decide (k < p1 + p2) = false := decide_eq_false hlt
          go_wp2_with fail
          go_ret
          exact ⟨rfl, T.out.bel⟩
end Go.Proofs.Ytggfadiahacgeaa
