/- The walk of ClientLater. -/
import Derived.Test.YtjjkopbdejbnlaaCliU
namespace Go.Proofs.Ytjjkopbdejbnlaa
open Go.RowKit
set_option linter.unusedVariables false
set_option linter.unusedSimpArgs false

theorem reads_off {w w' : World} {p n : Nat} {A : Option Addr} {xs : List Value} (h : Reads w w.heap.size 1 A n xs) (ht : Turn (fun k => k = p) w w') (ha : ∀ ad, A = some ad → ad.block ≠ p) : Reads w' w'.heap.size 1 A n xs :=
  (h.turn ht (Nat.le_refl _) fun ad e => ha ad e).more ht.size
theorem cLost_o {p n : Nat} {L : List Cl} (now span : Int) (w : World) (h : Cli w p n L) : Calls Try.prog 14 #[.pointer (some ⟨p, 0, none⟩), .int .i64 now, .int .i64 span] w fun e w' => ∃ A c,
    e = .returned (.slice A (lostR now span L).length c) ∧ Reads w' w'.heap.size 1 A (lostR now span L).length (i64s (lostR now span L)) ∧ Below w.heap.size w w' ∧ ∀ ad, A = some ad → ad.block ≠ p :=
  (cLost_any now span w h).mono fun e w' ⟨v, he, ho, hb⟩ => by
    obtain ⟨A, c, rfl, hr, _, hoff⟩ := own_el ho
    refine ⟨A, c, he, hr, hb, fun ad e => ?_⟩
    have := (hoff ad e).1
    have := h.lt
    omega

set_option maxRecDepth 100000 in
set_option maxHeartbeats 16000000 in
theorem clientLater_walk (A : Option Addr) (n c : Nat) (l : List (List Int)) (now by_ span less : Int) (hnow : 0 ≤ now ∧ now < 65536) (hby : 0 ≤ by_ ∧ by_ < 65536) (hspan : 0 ≤ span ∧ span < 256) (hless : 0 ≤ less ∧ less < 256) (w : World) (hl : l.length = n) (ha : ∀ x ∈ l, x.length = 4) (hr : Reads w w.heap.size 4 A n (ints l.flatten)) :
    Calls Try.prog 5 #[.slice A n c, .int .u16 now, .int .u16 by_, .int .u8 span, .int .u8 less] w fun e w' => e = .returned (.bool true) ∧ Below w.heap.size w w' := by
  have hnn := fun W => run_neq_nil_nil (P := Try.prog) W 26 Try.underlying26
  have H := Lib.hid hr
  have HL := Lib.hid hl
  have HA := Lib.hid ha
  clear hr hl ha
  by_cases hn : 60 < n
  · have d0 : decide ((60 : Int) < (n : Int)) = true := by simp; omega
    go_enter Try.func5, Try.ntmps5
    go_wp2_with fail
    refine (clientAlive _).mono ?_
    rintro e w0 ⟨rfl, hb0⟩
    go_wp2_with fail
    go_ret
    exact ⟨rfl, hb0⟩
  · have d0 : decide ((60 : Int) < (n : Int)) = false := by simp; omega
    have v1 : IntKind.i64.wrap now = now := IntWalk.i64_in _ (by omega)
    have v2 : IntKind.i64.wrap by_ = by_ := IntWalk.i64_in _ (by omega)
    have v3 : IntKind.i64.wrap span = span := IntWalk.i64_in _ (by omega)
    have v4 : IntKind.i64.wrap less = less := IntWalk.i64_in _ (by omega)
    have v5 : IntKind.i64.wrap (now + by_) = now + by_ := IntWalk.i64_in _ (by omega)
    have v6 : IntKind.i64.wrap (span - less) = span - less := IntWalk.i64_in _ (by omega)
    go_enter Try.func5, Try.ntmps5
    go_wp2_with fail
    refine (clientAlive _).mono ?_
    rintro e w0 ⟨rfl, hb0⟩
    have B0 := Lib.hid hb0
    clear hb0
    go_wp2_with fail
    refine (cNew_ok 8 (by omega) (by omega) _).mono ?_
    rintro e w1 ⟨rfl, hl1, hb1⟩
    have C1 := Lib.hid hl1
    have B1 := Lib.hid (stepB B0.out hb1)
    have hgb : w.heap.size ≤ w0.heap.size := B0.out.size
    clear hl1 hb1
    generalize w0.heap.size = p at C1 hgb ⊢
    go_wp2_with fail
    go_loopw [13] (fun i wr => ∃ (m : Nat) (L : List Cl), m ≤ n ∧ i = .int .i64 m ∧ Cli wr p 8 L ∧ Below w.heap.size w wr) (fun i _ => n - (RowKit.intOf i).toNat)
    case atStart => exact ⟨0, _, Nat.zero_le _, rfl, C1.out, B1.out⟩
    case round =>
      rename World => X
      obtain ⟨m, L, hm, rfl, hc, hbel⟩ := hrel
      have CL := Lib.hid hc
      have HX := Lib.hid hbel
      clear hc hbel
      by_cases hmn : m < n
      · have d1 : decide ((m : Int) < (n : Int)) = true := by simp; omega
        obtain ⟨ab, aoff, K, I, T, N, rfl, hab, hac⟩ := act_at (H.out.below HX.out) HA.out HL.out hmn
        have AC := Lib.hid hac
        clear hac hab
        go_wp2_with (refine wpList_load_cells rfl 32 (.tmp 46) rfl ⟨ab, aoff + m * 4, none⟩ rfl [.int .i64 K, .int .i64 I, .int .i64 T, .int .i64 N] _ AC.out Try.underlying32 rfl (by kernel_rfl) ?_)
        refine (act_any K I T N _ CL.out).mono ?_
        rintro e w2 ⟨rfl, hc2, ht2⟩
        have C2 := Lib.hid hc2
        have B2 := Lib.hid (HX.out.trans (ht2.below (B := w.heap.size) (fun k hk e => by omega) HX.out.size))
        clear hc2 ht2
        go_wp2_with fail
        go_roundw
        case rel => exact ⟨m + 1, _, by omega, by go_num, C2.out, B2.out⟩
        case measure => simp [RowKit.intOf]; omega
      · obtain rfl : m = n := by omega
        have d1 : decide ((m : Int) < (m : Int)) = false := by simp
        have OK := Lib.hid CL.out.ok
        have LEN := Lib.hid CL.out.len
        have hS0 : 0 ≤ max 0 (span - less) := by omega
        have hS1 : max 0 (span - less) ≤ span := by omega
        have hsub : ∀ y ∈ lostR now span L, y ∈ lostR (now + by_) (max 0 (span - less)) L := fun y hy => lost_later hy (by omega) hS1 (isT_iff.2 (by omega)) hS0
        have hwho : ∀ y ∈ lostR now span L, ofL y L ≠ 0 ∧ aliveL 8 L (ofL y L) = false := fun y hy => ⟨(lost_whose OK.out hy).1, (lost_whose OK.out hy).2.1 8 LEN.out⟩
        have hris : Ris (lostR (now + by_) (max 0 (span - less)) L) := lostR_ris OK.out
        have hlen1 : (lostR now span L).length ≤ 8 := by rw [← LEN.out]; exact lostR_len
        have hlen2 : (lostR (now + by_) (max 0 (span - less)) L).length ≤ 8 := by rw [← LEN.out]; exact lostR_len
        generalize hI1 : lostR now span L = I1 at hsub hwho hlen1
        generalize hI2 : lostR (now + by_) (max 0 (span - less)) L = I2 at hsub hris hlen2
        have E1 := Lib.hid hI1
        have E2 := Lib.hid hI2
        have SUB := Lib.hid hsub
        have WHO := Lib.hid hwho
        have RIS := Lib.hid hris
        clear hI1 hI2 hsub hwho hris hS0 hS1
        go_wp2_with fail
        refine (cLost_o now span _ CL.out).mono ?_
        rw [E1.out]
        rintro e w2 ⟨A2, c2, rfl, hr2, hb2, hoff2⟩
        have R2 := Lib.hid hr2
        have C2 := Lib.hid (CL.out.step hb2)
        have B2 := Lib.hid (stepB HX.out hb2)
        clear hr2 hb2 hoff2
        go_wp2_with fail
        refine (cLost_o (now + by_) (max 0 (span - less)) _ C2.out).mono ?_
        rw [E2.out]
        rintro e w3 ⟨A3, c3, rfl, hr3, hb3, hoff3⟩
        have R3 := Lib.hid hr3
        have S3 := Lib.hid (R2.out.below hb3)
        have C3 := Lib.hid (C2.out.step hb3)
        have B3 := Lib.hid (stepB B2.out hb3)
        have O3 := Lib.hid hoff3
        clear hr3 hb3 hoff3
        go_wp2_with fail
        go_loopw [16] (fun i W => ∃ k q : Nat, k ≤ I1.length ∧ i = .int .i64 k ∧ W = w3.drewN q) (fun i _ => I1.length - (RowKit.intOf i).toNat)
        case atStart => exact ⟨0, 0, Nat.zero_le _, rfl, rfl⟩
        case round =>
          obtain ⟨k, q, hk, rfl, rfl⟩ := hrel
          by_cases hkl : k < I1.length
          · have d2 : decide ((k : Int) < (I1.length : Int)) = true := by simp; omega
            obtain ⟨ab, aoff, rfl, _, hac⟩ := int_cells S3.out (by omega)
            have k1 := hac k hkl
            have hxm : gd I1 k ∈ I1 := by rw [gd_get hkl]; exact List.getElem_mem hkl
            have hx2 := SUB.out _ hxm
            obtain ⟨hx3, hx4⟩ := WHO.out _ hxm
            clear hac hxm
            generalize gd I1 k = x at k1 hx2 hx3 hx4
            generalize hv : ofL x L = v at hx3 hx4
            have HV := Lib.hid (show ofV (ofL x L) = .tuple #[.int .i64 v, .nilIface] by unfold ofV; rw [hv, if_neg hx3])
            have HM := Lib.hid hx2
            have HAL := Lib.hid hx4
            clear hv hx3 hx2 hx4
            go_wp2_with fail
            go_loopw [17, 18] (fun t i W => ∃ (j q' : Nat) (tb : Bool), j ≤ I2.length ∧ t = .bool tb ∧ i = .int .i64 j ∧ (tb = true ↔ x ∈ I2.take j) ∧ W = w3.drewN q') (fun _ i _ => I2.length - (RowKit.intOf i).toNat)
            case atStart => exact ⟨0, q, false, Nat.zero_le _, rfl, rfl, by simp, rfl⟩
            case round =>
              obtain ⟨j, q', tb, hj, rfl, rfl, hth, rfl⟩ := hrel
              by_cases hjl : j < I2.length
              · have d3 : decide ((j : Int) < (I2.length : Int)) = true := by simp; omega
                obtain ⟨bb, boff, rfl, _, hbc⟩ := int_cells R3.out (by omega)
                have k2 := hbc j hjl
                have HT := Lib.hid (show x ∈ I2.take (j + 1) ↔ x ∈ I2.take j ∨ x = gd I2 j by rw [List.take_add_one, List.getElem?_eq_getElem hjl, gd_get hjl, Option.toList_some, List.mem_append, List.mem_singleton])
                have TH := Lib.hid hth
                clear hbc hth
                generalize gd I2 j = y at k2 HT
                cases tb with
                | true =>
                  go_wp2_with fail
                  go_quiet (fail)
                  go_wp2_with fail
                  go_roundw
                  case rel => exact ⟨j + 1, _, true, by omega, rfl, by go_num, by simp only [HT.out, true_iff]; exact .inl (TH.out.1 (by simp)), rfl⟩
                  case measure => simp [RowKit.intOf]; omega
                | false =>
                  by_cases hxy : x = y
                  · have e1 : (x == y) = true := by simpa using hxy
                    have HT2 := Lib.hid (HT.out.2 (.inr hxy))
                    clear hxy
                    go_wp2_with fail
                    go_quiet (fail)
                    go_wp2_with fail
                    go_roundw
                    case rel => exact ⟨j + 1, _, true, by omega, rfl, by go_num, by simp only [true_iff]; exact HT2.out, rfl⟩
                    case measure => simp [RowKit.intOf]; omega
                  · have e1 : (x == y) = false := by simpa using hxy
                    have HT2 := Lib.hid (show ¬ x ∈ I2.take (j + 1) from fun h => by
                      rcases HT.out.1 h with h | h
                      · exact absurd (TH.out.2 h) (by simp)
                      · exact hxy h)
                    clear hxy
                    go_wp2_with fail
                    go_quiet (fail)
                    go_wp2_with fail
                    go_roundw
                    case rel => exact ⟨j + 1, _, false, by omega, rfl, by go_num, by simp only [Bool.false_eq_true, false_iff]; exact HT2.out, rfl⟩
                    case measure => simp [RowKit.intOf]; omega
              · obtain rfl : j = I2.length := by omega
                have d3 : decide ((I2.length : Int) < (I2.length : Int)) = false := by simp
                obtain rfl : tb = true := hth.2 (by rw [List.take_of_length_le (Nat.le_refl _)]; exact HM.out)
                clear hth
                have CD := Lib.hid (C3.out.step (below_drewN (Below.refl _ w3) q'))
                go_wp2_with (first
                  | (go_at_call 18; refine (cOf_any x _ CD.out).mono ?_; rw [HV.out]; rintro e w' ⟨rfl, rfl⟩)
                  | (go_at_call 17; refine (cAlive_any v _ CD.out _ HAL.out).mono ?_; rintro e w' ⟨rfl, rfl⟩))
                go_roundw
                case rel => exact ⟨k + 1, q', by omega, by go_num, rfl⟩
                case measure => simp [RowKit.intOf]; omega
          · obtain rfl : k = I1.length := by omega
            have d2 : decide ((I1.length : Int) < (I1.length : Int)) = false := by simp
            have C4 := Lib.hid (C3.out.step (below_drewN (Below.refl _ w3) q))
            have B4 := Lib.hid (below_drewN B3.out q)
            have R4 := Lib.hid (show Reads (w3.drewN q) (w3.drewN q).heap.size 1 A3 I2.length (i64s I2) from R3.out.drewN q)
            generalize w3.drewN q = w4 at C4 B4 R4 ⊢
            go_wp2_with fail
            go_loopw [21] (fun i W => ∃ (k : Nat) (M : List Cl), k ≤ I2.length ∧ i = .int .i64 k ∧ Cli W p 8 M ∧ lostR (now + by_) (max 0 (span - less)) M = I2.drop k ∧ Reads W W.heap.size 1 A3 I2.length (i64s I2) ∧ Below w.heap.size w W) (fun i _ => I2.length - (RowKit.intOf i).toNat)
            case atStart => exact ⟨0, L, Nat.zero_le _, rfl, C4.out, E2.out, R4.out, B4.out⟩
            case round =>
              rename World => Y
              obtain ⟨k, M, hk, rfl, hc, hlo, hrd, hbel⟩ := hrel
              have CM := Lib.hid hc
              have LM := Lib.hid hlo
              have RM := Lib.hid hrd
              have BM := Lib.hid hbel
              clear hc hlo hrd hbel
              by_cases hkl : k < I2.length
              · have d3 : decide ((k : Int) < (I2.length : Int)) = true := by simp; omega
                obtain ⟨bb, boff, rfl, _, hbc⟩ := int_cells RM.out (by omega)
                have k2 := hbc k hkl
                obtain ⟨hc0, hc1⟩ := end_step CM.out.ok RIS.out LM.out hkl
                rw [← gd_get hkl] at hc0 hc1
                clear hbc
                generalize gd I2 k = y at k2 hc0 hc1
                have HC0 := Lib.hid (show errV (endL M y).2 = .nilIface by rw [hc0]; rfl)
                have HC1 := Lib.hid hc1
                clear hc0 hc1
                go_wp2_with fail
                refine (cEnd_any y _ CM.out).mono ?_
                rw [HC0.out]
                rintro e w5 ⟨rfl, hc5, ht5⟩
                have C5 := Lib.hid hc5
                have B5 := Lib.hid (BM.out.trans (ht5.below (B := w.heap.size) (fun k hk e => by omega) BM.out.size))
                have R5 := Lib.hid (reads_off RM.out ht5 O3.out)
                clear hc5 ht5
                go_wp2_with fail
                go_roundw
                case rel => exact ⟨k + 1, _, by omega, by go_num, C5.out, HC1.out, R5.out, B5.out⟩
                case measure => simp [RowKit.intOf]; omega
              · obtain rfl : k = I2.length := by omega
                have d3 : decide ((I2.length : Int) < (I2.length : Int)) = false := by simp
                have hz : lostR (now + by_) (max 0 (span - less)) M = [] := by rw [LM.out]; simp
                have HZ := Lib.hid hz
                clear hz
                go_wp2_with fail
                refine (cLost_o (now + by_) (max 0 (span - less)) _ CM.out).mono ?_
                rw [HZ.out]
                rintro e w6 ⟨A6, c6, rfl, hr6, hb6, _⟩
                have B6 := Lib.hid (stepB BM.out hb6)
                clear hr6 hb6
                go_wp2_with fail
                go_ret
                exact ⟨rfl, B6.out⟩
end Go.Proofs.Ytjjkopbdejbnlaa
