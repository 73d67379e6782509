/- The walk of ClientActs. -/
import Derived.Test.YtjjkopbdejbnlaaCliU
namespace Go.Proofs.Ytjjkopbdejbnlaa
open Go.RowKit
set_option linter.unusedVariables false
set_option linter.unusedSimpArgs false

theorem Cli.drewN {w : World} {p n : Nat} {L : List Cl} (h : Cli w p n L) (k : Nat) : Cli (w.drewN k) p n L := h.step (below_drewN (Below.refl _ _) k)
theorem cAlive_q {p n : Nat} {L : List Cl} (id : Int) (w : World) (h : Cli w p n L) (v : Bool) (hv : aliveL n L id = v) : Calls Try.prog 17 #[.pointer (some ⟨p, 0, none⟩), .int .i64 id] w fun e w' => e = .returned (.bool v) ∧ w' = w :=
  (cAlive_any id w h v hv).mono fun e w' ⟨h1, h2⟩ => ⟨h1, h2.symm⟩
theorem refLost_s {L : List Cl} (ok : ClOk L) (A : Option Addr) (n c B : Nat) (now span : Int) (w : World) (h : Reads w B 3 A n (cls L)) (hB : B ≤ w.heap.size) (hn : n ≤ 1000) :
    Calls Try.prog 15 #[.slice A n c, .int .i64 now, .int .i64 span] w fun e w' => ∃ A' c', e = .returned (.slice A' (lostR now span L).length c') ∧ Reads w' w'.heap.size 1 A' (lostR now span L).length (i64s (lostR now span L)) ∧ Below w.heap.size w w' :=
  (refLost_any A n c B L now span w h hB hn ok.since).mono fun e w' ⟨v, r, he, hr, hm, _, ho, hb⟩ => by
    obtain rfl := lostR_eq ok hr hm
    obtain ⟨A', c', rfl, hr', _⟩ := own_el ho
    exact ⟨A', c', he, hr', hb⟩
theorem made_clients (n : Nat) (h : n ≤ 8) : (madeCells (Value.agg #[.int .i64 0, .bool false, .int .i64 0]).cells (n * 3)).toList = cls (List.replicate n noCl) := by
  rcases n with _ | _ | _ | _ | _ | _ | _ | _ | _ | n
  all_goals first | (exfalso; omega) | kernel_rfl
theorem reads_offC {w w' : World} {p n : Nat} {A : Option Addr} {xs : List Value} (h : Reads w w.heap.size 3 A n xs) (ht : Turn (fun k => k = p) w w') (ha : ∀ ad, A = some ad → ad.block ≠ p) : Reads w' w'.heap.size 3 A n xs :=
  (h.turn ht (Nat.le_refl _) fun ad e => ha ad e).more ht.size
theorem new_off {w : World} {p : Nat} {A A' : Option Addr} (h : NewOr w A A') (ha : ∀ ad, A = some ad → ad.block ≠ p) (hp : p < w.heap.size) : ∀ ad, A' = some ad → ad.block ≠ p := fun ad e => by
  rcases h ad e with h | h
  · exact ha ad h
  · omega

set_option maxRecDepth 100000 in
set_option maxHeartbeats 16000000 in
theorem clientActs_bad (k now span tx : Int) (A : Option Addr) (n c : Nat) (hs : k < 1 ∨ 8 < k) (w : World) :
    Calls Try.prog 3 #[.int .i64 k, .slice A n c, .int .i64 now, .int .i64 span, .int .i64 tx] w fun e w' => e = .returned (.bool true) ∧ Below w.heap.size w w' := by
  have HS := Lib.hid hs
  by_cases hn : 100 < n
  · have d0 : decide ((100 : Int) < (n : Int)) = true := by simp; omega
    clear hs
    go_enter Try.func3, Try.ntmps3
    go_wp2_with fail
    refine (clientAlive _).mono ?_
    rintro e w0 ⟨rfl, hb0⟩
    go_wp2_with fail
    go_ret
    exact ⟨rfl, hb0⟩
  · have d0 : decide ((100 : Int) < (n : Int)) = false := by simp; omega
    by_cases h1 : k < 1
    · have d1 : decide (k < 1) = true := by simpa using h1
      clear hs
      go_enter Try.func3, Try.ntmps3
      go_wp2_with fail
      refine (clientAlive _).mono ?_
      rintro e w0 ⟨rfl, hb0⟩
      go_wp2_with (first
        | (go_at_call 7; refine (cNew_bad _ HS.out _).mono ?_; rintro e w' ⟨rfl, rfl⟩)
        | (go_at_call 8; refine (code_errno 2 (by decide) _).mono ?_; rintro e w' ⟨rfl, rfl⟩))
      go_ret
      exact ⟨rfl, hb0⟩
    · have d1 : decide (k < 1) = false := by simpa using h1
      have d2 : decide (8 < k) = true := by simp; omega
      clear hs
      go_enter Try.func3, Try.ntmps3
      go_wp2_with fail
      refine (clientAlive _).mono ?_
      rintro e w0 ⟨rfl, hb0⟩
      go_wp2_with (first
        | (go_at_call 7; refine (cNew_bad _ HS.out _).mono ?_; rintro e w' ⟨rfl, rfl⟩)
        | (go_at_call 8; refine (code_errno 2 (by decide) _).mono ?_; rintro e w' ⟨rfl, rfl⟩))
      go_ret
      exact ⟨rfl, hb0⟩

set_option maxRecDepth 100000 in
set_option maxHeartbeats 32000000 in
theorem clientActs_ok (q : Nat) (hq1 : 1 ≤ q) (hq8 : q ≤ 8) (now span tx : Int) (A : Option Addr) (n c : Nat) (l : List (List Int)) (w : World) (hl : l.length = n) (ha : ∀ x ∈ l, x.length = 4) (hr : Reads w w.heap.size 4 A n (ints l.flatten)) :
    Calls Try.prog 3 #[.int .i64 (q : Int), .slice A n c, .int .i64 now, .int .i64 span, .int .i64 tx] w fun e w' => e = .returned (.bool true) ∧ Below w.heap.size w w' := by
  have hnn := fun W => run_neq_nil_nil (P := Try.prog) W 26 Try.underlying26
  have hen := fun W => run_eql_nil_nil (P := Try.prog) W 26 Try.underlying26
  have he10 := fun W => run_eql_held_nil (P := Try.prog) W 26 56 (.int .i64 10) Try.underlying26
  have H := Lib.hid hr
  have HL := Lib.hid hl
  have HA := Lib.hid ha
  have d1 : decide ((q : Int) < 1) = false := by simp; omega
  have d2 : decide ((8 : Int) < (q : Int)) = false := by simp; omega
  have HMC := Lib.hid (made_clients q hq8)
  obtain ⟨i0, hi0, hz0, hz1, hz2⟩ := info_parts info_client
  clear hr hl ha
  by_cases hn : 100 < n
  · have d0 : decide ((100 : Int) < (n : Int)) = true := by simp; omega
    go_enter Try.func3, Try.ntmps3
    go_wp2_with fail
    refine (clientAlive _).mono ?_
    rintro e w0 ⟨rfl, hb0⟩
    go_wp2_with fail
    go_ret
    exact ⟨rfl, hb0⟩
  · have d0 : decide ((100 : Int) < (n : Int)) = false := by simp; omega
    go_enter Try.func3, Try.ntmps3
    go_wp2_with fail
    refine (clientAlive _).mono ?_
    rintro e w0 ⟨rfl, hb0⟩
    have B0 := Lib.hid hb0
    clear hb0
    go_wp2_with fail
    refine (cNew_ok q hq1 hq8 _).mono ?_
    rintro e w1 ⟨rfl, hl1, hb1⟩
    have C1 := Lib.hid hl1
    have B1 := Lib.hid (stepB B0.out hb1)
    have hgb : w.heap.size ≤ w0.heap.size := B0.out.size
    clear hl1 hb1
    generalize w0.heap.size = p at C1 hgb ⊢
    go_wp2_with (refine wpList_make_full _ rfl (.tmp 52) (.tmp 52) 30 rfl w1.heap.size 44 i0 _ 3 Try.underlying30 hi0 hz0 hz1 .i64 .i64 _ _ q rfl rfl rfl rfl (by rw [hz2]; omega) (by simp only [maxLen]; omega) (Nat.le_refl _) ?_
                 intro w2 hown2 hg2
                 have O2 := Lib.hid hown2
                 have G2 := Lib.hid ((Below.refl w1.heap.size w1).grown hg2 (Nat.le_refl _) (fun k hk => by cases hk))
                 clear hown2 hg2)
    have R2 := Reads.of_own O2.out
    rw [HMC.out] at R2
    have R2 := Lib.hid R2
    have F2 := Lib.hid (show ∀ ad, some (⟨w1.heap.size, 0, none⟩ : Addr) = some ad → ad.block ≠ p from fun ad e => by cases e; have := C1.out.lt; simp only; omega)
    have C2 := Lib.hid (C1.out.step G2.out)
    have B2 := Lib.hid (stepB B1.out G2.out)
    clear O2 G2 HMC
    go_loopw [13, 14] (fun v i wr => ∃ (m : Nat) (L : List Cl) (A' : Option Addr) (c' : Nat), m ≤ n ∧ i = .int .i64 m ∧ v = .slice A' q c' ∧ Reads wr wr.heap.size 3 A' q (cls L) ∧ (∀ ad, A' = some ad → ad.block ≠ p) ∧ Cli wr p q L ∧ Below w.heap.size w wr) (fun _ i _ => n - (RowKit.intOf i).toNat)
    case atStart => exact ⟨0, _, _, _, Nat.zero_le _, rfl, rfl, R2.out, F2.out, C2.out, B2.out⟩
    case round =>
      rename World => X
      obtain ⟨m, L, A', c', hm, rfl, rfl, hrd, hof, hc, hbel⟩ := hrel
      have RX := Lib.hid hrd
      have FX := Lib.hid hof
      have CX := Lib.hid hc
      have BX := Lib.hid hbel
      clear hrd hof hc hbel
      by_cases hmn : m < n
      · have d3 : decide ((m : Int) < (n : Int)) = true := by simp; omega
        obtain ⟨ab, aoff, K, I, T, N, rfl, hab, hac⟩ := act_at (H.out.below BX.out) HA.out HL.out hmn
        have AC := Lib.hid hac
        clear hac hab
        have X1 := Lib.hid (Blk.new X 32 #[.int .i64 K, .int .i64 I, .int .i64 T, .int .i64 N])
        have R1 := Lib.hid ((RX.out.alloc (Nat.le_refl _) (.cells #[.int .i64 K, .int .i64 I, .int .i64 T, .int .i64 N] 32)).more (B' := (X.alloc (.cells #[.int .i64 K, .int .i64 I, .int .i64 T, .int .i64 N] 32)).heap.size) (by simp))
        have Y1 := Lib.hid (CX.out.step (Joins.below_alloc1 X (.cells #[.int .i64 K, .int .i64 I, .int .i64 T, .int .i64 N] 32)))
        have Z1 := Lib.hid (stepA BX.out (.cells #[.int .i64 K, .int .i64 I, .int .i64 T, .int .i64 N] 32))
        by_cases h0 : K = 0
        · have E0 := Lib.hid (show actL L K I T N = beginL L I T from if_pos h0)
          have e1 : (K == 0) = true := by simpa using h0
          clear h0
          go_wp2_with (refine wpList_load_cells rfl 32 (.tmp 62) rfl ⟨ab, aoff + m * 4, none⟩ rfl [.int .i64 K, .int .i64 I, .int .i64 T, .int .i64 N] _ AC.out Try.underlying32 rfl (by kernel_rfl) ?_)
          generalize X.alloc (.cells #[.int .i64 K, .int .i64 I, .int .i64 T, .int .i64 N] 32) = W1 at X1 R1 Y1 Z1 ⊢
          refine (refBegin_any _ _ _ _ _ I T _ R1.out (Nat.le_refl _) (by omega)).mono ?_
          rintro e w3 ⟨A3, c3, rfl, hr3, hb3, hf3⟩
          have F3 := Lib.hid (new_off hf3 FX.out Y1.out.lt)
          have R3 := Lib.hid hr3
          have C3 := Lib.hid (Y1.out.step hb3)
          have B3 := Lib.hid (stepB Z1.out hb3)
          have X3 := X1.out.here hb3
          have x0 : w3.cell? ⟨X.heap.size, 0, none⟩ = _ := X3.cell 0
          have x1 : w3.cell? ⟨X.heap.size, 1, none⟩ = _ := X3.cell 1
          have x2 : w3.cell? ⟨X.heap.size, 2, none⟩ = _ := X3.cell 2
          have x3 : w3.cell? ⟨X.heap.size, 3, none⟩ = _ := X3.cell 3
          simp only [List.getElem?_toArray, List.getElem?_cons_zero, List.getElem?_cons_succ] at x0 x1 x2 x3
          have XC := Lib.hid (four_cells (o := 0) x0 x1 x2 x3)
          have OK3 := Lib.hid (show ClOk (beginL L I T).1 from CX.out.ok.begin_ I T)
          clear hr3 hb3 hf3 X3 x0 x1 x2 x3
          have HA4 := Lib.hid (fun W (h : Cli W p q L) => act_any K I T N W h)
          rw [E0.out] at HA4
          generalize (beginL L I T).2 = cd at HA4
          generalize (beginL L I T).1 = M at HA4 R3 OK3
          go_wp2_with (refine wpList_load_cells rfl 32 (.tmp 15) rfl ⟨X.heap.size, 0, none⟩ rfl [.int .i64 K, .int .i64 I, .int .i64 T, .int .i64 N] _ XC.out Try.underlying32 rfl (by kernel_rfl) ?_)
          refine (HA4.out _ C3.out).mono ?_
          rintro e w4 ⟨rfl, hc4, ht4⟩
          have C4 := Lib.hid hc4
          have R4 := Lib.hid (reads_offC R3.out ht4 F3.out)
          have B4 := Lib.hid (B3.out.trans (ht4.below (B := w.heap.size) (fun k hk e => by omega) B3.out.size))
          clear hc4 ht4
          have HLN := Lib.hid (show (lostR now span M).length ≤ 8 from Nat.le_trans lostR_len (by rw [C4.out.len]; exact hq8))
          go_wp2_with fail
          refine (cLost_s now span _ C4.out).mono ?_
          rintro e w5 ⟨A5, c5, rfl, hr5, hb5⟩
          have S5 := Lib.hid hr5
          have C5 := Lib.hid (C4.out.step hb5)
          have R5 := Lib.hid ((R4.out.below hb5).more hb5.size)
          have B5 := Lib.hid (stepB B4.out hb5)
          clear hr5 hb5
          go_wp2_with fail
          refine (refLost_s OK3.out _ _ _ _ now span _ R5.out (Nat.le_refl _) (by omega)).mono ?_
          rintro e w6 ⟨A6, c6, rfl, hr6, hb6⟩
          have S6 := Lib.hid hr6
          have T6 := Lib.hid ((S5.out.below hb6).more hb6.size)
          have C6 := Lib.hid (C5.out.step hb6)
          have R6 := Lib.hid ((R5.out.below hb6).more hb6.size)
          have B6 := Lib.hid (stepB B5.out hb6)
          clear hr6 hb6
          generalize lostR now span M = ids at S6 T6 HLN ⊢
          go_wp2_with fail
          refine (ints_same _ _ ids.length _ _ _ _ ids _ (by have := HLN.out; omega) T6.out S6.out).mono ?_
          rintro e w7 ⟨rfl, q7, rfl⟩
          go_wp2_with fail
          go_roundw
          case rel => exact ⟨m + 1, M, A3, c3, by omega, by go_num, rfl, R6.out.drewN q7, F3.out, C6.out.drewN q7, below_drewN B6.out q7⟩
          case measure => simp [RowKit.intOf]; omega
        · have e1 : (K == 0) = false := by simpa using h0
          by_cases h1 : K = 1
          · have E0 := Lib.hid (show actL L K I T N = endL L T by unfold actL; rw [if_neg h0, if_pos h1])
            have e2 : (K == 1) = true := by simpa using h1
            clear h0 h1
            go_wp2_with (refine wpList_load_cells rfl 32 (.tmp 62) rfl ⟨ab, aoff + m * 4, none⟩ rfl [.int .i64 K, .int .i64 I, .int .i64 T, .int .i64 N] _ AC.out Try.underlying32 rfl (by kernel_rfl) ?_)
            generalize X.alloc (.cells #[.int .i64 K, .int .i64 I, .int .i64 T, .int .i64 N] 32) = W1 at X1 R1 Y1 Z1 ⊢
            refine (refEnd_any _ _ _ _ _ T _ R1.out (Nat.le_refl _) (by omega)).mono ?_
            rintro e w3 ⟨A3, c3, rfl, hr3, hb3, hf3⟩
            have F3 := Lib.hid (new_off hf3 FX.out Y1.out.lt)
            have R3 := Lib.hid hr3
            have C3 := Lib.hid (Y1.out.step hb3)
            have B3 := Lib.hid (stepB Z1.out hb3)
            have X3 := X1.out.here hb3
            have x0 : w3.cell? ⟨X.heap.size, 0, none⟩ = _ := X3.cell 0
            have x1 : w3.cell? ⟨X.heap.size, 1, none⟩ = _ := X3.cell 1
            have x2 : w3.cell? ⟨X.heap.size, 2, none⟩ = _ := X3.cell 2
            have x3 : w3.cell? ⟨X.heap.size, 3, none⟩ = _ := X3.cell 3
            simp only [List.getElem?_toArray, List.getElem?_cons_zero, List.getElem?_cons_succ] at x0 x1 x2 x3
            have XC := Lib.hid (four_cells (o := 0) x0 x1 x2 x3)
            have OK3 := Lib.hid (show ClOk (endL L T).1 from CX.out.ok.end_ T)
            clear hr3 hb3 hf3 X3 x0 x1 x2 x3
            have HA4 := Lib.hid (fun W (h : Cli W p q L) => act_any K I T N W h)
            rw [E0.out] at HA4
            generalize (endL L T).2 = cd at HA4
            generalize (endL L T).1 = M at HA4 R3 OK3
            go_wp2_with (refine wpList_load_cells rfl 32 (.tmp 15) rfl ⟨X.heap.size, 0, none⟩ rfl [.int .i64 K, .int .i64 I, .int .i64 T, .int .i64 N] _ XC.out Try.underlying32 rfl (by kernel_rfl) ?_)
            refine (HA4.out _ C3.out).mono ?_
            rintro e w4 ⟨rfl, hc4, ht4⟩
            have C4 := Lib.hid hc4
            have R4 := Lib.hid (reads_offC R3.out ht4 F3.out)
            have B4 := Lib.hid (B3.out.trans (ht4.below (B := w.heap.size) (fun k hk e => by omega) B3.out.size))
            clear hc4 ht4
            have HLN := Lib.hid (show (lostR now span M).length ≤ 8 from Nat.le_trans lostR_len (by rw [C4.out.len]; exact hq8))
            go_wp2_with fail
            refine (cLost_s now span _ C4.out).mono ?_
            rintro e w5 ⟨A5, c5, rfl, hr5, hb5⟩
            have S5 := Lib.hid hr5
            have C5 := Lib.hid (C4.out.step hb5)
            have R5 := Lib.hid ((R4.out.below hb5).more hb5.size)
            have B5 := Lib.hid (stepB B4.out hb5)
            clear hr5 hb5
            go_wp2_with fail
            refine (refLost_s OK3.out _ _ _ _ now span _ R5.out (Nat.le_refl _) (by omega)).mono ?_
            rintro e w6 ⟨A6, c6, rfl, hr6, hb6⟩
            have S6 := Lib.hid hr6
            have T6 := Lib.hid ((S5.out.below hb6).more hb6.size)
            have C6 := Lib.hid (C5.out.step hb6)
            have R6 := Lib.hid ((R5.out.below hb6).more hb6.size)
            have B6 := Lib.hid (stepB B5.out hb6)
            clear hr6 hb6
            generalize lostR now span M = ids at S6 T6 HLN ⊢
            go_wp2_with fail
            refine (ints_same _ _ ids.length _ _ _ _ ids _ (by have := HLN.out; omega) T6.out S6.out).mono ?_
            rintro e w7 ⟨rfl, q7, rfl⟩
            go_wp2_with fail
            go_roundw
            case rel => exact ⟨m + 1, M, A3, c3, by omega, by go_num, rfl, R6.out.drewN q7, F3.out, C6.out.drewN q7, below_drewN B6.out q7⟩
            case measure => simp [RowKit.intOf]; omega
          · have E0 := Lib.hid (show actL L K I T N = crashL L I N by unfold actL; rw [if_neg h0, if_neg h1])
            have e2 : (K == 1) = false := by simpa using h1
            clear h0 h1
            go_wp2_with (refine wpList_load_cells rfl 32 (.tmp 62) rfl ⟨ab, aoff + m * 4, none⟩ rfl [.int .i64 K, .int .i64 I, .int .i64 T, .int .i64 N] _ AC.out Try.underlying32 rfl (by kernel_rfl) ?_)
            generalize X.alloc (.cells #[.int .i64 K, .int .i64 I, .int .i64 T, .int .i64 N] 32) = W1 at X1 R1 Y1 Z1 ⊢
            refine (refCrash_any _ _ _ _ _ I N _ R1.out (Nat.le_refl _) (by omega)).mono ?_
            rintro e w3 ⟨A3, c3, rfl, hr3, hb3, hf3⟩
            have F3 := Lib.hid (new_off hf3 FX.out Y1.out.lt)
            have R3 := Lib.hid hr3
            have C3 := Lib.hid (Y1.out.step hb3)
            have B3 := Lib.hid (stepB Z1.out hb3)
            have X3 := X1.out.here hb3
            have x0 : w3.cell? ⟨X.heap.size, 0, none⟩ = _ := X3.cell 0
            have x1 : w3.cell? ⟨X.heap.size, 1, none⟩ = _ := X3.cell 1
            have x2 : w3.cell? ⟨X.heap.size, 2, none⟩ = _ := X3.cell 2
            have x3 : w3.cell? ⟨X.heap.size, 3, none⟩ = _ := X3.cell 3
            simp only [List.getElem?_toArray, List.getElem?_cons_zero, List.getElem?_cons_succ] at x0 x1 x2 x3
            have XC := Lib.hid (four_cells (o := 0) x0 x1 x2 x3)
            have OK3 := Lib.hid (show ClOk (crashL L I N).1 from CX.out.ok.crash I N)
            clear hr3 hb3 hf3 X3 x0 x1 x2 x3
            have HA4 := Lib.hid (fun W (h : Cli W p q L) => act_any K I T N W h)
            rw [E0.out] at HA4
            generalize (crashL L I N).2 = cd at HA4
            generalize (crashL L I N).1 = M at HA4 R3 OK3
            go_wp2_with (refine wpList_load_cells rfl 32 (.tmp 15) rfl ⟨X.heap.size, 0, none⟩ rfl [.int .i64 K, .int .i64 I, .int .i64 T, .int .i64 N] _ XC.out Try.underlying32 rfl (by kernel_rfl) ?_)
            refine (HA4.out _ C3.out).mono ?_
            rintro e w4 ⟨rfl, hc4, ht4⟩
            have C4 := Lib.hid hc4
            have R4 := Lib.hid (reads_offC R3.out ht4 F3.out)
            have B4 := Lib.hid (B3.out.trans (ht4.below (B := w.heap.size) (fun k hk e => by omega) B3.out.size))
            clear hc4 ht4
            have HLN := Lib.hid (show (lostR now span M).length ≤ 8 from Nat.le_trans lostR_len (by rw [C4.out.len]; exact hq8))
            go_wp2_with fail
            refine (cLost_s now span _ C4.out).mono ?_
            rintro e w5 ⟨A5, c5, rfl, hr5, hb5⟩
            have S5 := Lib.hid hr5
            have C5 := Lib.hid (C4.out.step hb5)
            have R5 := Lib.hid ((R4.out.below hb5).more hb5.size)
            have B5 := Lib.hid (stepB B4.out hb5)
            clear hr5 hb5
            go_wp2_with fail
            refine (refLost_s OK3.out _ _ _ _ now span _ R5.out (Nat.le_refl _) (by omega)).mono ?_
            rintro e w6 ⟨A6, c6, rfl, hr6, hb6⟩
            have S6 := Lib.hid hr6
            have T6 := Lib.hid ((S5.out.below hb6).more hb6.size)
            have C6 := Lib.hid (C5.out.step hb6)
            have R6 := Lib.hid ((R5.out.below hb6).more hb6.size)
            have B6 := Lib.hid (stepB B5.out hb6)
            clear hr6 hb6
            generalize lostR now span M = ids at S6 T6 HLN ⊢
            go_wp2_with fail
            refine (ints_same _ _ ids.length _ _ _ _ ids _ (by have := HLN.out; omega) T6.out S6.out).mono ?_
            rintro e w7 ⟨rfl, q7, rfl⟩
            go_wp2_with fail
            go_roundw
            case rel => exact ⟨m + 1, M, A3, c3, by omega, by go_num, rfl, R6.out.drewN q7, F3.out, C6.out.drewN q7, below_drewN B6.out q7⟩
            case measure => simp [RowKit.intOf]; omega
      · obtain rfl : m = n := by omega
        have d3 : decide ((m : Int) < (m : Int)) = false := by simp
        have LEN := Lib.hid CX.out.len
        have OKL := Lib.hid CX.out.ok
        go_wp2_with fail
        go_loopw [17] (fun i W => ∃ j : Nat, j ≤ q + 2 ∧ i = .int .i64 j ∧ Cli W p q L ∧ Reads W W.heap.size 3 A' q (cls L) ∧ Below w.heap.size w W) (fun i _ => q + 3 - (RowKit.intOf i).toNat)
        case atStart => exact ⟨0, Nat.zero_le _, rfl, CX.out, RX.out, BX.out⟩
        case round =>
          rename World => Y
          obtain ⟨j, hj, rfl, hc, hrd, hbel⟩ := hrel
          have CY := Lib.hid hc
          have RY := Lib.hid hrd
          have BY := Lib.hid hbel
          clear hc hrd hbel
          by_cases hjq : j ≤ q + 1
          · have d4 : decide ((j : Int) ≤ (q : Int) + 1) = true := by simp; omega
            by_cases hj0 : j = 0
            · have HNO := Lib.hid (show nowL q L (j : Int) = 0 by unfold nowL; rw [if_pos (by omega)])
              have HAL := Lib.hid (show aliveL q L (j : Int) = false by unfold aliveL; rw [if_pos (by omega)])
              have HNV := Lib.hid (show nowV 0 = .tuple #[.int .i64 0, errno 10] from rfl)
              have d5 : decide ((j : Int) < 1) = true := by simp; omega
              have d6 : decide ((1 : Int) ≤ (j : Int)) = false := by simp; omega
              clear hj0
              go_wp2_with (first
                | (go_at_call 16; refine (cNow_any (j : Int) _ CY.out _ HNO.out).mono ?_; rw [HNV.out]; rintro e w' ⟨rfl, rfl⟩)
                | (go_at_call 17; refine (cAlive_any (j : Int) _ CY.out _ HAL.out).mono ?_; rintro e w' ⟨rfl, rfl⟩)
                | (go_at_call 8; refine (code_errno 10 (by decide) _).mono ?_; rintro e w' ⟨rfl, rfl⟩))
              go_quiet (fail)
              go_wp2_with fail
              go_roundw
              case rel => exact ⟨j + 1, by omega, by go_num, CY.out.drewN _, RY.out.drewN _, below_drewN BY.out _⟩
              case measure => simp [RowKit.intOf]; omega
            · by_cases hjn : j ≤ q
              · have hj1 : 1 ≤ j := by omega
                have d5 : decide ((j : Int) < 1) = false := by simp; omega
                have d6 : decide ((1 : Int) ≤ (j : Int)) = true := by simp; omega
                have d7 : decide ((q : Int) < (j : Int)) = false := by simp; omega
                have d8 : decide ((j : Int) ≤ (q : Int)) = true := by simp; omega
                have hal : aliveL q L (j : Int) = !(clAt L (j - 1)).dead := by unfold aliveL; rw [if_neg (by omega), show ((j : Int) - 1).toNat = j - 1 by omega]
                have hno : nowL q L (j : Int) = (clAt L (j - 1)).tx := by unfold nowL; rw [if_neg (by omega), show ((j : Int) - 1).toNat = j - 1 by omega]
                have hkl : j - 1 < L.length := by rw [LEN.out]; omega
                obtain ⟨b, off, rfl, hb, k0, k1, k2⟩ := RY.out.c_at hkl
                clear k2
                rw [← clAt_get hkl] at k0 k1
                have hi1 : (j : Int) - 1 = ((j - 1 : Nat) : Int) := by omega
                have hwr : IntKind.i64.wrap ((j : Int) - 1) = ((j - 1 : Nat) : Int) := by rw [hi1]; exact IntWalk.i64_in _ (by omega)
                have hij : j - 1 < q := by omega
                generalize (clAt L (j - 1)).dead = dj at hal k1
                generalize (clAt L (j - 1)).tx = tj at hno k0
                generalize j - 1 = i at hi1 hwr k0 k1 hij
                have HNO := Lib.hid hno
                have HAL := Lib.hid hal
                clear hno hal hkl hb hj0
                by_cases ht : tj = 0
                · subst ht
                  have HNV := Lib.hid (show nowV 0 = .tuple #[.int .i64 0, errno 10] from rfl)
                  cases dj
                  all_goals
                    go_wp2_with (first
                      | (go_at_call 16; refine (cNow_any (j : Int) _ CY.out _ HNO.out).mono ?_; rw [HNV.out]; rintro e w' ⟨rfl, rfl⟩)
                      | (go_at_call 8; refine (code_errno 10 (by decide) _).mono ?_; rintro e w' ⟨rfl, rfl⟩))
                    go_quiet (first | (go_at_call 17; exact Calls.quiet_of_same (cAlive_q (j : Int) _ (Cli.drewN CY.out _) _ HAL.out)))
                    go_wp2_with fail
                    go_roundw
                    case rel => exact ⟨j + 1, by omega, by go_num, CY.out.drewN _, RY.out.drewN _, below_drewN BY.out _⟩
                    case measure => simp [RowKit.intOf]; omega
                · have HNV := Lib.hid (show nowV tj = .tuple #[.int .i64 tj, .nilIface] by unfold nowV; rw [if_neg ht])
                  have e0 : (tj == 0) = false := by simpa using ht
                  clear ht
                  cases dj
                  all_goals
                    go_wp2_with (go_at_call 16; refine (cNow_any (j : Int) _ CY.out _ HNO.out).mono ?_; rw [HNV.out]; rintro e w' ⟨rfl, rfl⟩)
                    go_quiet (first | (go_at_call 17; exact Calls.quiet_of_same (cAlive_q (j : Int) _ (Cli.drewN CY.out _) _ HAL.out)))
                    go_wp2_with fail
                    go_roundw
                    case rel => exact ⟨j + 1, by omega, by go_num, CY.out.drewN _, RY.out.drewN _, below_drewN BY.out _⟩
                    case measure => simp [RowKit.intOf]; omega
              · have HNO := Lib.hid (show nowL q L (j : Int) = 0 by unfold nowL; rw [if_pos (by omega)])
                have HAL := Lib.hid (show aliveL q L (j : Int) = false by unfold aliveL; rw [if_pos (by omega)])
                have HNV := Lib.hid (show nowV 0 = .tuple #[.int .i64 0, errno 10] from rfl)
                have d5 : decide ((j : Int) < 1) = false := by simp; omega
                have d6 : decide ((1 : Int) ≤ (j : Int)) = true := by simp; omega
                have d7 : decide ((q : Int) < (j : Int)) = true := by simp; omega
                have d8 : decide ((j : Int) ≤ (q : Int)) = false := by simp; omega
                have d9 : decide (q < j) = true := by simp; omega
                have hjn2 : (q : Int) < (j : Int) := by omega
                clear hj0
                go_wp2_with (first
                  | (go_at_call 16; refine (cNow_any (j : Int) _ CY.out _ HNO.out).mono ?_; rw [HNV.out]; rintro e w' ⟨rfl, rfl⟩)
                  | (go_at_call 17; refine (cAlive_any (j : Int) _ CY.out _ HAL.out).mono ?_; rintro e w' ⟨rfl, rfl⟩)
                  | (go_at_call 8; refine (code_errno 10 (by decide) _).mono ?_; rintro e w' ⟨rfl, rfl⟩))
                go_quiet (fail)
                go_wp2_with fail
                go_roundw
                case rel => exact ⟨j + 1, by omega, by go_num, CY.out.drewN _, RY.out.drewN _, below_drewN BY.out _⟩
                case measure => simp [RowKit.intOf]; omega
          · have d4 : decide ((j : Int) ≤ (q : Int) + 1) = false := by simp; omega
            have hov := ofL_nonneg tx L
            have HLN := Lib.hid (show (lostR now span L).length ≤ 8 from Nat.le_trans lostR_len (by rw [LEN.out]; exact hq8))
            generalize hv : ofL tx L = v at hov
            have HV := Lib.hid hv
            clear hv hjq
            by_cases h0 : v = 0
            · subst h0
              have HOV := Lib.hid (show ofV (ofL tx L) = .tuple #[.int .i64 0, errno 10] by rw [HV.out]; rfl)
              go_wp2_with fail
              refine (cOf_any tx _ CY.out).mono ?_
              rw [HOV.out]
              rintro e w' ⟨rfl, rfl⟩
              go_wp2_with fail
              refine (refOf_any _ _ _ _ L tx _ RY.out (by omega)).mono ?_
              rw [HV.out]
              rintro e w' ⟨rfl, rfl⟩
              go_wp2_with (go_at_call 8; refine (code_errno 10 (by decide) _).mono ?_; rintro e w' ⟨rfl, rfl⟩)
              refine (cLost_s now span _ CY.out).mono ?_
              rintro e w5 ⟨A5, c5, rfl, hr5, hb5⟩
              have S5 := Lib.hid hr5
              have R5 := Lib.hid ((RY.out.below hb5).more hb5.size)
              have B5 := Lib.hid (stepB BY.out hb5)
              clear hr5 hb5
              go_wp2_with fail
              refine (refLost_s OKL.out _ _ _ _ now span _ R5.out (Nat.le_refl _) (by omega)).mono ?_
              rintro e w6 ⟨A6, c6, rfl, hr6, hb6⟩
              have S6 := Lib.hid hr6
              have T6 := Lib.hid ((S5.out.below hb6).more hb6.size)
              have B6 := Lib.hid (stepB B5.out hb6)
              clear hr6 hb6
              generalize lostR now span L = ids at S6 T6 HLN ⊢
              go_wp2_with fail
              refine (ints_same _ _ ids.length _ _ _ _ ids _ (by have := HLN.out; omega) T6.out S6.out).mono ?_
              rintro e w7 ⟨rfl, q7, rfl⟩
              go_wp2_with fail
              go_ret
              exact ⟨rfl, below_drewN B6.out q7⟩
            · have HOV := Lib.hid (show ofV (ofL tx L) = .tuple #[.int .i64 v, .nilIface] by rw [HV.out]; unfold ofV; rw [if_neg h0])
              have d5 : decide ((0 : Int) < v) = true := by simp; omega
              clear h0
              go_wp2_with fail
              refine (cOf_any tx _ CY.out).mono ?_
              rw [HOV.out]
              rintro e w' ⟨rfl, rfl⟩
              go_wp2_with fail
              refine (refOf_any _ _ _ _ L tx _ RY.out (by omega)).mono ?_
              rw [HV.out]
              rintro e w' ⟨rfl, rfl⟩
              go_wp2_with fail
              refine (cLost_s now span _ CY.out).mono ?_
              rintro e w5 ⟨A5, c5, rfl, hr5, hb5⟩
              have S5 := Lib.hid hr5
              have R5 := Lib.hid ((RY.out.below hb5).more hb5.size)
              have B5 := Lib.hid (stepB BY.out hb5)
              clear hr5 hb5
              go_wp2_with fail
              refine (refLost_s OKL.out _ _ _ _ now span _ R5.out (Nat.le_refl _) (by omega)).mono ?_
              rintro e w6 ⟨A6, c6, rfl, hr6, hb6⟩
              have S6 := Lib.hid hr6
              have T6 := Lib.hid ((S5.out.below hb6).more hb6.size)
              have B6 := Lib.hid (stepB B5.out hb6)
              clear hr6 hb6
              generalize lostR now span L = ids at S6 T6 HLN ⊢
              go_wp2_with fail
              refine (ints_same _ _ ids.length _ _ _ _ ids _ (by have := HLN.out; omega) T6.out S6.out).mono ?_
              rintro e w7 ⟨rfl, q7, rfl⟩
              go_wp2_with fail
              go_ret
              exact ⟨rfl, below_drewN B6.out q7⟩

theorem clientActs_walk (k now span tx : Int) (A : Option Addr) (n c : Nat) (l : List (List Int)) (w : World) (hl : l.length = n) (ha : ∀ x ∈ l, x.length = 4) (hr : Reads w w.heap.size 4 A n (ints l.flatten)) :
    Calls Try.prog 3 #[.int .i64 k, .slice A n c, .int .i64 now, .int .i64 span, .int .i64 tx] w fun e w' => e = .returned (.bool true) ∧ Below w.heap.size w w' := by
  by_cases h : 1 ≤ k ∧ k ≤ 8
  · obtain ⟨q, rfl⟩ : ∃ q : Nat, k = q := ⟨k.toNat, by omega⟩
    exact clientActs_ok q (by omega) (by omega) now span tx A n c l w hl ha hr
  · exact clientActs_bad k now span tx A n c (by omega) w
end Go.Proofs.Ytjjkopbdejbnlaa
