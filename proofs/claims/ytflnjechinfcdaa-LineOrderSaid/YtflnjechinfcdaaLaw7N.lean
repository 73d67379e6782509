/- LineNone's walk. -/
import Derived.Test.YtflnjechinfcdaaLaw7P
import Derived.Test.YtflnjechinfcdaaRef7B
import Derived.Test.YtflnjechinfcdaaLineG
namespace Go.Proofs.Ytflnjechinfcdaa
open Go.RowKit
set_option linter.unusedVariables false
set_option linter.unusedSimpArgs false

/-- A row that may be written, newer than B. -/
def Rowy (W : World) (B : Nat) (A : Option Addr) (m : Nat) (b : Nat) : Prop := B ≤ b ∧ (0 < m → A = some ⟨b, 0, none⟩ ∧ ∃ cs, Blk W b 33 cs ∧ m * 4 ≤ cs.size)
theorem Told.rowy {w w' : World} {A : Option Addr} {m : Nat} {L : List Wt} (h : Told w w' A m L) : ∃ b, Rowy w' w.heap.size A m b := by
  rcases Nat.eq_zero_or_pos m with h0 | h0
  · exact ⟨w.heap.size, Nat.le_refl _, fun h => absurd h (by omega)⟩
  · obtain ⟨b, cs, h1, h2, h3⟩ := h.row h0
    exact ⟨b, (h.new _ h1).1, fun _ => ⟨h1, cs, h2, h3⟩⟩
theorem Rowy.step {W W' : World} {B : Nat} {A : Option Addr} {m b : Nat} (h : Rowy W B A m b) (hb : Below W.heap.size W W') : Rowy W' B A m b := ⟨h.1, fun h0 => by
  obtain ⟨h1, cs, h2, h3⟩ := h.2 h0
  exact ⟨h1, cs, h2.here hb, h3⟩⟩
theorem Rowy.put {W : World} {B : Nat} {A : Option Addr} {m b : Nat} (h : Rowy W B A m b) (b' o : Nat) (vs : List Value) : Rowy (W.setCells b' o vs) B A m b := ⟨h.1, fun h0 => by
  obtain ⟨h1, cs, h2, h3⟩ := h.2 h0
  by_cases hb : b' = b
  · subst hb
    exact ⟨h1, _, h2.setCells vs o, by rw [splice_size]; exact h3⟩
  · exact ⟨h1, cs, h2.farCells (fun e => hb e.symm) vs o, h3⟩⟩
theorem Rowy.there {W : World} {B : Nat} {A : Option Addr} {m b k : Nat} (h : Rowy W B A m b) (hk : k < m) : W.there b (k * 4) 4 := fun j hj => by
  obtain ⟨h1, cs, h2, h3⟩ := h.2 (by omega)
  exact ⟨by rw [h2.cell, Array.getElem?_eq_getElem (by omega)]; rfl, h2.frozen _⟩

theorem Line.back_off {w w' : World} {B g : Nat} {r0 r1 : Option Nat} {lim : Int} {U D L : List Wt} {A A' : Option Addr} {n' c' : Nat} (h : Line w B g r0 r1 lim U D) (ho : Off g r0 r1 A) (hb : Back w w' A A' n' c' L) : Off g r0 r1 A' := by
  rcases hb.kin with h1 | h1
  · rw [h1]; exact ho
  · exact h.off fun ad he => (h1 ad he).1
theorem Back.in_heap {w w' : World} {L : List Wt} {A A' : Option Addr} {n' c' : Nat} (hb : Back w w' A A' n' c' L) (hA : ∀ ad, A = some ad → ad.block < w.heap.size) : ∀ ad, A' = some ad → ad.block < w'.heap.size := by
  rcases hb.kin with h1 | h1
  · rw [h1]; exact fun ad he => Nat.lt_of_lt_of_le (hA ad he) hb.bel.size
  · exact fun ad he => (h1 ad he).2
set_option maxRecDepth 100000 in
set_option maxHeartbeats 16000000 in
theorem lineNone_walk (A : Option Addr) (n c : Nat) (l : List Wt) (tx : Int) (w : World) (hl : l.length = n) (hr : Reads w w.heap.size 4 A n (wvs l)) :
    Calls Try.prog 5 #[.slice A n c, .int .i64 tx] w fun e w' => e = .returned (.bool true) ∧ Below w.heap.size w w' := by
  have HR := Lib.hid hr
  have HN := Lib.hid hl
  have hn0 := fun W => run_neq_nil_nil (P := Try.prog) W 26 Try.underlying26
  have he : ∀ W, (binOp .neq 33 (.agg (wc zW)) (.agg #[.int .i64 0, .int .i64 0, .int .i64 0, .bool false])).run Try.prog W = .ok (.bool false) W := fun W => by have := neq_wait zW zW W; rw [decide_eq_true rfl, Bool.not_true] at this; exact this
  have he2 : ∀ W, (binOp .neq 33 (.agg (wc zW)) (.agg (wc zW))).run Try.prog W = .ok (.bool false) W := fun W => by have := neq_wait zW zW W; rw [decide_eq_true rfl, Bool.not_true] at this; exact this
  clear hr hl
  go_enter Try.func5, Try.ntmps5
  go_wp2_with fail
  refine (alive_true _).mono ?_
  rintro e w1 ⟨rfl, hb1⟩
  have B1 := Lib.hid hb1
  clear hb1
  go_wp2_with fail
  refine (pop_nil _).mono ?_
  rintro e w2 ⟨rfl, hb2⟩
  rw [wc_zero]
  obtain ⟨V2, hV2⟩ : ∃ V2, V2 = w2.alloc (.cells #[.int .i64 0, .int .i64 0, .int .i64 0, .bool false] 33) := ⟨_, rfl⟩
  have B2 := Lib.hid (show Below w.heap.size w V2 by rw [hV2]; exact stepA (stepB B1.out hb2) _)
  have X2 := Lib.hid (show Blk V2 w2.heap.size 33 (wc zW) by rw [hV2]; exact Blk.new w2 _ _)
  clear hb2
  go_wp2_with fail
  rw [← hV2]
  clear hV2
  refine (leave_nil tx _).mono ?_
  rintro e w3 ⟨rfl, hb3⟩
  rw [wc_zero]
  obtain ⟨V3, hV3⟩ : ∃ V3, V3 = w3.alloc (.cells #[.int .i64 0, .int .i64 0, .int .i64 0, .bool false] 33) := ⟨_, rfl⟩
  have B3 := Lib.hid (show Below w.heap.size w V3 by rw [hV3]; exact stepA (stepB B2.out hb3) _)
  have X3 := Lib.hid (show Blk V3 w3.heap.size 33 (wc zW) by rw [hV3]; exact Blk.new w3 _ _)
  have Y3 := Lib.hid (show Blk V3 w2.heap.size 33 (wc zW) by rw [hV3]; exact (X2.out.here hb3).alloc _)
  clear hb3 X2
  go_wp2_with fail
  rw [← hV3]
  clear hV3
  refine (find_nil tx _).mono ?_
  rintro e w4 ⟨rfl, hb4⟩
  rw [wc_zero]
  obtain ⟨V, hV⟩ : ∃ V, V = w4.alloc (.cells #[.int .i64 0, .int .i64 0, .int .i64 0, .bool false] 33) := ⟨_, rfl⟩
  have BV := Lib.hid (show Below w.heap.size w V by rw [hV]; exact stepA (stepB B3.out hb4) _)
  have X10 := Lib.hid (show Blk V w4.heap.size 33 (wc zW) by rw [hV]; exact Blk.new w4 _ _)
  have X8 := Lib.hid (show Blk V w3.heap.size 33 (wc zW) by rw [hV]; exact (X3.out.here hb4).alloc _)
  have X6 := Lib.hid (show Blk V w2.heap.size 33 (wc zW) by rw [hV]; exact (Y3.out.here hb4).alloc _)
  clear hb4 X3 Y3
  go_upto_region 7 with fail
  rw [← hV]
  clear hV
  go_wp2_with (first
    | (refine wpList_load_row (by rfl) 33 (.tmp 6) rfl w2.heap.size rfl 33 (wc zW) (0, 0) _ X6.out Try.underlying33 rfl (wc_info _) ?_)
    | (refine wpList_load_row_g (by rfl) 33 (.tmp 8) rfl w3.heap.size rfl 33 (wc zW) (0, 0) _ X8.out Try.underlying33 rfl (wc_info _) ?_)
    | (refine wpList_load_row_g (by rfl) 33 (.tmp 10) rfl w4.heap.size rfl 33 (wc zW) (0, 0) _ X10.out Try.underlying33 rfl (wc_info _) ?_)
    | (refine wpList_load_row_g (by rfl) 33 (.tmp 6) rfl w2.heap.size rfl 33 (wc zW) (0, 0) _ X6.out Try.underlying33 rfl (wc_info _) ?_)
    | (go_at_call 9; refine (code_errno 1 (by decide) _).mono ?_; rintro e w' ⟨rfl, rfl⟩))
  refine (show Calls _ _ #[_, .agg (wc ⟨1, 1, 1, false⟩)] _ _ from (push_nil ⟨1, 1, 1, false⟩ _).mono ?_)
  rintro e w5 ⟨rfl, hb5⟩
  have B5 := Lib.hid (stepB BV.out hb5)
  clear hb5 he he2
  go_wp2_with (first
    | (go_at_call 9; refine (code_errno 1 (by decide) _).mono ?_; rintro e w' ⟨rfl, rfl⟩)
    | (go_at_call 17; refine (ahead_nil tx _).mono ?_; rintro e w' ⟨rfl, rfl⟩)
    | (go_at_call 14; refine (allLine_nil _).mono ?_; rintro e w' ⟨rfl, rfl⟩))
  refine (newLine_ok 64 (by decide) _).mono ?_
  rintro e w6 ⟨rfl, hl6, hb6⟩
  have L6 := Lib.hid hl6
  have B6 := Lib.hid (stepB B5.out hb6)
  have HZ := Lib.hid (show w.heap.size ≤ w5.heap.size from B5.out.size)
  clear hl6 hb6 BV X6 X8 X10
  generalize w5.heap.size = z at L6 HZ ⊢
  by_cases hbig : 200 < n
  · have d1 : decide ((200 : Int) < (n : Int)) = true := decide_eq_true (by omega)
    have d2 : decide (200 < n) = true := decide_eq_true hbig
    go_wp2_with fail
    go_ret
    exact ⟨rfl, B6.out⟩
  · have d1 : decide ((200 : Int) < (n : Int)) = false := decide_eq_false (by omega)
    have d2 : decide (200 < n) = false := decide_eq_false hbig
    go_wp2_with fail
    go_loopw [14, 15] (fun v i W => ∃ (k : Nat) (U D : List Wt) (r0 r1 : Option Nat) (Av : Option Addr) (nv cv : Nat), k ≤ n ∧ v = .slice Av nv cv ∧ i = .int .i64 k ∧ Line W z z r0 r1 64 U D ∧ Reads W W.heap.size 4 Av nv (wvs (U ++ D)) ∧ nv ≤ cv ∧ Off z r0 r1 Av ∧ (∀ ad, Av = some ad → ad.block < W.heap.size) ∧ Below w.heap.size w W) (fun _ i _ => n - (RowKit.intOf i).toNat)
    case atStart => exact ⟨0, [], [], none, none, none, 0, 0, Nat.zero_le _, rfl, rfl, L6.out, Reads.none_, Nat.le_refl _, Off.none_ _ _ _, (fun ad h => by cases h), B6.out⟩
    case round =>
      obtain ⟨k, U, D, r0, r1, Av, nv, cv, hk, rfl, rfl, hlk, hrk, hcv, hok, hav, hbk⟩ := hrel
      rename World => W
      have LK := Lib.hid hlk
      have BK := Lib.hid hbk
      have RK := Lib.hid hrk
      have OK := Lib.hid hok
      have AK := Lib.hid hav
      have hlen := hlk.ok.len
      clear hlk hbk hrk hok hav
      by_cases hlt : k < n
      · have d3 : decide ((k : Int) < (n : Int)) = true := decide_eq_true (by omega)
        have hkl : k < l.length := by rw [HN.out]; exact hlt
        obtain ⟨b, off, rfl, hbb, hcell⟩ := HR.out.w_cells hkl
        have HC := Lib.hid (fun X (hX : Below w.heap.size w X) (j : Nat) (v : Value) hv => ((congrArg X.cell? (add_lit b (off + k * 4) j)).trans ((hX.cell (p := ⟨b, off + k * 4 + j, none⟩) hbb).trans (hcell j v hv))))
        clear hcell
        generalize l[k] = q at HC
        go_wp2_with (refine wpList_load_cells rfl 33 (.tmp 112) rfl ⟨b, off + k * 4, none⟩ rfl (wv q) _ (HC.out W BK.out) Try.underlying33 rfl info_wait4 ?_)
        refine (show Calls _ _ #[_, .agg (wc q)] _ _ from (push_any q _ LK.out).mono ?_)
        rintro e w7 ⟨rfl, r0', r1', hl7, ht7, hx7⟩
        have L7 := Lib.hid hl7
        have B7 := Lib.hid (BK.out.trans ((LK.out.below_of ht7).mono HZ.out))
        have R7 := Lib.hid (told_kept RK.out ht7 OK.out)
        have O7 := Lib.hid (OK.out.next hx7 AK.out)
        have S7 := Lib.hid (show ∀ ad, Av = some ad → ad.block < w7.heap.size from fun ad h => Nat.lt_of_lt_of_le (AK.out ad h) ht7.size)
        have HOK := Lib.hid LK.out.ok
        clear hl7 ht7 hx7
        go_wp2_with (refine wpList_load_cells rfl 33 (.tmp 119) rfl ⟨b, off + k * 4, none⟩ rfl (wv q) _ (HC.out w7 B7.out) Try.underlying33 rfl info_wait4 ?_)
        refine (show Calls _ _ #[_, _, .agg (wc q)] _ _ from (refPush_any Av nv cv _ 64 q U D _ HOK.out R7.out (Nat.le_refl _) hcv).mono ?_)
        rintro e w8 ⟨A8, n8, c8, rfl, hbk8⟩
        have L8 := Lib.hid (L7.out.step hbk8.bel)
        have B8 := Lib.hid (stepB B7.out hbk8.bel)
        have R8 := Lib.hid hbk8.reads
        have C8 := Lib.hid hbk8.cap
        have O8 := Lib.hid (L7.out.back_off O7.out hbk8)
        have S8 := Lib.hid (hbk8.in_heap S7.out)
        generalize pushC 64 q U D = cd
        generalize putU 64 q U D = U8 at L8 R8
        generalize putD 64 q U D = D8 at L8 R8
        clear hbk8
        go_wp2_with fail
        go_roundw
        case rel => exact ⟨k + 1, U8, D8, r0', r1', A8, n8, c8, by omega, rfl, by go_num, L8.out, R8.out, C8.out, O8.out, S8.out, B8.out⟩
        case measure => simp [RowKit.intOf]; omega
      · have d3 : decide ((k : Int) < (n : Int)) = false := decide_eq_false (by omega)
        clear HR
        go_wp2_with fail
        refine (allLine_any _ LK.out).mono ?_
        rintro e w7 ⟨A7, rfl, hT7, hb7⟩
        have L7 := Lib.hid (LK.out.step hb7)
        obtain ⟨b7, hw7⟩ := hT7.rowy
        have W7 := Lib.hid hw7
        have B7 := Lib.hid hb7
        have hs7 := hT7.new
        have Z7 := Lib.hid (show 0 < U.length + D.length → b7 < w7.heap.size from fun h0 => by
          obtain ⟨h1, cs, h2, _⟩ := hw7.2 h0
          exact h2.lt)
        clear hT7 hb7 hw7 hs7
        go_wp2_with fail
        refine (ahead_any tx _ L7.out).mono ?_
        rintro e w8 ⟨A8, n8, rfl, hn8, hT8, hb8⟩
        obtain ⟨b8, hw8⟩ := hT8.rowy
        have W8 := Lib.hid (show Rowy w8 W.heap.size A8 n8 b8 from ⟨Nat.le_trans B7.out.size hw8.1, hw8.2⟩)
        have V8 := Lib.hid (W7.out.step hb8)
        have B8 := Lib.hid (stepB B7.out hb8)
        have hn8' : n8 ≤ 64 := by
          have : (ahL tx U D).length ≤ U.length + D.length := by
            unfold ahL
            split
            · rw [List.length_take, List.length_append]; omega
            · simp
          omega
        clear hT8 hb8 hw8 L7 B7 W7 hn8
        have HREST := Lib.hid (show ∀ X, Below W.heap.size W X → Line X z z r0 r1 64 U D ∧ Reads X X.heap.size 4 Av nv (wvs (U ++ D)) ∧ Below w.heap.size w X from fun X hX => ⟨LK.out.step hX, (RK.out.below hX).more hX.size, stepB BK.out hX⟩)
        go_wp2_with fail
        generalize hN : U.length + D.length = N at V8 ⊢
        have hN64 : N ≤ 64 := by omega
        clear hN
        go_loopw [18] (fun i X => ∃ k : Nat, k ≤ N ∧ i = .int .i64 k ∧ Below W.heap.size W X ∧ Rowy X W.heap.size A7 N b7 ∧ Rowy X W.heap.size A8 n8 b8) (fun i _ => N - (RowKit.intOf i).toNat)
        case atStart => exact ⟨0, Nat.zero_le _, rfl, B8.out, V8.out, W8.out⟩
        case round =>
          obtain ⟨k, hk, rfl, hbx, hx7, hx8⟩ := hrel
          rename World => X
          have BX := Lib.hid hbx
          have X7 := Lib.hid hx7
          have X8 := Lib.hid hx8
          clear hbx hx7 hx8
          by_cases hlt : k < N
          · have d4 : decide ((k : Int) < (N : Int)) = true := decide_eq_true (by omega)
            obtain ⟨rfl, cs, hcs, hcz⟩ := X7.out.2 (by omega)
            have hth := (show X.there b7 (k * 4) (wc zW).size from X7.out.there hlt)
            obtain ⟨z0, c0⟩ := Option.isSome_iff_exists.1 (hth 0 (by decide)).1
            obtain ⟨z1, c1⟩ := Option.isSome_iff_exists.1 (hth 1 (by decide)).1
            obtain ⟨z2, c2⟩ := Option.isSome_iff_exists.1 (hth 2 (by decide)).1
            obtain ⟨z3, c3⟩ := Option.isSome_iff_exists.1 (hth 3 (by decide)).1
            have f0 : X.frozen? ⟨b7, k * 4, none⟩ = false := (hth 0 (by decide)).2
            have f1 := (hth 1 (by decide)).2
            have f2 := (hth 2 (by decide)).2
            have f3 := (hth 3 (by decide)).2
            rw [Nat.add_zero] at c0
            clear hth
            have Y7 := Lib.hid (X7.out.put b7 (k * 4) (wc zW).toList)
            have Y8 := Lib.hid (X8.out.put b7 (k * 4) (wc zW).toList)
            have BY := Lib.hid (show Below W.heap.size W (X.setCells b7 (k * 4) (wc zW).toList) from Below.setCells X7.out.1 _ _ _ BX.out)
            clear hcs hcz
            go_wp2_with fail
            go_roundw
            case rel => exact ⟨k + 1, by omega, by go_num, BY.out, Y7.out, Y8.out⟩
            case measure => simp [RowKit.intOf]; omega
          · have d4 : decide ((k : Int) < (N : Int)) = false := decide_eq_false (by omega)
            clear X7
            go_wp2_with fail
            go_loopw [19] (fun i X => ∃ k : Nat, k ≤ n8 ∧ i = .int .i64 k ∧ Below W.heap.size W X ∧ Rowy X W.heap.size A8 n8 b8) (fun i _ => n8 - (RowKit.intOf i).toNat)
            case atStart => exact ⟨0, Nat.zero_le _, rfl, BX.out, X8.out⟩
            case round =>
              clear BX X8 d4 hlt
              obtain ⟨k, hk, rfl, hbx, hx8⟩ := hrel
              rename World => X
              have BX := Lib.hid hbx
              have X8 := Lib.hid hx8
              clear hbx hx8
              by_cases hlt : k < n8
              · have d4 : decide ((k : Int) < (n8 : Int)) = true := decide_eq_true (by omega)
                obtain ⟨rfl, cs, hcs, hcz⟩ := X8.out.2 (by omega)
                have hth := (show X.there b8 (k * 4) (wc zW).size from X8.out.there hlt)
                obtain ⟨z0, c0⟩ := Option.isSome_iff_exists.1 (hth 0 (by decide)).1
                obtain ⟨z1, c1⟩ := Option.isSome_iff_exists.1 (hth 1 (by decide)).1
                obtain ⟨z2, c2⟩ := Option.isSome_iff_exists.1 (hth 2 (by decide)).1
                obtain ⟨z3, c3⟩ := Option.isSome_iff_exists.1 (hth 3 (by decide)).1
                have f0 : X.frozen? ⟨b8, k * 4, none⟩ = false := (hth 0 (by decide)).2
                have f1 := (hth 1 (by decide)).2
                have f2 := (hth 2 (by decide)).2
                have f3 := (hth 3 (by decide)).2
                rw [Nat.add_zero] at c0
                clear hth
                have Y8 := Lib.hid (X8.out.put b8 (k * 4) (wc zW).toList)
                have BY := Lib.hid (show Below W.heap.size W (X.setCells b8 (k * 4) (wc zW).toList) from Below.setCells X8.out.1 _ _ _ BX.out)
                clear hcs hcz
                go_wp2_with fail
                go_roundw
                case rel => exact ⟨k + 1, by omega, by go_num, BY.out, Y8.out⟩
                case measure => simp [RowKit.intOf]; omega
              · have d4 : decide ((k : Int) < (n8 : Int)) = false := decide_eq_false (by omega)
                obtain ⟨hlx, hrx, hbx⟩ := HREST.out X BX.out
                have LX := Lib.hid hlx
                have RX := Lib.hid hrx
                have BB := Lib.hid hbx
                clear hlx hrx hbx HREST X8 BX
                have hnv : nv ≤ 1000000 := by have := RX.out.w_len; rw [List.length_append] at this; omega
                go_wp2_with fail
                refine (allLine_any _ LX.out).mono ?_
                rintro e w9 ⟨A9, rfl, hT9, hb9⟩
                have R9 := Lib.hid hT9.reads
                have Q9 := Lib.hid ((RX.out.below hb9).more hb9.size)
                have B9 := Lib.hid (stepB BB.out hb9)
                clear hT9 hb9
                go_wp2_with fail
                refine (same_any _ _ _ _ _ _ _ _ (U ++ D) (U ++ D) _ (by omega) hnv R9.out Q9.out).mono ?_
                rintro e w' ⟨rfl, q9, rfl⟩
                rw [decide_eq_true rfl]
                go_wp2_with fail
                go_ret
                exact ⟨rfl, below_drewN B9.out q9⟩
end Go.Proofs.Ytflnjechinfcdaa
