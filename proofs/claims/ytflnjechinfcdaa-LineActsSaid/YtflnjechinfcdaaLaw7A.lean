/- LineActs' walk. -/
import Derived.Test.YtflnjechinfcdaaLaw7N
namespace Go.Proofs.Ytflnjechinfcdaa
open Go.RowKit
set_option linter.unusedVariables false
set_option linter.unusedSimpArgs false

theorem neq_self (p : Wt) (W : World) : (binOp .neq 33 (.agg (wc p)) (.agg (wc p))).run Try.prog W = .ok (.bool false) W := by have := neq_wait p p W; rw [decide_eq_true rfl, Bool.not_true] at this; exact this
theorem eql_self (p : Wt) (W : World) : (binOp .eql 33 (.agg (wc p)) (.agg (wc p))).run Try.prog W = .ok (.bool true) W := by have := eql_wait p p W; rw [decide_eq_true rfl] at this; exact this
theorem fst_nil : fstT [] [] = 0 := rfl
theorem fst_at {U D : List Wt} (h : 0 < (U ++ D).length) : (U ++ D)[0].tx = fstT U D := by
  unfold fstT
  simp [List.getD, List.getElem?_eq_getElem h]
set_option maxRecDepth 100000 in
set_option maxHeartbeats 16000000 in
theorem lineActs_bad (a0 : Int) (A : Option Addr) (n c : Nat) (tx : Int) (w : World) (h : a0 < 1 ∨ 64 < a0) (hn : n ≤ 200) :
    Calls Try.prog 3 #[.int .i64 a0, .slice A n c, .int .i64 tx] w fun e w' => e = .returned (.bool true) ∧ Below w.heap.size w w' := by
  have d1 : decide ((200 : Int) < (n : Int)) = false := decide_eq_false (by omega)
  have d2 : decide (200 < n) = false := decide_eq_false (by omega)
  have H := Lib.hid h
  by_cases h1 : a0 < 1
  · have d3 : decide (a0 < 1) = true := decide_eq_true h1
    clear h h1 hn
    go_enter Try.func3, Try.ntmps3
    go_wp2_with fail
    refine (alive_true _).mono ?_
    rintro e w1 ⟨rfl, hb1⟩
    have B1 := Lib.hid hb1
    clear hb1
    go_wp2_with fail
    refine (newLine_bad a0 H.out _).mono ?_
    rintro e w' ⟨rfl, rfl⟩
    go_wp2_with (go_at_call 9; refine (code_errno 2 (by decide) _).mono ?_; rintro e w' ⟨rfl, rfl⟩)
    go_ret
    exact ⟨rfl, B1.out⟩
  · have d3 : decide (a0 < 1) = false := decide_eq_false h1
    have d4 : decide (64 < a0) = true := decide_eq_true (by omega)
    clear h h1 hn
    go_enter Try.func3, Try.ntmps3
    go_wp2_with fail
    refine (alive_true _).mono ?_
    rintro e w1 ⟨rfl, hb1⟩
    have B1 := Lib.hid hb1
    clear hb1
    go_wp2_with fail
    refine (newLine_bad a0 H.out _).mono ?_
    rintro e w' ⟨rfl, rfl⟩
    go_wp2_with (go_at_call 9; refine (code_errno 2 (by decide) _).mono ?_; rintro e w' ⟨rfl, rfl⟩)
    go_ret
    exact ⟨rfl, B1.out⟩
set_option maxRecDepth 100000 in
set_option maxHeartbeats 16000000 in
theorem lineActs_many (a0 : Int) (A : Option Addr) (n c : Nat) (tx : Int) (w : World) (hn : 200 < n) :
    Calls Try.prog 3 #[.int .i64 a0, .slice A n c, .int .i64 tx] w fun e w' => e = .returned (.bool true) ∧ Below w.heap.size w w' := by
  have d1 : decide ((200 : Int) < (n : Int)) = true := decide_eq_true (by omega)
  have d2 : decide (200 < n) = true := decide_eq_true hn
  go_enter Try.func3, Try.ntmps3
  go_wp2_with fail
  refine (alive_true _).mono ?_
  rintro e w1 ⟨rfl, hb1⟩
  have B1 := Lib.hid hb1
  clear hb1
  go_wp2_with fail
  go_ret
  exact ⟨rfl, B1.out⟩
set_option maxRecDepth 100000 in
set_option maxHeartbeats 32000000 in
theorem lineActs_ok (a0 : Int) (h64 : 1 ≤ a0 ∧ a0 ≤ 64) (A : Option Addr) (n c : Nat) (l : List (Int × Wt)) (tx : Int) (w : World) (hbig : n ≤ 200) (hl : l.length = n) (hr : Reads w w.heap.size 5 A n (avs l)) :
    Calls Try.prog 3 #[.int .i64 a0, .slice A n c, .int .i64 tx] w fun e w' => e = .returned (.bool true) ∧ Below w.heap.size w w' := by
  have HR := Lib.hid hr
  have HN := Lib.hid hl
  have HM := Lib.hid h64
  have hn0 := fun W => run_neq_nil_nil (P := Try.prog) W 26 Try.underlying26
  have hn1 := fun W => run_eql_nil_nil (P := Try.prog) W 26 Try.underlying26
  have d1 : decide ((200 : Int) < (n : Int)) = false := decide_eq_false (by omega)
  have d2 : decide (200 < n) = false := decide_eq_false (by omega)
  have d3 : decide (a0 < 1) = false := decide_eq_false (by omega)
  have d4 : decide (64 < a0) = false := decide_eq_false (by omega)
  clear hr hl h64
  go_enter Try.func3, Try.ntmps3
  go_wp2_with fail
  refine (alive_true _).mono ?_
  rintro e w1 ⟨rfl, hb1⟩
  have B1 := Lib.hid hb1
  clear hb1
  go_wp2_with fail
  refine (newLine_ok a0 HM.out _).mono ?_
  rintro e w2 ⟨rfl, hl6, hb6⟩
  have L6 := Lib.hid hl6
  have B6 := Lib.hid (stepB B1.out hb6)
  have HZ := Lib.hid (show w.heap.size ≤ w1.heap.size from B1.out.size)
  clear hl6 hb6
  generalize w1.heap.size = z at L6 HZ ⊢
  go_wp2_with fail
  clear d1 d2 d3 d4
  go_loopw [9, 10] (fun v i W => ∃ (k : Nat) (U D : List Wt) (r0 r1 : Option Nat) (Av : Option Addr) (nv cv : Nat), k ≤ n ∧ v = .slice Av nv cv ∧ i = .int .i64 k ∧ Line W z z r0 r1 a0 U D ∧ Reads W W.heap.size 4 Av nv (wvs (U ++ D)) ∧ nv ≤ cv ∧ Off z r0 r1 Av ∧ (∀ ad, Av = some ad → ad.block < W.heap.size) ∧ Below w.heap.size w W) (fun _ i _ => n - (RowKit.intOf i).toNat)
  case atStart => exact ⟨0, [], [], none, none, none, 0, 0, Nat.zero_le _, rfl, rfl, L6.out, Reads.none_, Nat.le_refl _, Off.none_ _ _ _, (fun ad h => by cases h), B6.out⟩
  case round =>
    obtain ⟨k, U, D, r0, r1, Av, nv, cv, hk, rfl, rfl, hlk, hrk, hcv, hok, hav, hbk⟩ := hrel
    rename World => W
    have LK := Lib.hid hlk
    have BK := Lib.hid hbk
    have RK := Lib.hid hrk
    have OK := Lib.hid hok
    have AK := Lib.hid hav
    have HOKK := Lib.hid hlk.ok
    have hlen := hlk.ok.len
    have HNV := Lib.hid (show nv = U.length + D.length by have := hrk.w_len; rw [List.length_append] at this; omega)
    clear hlk hbk hrk hok hav
    by_cases hlt : k < n
    · have d3 : decide ((k : Int) < (n : Int)) = true := decide_eq_true (by omega)
      have hkl : k < l.length := by rw [HN.out]; exact hlt
      obtain ⟨b, off, rfl, hbb, hcell⟩ := HR.out.act_at hkl
      have HC := Lib.hid (fun X (hX : Below w.heap.size w X) (j : Nat) (v : Value) hv => ((hX.cell (p := ⟨b, off + k * 5 + j, none⟩) hbb).trans (hcell j v hv)))
      clear hcell
      generalize l[k] = q at HC
      obtain ⟨K, qa, qb, qc, qd⟩ := q
      obtain ⟨V1, hV1⟩ : ∃ V1, V1 = W.alloc (.cells #[.int .i64 K, .int .i64 qa, .int .i64 qb, .int .i64 qc, .bool qd] 35) := ⟨_, rfl⟩
      have hbV : Below W.heap.size W V1 := by rw [hV1]; exact Joins.below_alloc1 W _
      have X1 := Lib.hid (show Blk V1 W.heap.size 35 #[.int .i64 K, .int .i64 qa, .int .i64 qb, .int .i64 qc, .bool qd] by rw [hV1]; exact Blk.new W _ _)
      have L1 := Lib.hid (LK.out.step hbV)
      have BV1 := Lib.hid (stepB BK.out hbV)
      have R1 := Lib.hid ((RK.out.below hbV).more hbV.size)
      have HLT1 := Lib.hid LK.out.ls_lt
      have HWV := Lib.hid hbV.size
      go_upto_region 15 with (refine wpList_load_cells rfl 35 (.tmp 57) rfl ⟨b, off + k * 5, none⟩ rfl [.int .i64 K, .int .i64 qa, .int .i64 qb, .int .i64 qc, .bool qd] _ (act_list (HC.out W BK.out)) Try.underlying35 rfl info_act ?_)
      rw [← hV1]
      clear hV1 hbV
      go_wp2_with (refine wpList_load_row (by rfl) 35 (.tmp 11) rfl W.heap.size rfl 35 #[.int .i64 K, .int .i64 qa, .int .i64 qb, .int .i64 qc, .bool qd] (0, 0) _ X1.out Try.underlying35 rfl info_act ?_)
      refine (act_any K ⟨qa, qb, qc, qd⟩ _ L1.out).mono ?_
      rintro e w4 ⟨rfl, r0', r1', hl4, ht4, hx4⟩
      have X4 := Lib.hid (X1.out.turn ht4 (fun hs => by have := (HLT1.out _ hs).2; omega))
      have R4 := Lib.hid (told_kept R1.out ht4 OK.out)
      have BV4 := Lib.hid (BV1.out.trans ((L1.out.below_of ht4).mono HZ.out))
      have hln : LNext W r0 r1 r0' r1' := fun x hx => by
        rcases hx4 x hx with h1 | h1
        · exact .inl h1
        · exact .inr (Nat.le_trans HWV.out h1)
      have OV := Lib.hid (OK.out.next hln AK.out)
      have SV4 := Lib.hid (show ∀ ad, Av = some ad → ad.block < w4.heap.size from fun ad h => Nat.lt_of_lt_of_le (AK.out ad h) (by have := X1.out.lt; have := ht4.size; omega))
      have HLS := Lib.hid (show ∀ x, LS z r0' r1' x → x < w4.heap.size from fun x hx => (hl4.ls_lt x hx).2)
      have HEQ0 := Lib.hid (show actW K ⟨qa, qb, qc, qd⟩ U D = actW K ⟨qa, qb, qc, qd⟩ U D ∧ actC a0 K ⟨qa, qb, qc, qd⟩ U D = actC a0 K ⟨qa, qb, qc, qd⟩ U D ∧ actU a0 K ⟨qa, qb, qc, qd⟩ U D = actU a0 K ⟨qa, qb, qc, qd⟩ U D ∧ actD a0 K ⟨qa, qb, qc, qd⟩ U D = actD a0 K ⟨qa, qb, qc, qd⟩ U D from ⟨rfl, rfl, rfl, rfl⟩)
      generalize hg1 : actW K ⟨qa, qb, qc, qd⟩ U D = p
      generalize hg2 : actC a0 K ⟨qa, qb, qc, qd⟩ U D = cd
      generalize hg3 : actU a0 K ⟨qa, qb, qc, qd⟩ U D = U' at hl4
      generalize hg4 : actD a0 K ⟨qa, qb, qc, qd⟩ U D = D' at hl4
      have HG := Lib.hid (And.intro hg1 (And.intro hg2 (And.intro hg3 hg4)))
      have L4 := Lib.hid hl4
      clear hln HEQ0 hg1 hg2 hg3 hg4 hl4 ht4 hx4 L1 R1 BV1 X1 LK RK AK OK
      obtain ⟨pa, pb, pc, pd⟩ := p
      rw [show wc ⟨pa, pb, pc, pd⟩ = #[.int .i64 pa, .int .i64 pb, .int .i64 pc, .bool pd] from rfl]
      obtain ⟨V, hV⟩ : ∃ V, V = (w4.alloc (.cells #[.int .i64 pa, .int .i64 pb, .int .i64 pc, .bool pd] 33)).alloc (.cells #[.int .i64 0, .int .i64 0, .int .i64 0, .bool false] 33) := ⟨_, rfl⟩
      have hbV : Below w4.heap.size w4 V := by rw [hV]; exact Joins.below_alloc2 w4 _ _
      have X12 := Lib.hid (show Blk V w4.heap.size 33 (wc ⟨pa, pb, pc, pd⟩) by rw [hV]; exact (Blk.new w4 _ _).alloc _)
      have X14 := Lib.hid (show Blk V (w4.heap.size + 1) 33 (wc zW) by rw [hV]; exact Blk.new_at (by simp) _ _)
      have X11 := Lib.hid (X4.out.here hbV)
      have LV := Lib.hid (L4.out.step hbV)
      have BV := Lib.hid (stepB BV4.out hbV)
      have RV := Lib.hid ((R4.out.below hbV).more hbV.size)
      have HB12 := Lib.hid (show w.heap.size ≤ w4.heap.size from BV4.out.size)
      go_upto_region 17 with fail
      rw [← hV]
      clear hV hbV L4 BV4 R4 X4
      generalize (⟨pa, pb, pc, pd⟩ : Wt) = p at X12 HG
      generalize hb12 : w4.heap.size = b12 at X12 X14 SV4 HLS HB12 ⊢
      generalize hb14 : b12 + 1 = b14 at X14 ⊢
      have HBB := Lib.hid (show b14 = b12 + 1 from hb14.symm)
      clear hb12 hb14
      have SV := Lib.hid SV4.out
      generalize hb11 : W.heap.size = b11 at X11 ⊢
      clear hb11 SV4
      have c0 : V.cell? ⟨b11, 0, none⟩ = some (.int .i64 K) := X11.out.cell 0
      have c1 : V.cell? ⟨b11, 1, none⟩ = some (.int .i64 qa) := X11.out.cell 1
      by_cases k0 : K = 0
      · subst k0
        have HEQ := Lib.hid (show zW = p ∧ pushC a0 ⟨qa, qb, qc, qd⟩ U D = cd ∧ putU a0 ⟨qa, qb, qc, qd⟩ U D = U' ∧ putD a0 ⟨qa, qb, qc, qd⟩ U D = D' from HG.out)
        go_wp2_with (refine wpList_load_cells rfl 33 (.tmp 72) rfl ⟨b11, 1, none⟩ rfl [.int .i64 qa, .int .i64 qb, .int .i64 qc, .bool qd] _ (four_cells (q := ⟨qa, qb, qc, qd⟩) (X11.out.cell 1) (X11.out.cell 2) (X11.out.cell 3) (X11.out.cell 4)) Try.underlying33 rfl info_wait4 ?_)
        refine (refPush_any Av nv cv _ a0 ⟨qa, qb, qc, qd⟩ U D _ HOKK.out RV.out (Nat.le_refl _) hcv).mono ?_
        rintro e w8 ⟨Av', nv', cv', rfl, hbk8⟩
        rw [HEQ.out.2.1]
        rw [HEQ.out.2.2.1, HEQ.out.2.2.2] at hbk8
        have CE := Lib.hid hbk8.cap
        have OE := Lib.hid (LV.out.back_off OV.out hbk8)
        have LE := Lib.hid (LV.out.step hbk8.bel)
        have BE := Lib.hid (stepB BV.out hbk8.bel)
        have RE := Lib.hid hbk8.reads
        have SE := Lib.hid (hbk8.in_heap (fun ad h => Nat.lt_trans (SV.out ad h) X12.out.lt))
        have Y12 := Lib.hid (X12.out.here hbk8.bel)
        have Y14 := Lib.hid (show Blk w8 b14 33 (wc p) by rw [← HEQ.out.1]; exact X14.out.here hbk8.bel)
        clear hbk8 BV LV RV OV SV X12 X14 X11 c0 c1
        have X12 := Lib.hid Y12.out
        have X14 := Lib.hid Y14.out
        clear Y12 Y14
        have he : ∀ W, (binOp .neq 33 (.agg (wc p)) (.agg (wc p))).run Try.prog W = .ok (.bool false) W := neq_self p
        have enn : (cd != cd) = false := by simp
        have hnv' : nv' ≤ 1000000 := by have := RE.out.w_len; rw [List.length_append] at this; have := LE.out.ok.len; omega
        have hlE := LE.out.ok.len
        go_wp2_with (first
          | (refine wpList_load_row (by rfl) 33 (.tmp 12) rfl b12 rfl 33 (wc p) (0, 0) _ X12.out Try.underlying33 rfl (wc_info _) ?_)
          | (refine wpList_load_row (by rfl) 33 (.tmp 14) rfl b14 rfl 33 (wc p) (0, 0) _ X14.out Try.underlying33 rfl (wc_info _) ?_))
        clear he
        refine (allLine_any _ LE.out).mono ?_
        rintro e w9 ⟨A9, rfl, hT9, hb9⟩
        have R9 := Lib.hid hT9.reads
        have Q9 := Lib.hid ((RE.out.below hb9).more hb9.size)
        have L9 := Lib.hid (LE.out.step hb9)
        have B9 := Lib.hid (stepB BE.out hb9)
        have S9 := Lib.hid (show ∀ ad, Av' = some ad → ad.block < w9.heap.size from fun ad h => Nat.lt_of_lt_of_le (SE.out ad h) hb9.size)
        clear hT9 hb9
        go_wp2_with fail
        refine (same_any _ _ _ _ _ _ _ _ (U' ++ D') (U' ++ D') _ (by omega) hnv' R9.out Q9.out).mono ?_
        rintro e w' ⟨rfl, q9, rfl⟩
        rw [decide_eq_true rfl]
        have L10 := Lib.hid (L9.out.step (w' := w9.drewN q9) (below_drewN (Below.refl _ _) _))
        have B10 := Lib.hid (below_drewN B9.out q9)
        have R10 := Lib.hid (Q9.out.drewN q9)
        have S10 := Lib.hid (show ∀ ad, Av' = some ad → ad.block < (w9.drewN q9).heap.size from S9.out)
        rw [show w9.heap.size = (w9.drewN q9).heap.size from rfl] at R10
        generalize w9.drewN q9 = w10 at L10 B10 R10 S10 ⊢
        go_wp2_with fail
        go_roundw
        case rel => exact ⟨k + 1, U', D', r0', r1', Av', nv', cv', by omega, rfl, by go_num, L10.out, R10.out, CE.out, OE.out, S10.out, B10.out⟩
        case measure => simp [RowKit.intOf]; omega
      · have e68 : (K == 0) = false := by simpa using k0
        by_cases k1 : K = 1
        · subst k1
          have HEQ := Lib.hid (show levW (fstT U D) U D = p ∧ levC (fstT U D) U D = cd ∧ levU (fstT U D) U = U' ∧ levD (fstT U D) U D = D' from HG.out)
          clear k0
          rcases Nat.eq_zero_or_pos nv with h0 | h0
          · have HF := Lib.hid (show fstT U D = 0 by
              have h1 : U = [] := List.eq_nil_of_length_eq_zero (by have := HNV.out; omega)
              have h2 : D = [] := List.eq_nil_of_length_eq_zero (by have := HNV.out; omega)
              rw [h1, h2]; rfl)
            have d93 : decide (0 < (nv : Int)) = false := decide_eq_false (by omega)
            have d94 : decide (0 < nv) = false := decide_eq_false (by omega)
            clear h0
            rw [HF.out] at HEQ
            go_wp2_with fail
            refine (refLeave_any Av nv cv _ a0 (0) U D _ HOKK.out RV.out (Nat.le_refl _) hcv).mono ?_
            rintro e w8 ⟨Av', nv', cv', rfl, hbk8⟩
            rw [HEQ.out.1, HEQ.out.2.1]
            rw [HEQ.out.2.2.1, HEQ.out.2.2.2] at hbk8
            have CE := Lib.hid hbk8.cap
            have OE := Lib.hid (LV.out.back_off OV.out hbk8)
            have X12x := Lib.hid (X12.out.here hbk8.bel)
            have X14x := Lib.hid (X14.out.here hbk8.bel)
            have A14 := Lib.hid (show ∀ ad, Av' = some ad → ad.block ≠ b14 from fun ad he e => by
              rcases hbk8.kin with h1 | h1
              · have := SV.out ad (h1 ▸ he); have := HBB.out; omega
              · have := (h1 ad he).1; have := X14.out.lt; omega)
            have BE := Lib.hid (show Below w.heap.size w (w8.setCells b14 0 (wc p).toList) from Below.setCells (by have := HBB.out; have := HB12.out; omega) _ _ _ (stepB BV.out hbk8.bel))
            have hts : Turn (fun x => x = b14) w8 (w8.setCells b14 0 (wc p).toList) := Turn.setCells (S := fun x => x = b14) (fun _ => rfl) _ _ _ (Turn.refl _ _)
            have LE := Lib.hid ((LV.out.step hbk8.bel).turn hts (fun x hx e => by have := HLS.out x hx; have := HBB.out; omega))
            have RE := Lib.hid ((hbk8.reads.turn hts (Nat.le_refl _) A14.out).more hts.size)
            have SE := Lib.hid (show ∀ ad, Av' = some ad → ad.block < (w8.setCells b14 0 (wc p).toList).heap.size from fun ad he => Nat.lt_of_lt_of_le (hbk8.in_heap (fun ad h => Nat.lt_trans (SV.out ad h) X12.out.lt) ad he) hts.size)
            have X12z := Lib.hid (X12x.out.farCells (b := b14) (by have := HBB.out; omega) (wc p).toList 0)
            have X14z := Lib.hid (wc_put (p := zW) p X14x.out)
            clear hbk8 hts BV LV RV OV SV X12 X14 X11 c0 c1
            go_upto_region 26 with (refine wpList_store_mid (by rfl) 33 (.tmp 14) (.tmp 103) (by rfl) b14 0 (wc p) (by rfl) (by rfl) (wc_there (p := zW) p X14x.out) (wc_info _) (wc_one _) ?_)
            clear X12x X14x
            generalize w8.setCells b14 0 (wc p).toList = wE at BE LE RE SE X12z X14z ⊢
            have X12 := Lib.hid X12z.out
            have X14 := Lib.hid X14z.out
            clear X12z X14z
            have he : ∀ W, (binOp .neq 33 (.agg (wc p)) (.agg (wc p))).run Try.prog W = .ok (.bool false) W := neq_self p
            have enn : (cd != cd) = false := by simp
            have hnv' : nv' ≤ 1000000 := by have := RE.out.w_len; rw [List.length_append] at this; have := LE.out.ok.len; omega
            have hlE := LE.out.ok.len
            go_wp2_with (first
              | (refine wpList_load_row (by rfl) 33 (.tmp 12) rfl b12 rfl 33 (wc p) (0, 0) _ X12.out Try.underlying33 rfl (wc_info _) ?_)
              | (refine wpList_load_row (by rfl) 33 (.tmp 14) rfl b14 rfl 33 (wc p) (0, 0) _ X14.out Try.underlying33 rfl (wc_info _) ?_))
            clear he
            refine (allLine_any _ LE.out).mono ?_
            rintro e w9 ⟨A9, rfl, hT9, hb9⟩
            have R9 := Lib.hid hT9.reads
            have Q9 := Lib.hid ((RE.out.below hb9).more hb9.size)
            have L9 := Lib.hid (LE.out.step hb9)
            have B9 := Lib.hid (stepB BE.out hb9)
            have S9 := Lib.hid (show ∀ ad, Av' = some ad → ad.block < w9.heap.size from fun ad h => Nat.lt_of_lt_of_le (SE.out ad h) hb9.size)
            clear hT9 hb9
            go_wp2_with fail
            refine (same_any _ _ _ _ _ _ _ _ (U' ++ D') (U' ++ D') _ (by omega) hnv' R9.out Q9.out).mono ?_
            rintro e w' ⟨rfl, q9, rfl⟩
            rw [decide_eq_true rfl]
            have L10 := Lib.hid (L9.out.step (w' := w9.drewN q9) (below_drewN (Below.refl _ _) _))
            have B10 := Lib.hid (below_drewN B9.out q9)
            have R10 := Lib.hid (Q9.out.drewN q9)
            have S10 := Lib.hid (show ∀ ad, Av' = some ad → ad.block < (w9.drewN q9).heap.size from S9.out)
            rw [show w9.heap.size = (w9.drewN q9).heap.size from rfl] at R10
            generalize w9.drewN q9 = w10 at L10 B10 R10 S10 ⊢
            go_wp2_with fail
            go_roundw
            case rel => exact ⟨k + 1, U', D', r0', r1', Av', nv', cv', by omega, rfl, by go_num, L10.out, R10.out, CE.out, OE.out, S10.out, B10.out⟩
            case measure => simp [RowKit.intOf]; omega
          · have d93 : decide (0 < (nv : Int)) = true := decide_eq_true (by omega)
            have d94 : decide (0 < nv) = true := decide_eq_true h0
            have hl0 : 0 < (U ++ D).length := by rw [List.length_append]; have := HNV.out; omega
            obtain ⟨vb, voff, hAv, _, hv0, _⟩ := RV.out.w_at hl0
            rw [fst_at hl0, Nat.zero_mul, Nat.add_zero] at hv0
            generalize fstT U D = who at hv0 HEQ
            subst hAv
            go_wp2_with fail
            refine (refLeave_any (some ⟨vb, voff, none⟩) nv cv _ a0 (who) U D _ HOKK.out RV.out (Nat.le_refl _) hcv).mono ?_
            rintro e w8 ⟨Av', nv', cv', rfl, hbk8⟩
            rw [HEQ.out.1, HEQ.out.2.1]
            rw [HEQ.out.2.2.1, HEQ.out.2.2.2] at hbk8
            have CE := Lib.hid hbk8.cap
            have OE := Lib.hid (LV.out.back_off OV.out hbk8)
            have X12x := Lib.hid (X12.out.here hbk8.bel)
            have X14x := Lib.hid (X14.out.here hbk8.bel)
            have A14 := Lib.hid (show ∀ ad, Av' = some ad → ad.block ≠ b14 from fun ad he e => by
              rcases hbk8.kin with h1 | h1
              · have := SV.out ad (h1 ▸ he); have := HBB.out; omega
              · have := (h1 ad he).1; have := X14.out.lt; omega)
            have BE := Lib.hid (show Below w.heap.size w (w8.setCells b14 0 (wc p).toList) from Below.setCells (by have := HBB.out; have := HB12.out; omega) _ _ _ (stepB BV.out hbk8.bel))
            have hts : Turn (fun x => x = b14) w8 (w8.setCells b14 0 (wc p).toList) := Turn.setCells (S := fun x => x = b14) (fun _ => rfl) _ _ _ (Turn.refl _ _)
            have LE := Lib.hid ((LV.out.step hbk8.bel).turn hts (fun x hx e => by have := HLS.out x hx; have := HBB.out; omega))
            have RE := Lib.hid ((hbk8.reads.turn hts (Nat.le_refl _) A14.out).more hts.size)
            have SE := Lib.hid (show ∀ ad, Av' = some ad → ad.block < (w8.setCells b14 0 (wc p).toList).heap.size from fun ad he => Nat.lt_of_lt_of_le (hbk8.in_heap (fun ad h => Nat.lt_trans (SV.out ad h) X12.out.lt) ad he) hts.size)
            have X12z := Lib.hid (X12x.out.farCells (b := b14) (by have := HBB.out; omega) (wc p).toList 0)
            have X14z := Lib.hid (wc_put (p := zW) p X14x.out)
            clear hv0 hbk8 hts BV LV RV OV SV X12 X14 X11 c0 c1
            go_upto_region 26 with (refine wpList_store_mid (by rfl) 33 (.tmp 14) (.tmp 103) (by rfl) b14 0 (wc p) (by rfl) (by rfl) (wc_there (p := zW) p X14x.out) (wc_info _) (wc_one _) ?_)
            clear X12x X14x
            generalize w8.setCells b14 0 (wc p).toList = wE at BE LE RE SE X12z X14z ⊢
            have X12 := Lib.hid X12z.out
            have X14 := Lib.hid X14z.out
            clear X12z X14z
            have he : ∀ W, (binOp .neq 33 (.agg (wc p)) (.agg (wc p))).run Try.prog W = .ok (.bool false) W := neq_self p
            have enn : (cd != cd) = false := by simp
            have hnv' : nv' ≤ 1000000 := by have := RE.out.w_len; rw [List.length_append] at this; have := LE.out.ok.len; omega
            have hlE := LE.out.ok.len
            go_wp2_with (first
              | (refine wpList_load_row (by rfl) 33 (.tmp 12) rfl b12 rfl 33 (wc p) (0, 0) _ X12.out Try.underlying33 rfl (wc_info _) ?_)
              | (refine wpList_load_row (by rfl) 33 (.tmp 14) rfl b14 rfl 33 (wc p) (0, 0) _ X14.out Try.underlying33 rfl (wc_info _) ?_))
            clear he
            refine (allLine_any _ LE.out).mono ?_
            rintro e w9 ⟨A9, rfl, hT9, hb9⟩
            have R9 := Lib.hid hT9.reads
            have Q9 := Lib.hid ((RE.out.below hb9).more hb9.size)
            have L9 := Lib.hid (LE.out.step hb9)
            have B9 := Lib.hid (stepB BE.out hb9)
            have S9 := Lib.hid (show ∀ ad, Av' = some ad → ad.block < w9.heap.size from fun ad h => Nat.lt_of_lt_of_le (SE.out ad h) hb9.size)
            clear hT9 hb9
            go_wp2_with fail
            refine (same_any _ _ _ _ _ _ _ _ (U' ++ D') (U' ++ D') _ (by omega) hnv' R9.out Q9.out).mono ?_
            rintro e w' ⟨rfl, q9, rfl⟩
            rw [decide_eq_true rfl]
            have L10 := Lib.hid (L9.out.step (w' := w9.drewN q9) (below_drewN (Below.refl _ _) _))
            have B10 := Lib.hid (below_drewN B9.out q9)
            have R10 := Lib.hid (Q9.out.drewN q9)
            have S10 := Lib.hid (show ∀ ad, Av' = some ad → ad.block < (w9.drewN q9).heap.size from S9.out)
            rw [show w9.heap.size = (w9.drewN q9).heap.size from rfl] at R10
            generalize w9.drewN q9 = w10 at L10 B10 R10 S10 ⊢
            go_wp2_with fail
            go_roundw
            case rel => exact ⟨k + 1, U', D', r0', r1', Av', nv', cv', by omega, rfl, by go_num, L10.out, R10.out, CE.out, OE.out, S10.out, B10.out⟩
            case measure => simp [RowKit.intOf]; omega
        · have e79 : (K == 1) = false := by simpa using k1
          by_cases k2 : K = 2
          · subst k2
            have HEQ := Lib.hid (show levW qa U D = p ∧ levC qa U D = cd ∧ levU qa U = U' ∧ levD qa U D = D' from HG.out)
            clear k0 k1
            go_wp2_with fail
            refine (refLeave_any Av nv cv _ a0 (qa) U D _ HOKK.out RV.out (Nat.le_refl _) hcv).mono ?_
            rintro e w8 ⟨Av', nv', cv', rfl, hbk8⟩
            rw [HEQ.out.1, HEQ.out.2.1]
            rw [HEQ.out.2.2.1, HEQ.out.2.2.2] at hbk8
            have CE := Lib.hid hbk8.cap
            have OE := Lib.hid (LV.out.back_off OV.out hbk8)
            have X12x := Lib.hid (X12.out.here hbk8.bel)
            have X14x := Lib.hid (X14.out.here hbk8.bel)
            have A14 := Lib.hid (show ∀ ad, Av' = some ad → ad.block ≠ b14 from fun ad he e => by
              rcases hbk8.kin with h1 | h1
              · have := SV.out ad (h1 ▸ he); have := HBB.out; omega
              · have := (h1 ad he).1; have := X14.out.lt; omega)
            have BE := Lib.hid (show Below w.heap.size w (w8.setCells b14 0 (wc p).toList) from Below.setCells (by have := HBB.out; have := HB12.out; omega) _ _ _ (stepB BV.out hbk8.bel))
            have hts : Turn (fun x => x = b14) w8 (w8.setCells b14 0 (wc p).toList) := Turn.setCells (S := fun x => x = b14) (fun _ => rfl) _ _ _ (Turn.refl _ _)
            have LE := Lib.hid ((LV.out.step hbk8.bel).turn hts (fun x hx e => by have := HLS.out x hx; have := HBB.out; omega))
            have RE := Lib.hid ((hbk8.reads.turn hts (Nat.le_refl _) A14.out).more hts.size)
            have SE := Lib.hid (show ∀ ad, Av' = some ad → ad.block < (w8.setCells b14 0 (wc p).toList).heap.size from fun ad he => Nat.lt_of_lt_of_le (hbk8.in_heap (fun ad h => Nat.lt_trans (SV.out ad h) X12.out.lt) ad he) hts.size)
            have X12z := Lib.hid (X12x.out.farCells (b := b14) (by have := HBB.out; omega) (wc p).toList 0)
            have X14z := Lib.hid (wc_put (p := zW) p X14x.out)
            clear hbk8 hts BV LV RV OV SV X12 X14 X11 c0 c1
            go_upto_region 26 with (refine wpList_store_mid (by rfl) 33 (.tmp 14) (.tmp 103) (by rfl) b14 0 (wc p) (by rfl) (by rfl) (wc_there (p := zW) p X14x.out) (wc_info _) (wc_one _) ?_)
            clear X12x X14x
            generalize w8.setCells b14 0 (wc p).toList = wE at BE LE RE SE X12z X14z ⊢
            have X12 := Lib.hid X12z.out
            have X14 := Lib.hid X14z.out
            clear X12z X14z
            have he : ∀ W, (binOp .neq 33 (.agg (wc p)) (.agg (wc p))).run Try.prog W = .ok (.bool false) W := neq_self p
            have enn : (cd != cd) = false := by simp
            have hnv' : nv' ≤ 1000000 := by have := RE.out.w_len; rw [List.length_append] at this; have := LE.out.ok.len; omega
            have hlE := LE.out.ok.len
            go_wp2_with (first
              | (refine wpList_load_row (by rfl) 33 (.tmp 12) rfl b12 rfl 33 (wc p) (0, 0) _ X12.out Try.underlying33 rfl (wc_info _) ?_)
              | (refine wpList_load_row (by rfl) 33 (.tmp 14) rfl b14 rfl 33 (wc p) (0, 0) _ X14.out Try.underlying33 rfl (wc_info _) ?_))
            clear he
            refine (allLine_any _ LE.out).mono ?_
            rintro e w9 ⟨A9, rfl, hT9, hb9⟩
            have R9 := Lib.hid hT9.reads
            have Q9 := Lib.hid ((RE.out.below hb9).more hb9.size)
            have L9 := Lib.hid (LE.out.step hb9)
            have B9 := Lib.hid (stepB BE.out hb9)
            have S9 := Lib.hid (show ∀ ad, Av' = some ad → ad.block < w9.heap.size from fun ad h => Nat.lt_of_lt_of_le (SE.out ad h) hb9.size)
            clear hT9 hb9
            go_wp2_with fail
            refine (same_any _ _ _ _ _ _ _ _ (U' ++ D') (U' ++ D') _ (by omega) hnv' R9.out Q9.out).mono ?_
            rintro e w' ⟨rfl, q9, rfl⟩
            rw [decide_eq_true rfl]
            have L10 := Lib.hid (L9.out.step (w' := w9.drewN q9) (below_drewN (Below.refl _ _) _))
            have B10 := Lib.hid (below_drewN B9.out q9)
            have R10 := Lib.hid (Q9.out.drewN q9)
            have S10 := Lib.hid (show ∀ ad, Av' = some ad → ad.block < (w9.drewN q9).heap.size from S9.out)
            rw [show w9.heap.size = (w9.drewN q9).heap.size from rfl] at R10
            generalize w9.drewN q9 = w10 at L10 B10 R10 S10 ⊢
            go_wp2_with fail
            go_roundw
            case rel => exact ⟨k + 1, U', D', r0', r1', Av', nv', cv', by omega, rfl, by go_num, L10.out, R10.out, CE.out, OE.out, S10.out, B10.out⟩
            case measure => simp [RowKit.intOf]; omega
          · have e83 : (K == 2) = false := by simpa using k2
            have HEQ := Lib.hid (show zW = p ∧ 0 = cd ∧ U = U' ∧ D = D' from by
              have := HG.out
              unfold actW actC actU actD at this
              rw [if_neg k0, if_neg k1, if_neg k2, if_neg k0, if_neg k1, if_neg k2, if_neg k0, if_neg k1, if_neg k2, if_neg k0, if_neg k1, if_neg k2] at this
              exact this)
            clear k0 k1 k2 HG
            obtain ⟨hp, hcd, hU, hD⟩ := HEQ.out
            clear HEQ
            subst hU hD hcd
            have Y14 := Lib.hid (show Blk V b14 33 (wc p) by rw [← hp]; exact X14.out)
            clear hp X14
            have X14 := Lib.hid Y14.out
            clear Y14
            have LE := Lib.hid LV.out
            have BE := Lib.hid BV.out
            have RE := Lib.hid RV.out
            have OE := Lib.hid OV.out
            have CE := Lib.hid hcv
            have SE := Lib.hid (show ∀ ad, Av = some ad → ad.block < V.heap.size from fun ad h => Nat.lt_trans (SV.out ad h) X12.out.lt)
            clear LV BV RV OV SV hcv
            have he : ∀ W, (binOp .neq 33 (.agg (wc p)) (.agg (wc p))).run Try.prog W = .ok (.bool false) W := neq_self p
            have enn : ((0 : Int) != (0 : Int)) = false := by simp
            have hnv : nv ≤ 1000000 := by have := RE.out.w_len; rw [List.length_append] at this; have := LE.out.ok.len; omega
            have hlE := LE.out.ok.len
            go_wp2_with (first
              | (refine wpList_load_row (by rfl) 33 (.tmp 12) rfl b12 rfl 33 (wc p) (0, 0) _ X12.out Try.underlying33 rfl (wc_info _) ?_)
              | (refine wpList_load_row (by rfl) 33 (.tmp 14) rfl b14 rfl 33 (wc p) (0, 0) _ X14.out Try.underlying33 rfl (wc_info _) ?_))
            clear he
            refine (allLine_any _ LE.out).mono ?_
            rintro e w9 ⟨A9, rfl, hT9, hb9⟩
            have R9 := Lib.hid hT9.reads
            have Q9 := Lib.hid ((RE.out.below hb9).more hb9.size)
            have L9 := Lib.hid (LE.out.step hb9)
            have B9 := Lib.hid (stepB BE.out hb9)
            have S9 := Lib.hid (show ∀ ad, Av = some ad → ad.block < w9.heap.size from fun ad h => Nat.lt_of_lt_of_le (SE.out ad h) hb9.size)
            clear hT9 hb9
            go_wp2_with fail
            refine (same_any _ _ _ _ _ _ _ _ (U ++ D) (U ++ D) _ (by omega) hnv R9.out Q9.out).mono ?_
            rintro e w' ⟨rfl, q9, rfl⟩
            rw [decide_eq_true rfl]
            have L10 := Lib.hid (L9.out.step (w' := w9.drewN q9) (below_drewN (Below.refl _ _) _))
            have B10 := Lib.hid (below_drewN B9.out q9)
            have R10 := Lib.hid (Q9.out.drewN q9)
            have S10 := Lib.hid (show ∀ ad, Av = some ad → ad.block < (w9.drewN q9).heap.size from S9.out)
            rw [show w9.heap.size = (w9.drewN q9).heap.size from rfl] at R10
            generalize w9.drewN q9 = w10 at L10 B10 R10 S10 ⊢
            go_wp2_with fail
            go_roundw
            case rel => exact ⟨k + 1, U, D, r0', r1', Av, nv, cv, by omega, rfl, by go_num, L10.out, R10.out, CE.out, OE.out, S10.out, B10.out⟩
            case measure => simp [RowKit.intOf]; omega
    · have d3 : decide ((k : Int) < (n : Int)) = false := decide_eq_false (by omega)
      have hnv : nv ≤ 1000000 := by have := HNV.out; omega
      clear HR HN OK AK HOKK
      go_wp2_with fail
      refine (refFind_any Av nv cv _ _ tx W hnv RK.out).mono ?_
      rintro e w' ⟨rfl, rfl⟩
      cases hx : idx tx (U ++ D) with
      | none =>
        have HF := Lib.hid (show refF tx (U ++ D) = -1 by unfold refF; rw [hx])
        have HV := Lib.hid (show findV tx U D = .tuple #[.agg #[.int .i64 0, .int .i64 0, .int .i64 0, .bool false], errno 10] by unfold findV; rw [hx]; rfl)
        have HA := Lib.hid (show (ahL tx U D).length = 0 by unfold ahL; rw [hx]; rfl)
        have he : ∀ W, (binOp .eql 33 (.agg (wc zW)) (.agg #[.int .i64 0, .int .i64 0, .int .i64 0, .bool false])).run Try.prog W = .ok (.bool true) W := eql_self zW
        clear hx
        rw [HF.out]
        go_wp2_with fail
        refine (find_any tx _ LK.out).mono ?_
        rintro e w4 ⟨rfl, hb4⟩
        rw [HV.out]
        obtain ⟨V, hV⟩ : ∃ V, V = w4.alloc (.cells #[.int .i64 0, .int .i64 0, .int .i64 0, .bool false] 33) := ⟨_, rfl⟩
        have hbV : Below w4.heap.size w4 V := by rw [hV]; exact Joins.below_alloc1 w4 _
        have X18 := Lib.hid (show Blk V w4.heap.size 33 (wc zW) by rw [hV]; exact Blk.new w4 _ _)
        have LV := Lib.hid ((LK.out.step hb4).step hbV)
        have BV := Lib.hid (stepB (stepB BK.out hb4) hbV)
        clear hb4 hbV
        go_upto_region 31 with fail
        rw [← hV]
        clear hV
        go_wp2_with (first
          | (refine wpList_load_row (by rfl) 33 (.tmp 18) rfl w4.heap.size rfl 33 (wc zW) (0, 0) _ X18.out Try.underlying33 rfl (wc_info _) ?_)
          | (go_at_call 9; refine (code_errno 10 (by decide) _).mono ?_; rintro e w' ⟨rfl, rfl⟩))
        refine (ahead_any tx _ LV.out).mono ?_
        rintro e w8 ⟨A8, n8, rfl, hn8, hT8, hb8⟩
        obtain rfl : n8 = 0 := hn8.trans HA.out
        have B8 := Lib.hid (stepB BV.out hb8)
        clear hT8 hb8 hn8 he
        go_wp2_with fail
        go_ret
        exact ⟨rfl, B8.out⟩
      | some j =>
        have hj := idx_lt hx
        have HF := Lib.hid (show refF tx (U ++ D) = (j : Int) by unfold refF; rw [hx])
        have HV := Lib.hid (show findV tx U D = .tuple #[.agg (wc ((U ++ D)[j]'hj)), .nilIface] by unfold findV; rw [hx]; simp [List.getD, List.getElem?_eq_getElem hj])
        have HA := Lib.hid (show ahL tx U D = (U ++ D).take j by unfold ahL; rw [hx])
        have hjn : j < nv := by have := HNV.out; rw [List.length_append] at hj; omega
        have hjc : j ≤ cv := by omega
        have TK := Lib.hid (RK.out.w_take (Nat.le_of_lt hjn))
        obtain ⟨vb, voff, rfl, hvb, hvc⟩ := RK.out.w_cells hj
        have HVC := Lib.hid (fun X (hb : Below W.heap.size W X) (i : Nat) (v : Value) hv => (congrArg X.cell? (add_lit vb (voff + j * 4) i)).trans ((hb.cell (p := ⟨vb, voff + j * 4 + i, none⟩) hvb).trans (hvc i v hv)))
        clear hx hvc hvb
        generalize (U ++ D)[j] = p at HV HVC
        obtain ⟨pa, pb, pc, pd⟩ := p
        have he : ∀ W, (binOp .eql 33 (.agg (wc ⟨pa, pb, pc, pd⟩)) (.agg (wc ⟨pa, pb, pc, pd⟩))).run Try.prog W = .ok (.bool true) W := eql_self _
        rw [HF.out]
        go_wp2_with fail
        refine (find_any tx _ LK.out).mono ?_
        rintro e w4 ⟨rfl, hb4⟩
        rw [HV.out]
        rw [show wc ⟨pa, pb, pc, pd⟩ = #[.int .i64 pa, .int .i64 pb, .int .i64 pc, .bool pd] from rfl]
        obtain ⟨V, hV⟩ : ∃ V, V = w4.alloc (.cells #[.int .i64 pa, .int .i64 pb, .int .i64 pc, .bool pd] 33) := ⟨_, rfl⟩
        have hbV : Below w4.heap.size w4 V := by rw [hV]; exact Joins.below_alloc1 w4 _
        have X18 := Lib.hid (show Blk V w4.heap.size 33 (wc ⟨pa, pb, pc, pd⟩) by rw [hV]; exact Blk.new w4 _ _)
        have LV := Lib.hid ((LK.out.step hb4).step hbV)
        have BV := Lib.hid (stepB (stepB BK.out hb4) hbV)
        have WV := Lib.hid (stepB hb4 hbV)
        clear hb4 hbV
        go_upto_region 32 with fail
        rw [← hV]
        clear hV
        refine wp_region_held_drew (S := fun w' => Below V.heap.size V w') (by kernel_rfl) (below_drewN (Below.refl _ _) 1) (fun hHeld => ?_)
        refine wpAnyH_take (i := 0) (v := .agg (wc ⟨pa, pb, pc, pd⟩)) rfl (by kernel_rfl) (by kernel_rfl) (by kernel_rfl) (fun _ _ _ h => h) (Or.inl ⟨by rfl, fun w0 hSw => exec_load (x := .tmp 18) rfl (ad := ⟨w4.heap.size, 0, none⟩) rfl (loadW (X18.out.here hSw))⟩) (by assumption) ?_
        try simp only [List.getElem_toArray, List.getElem_cons_succ, List.getElem_cons_zero, Act.put, List.setIfInBounds_toArray, List.set_cons_zero, List.set_cons_succ]
        refine wpAnyH_take (i := 1) (v := ?_) rfl (by kernel_rfl) (by kernel_rfl) (by kernel_rfl) (fun _ _ _ h => h) (Or.inl ⟨by rfl, ?_⟩) (by assumption) ?_
        rotate_left
        · (intro w0 hSw; (try dsimp only at hSw); go_simp; try with_reducible rfl)
        try simp only [List.getElem_toArray, List.getElem_cons_succ, List.getElem_cons_zero, Act.put, List.setIfInBounds_toArray, List.set_cons_zero, List.set_cons_succ]
        refine wpAnyH_take (i := 2) (v := ?_) rfl (by kernel_rfl) (by kernel_rfl) (by kernel_rfl) (fun _ _ _ h => h) (Or.inl ⟨by rfl, ?_⟩) (by assumption) ?_
        rotate_left
        · (intro w0 hSw; (try dsimp only at hSw); go_simp; try with_reducible rfl)
        try simp only [List.getElem_toArray, List.getElem_cons_succ, List.getElem_cons_zero, Act.put, List.setIfInBounds_toArray, List.set_cons_zero, List.set_cons_succ]
        refine wpAnyH_take (i := 3) (v := ?_) rfl (by kernel_rfl) (by kernel_rfl) (by kernel_rfl) (fun _ _ _ h => h) (Or.inl ⟨by rfl, ?_⟩) (by assumption) ?_
        rotate_left
        · (intro w0 hSw; (try dsimp only at hSw); go_simp; try with_reducible rfl)
        try simp only [List.getElem_toArray, List.getElem_cons_succ, List.getElem_cons_zero, Act.put, List.setIfInBounds_toArray, List.set_cons_zero, List.set_cons_succ]
        refine wpAnyH_take (i := 4) (v := .agg (wc ⟨pa, pb, pc, pd⟩)) rfl (by kernel_rfl) (by kernel_rfl) (by kernel_rfl) (fun _ _ _ h => h) (Or.inl ⟨by rfl, fun w0 hSw => exec_load (x := .tmp 149) rfl (ad := ⟨vb, voff + j * 4, none⟩) rfl (run_load_w (HVC.out w0 (stepB WV.out hSw)))⟩) (by assumption) ?_
        try simp only [List.getElem_toArray, List.getElem_cons_succ, List.getElem_cons_zero, Act.put, List.setIfInBounds_toArray, List.set_cons_zero, List.set_cons_succ]
        refine wpAnyH_take (i := 5) (v := ?_) rfl (by kernel_rfl) (by kernel_rfl) (by kernel_rfl) (fun _ _ _ h => h) (Or.inl ⟨by rfl, ?_⟩) (by assumption) ?_
        rotate_left
        · (intro w0 hSw; (try dsimp only at hSw); go_simp; try with_reducible rfl)
        try simp only [List.getElem_toArray, List.getElem_cons_succ, List.getElem_cons_zero, Act.put, List.setIfInBounds_toArray, List.set_cons_zero, List.set_cons_succ]
        refine wpAnyH_take (i := 6) (v := ?_) rfl (by kernel_rfl) (by kernel_rfl) (by kernel_rfl) (fun _ _ _ h => h) (Or.inl ⟨by rfl, ?_⟩) (by assumption) ?_
        rotate_left
        · (intro w0 hSw; (try dsimp only at hSw); go_simp; try with_reducible rfl)
        try simp only [List.getElem_toArray, List.getElem_cons_succ, List.getElem_cons_zero, Act.put, List.setIfInBounds_toArray, List.set_cons_zero, List.set_cons_succ]
        refine wpAnyH_take (i := 7) (v := ?_) rfl (by kernel_rfl) (by kernel_rfl) (by kernel_rfl) (fun _ _ _ h => h) (Or.inl ⟨by rfl, ?_⟩) (by assumption) ?_
        rotate_left
        · (intro w0 hSw; (try dsimp only at hSw); go_simp; try with_reducible rfl)
        try simp only [List.getElem_toArray, List.getElem_cons_succ, List.getElem_cons_zero, Act.put, List.setIfInBounds_toArray, List.set_cons_zero, List.set_cons_succ]
        refine wpAnyH_take (i := 8) (v := ?_) rfl (by kernel_rfl) (by kernel_rfl) (by kernel_rfl) (fun _ _ _ h => h) (Or.inl ⟨by rfl, ?_⟩) (by assumption) ?_
        rotate_left
        · (intro w0 hSw; (try dsimp only at hSw); go_simp; try with_reducible rfl)
        try simp only [List.getElem_toArray, List.getElem_cons_succ, List.getElem_cons_zero, Act.put, List.setIfInBounds_toArray, List.set_cons_zero, List.set_cons_succ]
        refine wpAnyH_take (i := 9) (v := ?_) rfl (by kernel_rfl) (by kernel_rfl) (by kernel_rfl) (fun _ _ _ h => h) (Or.inl ⟨by rfl, ?_⟩) (by assumption) ?_
        rotate_left
        · (intro w0 hSw; (try dsimp only at hSw); go_simp; try with_reducible rfl)
        try simp only [List.getElem_toArray, List.getElem_cons_succ, List.getElem_cons_zero, Act.put, List.setIfInBounds_toArray, List.set_cons_zero, List.set_cons_succ]
        refine wpAnyH_take (i := 10) (v := ?_) rfl (by kernel_rfl) (by kernel_rfl) (by kernel_rfl) (fun _ _ _ h => h) (Or.inl ⟨by rfl, ?_⟩) (by assumption) ?_
        rotate_left
        · (intro w0 hSw; (try dsimp only at hSw); go_simp; try with_reducible rfl)
        try simp only [List.getElem_toArray, List.getElem_cons_succ, List.getElem_cons_zero, Act.put, List.setIfInBounds_toArray, List.set_cons_zero, List.set_cons_succ]
        refine wpAnyH_take (i := 11) (v := ?_) rfl (by kernel_rfl) (by kernel_rfl) (by kernel_rfl) (fun _ _ _ h => h) (Or.inl ⟨by rfl, ?_⟩) (by assumption) ?_
        rotate_left
        · (intro w0 hSw; (try dsimp only at hSw); go_simp; try with_reducible rfl)
        try simp only [List.getElem_toArray, List.getElem_cons_succ, List.getElem_cons_zero, Act.put, List.setIfInBounds_toArray, List.set_cons_zero, List.set_cons_succ]
        refine wpAnyH_take (i := 12) (v := ?_) rfl (by kernel_rfl) (by kernel_rfl) (by kernel_rfl) (fun _ _ _ h => h) (Or.inl ⟨by rfl, ?_⟩) (by assumption) ?_
        rotate_left
        · (intro w0 hSw; (try dsimp only at hSw); go_simp; try with_reducible rfl)
        try simp only [List.getElem_toArray, List.getElem_cons_succ, List.getElem_cons_zero, Act.put, List.setIfInBounds_toArray, List.set_cons_zero, List.set_cons_succ]
        refine wpAnyH_take (i := 14) (v := ?_) rfl (by kernel_rfl) (by kernel_rfl) (by kernel_rfl) (fun _ _ _ h => h) (Or.inl ⟨by rfl, ?_⟩) (by assumption) ?_
        rotate_left
        · (intro w0 hSw; (try dsimp only at hSw); go_simp; try with_reducible rfl)
        try simp only [List.getElem_toArray, List.getElem_cons_succ, List.getElem_cons_zero, Act.put, List.setIfInBounds_toArray, List.set_cons_zero, List.set_cons_succ]
        refine wpAnyH_take (i := 15) (v := ?_) rfl (by kernel_rfl) (by kernel_rfl) (by kernel_rfl) (fun _ _ _ h => h) (Or.inl ⟨by rfl, ?_⟩) (by assumption) ?_
        rotate_left
        · (intro w0 hSw; (try dsimp only at hSw); go_simp; try with_reducible rfl)
        try simp only [List.getElem_toArray, List.getElem_cons_succ, List.getElem_cons_zero, Act.put, List.setIfInBounds_toArray, List.set_cons_zero, List.set_cons_succ]
        refine wpAnyH_take (i := 16) (v := ?_) rfl (by kernel_rfl) (by kernel_rfl) (by kernel_rfl) (fun _ _ _ h => h) (Or.inl ⟨by rfl, ?_⟩) (by assumption) ?_
        rotate_left
        · (intro w0 hSw; (try dsimp only at hSw); go_simp; try with_reducible rfl)
        try simp only [List.getElem_toArray, List.getElem_cons_succ, List.getElem_cons_zero, Act.put, List.setIfInBounds_toArray, List.set_cons_zero, List.set_cons_succ]
        rw [show V.drew = V.drewN 1 from rfl] at hHeld ⊢
        have LW := Lib.hid (LV.out.step hHeld)
        generalize V.drewN 1 = Y at LW hHeld ⊢
        refine wpAnyH_ready (rs := [13]) (by kernel_rfl) (by simp) ?_
        refine AllReadyH.cons rfl (fun K hK => ?_) AllReadyH.nil
        go_simp
        refine (ahead_any tx _ LW.out).mono ?_
        rintro e w8 ⟨A8, n8, rfl, hn8, hT8, hb8⟩
        rw [HA.out] at hT8 hn8
        obtain rfl : n8 = j := hn8.trans (by rw [List.length_take]; omega)
        have K8 := Lib.hid (stepB hHeld hb8)
        have R8 := Lib.hid hT8.reads
        have Q8 := Lib.hid ((TK.out.below (stepB WV.out K8.out)).more (stepB WV.out K8.out).size)
        clear hT8 hb8 hn8 hHeld
        try go_simp
        refine hK.out _ _ K8.out (fun hHeld => ?_)
        clear hK K
        refine wpAnyH_ready (rs := [17]) (by kernel_rfl) (by simp) ?_
        refine AllReadyH.cons rfl (fun K hK => ?_) AllReadyH.nil
        go_simp
        refine (same_any _ _ _ _ _ _ _ _ ((U ++ D).take n8) ((U ++ D).take n8) w8 (by omega) (by omega) R8.out Q8.out).mono ?_
        rintro e w' ⟨rfl, q9, rfl⟩
        rw [decide_eq_true rfl]
        try go_simp
        have K9 := Lib.hid (below_drewN K8.out q9)
        refine hK.out _ _ K9.out (fun hHeld => ?_)
        clear hK K
        refine wpAnyH_take (i := 18) (v := ?_) rfl (by kernel_rfl) (by kernel_rfl) (by kernel_rfl) (fun _ _ _ h => h) (Or.inl ⟨by rfl, ?_⟩) (by assumption) ?_
        rotate_left
        · (intro w0 hSw; (try dsimp only at hSw); go_simp; try with_reducible rfl)
        try simp only [List.getElem_toArray, List.getElem_cons_succ, List.getElem_cons_zero, Act.put, List.setIfInBounds_toArray, List.set_cons_zero, List.set_cons_succ]
        refine wpAnyH_take (i := 19) (v := ?_) rfl (by kernel_rfl) (by kernel_rfl) (by kernel_rfl) (fun _ _ _ h => h) (Or.inl ⟨by rfl, ?_⟩) (by assumption) ?_
        rotate_left
        · (intro w0 hSw; (try dsimp only at hSw); go_simp; try with_reducible rfl)
        try simp only [List.getElem_toArray, List.getElem_cons_succ, List.getElem_cons_zero, Act.put, List.setIfInBounds_toArray, List.set_cons_zero, List.set_cons_succ]
        refine wpAnyH_done (by kernel_rfl) ?_ _
        clear hHeld he
        go_wp2_with fail
        go_ret
        exact ⟨rfl, stepB BV.out K9.out⟩

theorem lineActs_walk (a0 : Int) (A : Option Addr) (n c : Nat) (l : List (Int × Wt)) (tx : Int) (w : World) (hl : l.length = n) (hr : Reads w w.heap.size 5 A n (avs l)) :
    Calls Try.prog 3 #[.int .i64 a0, .slice A n c, .int .i64 tx] w fun e w' => e = .returned (.bool true) ∧ Below w.heap.size w w' := by
  by_cases hn : 200 < n
  · exact lineActs_many a0 A n c tx w hn
  · by_cases h : 1 ≤ a0 ∧ a0 ≤ 64
    · exact lineActs_ok a0 h A n c l tx w (by omega) hl hr
    · exact lineActs_bad a0 A n c tx w (by omega) (by omega)
end Go.Proofs.Ytflnjechinfcdaa
