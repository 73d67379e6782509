/- CoordCircles. -/
import Derived.Test.YtadnlannbafjpaaGreatKCoX
import Derived.Test.YtadnlannbafjpaaGreatKCoVk
namespace Go.Proofs.YtadnlannbafjpaaGreat
open Go.RowKit
set_option linter.unusedVariables false
set_option linter.unusedSimpArgs false

set_option maxRecDepth 100000 in
set_option maxHeartbeats 32000000 in
theorem coordCircles_walk (b0 : Bool) (A : Option Addr) (n cp : Nat) (l : List (List Int)) (w : World) (hl : l.length = n) (ha : ∀ x ∈ l, x.length = 33) (hr : Reads w w.heap.size 33 A n (ints l.flatten)) :
    Calls Tryz.prog 6 #[.bool b0, .slice A n cp] w fun e w' => e = .returned (.bool true) ∧ Below w.heap.size w w' := by
  have hen := fun W => run_eql_nil_nil (P := Tryz.prog) W 28 Tryz.underlying28
  have hn0 := fun W => run_neq_nil_nil (P := Tryz.prog) W 28 Tryz.underlying28
  have hvf := fun (a b c d : Value) W => run_view2 a b c d W
  have H := Lib.hid hr
  have HL := Lib.hid hl
  have HA := Lib.hid ha
  clear hr hl ha
  by_cases hn : 100 < n
  · have d0 : decide ((100 : Int) < (n : Int)) = true := by simp; omega
    go_enter Tryz.func6, Tryz.ntmps6
    go_wp2_with (go_at_call 9; refine (coordAlive _).mono ?_; rintro e w0 ⟨rfl, hb0⟩; have B0 := Lib.hid hb0; clear hb0)
    go_ret
    exact ⟨rfl, B0.out⟩
  · have d0 : decide ((100 : Int) < (n : Int)) = false := by simp; omega
    go_enter Tryz.func6, Tryz.ntmps6
    go_upto_region 6 with (first
      | (go_at_call 9; refine (coordAlive _).mono ?_; rintro e w0 ⟨rfl, hb0⟩; have B0 := Lib.hid hb0; clear hb0)
      | (go_at_call 18; refine (cfF_plain b0 _).mono ?_; rintro e V1 ⟨rfl, hb⟩; have B1 := Lib.hid (stepB B0.out hb); clear hb B0)
      | (go_at_call 10; refine (cfF_new 4 b0 _ (by omega) (by omega)).mono ?_; rintro e V2 ⟨g, rfl, P0, hm, ho, hb⟩; have M2 := Lib.hid hm; have O2 := Lib.hid (fun k hk => Nat.le_trans B1.out.size (ho k hk)); have B2 := Lib.hid (stepB B1.out hb); clear hm ho hb B1))
    go_wp2_with fail
    go_loopw [7, 8, 9, 10, 11, 12, 13] (fun i _ _ _ _ _ _ wr => ∃ (m : Nat) (P : Pt), m ≤ n ∧ i = .int .i64 m ∧ CoM wr g 4 (runC 4 (newCo (cfF b0) 4) l m) P ∧ (∀ k, P.own g k → w.heap.size ≤ k) ∧ Below w.heap.size w wr) (fun i _ _ _ _ _ _ _ => n - (RowKit.intOf i).toNat)
    case atStart => exact ⟨0, P0, Nat.zero_le _, rfl, M2.out, O2.out, B2.out⟩
    case round =>
      clear M2 O2 B2
      rename World => X
      obtain ⟨m, P, hm, rfl, hM, hO, hB⟩ := hrel
      have OX := Lib.hid hO
      have BX := Lib.hid hB
      by_cases hmn : m < n
      · have d3 : decide ((m : Int) < (n : Int)) = true := by simp; omega
        obtain ⟨ab, aoff, rfl, hab, ha33, hac⟩ := H.out.at33 HA.out HL.out hmn
        have HCK := Lib.hid (show ∀ Y, Below w.heap.size w Y → ∀ j v, (ints (l.getD m []))[j]? = some v → Y.cell? ((⟨ab, aoff + m * 33, none⟩ : Addr).add j) = some v from fun Y hy j v hv => (hy.cell (p := (⟨ab, aoff + m * 33, none⟩ : Addr).add j) (by rw [block_of_add]; exact hab)).trans (hac j v hv))
        have A33 := Lib.hid ha33
        obtain ⟨c, hc⟩ : ∃ c, c = runC 4 (newCo (cfF b0) 4) l m := ⟨_, rfl⟩
        have CA := Lib.hid (show CoA 4 m c from by rw [hc]; exact CoA.run (CoA.start 4 b0 (by omega)) l m (by omega))
        have CF := Lib.hid (show c.cf.pb = b0 from by rw [hc, run_cf]; rfl)
        have HS := Lib.hid (show runC 4 (newCo (cfF b0) 4) l (m + 1) = (actC 4 c (l.getD m [])).1.1 from by rw [hc]; rfl)
        rw [← hc] at hM
        have MX := Lib.hid hM
        clear hac ha33 hM hO hB hc
        generalize l.getD m [] = a at HCK A33 HS
        have HAI := Lib.hid (act18_info A33.out)
        obtain ⟨z, hz⟩ : ∃ z, z = actC 4 c a := ⟨_, rfl⟩
        have CZ := Lib.hid (show CoA 4 (m + 1) z.1.1 from by rw [hz]; exact CA.out.act (by omega) a)
        have BY := Lib.hid (show By c z.1.1 (AbA c 4 a) from by rw [hz]; exact By.act CA.out (by omega) a)
        have ML := Lib.hid (show c.txs.length ≤ z.1.1.txs.length from by rw [hz]; exact act_more 4 c a)
        have HZ := Lib.hid hz
        rw [← hz] at HS
        obtain ⟨N1, hN1⟩ : ∃ N1, c.txs.length = N1 := ⟨_, rfl⟩
        obtain ⟨N2, hN2⟩ : ∃ N2, z.1.1.txs.length = N2 := ⟨_, rfl⟩
        have HN1 := Lib.hid hN1
        have HN2 := Lib.hid hN2
        have hl1 : N1 ≤ 900 := by have := CA.out.k.len; omega
        have hl2 : N2 ≤ 909 := by have := CZ.out.k.len; omega
        have h12 : N1 ≤ N2 := by have := ML.out; omega
        clear hz hN1 hN2 ML
        go_upto_region 12 with (go_at_call 19; refine (view_N N1 HN1.out _ MX.out (CA.out.k.good (by omega))).mono ?_; rintro e X1 ⟨r1, L1, ve1, rfl, hv, _, hb⟩; have V1 := Lib.hid hv; have M1 := Lib.hid (MX.out.step hb); have B1 := Lib.hid (stepB BX.out hb); have TU := Lib.hid (show ∀ k, P.tur g k → k < X.heap.size from fun k hk => MX.out.lt (.inl hk)); clear hv hb)
        go_upto_region 13 with (first
          | (refine wpList_load_cells rfl 47 (.tmp 43) rfl ⟨ab, aoff + m * 33, none⟩ rfl (ints a) _ (HCK.out _ B1.out) Tryz.underlying47 rfl HAI.out ?_)
          | (go_at_call 14; refine (doAct_any a _ M1.out CA.out (by omega) A33.out z HZ.out).mono ?_; rintro e X2 ⟨u, rfl, _, P2, hs⟩; have V2 := Lib.hid (hs.view TU.out V1.out); have M2 := Lib.hid hs.m; have B2 := Lib.hid (hs.old OX.out B1.out).1; have O2 := Lib.hid (hs.old OX.out B1.out).2; clear hs))
        go_upto_region 14 with (go_at_call 19; refine (view_N N2 HN2.out _ M2.out (CZ.out.k.good (by omega))).mono ?_; rintro e X3 ⟨r2, L2, ve2, rfl, hv, _, hb⟩; have W2 := Lib.hid hv; have W1 := Lib.hid (V2.out.step hb); have M3 := Lib.hid (M2.out.step hb); have B3 := Lib.hid (stepB B2.out hb); clear hv hb)
        go_wp2_with fail
        go_loopw [10, 11, 12, 13] (fun i _ _ _ wr => ∃ (k : Nat), k ≤ N1 ∧ i = .int .i64 k ∧ Below X3.heap.size X3 wr) (fun i _ _ _ _ => N1 - (RowKit.intOf i).toNat)
        case atStart => exact ⟨0, Nat.zero_le _, rfl, Below.refl _ _⟩
        case round =>
          rename World => Y
          obtain ⟨k, hk, rfl, hBY⟩ := hrel
          have EY := Lib.hid hBY
          clear hBY
          by_cases hkn : k < N1
          · have d4 : decide ((k : Int) < (N1 : Int)) = true := by simp; omega
            have d5 : (k : Int) < (N1 : Int) := by omega
            have d6 : (k : Int) < (N2 : Int) := by omega
            obtain ⟨x, hx⟩ : ∃ x, c.txs[k]? = some x := ⟨_, List.getElem?_eq_getElem (by rw [HN1.out]; exact hkn)⟩
            obtain ⟨y, hy⟩ : ∃ y, z.1.1.txs[k]? = some y := ⟨_, List.getElem?_eq_getElem (by rw [HN2.out]; omega)⟩
            obtain ⟨sx, hcx⟩ := W1.out.at_ hx
            obtain ⟨sy, hcy⟩ := W2.out.at_ hy
            have KX := Lib.hid hcx
            have KY := Lib.hid hcy
            have AB := Lib.hid (fun h1 h2 => BY.out k x y hx hy h1 h2)
            have HX := Lib.hid hx
            clear hcx hcy hx hy
            have TOK := True.intro
            cases hd : decided x with
            | true =>
              have HD := Lib.hid hd
              clear hd
              go_wp2_with (first
                | (refine wpList_load_cells rfl 62 (.tmp 57) rfl ⟨r1, k * 13, none⟩ rfl (trv (x, sx)) _ (TxR.row (KX.out _ EY.out)) Tryz.underlying62 rfl (trv_info (x, sx)) ?_)
                | (go_at_call 20; refine (decided_b x sx _ true HD.out).mono ?_; rintro e Y1 ⟨rfl, hb⟩; have E1 := Lib.hid (stepB EY.out hb); clear hb))
              go_roundw
              case rel => exact ⟨k + 1, by omega, by go_num, E1.out⟩
              case measure => simp [RowKit.intOf]; omega
            | false =>
              have HD := Lib.hid hd
              clear hd
              by_cases h4 : y.st = 4
              · by_cases h3 : y.rs = 4
                · obtain ⟨hk5, hci⟩ := (AB.out HD.out h4).2 h3
                  have hst := hci.steps CA.out.k
                  have hb1 : b0 = true := CF.out.symm.trans hci.1
                  subst hb1
                  have OPX := Lib.hid (hst.2 x HX.out)
                  have ST := Lib.hid hst.1
                  have NB := Lib.hid (isP_N (live_isP hci.2.1))
                  have K5 := Lib.hid (show (fld a 0 != 5) = false from by simp [hk5])
                  obtain ⟨nn, hnn⟩ : ∃ nn : Nat, fld (a.drop 5) 11 = (nn : Int) := ⟨(fld (a.drop 5) 11).toNat, by have := NB.out; omega⟩
                  have hn8 : nn ≤ 8 := by have := NB.out; omega
                  have HNN := Lib.hid hnn
                  have f1 : (y.st != 4) = false := by simp [h4]
                  have f2 : (y.rs != 4) = false := by simp [h3]
                  have HML := Lib.hid (act_drop A33.out)
                  have HMI := Lib.hid (mc_info HML.out)
                  have HM1 := Lib.hid (ints_oneCell (a.drop 5))
                  clear hk5 hci hst hnn
                  go_upto_region 18 with (first
                    | (refine wpList_load_cells rfl 62 (.tmp 57) rfl ⟨r1, k * 13, none⟩ rfl (trv (x, sx)) _ (TxR.row (KX.out _ EY.out)) Tryz.underlying62 rfl (trv_info (x, sx)) ?_)
                    | (go_at_call 20; refine (decided_b x sx _ false HD.out).mono ?_; rintro e Y1 ⟨rfl, hb⟩; have E1 := Lib.hid (stepB EY.out hb); have y1 : Y1.cell? ⟨r2, k * 13 + 1, none⟩ = some (.int .i64 y.st) := KY.out _ E1.out 1 _ rfl; have y2 : Y1.cell? ⟨r2, k * 13 + 2, none⟩ = some (.int .i64 y.rs) := KY.out _ E1.out 2 _ rfl; clear hb))
                  clear y1 y2
                  have BW := Lib.hid (stepB B3.out E1.out)
                  have AM := Lib.hid (show ∀ j v, (ints (a.drop 5))[j]? = some v → Y1.cell? ((⟨ab, aoff + m * 33 + 5, none⟩ : Addr).add j) = some v from fun j v hv => by
                    have e1 : (ints a)[5 + j]? = some v := by rw [← hv]; simp [ints, List.getElem?_drop]
                    have := HCK.out _ BW.out (5 + j) v e1
                    rw [show (⟨ab, aoff + m * 33 + 5, none⟩ : Addr).add j = (⟨ab, aoff + m * 33, none⟩ : Addr).add (5 + j) by unfold Addr.add; split <;> simp_all <;> omega]
                    exact this)
                  have k0 : Y1.cell? ⟨ab, aoff + m * 33, none⟩ = some (.int .i64 (fld a 0)) := by
                    have h33 := A33.out
                    have := HCK.out _ BW.out 0 _ (show (ints a)[0]? = some (.int .i64 (fld a 0)) from by simp [ints, fld_get (show 0 < a.length by omega)])
                    simpa [Addr.add] using this
                  have K0 := Lib.hid k0
                  clear k0
                  go_upto_region 19 with (first
                    | (refine wpList_load_cells rfl 45 (.tmp 79) rfl ⟨ab, aoff + m * 33 + 5, none⟩ rfl (ints (a.drop 5)) _ AM.out Tryz.underlying45 rfl HMI.out ?_)
                    | (refine wpList_store_mid (by rfl) 45 (.tmp 11) (.tmp 80) (by rfl) Y1.heap.size 0 (mc (a.drop 5)) (by rfl) (by rfl) (mc_there zM_length HML.out (show Blk (Y1.alloc (.cells zMs 45)) Y1.heap.size 45 (mc zM) from Blk.new Y1 _ _)) HMI.out HM1.out ?_
                       have X9 := Lib.hid (mc_put zM_length HML.out (show Blk (Y1.alloc (.cells zMs 45)) Y1.heap.size 45 (mc zM) from Blk.new Y1 _ _))
                       have B9 := Lib.hid (show Below Y1.heap.size Y1 ((Y1.alloc (.cells zMs 45)).setCells Y1.heap.size 0 (mc (a.drop 5)).toList) from Below.setCells (b := Y1.heap.size) (Nat.le_refl _) _ 0 _ (Joins.below_alloc1 Y1 (.cells zMs 45)))
                       generalize (Y1.alloc (.cells zMs 45)).setCells Y1.heap.size 0 (mc (a.drop 5)).toList = Y9 at X9 B9 ⊢
                       generalize Y1.heap.size = bq at X9 ⊢))
                  have E9 := Lib.hid (stepB E1.out (B9.out.mono (Nat.le_refl _)))
                  have k0 : Y9.cell? ⟨ab, aoff + m * 33, none⟩ = some (.int .i64 (fld a 0)) := by
                    have h33 := A33.out
                    have := HCK.out _ (stepB B3.out E9.out) 0 _ (show (ints a)[0]? = some (.int .i64 (fld a 0)) from by simp [ints, fld_get (show 0 < a.length by omega)])
                    simpa [Addr.add] using this
                  have k4 : Y9.cell? ⟨r1, k * 13 + 4, none⟩ = some (.bool true) := by rw [← OPX.out]; exact KX.out _ E9.out 4 _ rfl
                  have f5 := K5.out
                  generalize fld a 0 = a0 at k0 f5
                  go_upto_region 22 with fail
                  clear k0 k4 f5
                  go_loopw [12, 13] (fun i _ wr => ∃ (q : Nat), q ≤ nn ∧ i = .int .i64 q ∧ Blk wr bq 45 (mc (a.drop 5)) ∧ Below X3.heap.size X3 wr) (fun i _ _ => nn - (RowKit.intOf i).toNat)
                  case atStart => exact ⟨0, Nat.zero_le _, rfl, X9.out, E9.out⟩
                  case round =>
                    rename World => Z
                    obtain ⟨q, hq, rfl, hxz, hBZ⟩ := hrel
                    have EZ := Lib.hid hBZ
                    have XZ := Lib.hid hxz
                    clear hBZ hxz
                    have m11 : Z.cell? ⟨bq, 11, none⟩ = some (.int .i64 (nn : Int)) := by rw [← HNN.out]; exact mc_cell HML.out XZ.out (i := 11) (by omega)
                    by_cases hqn : q < nn
                    · have d7 : decide ((q : Int) < (nn : Int)) = true := by simp; omega
                      have d8 : decide ((q : Int) < 8) = true := by simp; omega
                      have d9 : (q : Int) < 8 := by omega
                      obtain ⟨i1, x1, he1, hi1, hx1, hop1, hsq1⟩ := ST.out q (by have := HNN.out; omega)
                      obtain ⟨s1, hc1⟩ := W1.out.at_ hx1
                      have K1 := Lib.hid hc1
                      have HQ0 := Lib.hid (show Z.cell? ⟨bq, 12 + q * 2, none⟩ = some (.int .i64 ((i1 : Int) + 1)) from by rw [← he1]; exact mc_cell HML.out XZ.out (i := 12 + q * 2) (by omega))
                      have HQ1 := Lib.hid (show Z.cell? ⟨bq, 12 + q * 2 + 1, none⟩ = some (.int .i64 x1.sq) from by rw [hsq1]; exact mc_cell HML.out XZ.out (i := 12 + q * 2 + 1) (by omega))
                      have hi1N : i1 < N1 := by have := (List.getElem?_eq_some_iff.1 hx1).1; have := HN1.out; omega
                      have HOP := Lib.hid hop1
                      clear hc1 hx1 he1 hsq1 hop1
                      go_upto_region 25 with (refine wpList_load_cells rfl 42 (.tmp 111) rfl ⟨bq, 12 + q * 2, none⟩ rfl [.int .i64 ((i1 : Int) + 1), .int .i64 x1.sq] _ (cells_2 HQ0.out HQ1.out) Tryz.underlying42 rfl info_step2 ?_)
                      have ZZ := Lib.hid (show Blk (Z.alloc (.cells #[.int .i64 ((i1 : Int) + 1), .int .i64 x1.sq] 42)) Z.heap.size 42 #[.int .i64 ((i1 : Int) + 1), .int .i64 x1.sq] from Blk.new _ _ _)
                      have XA := Lib.hid (XZ.out.alloc (.cells #[.int .i64 ((i1 : Int) + 1), .int .i64 x1.sq] 42))
                      have EA := Lib.hid (stepA EZ.out (.cells #[.int .i64 ((i1 : Int) + 1), .int .i64 x1.sq] 42))
                      clear m11
                      generalize Z.heap.size = bz at ZZ ⊢
                      generalize Z.alloc (.cells #[.int .i64 ((i1 : Int) + 1), .int .i64 x1.sq] 42) = Z1 at ZZ XA EA ⊢
                      have z0 : Z1.cell? ⟨bz, 0, none⟩ = some (.int .i64 ((i1 : Int) + 1)) := ZZ.out.cell 0
                      have z1 : Z1.cell? ⟨bz, 1, none⟩ = some (.int .i64 x1.sq) := ZZ.out.cell 1
                      have w3 : Z1.cell? ⟨r1, i1 * 13 + 3, none⟩ = some (.int .i64 x1.sq) := K1.out _ EA.out 3 _ rfl
                      have w4 : Z1.cell? ⟨r1, i1 * 13 + 4, none⟩ = some (.bool true) := by rw [← HOP.out]; exact K1.out _ EA.out 4 _ rfl
                      have g1 : decide ((N1 : Int) < (i1 : Int) + 1) = false := by simp; omega
                      have g2 : decide ((i1 : Int) + 1 < 1) = false := by simp; omega
                      have g3 : decide ((k : Int) + 1 < (i1 : Int) + 1) = false := by simp; omega
                      have g4 : (i1 : Int) < (N1 : Int) := by omega
                      have wr1 : IntKind.i64.wrap ((i1 : Int) + 1 - 1) = (i1 : Int) := by rw [show (i1 : Int) + 1 - 1 = (i1 : Int) by omega]; exact IntWalk.i64_in _ (by omega)
                      have wr2 : IntKind.i64.wrap ((k : Int) + 1) = (k : Int) + 1 := IntWalk.i64_in _ (by omega)
                      have wr3 : (i1 : Int) + 1 - 1 = (i1 : Int) := by omega
                      generalize x1.sq = sq1 at z1 w3
                      go_quiet (fail)
                      rename_i nq
                      have EQ := Lib.hid (below_drewN EA.out nq)
                      have XQ := Lib.hid (XA.out.drewN nq)
                      clear z0 z1 w3 w4
                      generalize Z1.drewN nq = Z2 at EQ XQ ⊢
                      go_wp2_with fail
                      go_roundw
                      case rel => exact ⟨q + 1, by omega, by go_num, XQ.out, EQ.out⟩
                      case measure => simp [RowKit.intOf]; omega
                    · obtain rfl : q = nn := by omega
                      have d7 : decide ((q : Int) < (q : Int)) = false := by simp
                      go_wp2_with fail
                      go_roundw
                      case rel => exact ⟨k + 1, by omega, by go_num, EZ.out⟩
                      case measure => simp [RowKit.intOf]; omega
                · have f1 : (y.st != 4) = false := by simp [h4]
                  have f2 : (y.rs != 4) = true := by simp [h3]
                  go_wp2_with (first
                    | (refine wpList_load_cells rfl 62 (.tmp 57) rfl ⟨r1, k * 13, none⟩ rfl (trv (x, sx)) _ (TxR.row (KX.out _ EY.out)) Tryz.underlying62 rfl (trv_info (x, sx)) ?_)
                    | (go_at_call 20; refine (decided_b x sx _ false HD.out).mono ?_; rintro e Y1 ⟨rfl, hb⟩; have E1 := Lib.hid (stepB EY.out hb); have y1 : Y1.cell? ⟨r2, k * 13 + 1, none⟩ = some (.int .i64 y.st) := KY.out _ E1.out 1 _ rfl; have y2 : Y1.cell? ⟨r2, k * 13 + 2, none⟩ = some (.int .i64 y.rs) := KY.out _ E1.out 2 _ rfl; clear hb))
                  go_roundw
                  case rel => exact ⟨k + 1, by omega, by go_num, E1.out⟩
                  case measure => simp [RowKit.intOf]; omega
              · have f1 : (y.st != 4) = true := by simp [h4]
                go_wp2_with (first
                  | (refine wpList_load_cells rfl 62 (.tmp 57) rfl ⟨r1, k * 13, none⟩ rfl (trv (x, sx)) _ (TxR.row (KX.out _ EY.out)) Tryz.underlying62 rfl (trv_info (x, sx)) ?_)
                  | (go_at_call 20; refine (decided_b x sx _ false HD.out).mono ?_; rintro e Y1 ⟨rfl, hb⟩; have E1 := Lib.hid (stepB EY.out hb); have y1 : Y1.cell? ⟨r2, k * 13 + 1, none⟩ = some (.int .i64 y.st) := KY.out _ E1.out 1 _ rfl; clear hb))
                go_roundw
                case rel => exact ⟨k + 1, by omega, by go_num, E1.out⟩
                case measure => simp [RowKit.intOf]; omega
          · obtain rfl : k = N1 := by omega
            have d4 : decide ((k : Int) < (k : Int)) = false := by simp
            go_wp2_with fail
            go_roundw
            case rel => exact ⟨m + 1, P2, by omega, by go_num, by rw [HS.out]; exact M3.out.step EY.out, O2.out, stepB B3.out EY.out⟩
            case measure => simp [RowKit.intOf]; omega
      · obtain rfl : m = n := by omega
        have d3 : decide ((m : Int) < (m : Int)) = false := by simp
        go_wp2_with fail
        go_ret
        exact ⟨rfl, BX.out⟩
end Go.Proofs.YtadnlannbafjpaaGreat
