/- CoordWounds. -/
import Derived.Test.YtadnlannbafjpaaGreatKCoX
import Derived.Test.YtadnlannbafjpaaGreatKCoVk
namespace Go.Proofs.YtadnlannbafjpaaGreat
open Go.RowKit
set_option linter.unusedVariables false
set_option linter.unusedSimpArgs false
set_option maxRecDepth 100000 in
set_option maxHeartbeats 32000000 in
theorem coordWounds_walk (b0 : Bool) (A : Option Addr) (n cp : Nat) (l : List (List Int)) (w : World) (hl : l.length = n) (ha : ∀ x ∈ l, x.length = 33) (hr : Reads w w.heap.size 33 A n (ints l.flatten)) :
    Calls Tryz.prog 5 #[.bool b0, .slice A n cp] w fun e w' => e = .returned (.bool true) ∧ Below w.heap.size w w' := by
  have hen := fun W => run_eql_nil_nil (P := Tryz.prog) W 28 Tryz.underlying28
  have hn0 := fun W => run_neq_nil_nil (P := Tryz.prog) W 28 Tryz.underlying28
  have hvf := fun (a b c d : Value) W => run_view2 a b c d W
  have H := Lib.hid hr
  have HL := Lib.hid hl
  have HA := Lib.hid ha
  clear hr hl ha
  by_cases hn : 100 < n
  · have d0 : decide ((100 : Int) < (n : Int)) = true := by simp; omega
    go_enter Tryz.func5, Tryz.ntmps5
    go_wp2_with (go_at_call 9; refine (coordAlive _).mono ?_; rintro e w0 ⟨rfl, hb0⟩; have B0 := Lib.hid hb0; clear hb0)
    go_ret
    exact ⟨rfl, B0.out⟩
  · have d0 : decide ((100 : Int) < (n : Int)) = false := by simp; omega
    go_enter Tryz.func5, Tryz.ntmps5
    go_upto_region 6 with (first
      | (go_at_call 9; refine (coordAlive _).mono ?_; rintro e w0 ⟨rfl, hb0⟩; have B0 := Lib.hid hb0; clear hb0)
      | (go_at_call 18; refine (cfF_plain b0 _).mono ?_; rintro e V1 ⟨rfl, hb⟩; have B1 := Lib.hid (stepB B0.out hb); clear hb B0)
      | (go_at_call 10; refine (cfF_new 4 b0 _ (by omega) (by omega)).mono ?_; rintro e V2 ⟨g, rfl, P0, hm, ho, hb⟩; have M2 := Lib.hid hm; have O2 := Lib.hid (fun k hk => Nat.le_trans B1.out.size (ho k hk)); have B2 := Lib.hid (stepB B1.out hb); clear hm ho hb B1))
    go_wp2_with fail
    go_loopw [7, 8, 9, 10, 11, 12] (fun i _ _ _ _ _ wr => ∃ (m : Nat) (P : Pt), m ≤ n ∧ i = .int .i64 m ∧ CoM wr g 4 (runC 4 (newCo (cfF b0) 4) l m) P ∧ (∀ k, P.own g k → w.heap.size ≤ k) ∧ Below w.heap.size w wr) (fun i _ _ _ _ _ _ => n - (RowKit.intOf i).toNat)
    case atStart => exact ⟨0, P0, Nat.zero_le _, rfl, M2.out, O2.out, B2.out⟩
    case round =>
      clear M2 O2 B2
      rename World => X
      obtain ⟨m, P, hm, rfl, hM, hO, hB⟩ := hrel
      have OX := Lib.hid hO
      have BX := Lib.hid hB
      by_cases hmn : m < n
      · have d3 : decide ((m : Int) < (n : Int)) = true := by simp; omega
        obtain ⟨ab, aoff, rfl, hab, ha33, hac⟩ := H.out.at33 HA.out HL.out hmn
        have HCK := Lib.hid (show ∀ Y, Below w.heap.size w Y → ∀ j v, (ints (l.getD m []))[j]? = some v → Y.cell? ((⟨ab, aoff + m * 33, none⟩ : Addr).add j) = some v from fun Y hy j v hv => (hy.cell (p := (⟨ab, aoff + m * 33, none⟩ : Addr).add j) (by rw [block_of_add]; exact hab)).trans (hac j v hv))
        have A33 := Lib.hid ha33
        obtain ⟨c, hc⟩ : ∃ c, c = runC 4 (newCo (cfF b0) 4) l m := ⟨_, rfl⟩
        have CA := Lib.hid (show CoA 4 m c from by rw [hc]; exact CoA.run (CoA.start 4 b0 (by omega)) l m (by omega))
        have CF := Lib.hid (show c.cf.pb = b0 from by rw [hc, run_cf]; rfl)
        have HS := Lib.hid (show runC 4 (newCo (cfF b0) 4) l (m + 1) = (actC 4 c (l.getD m [])).1.1 from by rw [hc]; rfl)
        rw [← hc] at hM
        have MX := Lib.hid hM
        clear hac ha33 hM hO hB hc
        generalize l.getD m [] = a at HCK A33 HS
        have HAI := Lib.hid (act18_info A33.out)
        obtain ⟨z, hz⟩ : ∃ z, z = actC 4 c a := ⟨_, rfl⟩
        have CZ := Lib.hid (show CoA 4 (m + 1) z.1.1 from by rw [hz]; exact CA.out.act (by omega) a)
        have BY := Lib.hid (show By c z.1.1 (AbA c 4 a) from by rw [hz]; exact By.act CA.out (by omega) a)
        have ML := Lib.hid (show c.txs.length ≤ z.1.1.txs.length from by rw [hz]; exact act_more 4 c a)
        have HZ := Lib.hid hz
        rw [← hz] at HS
        obtain ⟨N1, hN1⟩ : ∃ N1, c.txs.length = N1 := ⟨_, rfl⟩
        obtain ⟨N2, hN2⟩ : ∃ N2, z.1.1.txs.length = N2 := ⟨_, rfl⟩
        have HN1 := Lib.hid hN1
        have HN2 := Lib.hid hN2
        have hl1 : N1 ≤ 900 := by have := CA.out.k.len; omega
        have hl2 : N2 ≤ 909 := by have := CZ.out.k.len; omega
        have h12 : N1 ≤ N2 := by have := ML.out; omega
        clear hz hN1 hN2 ML
        go_upto_region 12 with (go_at_call 19; refine (view_N N1 HN1.out _ MX.out (CA.out.k.good (by omega))).mono ?_; rintro e X1 ⟨r1, L1, ve1, rfl, hv, _, hb⟩; have V1 := Lib.hid hv; have M1 := Lib.hid (MX.out.step hb); have B1 := Lib.hid (stepB BX.out hb); have TU := Lib.hid (show ∀ k, P.tur g k → k < X.heap.size from fun k hk => MX.out.lt (.inl hk)); clear hv hb)
        go_upto_region 13 with (first
          | (refine wpList_load_cells rfl 47 (.tmp 42) rfl ⟨ab, aoff + m * 33, none⟩ rfl (ints a) _ (HCK.out _ B1.out) Tryz.underlying47 rfl HAI.out ?_)
          | (go_at_call 14; refine (doAct_any a _ M1.out CA.out (by omega) A33.out z HZ.out).mono ?_; rintro e X2 ⟨u, rfl, _, P2, hs⟩; have V2 := Lib.hid (hs.view TU.out V1.out); have M2 := Lib.hid hs.m; have B2 := Lib.hid (hs.old OX.out B1.out).1; have O2 := Lib.hid (hs.old OX.out B1.out).2; clear hs))
        go_upto_region 14 with (go_at_call 19; refine (view_N N2 HN2.out _ M2.out (CZ.out.k.good (by omega))).mono ?_; rintro e X3 ⟨r2, L2, ve2, rfl, hv, _, hb⟩; have W2 := Lib.hid hv; have W1 := Lib.hid (V2.out.step hb); have M3 := Lib.hid (M2.out.step hb); have B3 := Lib.hid (stepB B2.out hb); clear hv hb)
        go_wp2_with fail
        go_loopw [10, 11, 12] (fun i _ _ wr => ∃ (k : Nat), k ≤ N1 ∧ i = .int .i64 k ∧ Below X3.heap.size X3 wr) (fun i _ _ _ => N1 - (RowKit.intOf i).toNat)
        case atStart => exact ⟨0, Nat.zero_le _, rfl, Below.refl _ _⟩
        case round =>
          rename World => Y
          obtain ⟨k, hk, rfl, hBY⟩ := hrel
          have EY := Lib.hid hBY
          clear hBY
          by_cases hkn : k < N1
          · have d4 : decide ((k : Int) < (N1 : Int)) = true := by simp; omega
            have d5 : (k : Int) < (N1 : Int) := by omega
            have d6 : (k : Int) < (N2 : Int) := by omega
            obtain ⟨x, hx⟩ : ∃ x, c.txs[k]? = some x := ⟨_, List.getElem?_eq_getElem (by rw [HN1.out]; exact hkn)⟩
            obtain ⟨y, hy⟩ : ∃ y, z.1.1.txs[k]? = some y := ⟨_, List.getElem?_eq_getElem (by rw [HN2.out]; omega)⟩
            obtain ⟨sx, hcx⟩ := W1.out.at_ hx
            obtain ⟨sy, hcy⟩ := W2.out.at_ hy
            have KX := Lib.hid hcx
            have KY := Lib.hid hcy
            have AB := Lib.hid (fun h1 h2 => BY.out k x y hx hy h1 h2)
            have HX := Lib.hid hx
            clear hcx hcy hx hy
            have TOK := True.intro
            cases hd : decided x with
            | true =>
              have HD := Lib.hid hd
              clear hd
              go_wp2_with (first
                | (refine wpList_load_cells rfl 62 (.tmp 56) rfl ⟨r1, k * 13, none⟩ rfl (trv (x, sx)) _ (TxR.row (KX.out _ EY.out)) Tryz.underlying62 rfl (trv_info (x, sx)) ?_)
                | (go_at_call 20; refine (decided_b x sx _ true HD.out).mono ?_; rintro e Y1 ⟨rfl, hb⟩; have E1 := Lib.hid (stepB EY.out hb); clear hb))
              go_roundw
              case rel => exact ⟨k + 1, by omega, by go_num, E1.out⟩
              case measure => simp [RowKit.intOf]; omega
            | false =>
              have HD := Lib.hid hd
              clear hd
              by_cases h4 : y.st = 4
              · by_cases h3 : y.rs = 3
                · obtain ⟨hw1, hw2, i0, x0, hi0, hx0, hd0⟩ := (AB.out HD.out h4).1 h3
                  have WP := Lib.hid (show b0 = false from CF.out.symm.trans hw1)
                  have WS := Lib.hid hw2
                  have WE := Lib.hid (show ∃ (i : Nat) (x' : Tr), i < k ∧ c.txs[i]? = some x' ∧ decided x' = false from ⟨i0, x0, hi0, hx0, hd0⟩)
                  clear hw1 hw2 hi0 hx0 hd0
                  have hb0 := WP.out
                  subst hb0
                  have f1 : (y.st != 4) = false := by simp [h4]
                  have f2 : (y.rs != 3) = false := by simp [h3]
                  go_upto_region 20 with (first
                    | (refine wpList_load_cells rfl 62 (.tmp 56) rfl ⟨r1, k * 13, none⟩ rfl (trv (x, sx)) _ (TxR.row (KX.out _ EY.out)) Tryz.underlying62 rfl (trv_info (x, sx)) ?_)
                    | (go_at_call 20; refine (decided_b x sx _ false HD.out).mono ?_; rintro e Y1 ⟨rfl, hb⟩; have E1 := Lib.hid (stepB EY.out hb); have y1 : Y1.cell? ⟨r2, k * 13 + 1, none⟩ = some (.int .i64 y.st) := KY.out _ E1.out 1 _ rfl; have y2 : Y1.cell? ⟨r2, k * 13 + 2, none⟩ = some (.int .i64 y.rs) := KY.out _ E1.out 2 _ rfl; clear hb))
                  clear y1 y2
                  go_loopw [11, 12] (fun el i wr => ∃ (j : Nat) (b : Bool), j ≤ k ∧ i = .int .i64 j ∧ el = .bool b ∧ ((∃ (i : Nat) (x' : Tr), i < j ∧ c.txs[i]? = some x' ∧ decided x' = false) → b = true) ∧ Below X3.heap.size X3 wr) (fun _ i _ => k - (RowKit.intOf i).toNat)
                  case atStart => exact ⟨0, false, Nat.zero_le _, rfl, rfl, fun ⟨i, _, h, _⟩ => absurd h (by omega), E1.out⟩
                  case round =>
                    rename World => Z
                    obtain ⟨j, b, hj, rfl, rfl, hel, hBZ⟩ := hrel
                    have EZ := Lib.hid hBZ
                    have EL := Lib.hid hel
                    clear hBZ hel
                    by_cases hjk : j < k
                    · have d7 : decide ((j : Int) < (k : Int)) = true := by simp; omega
                      have d8 : (j : Int) < (N1 : Int) := by omega
                      obtain ⟨x1, hx1⟩ : ∃ x1, c.txs[j]? = some x1 := ⟨_, List.getElem?_eq_getElem (by rw [HN1.out]; omega)⟩
                      obtain ⟨s1, hc1⟩ := W1.out.at_ hx1
                      have K1 := Lib.hid hc1
                      have HX1 := Lib.hid hx1
                      clear hc1 hx1
                      have EL' := Lib.hid (show (∃ (i : Nat) (x' : Tr), i < j + 1 ∧ c.txs[i]? = some x' ∧ decided x' = false) → b = true ∨ decided x1 = false from fun ⟨i, x', hi, hx', hd'⟩ => by
                        by_cases e : i = j
                        · subst e; rw [HX1.out] at hx'; obtain rfl := Option.some.inj hx'; exact .inr hd'
                        · exact .inl (EL.out ⟨i, x', by omega, hx', hd'⟩))
                      cases b with
                      | true =>
                        go_wp2_with fail
                        go_roundw
                        case rel => exact ⟨j + 1, true, by omega, by go_num, rfl, fun _ => rfl, EZ.out⟩
                        case measure => simp [RowKit.intOf]; omega
                      | false =>
                        obtain ⟨d1, hd1⟩ : ∃ d1, decided x1 = d1 := ⟨_, rfl⟩
                        have HD1 := Lib.hid hd1
                        clear hd1
                        go_wp2_with (first
                          | (refine wpList_load_cells_g (by rfl) 62 (.tmp 84) rfl ⟨r1, j * 13, none⟩ rfl (trv (x1, s1)) _ (TxR.row (K1.out _ EZ.out)) Tryz.underlying62 rfl (trv_info (x1, s1)) ?_)
                          | (go_at_call 20; refine (decided_b x1 s1 _ d1 HD1.out).mono ?_; rintro e Z1 ⟨rfl, hb⟩; have E2 := Lib.hid (stepB EZ.out hb); clear hb))
                        go_roundw
                        case rel => exact ⟨j + 1, !d1, by omega, by go_num, rfl, fun h => by have := (EL'.out h).resolve_left (by decide); rw [HD1.out] at this; rw [this]; rfl, E2.out⟩
                        case measure => simp [RowKit.intOf]; omega
                    · obtain rfl : j = k := by omega
                      have d7 : decide ((j : Int) < (j : Int)) = false := by simp
                      obtain rfl : b = true := EL.out WE.out
                      have x1 : Z.cell? ⟨r1, j * 13 + 1, none⟩ = some (.int .i64 x.st) := KX.out _ EZ.out 1 _ rfl
                      have f3 : (x.st != 1) = false := by simp [WS.out]
                      go_wp2_with fail
                      go_roundw
                      case rel => exact ⟨j + 1, by omega, by go_num, EZ.out⟩
                      case measure => simp [RowKit.intOf]; omega
                · have f1 : (y.st != 4) = false := by simp [h4]
                  have f2 : (y.rs != 3) = true := by simp [h3]
                  go_wp2_with (first
                    | (refine wpList_load_cells rfl 62 (.tmp 56) rfl ⟨r1, k * 13, none⟩ rfl (trv (x, sx)) _ (TxR.row (KX.out _ EY.out)) Tryz.underlying62 rfl (trv_info (x, sx)) ?_)
                    | (go_at_call 20; refine (decided_b x sx _ false HD.out).mono ?_; rintro e Y1 ⟨rfl, hb⟩; have E1 := Lib.hid (stepB EY.out hb); have y1 : Y1.cell? ⟨r2, k * 13 + 1, none⟩ = some (.int .i64 y.st) := KY.out _ E1.out 1 _ rfl; have y2 : Y1.cell? ⟨r2, k * 13 + 2, none⟩ = some (.int .i64 y.rs) := KY.out _ E1.out 2 _ rfl; clear hb))
                  go_roundw
                  case rel => exact ⟨k + 1, by omega, by go_num, E1.out⟩
                  case measure => simp [RowKit.intOf]; omega
              · have f1 : (y.st != 4) = true := by simp [h4]
                go_wp2_with (first
                  | (refine wpList_load_cells rfl 62 (.tmp 56) rfl ⟨r1, k * 13, none⟩ rfl (trv (x, sx)) _ (TxR.row (KX.out _ EY.out)) Tryz.underlying62 rfl (trv_info (x, sx)) ?_)
                  | (go_at_call 20; refine (decided_b x sx _ false HD.out).mono ?_; rintro e Y1 ⟨rfl, hb⟩; have E1 := Lib.hid (stepB EY.out hb); have y1 : Y1.cell? ⟨r2, k * 13 + 1, none⟩ = some (.int .i64 y.st) := KY.out _ E1.out 1 _ rfl; clear hb))
                go_roundw
                case rel => exact ⟨k + 1, by omega, by go_num, E1.out⟩
                case measure => simp [RowKit.intOf]; omega
          · obtain rfl : k = N1 := by omega
            have d4 : decide ((k : Int) < (k : Int)) = false := by simp
            go_wp2_with fail
            go_roundw
            case rel => exact ⟨m + 1, P2, by omega, by go_num, by rw [HS.out]; exact M3.out.step EY.out, O2.out, stepB B3.out EY.out⟩
            case measure => simp [RowKit.intOf]; omega
      · obtain rfl : m = n := by omega
        have d3 : decide ((m : Int) < (m : Int)) = false := by simp
        go_wp2_with fail
        go_ret
        exact ⟨rfl, BX.out⟩
end Go.Proofs.YtadnlannbafjpaaGreat
