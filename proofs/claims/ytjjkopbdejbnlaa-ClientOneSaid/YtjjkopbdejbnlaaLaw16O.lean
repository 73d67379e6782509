/- The walk of ClientOne. -/
import Derived.Test.YtjjkopbdejbnlaaCliU
import Derived.Test.YtjjkopbdejbnlaaMapV
namespace Go.Proofs.Ytjjkopbdejbnlaa
open Go.RowKit
set_option linter.unusedVariables false
set_option linter.unusedSimpArgs false

theorem zeroB (W : World) : (zeroValue 4).run Try.prog W = .ok (.bool false) W := by kernel_rfl
/-- Nine cells, of which those below a place say what f says of them. -/
def nine (f : Nat → Value) (z : Value) (j : Nat) : Array Value := ((List.range 9).map fun i => if 1 ≤ i ∧ i < j then f i else z).toArray
theorem nine_get (f : Nat → Value) (z : Value) (j : Nat) {i : Nat} (hi : i < 9) : (nine f z j)[i]? = some (if 1 ≤ i ∧ i < j then f i else z) := by
  unfold nine
  rw [List.getElem?_toArray, List.getElem?_map, List.getElem?_range hi]; rfl
theorem nine_set (f : Nat → Value) (z : Value) {j : Nat} (h1 : 1 ≤ j) (h9 : j < 9) : (nine f z j).setIfInBounds j (f j) = nine f z (j + 1) := by
  apply Array.ext_getElem?
  intro i
  rw [Array.getElem?_setIfInBounds]
  have hs : (nine f z j).size = 9 := by simp [nine]
  have hs' : (nine f z (j + 1)).size = 9 := by simp [nine]
  by_cases hi : i < 9
  · rw [nine_get f z (j + 1) hi]
    by_cases e : j = i
    · subst e
      rw [if_pos rfl, if_pos (by omega), if_pos (by omega)]
    · rw [if_neg e, nine_get f z j hi]
      by_cases h : 1 ≤ i ∧ i < j
      · rw [if_pos h, if_pos (by omega)]
      · rw [if_neg h, if_neg (by omega)]
  · rw [if_neg (by omega), Array.getElem?_eq_none (by omega), Array.getElem?_eq_none (by omega)]
theorem nine_start (f : Nat → Value) (z : Value) : nine f z 1 = #[z, z, z, z, z, z, z, z, z] := by
  unfold nine
  have h : ∀ i : Nat, (if 1 ≤ i ∧ i < 1 then f i else z) = z := fun i => if_neg (by omega)
  simp only [h]; rfl
def deadV (L : List Cl) (i : Nat) : Value := .bool (clAt L (i - 1)).dead
def hadV (L : List Cl) (i : Nat) : Value := .int .i64 (clAt L (i - 1)).tx
/-- Who is dead stays so, and begins none. -/
theorem act_dead (L : List Cl) (K I T N : Int) (i : Nat) (hd : (clAt L i).dead = true) : (clAt (actL L K I T N).1 i).dead = true ∧ ((clAt (actL L K I T N).1 i).tx = (clAt L i).tx ∨ (clAt (actL L K I T N).1 i).tx = 0) := by
  unfold actL
  split
  · unfold beginL
    split; exact ⟨hd, .inl rfl⟩
    split; exact ⟨hd, .inl rfl⟩
    split; exact ⟨hd, .inl rfl⟩
    split; exact ⟨hd, .inl rfl⟩
    split; exact ⟨hd, .inl rfl⟩
    rename_i h1 _ h3 _ _
    have hk : (I - 1).toNat < L.length := by omega
    simp only
    rw [clAt_set hk]
    by_cases e : (I - 1).toNat = i
    · rw [e] at h3; exact absurd hd h3
    · rw [if_neg e]; exact ⟨hd, .inl rfl⟩
  · split
    · unfold endL
      split
      · exact ⟨hd, .inl rfl⟩
      · rename_i h1
        obtain ⟨hk, _, _⟩ := ofL_get h1
        simp only
        rw [clAt_set hk]
        by_cases e : (ofL T L - 1).toNat = i
        · rw [if_pos e, e]; exact ⟨hd, .inr rfl⟩
        · rw [if_neg e]; exact ⟨hd, .inl rfl⟩
    · unfold crashL
      split; exact ⟨hd, .inl rfl⟩
      split; exact ⟨hd, .inl rfl⟩
      split; exact ⟨hd, .inl rfl⟩
      rename_i h1 _ h3
      have hk : (I - 1).toNat < L.length := by omega
      simp only
      rw [clAt_set hk]
      by_cases e : (I - 1).toNat = i
      · rw [e] at h3; exact absurd hd h3
      · rw [if_neg e]; exact ⟨hd, .inl rfl⟩
/-- A client's transaction is its. -/
theorem ofL_own {L : List Cl} (ho : ClOk L) {i : Nat} (hi : i < L.length) (h0 : (clAt L i).tx ≠ 0) : ofL (clAt L i).tx L = i + 1 := by
  have hp := (ho.tx _ (clAt_mem hi)).1
  have hne := ofL_ne (show 0 < (clAt L i).tx by omega) ⟨_, clAt_mem hi, rfl⟩
  obtain ⟨hk, _, hx⟩ := ofL_get hne
  rw [← clAt_get hk] at hx
  have := ho.one _ _ hk hi hx (by rw [hx]; omega)
  have := ofL_nonneg (clAt L i).tx L
  omega
theorem aliveL_at {n : Nat} {L : List Cl} {j : Nat} (h1 : 1 ≤ j) (hn : j ≤ n) : aliveL n L (j : Int) = !(clAt L (j - 1)).dead := by
  unfold aliveL; rw [if_neg (by omega), show ((j : Int) - 1).toNat = j - 1 by omega]
theorem nowL_at {n : Nat} {L : List Cl} {j : Nat} (h1 : 1 ≤ j) (hn : j ≤ n) : nowL n L (j : Int) = (clAt L (j - 1)).tx := by
  unfold nowL; rw [if_neg (by omega), show ((j : Int) - 1).toNat = j - 1 by omega]

set_option maxRecDepth 100000 in
set_option maxHeartbeats 16000000 in
theorem clientOne_walk (A : Option Addr) (n c : Nat) (l : List (List Int)) (w : World) (hl : l.length = n) (ha : ∀ x ∈ l, x.length = 4) (hr : Reads w w.heap.size 4 A n (ints l.flatten)) :
    Calls Try.prog 4 #[.slice A n c] w fun e w' => e = .returned (.bool true) ∧ Below w.heap.size w w' := by
  have hnn := fun W => run_neq_nil_nil (P := Try.prog) W 26 Try.underlying26
  have hn10 := fun W => run_neq_held_nil (P := Try.prog) W 26 56 (.int .i64 10) Try.underlying26
  have hmm := @run_makeMap Try.prog
  have H := Lib.hid hr
  have HL := Lib.hid hl
  have HA := Lib.hid ha
  clear hr hl ha
  by_cases hn : 100 < n
  · have d0 : decide ((100 : Int) < (n : Int)) = true := by simp; omega
    go_enter Try.func4, Try.ntmps4
    go_wp2_with fail
    refine (clientAlive _).mono ?_
    rintro e w0 ⟨rfl, hb0⟩
    go_wp2_with fail
    go_ret
    exact ⟨rfl, hb0⟩
  · have d0 : decide ((100 : Int) < (n : Int)) = false := by simp; omega
    go_enter Try.func4, Try.ntmps4
    go_wp2_with fail
    refine (clientAlive _).mono ?_
    rintro e w0 ⟨rfl, hb0⟩
    have B0 := Lib.hid hb0
    clear hb0
    go_wp2_with (first
      | (go_at_call 16; refine (cNow_nil _ _).mono ?_; rintro e w' ⟨rfl, rfl⟩)
      | (go_at_call 18; refine (cOf_nil _ _).mono ?_; rintro e w' ⟨rfl, rfl⟩)
      | (go_at_call 20; refine (cBegin_nil _ _ _).mono ?_; rintro e w' ⟨rfl, rfl⟩)
      | (go_at_call 21; refine (cEnd_nil _ _).mono ?_; rintro e w' ⟨rfl, rfl⟩)
      | (go_at_call 22; refine (cCrash_nil _ _ _).mono ?_; rintro e w' ⟨rfl, rfl⟩)
      | (go_at_call 17; refine (cAlive_nil _ _).mono ?_; rintro e w' ⟨rfl, rfl⟩)
      | (go_at_call 14; refine (cLost_nil _ _ _).mono ?_; rintro e w' ⟨rfl, rfl⟩)
      | (go_at_call 8; refine (code_errno 1 (by decide) _).mono ?_; rintro e w' ⟨rfl, rfl⟩))
    refine (cNew_ok 8 (by omega) (by omega) _).mono ?_
    rintro e w1 ⟨rfl, hl1, hb1⟩
    have C1 := Lib.hid hl1
    have B1 := Lib.hid (stepB B0.out hb1)
    have hgb : w.heap.size ≤ w0.heap.size := B0.out.size
    clear hl1 hb1
    generalize w0.heap.size = p at C1 hgb ⊢
    go_wp2_with fail
    go_loopw [10] (fun i wr => ∃ (m : Nat) (L : List Cl), m ≤ n ∧ i = .int .i64 m ∧ Cli wr p 8 L ∧ Below w.heap.size w wr) (fun i _ => n - (RowKit.intOf i).toNat)
    case atStart => exact ⟨0, _, Nat.zero_le _, rfl, C1.out, B1.out⟩
    case round =>
      rename World => X
      obtain ⟨m, L, hm, rfl, hc, hbel⟩ := hrel
      have CL := Lib.hid hc
      have HX := Lib.hid hbel
      have hpx := hc.lt
      have hwx := hbel.size
      clear hc hbel
      by_cases hmn : m < n
      · have d1 : decide ((m : Int) < (n : Int)) = true := by simp; omega
        have BD := Lib.hid ((Blk.new X 50 (nine (deadV L) (.bool false) 1)).alloc (.cells (nine (hadV L) (.int .i64 0) 1) 51))
        have BH := Lib.hid (Blk.new_at (w := X.alloc (.cells (nine (deadV L) (.bool false) 1) 50)) (n := X.heap.size + 1) (by simp) 51 (nine (hadV L) (.int .i64 0) 1))
        have BX := Lib.hid (((Below.refl X.heap.size X).alloc (Nat.le_refl _) (.cells (nine (deadV L) (.bool false) 1) 50)).alloc (by simp) (.cells (nine (hadV L) (.int .i64 0) 1) 51))
        rw [nine_start, nine_start] at BX
        rw [nine_start (deadV L), nine_start (hadV L)] at BD BH
        go_wp2_with fail
        go_loopw [13] (fun i W => ∃ j : Nat, 1 ≤ j ∧ j ≤ 9 ∧ i = .int .i64 j ∧ Blk W X.heap.size 50 (nine (deadV L) (.bool false) j) ∧ Blk W (X.heap.size + 1) 51 (nine (hadV L) (.int .i64 0) j) ∧ Below X.heap.size X W) (fun i _ => 10 - (RowKit.intOf i).toNat)
        case atStart => exact ⟨1, by omega, by omega, rfl, by rw [nine_start]; exact BD.out, by rw [nine_start]; exact BH.out, BX.out⟩
        case round =>
          rename World => Y
          obtain ⟨j, hj1, hj9, rfl, hbd, hbh, hby⟩ := hrel
          have DY := Lib.hid hbd
          have HY := Lib.hid hbh
          have BY := Lib.hid hby
          have CY := Lib.hid (CL.out.step hby)
          clear BD BH BX
          by_cases hj8 : j ≤ 8
          · have d2 : decide ((j : Int) ≤ 8) = true := by simp; omega
            have hal := aliveL_at (n := 8) (L := L) hj1 hj8
            have hno := nowL_at (n := 8) (L := L) hj1 hj8
            have hdv : deadV L j = .bool (clAt L (j - 1)).dead := rfl
            have hhv : hadV L j = .int .i64 (clAt L (j - 1)).tx := rfl
            generalize (clAt L (j - 1)).dead = dj at hal hdv
            generalize (clAt L (j - 1)).tx = tj at hno hhv
            have k0 : Y.cell? ⟨X.heap.size, j, none⟩ = some (.bool false) := (hbd.cell j).trans (by rw [nine_get _ _ _ (by omega), if_neg (by omega)])
            have f0 := hbd.frozen j
            have k1 : (Y.setCell ⟨X.heap.size, j, none⟩ (.bool dj)).cell? ⟨X.heap.size + 1, j, none⟩ = some (.int .i64 0) := ((hbh.far (p := ⟨X.heap.size, j, none⟩) (show X.heap.size + 1 ≠ X.heap.size by omega) (.bool dj)).cell j).trans (by rw [nine_get _ _ _ (by omega), if_neg (by omega)])
            have f1 := (hbh.far (p := ⟨X.heap.size, j, none⟩) (show X.heap.size + 1 ≠ X.heap.size by omega) (.bool dj)).frozen j
            have D1 := hbd.set_ j (deadV L j)
            rw [nine_set _ _ hj1 (by omega), hdv] at D1
            have H1 := (hbh.far (p := ⟨X.heap.size, j, none⟩) (show X.heap.size + 1 ≠ X.heap.size by omega) (.bool dj)).set_ j (hadV L j)
            rw [nine_set _ _ hj1 (by omega), hhv] at H1
            have D2 := Lib.hid (D1.far (p := ⟨X.heap.size + 1, j, none⟩) (show X.heap.size ≠ X.heap.size + 1 by omega) (.int .i64 tj))
            have H2 := Lib.hid H1
            have B2 := Lib.hid ((hby.setCell (p := ⟨X.heap.size, j, none⟩) (Nat.le_refl _) (.bool dj)).setCell (p := ⟨X.heap.size + 1, j, none⟩) (Nat.le_succ _) (.int .i64 tj))
            have C2 := Lib.hid (CL.out.step (hby.setCell (p := ⟨X.heap.size, j, none⟩) (Nat.le_refl _) (.bool dj)))
            have HAL := Lib.hid hal
            have HNO := Lib.hid hno
            clear D1 H1 hbd hbh hby hal hno hdv hhv
            have HNV := Lib.hid (show nowV tj = .tuple #[.int .i64 tj, if tj = 0 then errno 10 else .nilIface] from rfl)
            cases dj
            all_goals
              go_wp2_with (first
                | (go_at_call 17; refine (cAlive_any (j : Int) _ CY.out _ HAL.out).mono ?_; rintro e w' ⟨rfl, rfl⟩)
                | (go_at_call 16; refine (cNow_any (j : Int) _ C2.out _ HNO.out).mono ?_; rw [HNV.out]; rintro e w' ⟨rfl, rfl⟩))
              go_roundw
              case rel => exact ⟨j + 1, by omega, by omega, by go_num, D2.out, H2.out, B2.out⟩
              case measure => simp [RowKit.intOf]; omega
          · obtain rfl : j = 9 := by omega
            have d2 : decide (((9 : Nat) : Int) ≤ 8) = false := by decide
            clear hbd hbh
            obtain ⟨ab, aoff, K, I, T, N, rfl, hab, hac⟩ := act_at ((H.out.below HX.out).below (hby.mono hwx)) HA.out HL.out hmn
            have AC := Lib.hid hac
            clear hac hab hby
            go_wp2_with (refine wpList_load_cells rfl 32 (.tmp 116) rfl ⟨ab, aoff + m * 4, none⟩ rfl [.int .i64 K, .int .i64 I, .int .i64 T, .int .i64 N] _ AC.out Try.underlying32 rfl (by kernel_rfl) ?_)
            refine (act_any K I T N _ CY.out).mono ?_
            rintro e w2 ⟨rfl, hc2, ht2⟩
            have DD := Lib.hid (fun i (hd : (clAt L i).dead = true) => act_dead L K I T N i hd)
            generalize (actL L K I T N).2 = cd
            generalize (actL L K I T N).1 = M at hc2 DD
            have OK := Lib.hid hc2.ok
            have LEN := Lib.hid hc2.len
            have D3 := DY.out.turn ht2 (show ¬ X.heap.size = p by omega)
            have H3 := HY.out.turn ht2 (show ¬ X.heap.size + 1 = p by omega)
            have hs2 : X.heap.size + 2 ≤ w2.heap.size := by have := H3.lt; omega
            have B3 : Below w.heap.size w w2 := (HX.out.trans (BY.out.mono hwx)).trans (ht2.below (B := w.heap.size) (fun k hk e => by omega) (by have := BY.out.size; omega))
            have M0 := Lib.hid (mapV_made w2)
            have C4 := Lib.hid (hc2.step (Joins.below_alloc1 w2 (.map #[] 0)))
            have D4 := Lib.hid (D3.alloc (.map #[] 0))
            have H4 := Lib.hid (H3.alloc (.map #[] 0))
            have B4 := Lib.hid (stepA B3 (.map #[] 0))
            clear hc2 ht2 D3 H3 B3
            go_wp2_with fail
            go_loopw [15] (fun i W => ∃ (j : Nat) (g : Int → Option Value), 1 ≤ j ∧ j ≤ 9 ∧ i = .int .i64 j ∧ MapV W w2.heap.size j g ∧ (∀ y, g y ≠ none → ∃ i, i + 1 < j ∧ (clAt M i).tx = y) ∧ Cli W p 8 M ∧ Blk W X.heap.size 50 (nine (deadV L) (.bool false) 9) ∧ Blk W (X.heap.size + 1) 51 (nine (hadV L) (.int .i64 0) 9) ∧ Below w.heap.size w W) (fun i _ => 10 - (RowKit.intOf i).toNat)
            case atStart => exact ⟨1, fun _ => none, by omega, by omega, rfl, M0.out.more (by omega), fun y h => absurd rfl h, C4.out, D4.out, H4.out, B4.out⟩
            case round =>
              rename World => Z
              obtain ⟨j, g, hj1, hj9, rfl, hmv, hg, hcz, hdz, hhz, hbz⟩ := hrel
              have MZ := Lib.hid hmv
              have GZ := Lib.hid hg
              have CZ := Lib.hid hcz
              have DZ := Lib.hid hdz
              have HZ := Lib.hid hhz
              have BZ := Lib.hid hbz
              clear hmv hg hcz hdz hhz hbz
              by_cases hj8 : j ≤ 8
              · have d2 : decide ((j : Int) ≤ 8) = true := by simp; omega
                have hal := aliveL_at (n := 8) (L := M) hj1 hj8
                have hno := nowL_at (n := 8) (L := M) hj1 hj8
                have kd : Z.cell? ⟨X.heap.size, j, none⟩ = some (.bool (clAt L (j - 1)).dead) := (DZ.out.cell j).trans (by rw [nine_get _ _ _ (by omega), if_pos (by omega)]; rfl)
                have kh : Z.cell? ⟨X.heap.size + 1, j, none⟩ = some (.int .i64 (clAt L (j - 1)).tx) := (HZ.out.cell j).trans (by rw [nine_get _ _ _ (by omega), if_pos (by omega)]; rfl)
                have hdd := DD.out (j - 1)
                have hlen := LEN.out
                have hown : (clAt M (j - 1)).tx ≠ 0 → ofL (clAt M (j - 1)).tx M = (j : Int) := fun h0 => by rw [ofL_own OK.out (by omega) h0]; omega
                have hun : (clAt M (j - 1)).tx ≠ 0 → g (clAt M (j - 1)).tx = none := fun h0 => by
                  cases hgy : g (clAt M (j - 1)).tx with
                  | none => rfl
                  | some v =>
                    obtain ⟨i, hi, he⟩ := GZ.out _ (by rw [hgy]; simp)
                    have hb := OK.out.tx _ (clAt_mem (show j - 1 < M.length by omega))
                    have := OK.out.one i (j - 1) (by omega) (by omega) he (by rw [he]; omega)
                    omega
                have hwf : (Lit.int .i64 (clAt M (j - 1)).tx).wf = true := by
                  have hb := OK.out.tx _ (clAt_mem (show j - 1 < M.length by omega))
                  exact WalkArith.wf_i64 (by omega)
                have hat : ∃ i, i + 1 < j + 1 ∧ (clAt M i).tx = (clAt M (j - 1)).tx := ⟨j - 1, by omega, rfl⟩
                generalize (clAt L (j - 1)).dead = dj at kd hdd
                generalize (clAt L (j - 1)).tx = oj at kh hdd
                generalize (clAt M (j - 1)).dead = aj at hal hdd
                generalize (clAt M (j - 1)).tx = tj at hno hown hun hwf hat hdd
                have HAL := Lib.hid hal
                have HNO := Lib.hid hno
                have HAT := Lib.hid hat
                have WF := Lib.hid hwf
                clear hal hno hat hwf hlen
                by_cases ht : tj = 0
                · have HNV := Lib.hid (show nowV tj = .tuple #[.int .i64 0, errno 10] by rw [ht]; rfl)
                  clear hown hun
                  have GZ2 := Lib.hid (show ∀ y, g y ≠ none → ∃ i, i + 1 < j + 1 ∧ (clAt M i).tx = y from fun y hy => by obtain ⟨i, hi, he⟩ := GZ.out y hy; exact ⟨i, by omega, he⟩)
                  cases dj with
                  | false =>
                    clear hdd ht
                    go_wp2_with (go_at_call 16; refine (cNow_any (j : Int) _ CZ.out _ HNO.out).mono ?_; rw [HNV.out]; rintro e w' ⟨rfl, rfl⟩)
                    go_roundw
                    case rel => exact ⟨j + 1, g, by omega, by omega, by go_num, MZ.out.more (by omega), GZ2.out, CZ.out, DZ.out, HZ.out, BZ.out⟩
                    case measure => simp [RowKit.intOf]; omega
                  | true =>
                    obtain ⟨h1, _⟩ := hdd rfl
                    subst h1
                    clear hdd ht
                    by_cases ho : oj = 0
                    · subst ho
                      go_wp2_with (first
                        | (go_at_call 16; refine (cNow_any (j : Int) _ CZ.out _ HNO.out).mono ?_; rw [HNV.out]; rintro e w' ⟨rfl, rfl⟩)
                        | (go_at_call 17; refine (cAlive_any (j : Int) _ CZ.out _ HAL.out).mono ?_; rintro e w' ⟨rfl, rfl⟩))
                      go_roundw
                      case rel => exact ⟨j + 1, g, by omega, by omega, by go_num, MZ.out.more (by omega), GZ2.out, CZ.out, DZ.out, HZ.out, BZ.out⟩
                      case measure => simp [RowKit.intOf]; omega
                    · have e1 : ((0 : Int) != oj) = true := by simpa using fun h => ho h.symm
                      clear ho
                      go_wp2_with (first
                        | (go_at_call 16; refine (cNow_any (j : Int) _ CZ.out _ HNO.out).mono ?_; rw [HNV.out]; rintro e w' ⟨rfl, rfl⟩)
                        | (go_at_call 17; refine (cAlive_any (j : Int) _ CZ.out _ HAL.out).mono ?_; rintro e w' ⟨rfl, rfl⟩))
                      go_roundw
                      case rel => exact ⟨j + 1, g, by omega, by omega, by go_num, MZ.out.more (by omega), GZ2.out, CZ.out, DZ.out, HZ.out, BZ.out⟩
                      case measure => simp [RowKit.intOf]; omega
                · have HNV := Lib.hid (show nowV tj = .tuple #[.int .i64 tj, .nilIface] by unfold nowV; rw [if_neg ht])
                  have HOV := Lib.hid (show ofV (ofL tj M) = .tuple #[.int .i64 (j : Int), .nilIface] by unfold ofV; rw [hown ht, if_neg (by omega)])
                  have HGV := Lib.hid (show (g tj).getD (.bool false) = .bool false by rw [hun ht]; rfl)
                  have GZ2 := Lib.hid (show ∀ y, (if y = tj then some (Value.bool true) else g y) ≠ none → ∃ i, i + 1 < j + 1 ∧ (clAt M i).tx = y from fun y hy => by
                    by_cases e : y = tj
                    · rw [e]; exact HAT.out
                    · rw [if_neg e] at hy
                      obtain ⟨i, hi, he⟩ := GZ.out y hy; exact ⟨i, by omega, he⟩)
                  clear hown hun
                  cases dj with
                  | false =>
                    clear hdd ht
                    go_wp2_with (first
                      | (go_at_call 16; refine (cNow_any (j : Int) _ CZ.out _ HNO.out).mono ?_; rw [HNV.out]; rintro e w' ⟨rfl, rfl⟩)
                      | (go_at_call 18; refine (cOf_any tj _ CZ.out).mono ?_; rw [HOV.out]; rintro e w' ⟨rfl, rfl⟩)
                      | (at_lookup; refine wpList_lookV _ rfl _ _ 52 rfl 4 Try.underlying52 _ (zeroB _) rfl MZ.out tj rfl WF.out _ HGV.out ?_)
                      | (at_mapUpdate; refine wpList_putV _ rfl _ _ _ 52 rfl 4 Try.underlying52 rfl MZ.out (by simp only [maxLen]; omega) tj rfl WF.out _ rfl ?_
                         intro w5 hm5 hg5 hs5
                         have M5 := Lib.hid hm5
                         have T5 := Lib.hid (turn_grown hg5)
                         clear hm5 hg5 hs5))
                    go_roundw
                    case rel => exact ⟨j + 1, _, by omega, by omega, by go_num, M5.out, GZ2.out, CZ.out.turn T5.out (show ¬ p = w2.heap.size by omega), DZ.out.turn T5.out (show ¬ X.heap.size = w2.heap.size by omega), HZ.out.turn T5.out (show ¬ X.heap.size + 1 = w2.heap.size by omega), BZ.out.trans (T5.out.below (fun k hk e => by omega) BZ.out.size)⟩
                    case measure => simp [RowKit.intOf]; omega
                  | true =>
                    obtain ⟨h1, h2⟩ := hdd rfl
                    subst h1
                    obtain rfl : tj = oj := h2.resolve_right ht
                    clear hdd ht
                    go_wp2_with (first
                      | (go_at_call 16; refine (cNow_any (j : Int) _ CZ.out _ HNO.out).mono ?_; rw [HNV.out]; rintro e w' ⟨rfl, rfl⟩)
                      | (go_at_call 17; refine (cAlive_any (j : Int) _ CZ.out _ HAL.out).mono ?_; rintro e w' ⟨rfl, rfl⟩)
                      | (go_at_call 18; refine (cOf_any tj _ CZ.out).mono ?_; rw [HOV.out]; rintro e w' ⟨rfl, rfl⟩)
                      | (at_lookup; refine wpList_lookV _ rfl _ _ 52 rfl 4 Try.underlying52 _ (zeroB _) rfl MZ.out tj rfl WF.out _ HGV.out ?_)
                      | (at_mapUpdate; refine wpList_putV _ rfl _ _ _ 52 rfl 4 Try.underlying52 rfl MZ.out (by simp only [maxLen]; omega) tj rfl WF.out _ rfl ?_
                         intro w5 hm5 hg5 hs5
                         have M5 := Lib.hid hm5
                         have T5 := Lib.hid (turn_grown hg5)
                         clear hm5 hg5 hs5))
                    go_roundw
                    case rel => exact ⟨j + 1, _, by omega, by omega, by go_num, M5.out, GZ2.out, CZ.out.turn T5.out (show ¬ p = w2.heap.size by omega), DZ.out.turn T5.out (show ¬ X.heap.size = w2.heap.size by omega), HZ.out.turn T5.out (show ¬ X.heap.size + 1 = w2.heap.size by omega), BZ.out.trans (T5.out.below (fun k hk e => by omega) BZ.out.size)⟩
                    case measure => simp [RowKit.intOf]; omega
              · obtain rfl : j = 9 := by omega
                have d2 : decide (((9 : Nat) : Int) ≤ 8) = false := by decide
                go_wp2_with fail
                go_roundw
                case rel => exact ⟨m + 1, M, by omega, by go_num, CZ.out, BZ.out⟩
                case measure => simp [RowKit.intOf]; omega
      · obtain rfl : m = n := by omega
        have d1 : decide ((m : Int) < (m : Int)) = false := by simp
        go_wp2_with fail
        go_ret
        exact ⟨rfl, HX.out⟩
end Go.Proofs.Ytjjkopbdejbnlaa
