/- The walk of ResOnly. -/
import Derived.Test.YtjfadhdnaloleaaDoorLaw2C
import Derived.BigRegion
import Derived.Deep.DeepCutAuto
namespace Go.Proofs.YtjfadhdnaloleaaDoor
open Go.RowKit
set_option linter.unusedVariables false
set_option linter.unusedSimpArgs false

/-! ### How texts begin -/
theorem tx_zero (t : Nat) : Tx t 0 = dig t := by simp [Tx]
theorem tx_row {t r : Nat} (h : ¬ r = 0) : Tx t r = dig t ++ 46 :: dig r := by rw [Tx, if_neg h]
theorem tx_beq {t r t' r' : Nat} (h : ¬ (t = t' ∧ r = r')) : (Tx t r == Tx t' r') = false := by
  rw [beq_eq_false_iff_ne]; intro e; exact h (Tx_inj e)
theorem tx_ne {t r t' r' : Nat} (h : ¬ (t = t' ∧ r = r')) : ¬ Tx t r = Tx t' r' := fun e => h (Tx_inj e)
theorem tx_lt {t r : Nat} (h : ¬ r = 0) : (Tx t 0).length < (Tx t r).length := by rw [tx_zero, tx_row h]; simp
theorem tx_cut {t r : Nat} (h : ¬ r = 0) : ((ByteArray.mk (Tx t r).toArray).extract 0 (Tx t 0).length).toList = Tx t 0 := by
  rw [Lib.toList_data, Lib.extract_data, tx_zero, tx_row h]; simp
theorem tx_dot {t r : Nat} (h : ¬ r = 0) : ∀ hb, ((ByteArray.mk (Tx t r).toArray)[(Tx t 0).length]'hb).toNat = 46 := by
  intro hb
  have e : (ByteArray.mk (Tx t r).toArray)[(Tx t 0).length]'hb = (Tx t r)[(Tx t 0).length]'(tx_lt h) := rfl
  rw [e]
  have : (Tx t r)[(Tx t 0).length]? = some 46 := by rw [tx_zero, tx_row h]; simp
  rw [List.getElem?_eq_getElem (tx_lt h)] at this
  rw [Option.some.inj this]; rfl
/-- What begins as another table's text, and goes on with a dot, is that table's. -/
theorem tx_other {t t' r : Nat} (h : t ≠ t') (h1 : (Tx t 0).length < (Tx t' r).length) (h2 : ((ByteArray.mk (Tx t' r).toArray).extract 0 (Tx t 0).length).toList = Tx t 0) :
    ∀ hb, ((((ByteArray.mk (Tx t' r).toArray)[(Tx t 0).length]'hb).toNat : Int) == 46) = false := by
  intro hb
  have e : (ByteArray.mk (Tx t' r).toArray)[(Tx t 0).length]'hb = (Tx t' r)[(Tx t 0).length]'h1 := rfl
  rw [e]
  rw [Lib.toList_data, Lib.extract_data] at h2
  simp only [List.drop_zero, Nat.sub_zero] at h2
  rw [beq_eq_false_iff_ne]
  intro hd
  have hd2 : (Tx t' r)[(Tx t 0).length]'h1 = 46 := by apply UInt8.toNat_inj.1; show _ = 46; omega
  have hs : Tx t' r = dig t ++ 46 :: (Tx t' r).drop ((Tx t 0).length + 1) := by
    conv => lhs; rw [← List.take_append_drop (Tx t 0).length (Tx t' r), h2, List.drop_eq_getElem_cons h1, hd2]
    rw [tx_zero]
  unfold Tx at hs
  split at hs
  · exact dig_nodot t' 46 (by rw [hs]; simp) rfl
  · exact h (dig_inj (split_dot (dig_nodot t) (dig_nodot t') (by rw [← hs]; exact List.prefix_refl _)).1)

/-- Two resources that were made of the arguments. -/
structure CutO (w : World) (t r t2 r2 : Int) (v5 v6 : Value) (wx : World) : Prop where
  bel : Below w.heap.size w wx
  at_ : ∃ p q : Nat, v5 = .pointer (some ⟨p, 0, none⟩) ∧ v6 = .pointer (some ⟨q, 0, none⟩) ∧ ResAt wx p t r ∧ ResAt wx q t2 r2

set_option maxRecDepth 100000 in
set_option maxHeartbeats 4000000 in
theorem resOnly_walk (a b c d : Int) (a0 : 0 ≤ a) (a1 : a ≤ 255) (b0 : 0 ≤ b) (b1 : b ≤ 255) (c0 : 0 ≤ c) (c1 : c ≤ 255) (d0 : 0 ≤ d) (d1 : d ≤ 255) (w : World) (hg : EType w) (hp : PTab w) :
    Calls Tryd.prog 7 #[.agg #[.int .u8 a, .int .u8 b], .agg #[.int .u8 c, .int .u8 d]] w fun e w' => e = .returned (.bool true) ∧ Below w.heap.size w w' := by
  have HG := Lib.hid hg
  have HP := Lib.hid hp
  clear hg hp
  go_enter Tryd.func7, Tryd.ntmps7
  go_wp2_with fail
  refine (alive_any _ ?_).mono ?_
  · exact (HG.out.alloc _).alloc _
  rintro e w1 ⟨rfl, hb1⟩
  have B1 := Lib.hid (stepB (stepA (stepA (Below.refl _ _) _) _) hb1)
  have X1 := Blk.here ((Blk.new w 47 #[.int .u8 a, .int .u8 b]).alloc (.cells #[.int .u8 c, .int .u8 d] 47)) hb1
  have Y1 := Blk.here (Blk.new_at (w := w.alloc (.cells #[.int .u8 a, .int .u8 b] 47)) (n := w.heap.size + 1) (by simp) 47 #[.int .u8 c, .int .u8 d]) hb1
  have k0 := X1.cell 0
  have k1 := X1.cell 1
  have k2 := Y1.cell 0
  have k3 := Y1.cell 1
  have hl := Y1.lt
  have x1A0 := fun o : Obj => (X1.alloc o).cell 0
  have x1B0 := fun o o2 : Obj => ((X1.alloc o).alloc o2).cell 0
  have x1A1 := fun o : Obj => (X1.alloc o).cell 1
  have x1B1 := fun o o2 : Obj => ((X1.alloc o).alloc o2).cell 1
  have y1A0 := fun o : Obj => (Y1.alloc o).cell 0
  have y1B0 := fun o o2 : Obj => ((Y1.alloc o).alloc o2).cell 0
  have y1A1 := fun o : Obj => (Y1.alloc o).cell 1
  have y1B1 := fun o o2 : Obj => ((Y1.alloc o).alloc o2).cell 1
  have xA0 := (X1.alloc (.cells #[.int .i64 0, .int .i64 0] 23)).cell 0
  have xB0 := ((X1.alloc (.cells #[.int .i64 0, .int .i64 0] 23)).alloc (.cells #[.int .i64 0, .int .i64 0] 23)).cell 0
  have xA1 := (X1.alloc (.cells #[.int .i64 0, .int .i64 0] 23)).cell 1
  have xB1 := ((X1.alloc (.cells #[.int .i64 0, .int .i64 0] 23)).alloc (.cells #[.int .i64 0, .int .i64 0] 23)).cell 1
  have yA0 := (Y1.alloc (.cells #[.int .i64 0, .int .i64 0] 23)).cell 0
  have yB0 := ((Y1.alloc (.cells #[.int .i64 0, .int .i64 0] 23)).alloc (.cells #[.int .i64 0, .int .i64 0] 23)).cell 0
  have yA1 := (Y1.alloc (.cells #[.int .i64 0, .int .i64 0] 23)).cell 1
  have yB1 := ((Y1.alloc (.cells #[.int .i64 0, .int .i64 0] 23)).alloc (.cells #[.int .i64 0, .int .i64 0] 23)).cell 1
  clear hb1 X1 Y1
  have m1 : a.tmod 250 = a % 250 := Int.tmod_eq_emod_of_nonneg a0
  have m2 : b.tmod 251 = b % 251 := Int.tmod_eq_emod_of_nonneg b0
  have m3 : c.tmod 250 = c % 250 := Int.tmod_eq_emod_of_nonneg c0
  have m4 : d.tmod 251 = d % 251 := Int.tmod_eq_emod_of_nonneg d0
  have s1 : IntKind.i64.wrap (1 + a % 250) = 1 + a % 250 := IntWalk.i64_in _ (by omega)
  have s2 : IntKind.i64.wrap (1 + c % 250) = 1 + c % 250 := IntWalk.i64_in _ (by omega)
  have u1 : IntKind.i64.wrap a = a := IntWalk.i64_in _ (by omega)
  have u2 : IntKind.i64.wrap b = b := IntWalk.i64_in _ (by omega)
  have u3 : IntKind.i64.wrap c = c := IntWalk.i64_in _ (by omega)
  have u4 : IntKind.i64.wrap d = d := IntWalk.i64_in _ (by omega)
  have HB1 := Lib.hid hl
  go_upto_region 3 with (fail)
  go_cut [5, 6] (fun v5 v6 wx => CutO w (1 + a % 250) (b % 251) (1 + c % 250) (d % 251) v5 v6 wx)
  case first =>
    go_region
    all_goals
      go_wp2_with fail
      go_meet
      first
        | exact ⟨(stepA (stepA B1.out _) _).drew, w1.heap.size, w1.heap.size + 1, rfl, rfl, ((Blk.new w1 _ _).alloc _).drew, (Blk.new_at (by simp) _ _).drew⟩
        | exact ⟨(stepA (stepA B1.out _) _).drew, w1.heap.size + 1, w1.heap.size, rfl, rfl, (Blk.new_at (by simp) _ _).drew, ((Blk.new w1 _ _).alloc _).drew⟩
  case rest =>
    obtain ⟨hbel, p, q, rfl, rfl, hP, hQ⟩ := hcut
    have HO1 := Lib.hid (back_ok a b 0 a0 a1 b0 b1)
    have HO2 := Lib.hid (back_ok c d 0 c0 c1 d0 d1)
    have HOU := Lib.hid (show okR (1 + a % 250) 0 = true by unfold okR; simp; omega)
    have B2 := Lib.hid hbel
    have P2 := Lib.hid hP
    have Q2 := Lib.hid hQ
    clear x1A0 x1A1 x1B0 x1B1 y1A0 y1A1 y1B0 y1B1 k0 k1 k2 k3 hl m1 m2 m3 m4 s1 s2 u1 u2 u3 u4 hbel hQ
    obtain ⟨k0, k1, hl⟩ := res_cells hP
    clear hP
    have G1 := okR_yes HO1.out
    have G2 := okR_yes HO2.out
    generalize 1 + a % 250 = t1 at *
    generalize b % 251 = r1 at *
    generalize 1 + c % 250 = t2 at *
    generalize d % 251 = r2 at *
    obtain ⟨t1, rfl⟩ : ∃ k : Nat, t1 = k := ⟨t1.toNat, by omega⟩
    obtain ⟨r1, rfl⟩ : ∃ k : Nat, r1 = k := ⟨r1.toNat, by omega⟩
    obtain ⟨t2, rfl⟩ : ∃ k : Nat, t2 = k := ⟨t2.toNat, by omega⟩
    obtain ⟨r2, rfl⟩ : ∃ k : Nat, r2 = k := ⟨r2.toNat, by omega⟩
    have hl1 := Tx_len (t := t1) (r := r1) (by omega) (by omega)
    have hl2 := Tx_len (t := t2) (r := r2) (by omega) (by omega)
    have hl3 := Tx_len (t := t1) (r := 0) (by omega) (by omega)
    go_wp2_with fail
    refine (text_any t1 r1 (by omega) (by omega) (by omega) _ (HP.out.below B2.out)).mono ?_
    rintro e w3 ⟨rfl, hb3⟩
    have B3 := Lib.hid (stepB B2.out hb3)
    have P3 := Lib.hid (Blk.here P2.out hb3)
    have Q3 := Lib.hid (Blk.here Q2.out hb3)
    clear k0 k1 hl hb3
    obtain ⟨k0, k1, hl⟩ := res_cells Q3.out
    go_wp2_with fail
    refine (text_any t2 r2 (by omega) (by omega) (by omega) _ (HP.out.below B3.out)).mono ?_
    rintro e w4 ⟨rfl, hb4⟩
    have B4 := Lib.hid (stepB B3.out hb4)
    have P4 := Lib.hid (Blk.here P3.out hb4)
    have Q4 := Lib.hid (Blk.here Q3.out hb4)
    clear k0 k1 hl hb4
    obtain ⟨k0, k1, hl⟩ := res_cells P4.out
    go_wp2_with fail
    refine (text_any t1 0 (by omega) (by omega) (by omega) _ (HP.out.below B4.out)).mono ?_
    rintro e w5 ⟨rfl, hb5⟩
    have B5 := Lib.hid (stepB B4.out hb5)
    obtain ⟨p0, p1, pl⟩ := res_cells (Blk.here P4.out hb5)
    obtain ⟨q0, q1, ql⟩ := res_cells (Blk.here Q4.out hb5)
    clear k0 k1 hl hb5
    have he : (binOp .eql 23 (resV t1 r1) (resV t2 r2)).run Tryd.prog w5 = .ok (.bool ((t1 : Int) == t2 && (r1 : Int) == r2)) w5 := eql_res _ _ _ _ _
    by_cases ht : t1 = t2
    · subst ht
      by_cases hr2 : r2 = 0
      · subst hr2
        by_cases hr1 : r1 = 0
        · subst hr1
          go_wp2_with fail
          go_ret
          exact ⟨rfl, B5.out⟩
        · have e1 := tx_beq (t := t1) (r := r1) (t' := t1) (r' := 0) (by omega)
          have e2 : ((r1 : Int) == 0) = false := by simp; omega
          clear hr1
          go_wp2_with fail
          go_ret
          exact ⟨rfl, B5.out⟩
      · have f1 := tx_ne (t := t1) (r := r2) (t' := t1) (r' := 0) (by omega)
        have f1b := tx_beq (t := t1) (r := r2) (t' := t1) (r' := 0) (by omega)
        have f2 := tx_lt (t := t1) hr2
        have f3 := tx_cut (t := t1) hr2
        have f4 := tx_dot (t := t1) hr2
        by_cases hr1 : r1 = r2
        · subst hr1
          clear hr2
          go_wp2_with fail
          go_ret
          exact ⟨rfl, B5.out⟩
        · have e1 := tx_beq (t := t1) (r := r1) (t' := t1) (r' := r2) (by omega)
          have e2 : ((r1 : Int) == (r2 : Int)) = false := by simp; omega
          clear hr1 hr2
          go_wp2_with fail
          go_ret
          exact ⟨rfl, B5.out⟩
    · have e1 := tx_beq (t := t1) (r := r1) (t' := t2) (r' := r2) (by omega)
      have e2 : ((t1 : Int) == (t2 : Int)) = false := by simp; omega
      have f1 := tx_ne (t := t2) (r := r2) (t' := t1) (r' := 0) (by omega)
      have f1b := tx_beq (t := t2) (r := r2) (t' := t1) (r' := 0) (by omega)
      by_cases f2 : (Tx t1 0).length < (Tx t2 r2).length
      · by_cases f3 : ((ByteArray.mk (Tx t2 r2).toArray).extract 0 (Tx t1 0).length).toList = Tx t1 0
        · have f4 := tx_other ht f2 f3
          clear ht
          go_wp2_with fail
          go_ret
          exact ⟨rfl, B5.out⟩
        · clear ht
          go_wp2_with fail
          go_ret
          exact ⟨rfl, B5.out⟩
      · clear ht
        go_wp2_with fail
        go_ret
        exact ⟨rfl, B5.out⟩
end Go.Proofs.YtjfadhdnaloleaaDoor
