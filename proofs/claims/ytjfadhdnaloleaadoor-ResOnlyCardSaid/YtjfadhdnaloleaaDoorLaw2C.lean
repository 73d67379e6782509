/- The walk of ResBack. -/
import Derived.Test.YtjfadhdnaloleaaDoorLaw2
namespace Go.Proofs.YtjfadhdnaloleaaDoor
open Go.RowKit
set_option linter.unusedVariables false
set_option linter.unusedSimpArgs false

theorem ba_of {s : ByteArray} {l : List UInt8} (h : s.data.toList = l) : s = ⟨l.toArray⟩ := by
  apply ByteArray.ext; rw [← h]

/-- The same contracts, at numbers that are given as integers. -/
theorem text_int (t r : Int) (h : okR t r = true) (w : World) (ht : PTab w) :
    Calls Tryd.prog 11 #[resV t r] w fun e w' => e = .returned (.tuple #[strV (Tx t.toNat r.toNat), .nilIface]) ∧ Below w.heap.size w w' := by
  obtain ⟨h1, h2, h3, h4⟩ := okR_yes h
  have := text_any t.toNat r.toNat (by omega) (by omega) (by omega) w ht
  rwa [show ((t.toNat : Nat) : Int) = t by omega, show ((r.toNat : Nat) : Int) = r by omega] at this
theorem parse_int (t r : Int) (h : okR t r = true) (w : World) (hg : EType w) :
    Calls Tryd.prog 17 #[strV (Tx t.toNat r.toNat)] w fun e w' => e = .returned (.tuple #[resV t r, .nilIface]) ∧ Below w.heap.size w w' := by
  obtain ⟨h1, h2, h3, h4⟩ := okR_yes h
  have hl := Tx_len (t := t.toNat) (r := r.toNat) (by omega) (by omega)
  have := parse_yes (s := ⟨(Tx t.toNat r.toNat).toArray⟩) (t := t.toNat) (r := r.toNat) (k := 0) (parseP_text (by omega) (by omega) (by omega)) (by unfold maxLen; simp [ByteArray.size]; omega) w hg
  rwa [show ((t.toNat : Nat) : Int) = t by omega, show ((r.toNat : Nat) : Int) = r by omega] at this

theorem shardF_in (t n : Int) (h1 : 1 ≤ n) : 1 ≤ shardF t n ∧ shardF t n ≤ n := by
  unfold shardF
  have := Int.emod_lt_of_pos (t - 1) (show 0 < n by omega)
  have := Int.emod_nonneg (t - 1) (show n ≠ 0 by omega)
  omega

/-- The first half: what is read is written again. -/
theorem back_ok (t r k : Int) (h1 : 0 ≤ t) (h2 : t ≤ 255) (h3 : 0 ≤ r) (h4 : r ≤ 255) : okR (1 + t % 250) (r % 251) = true := by
  unfold okR; simp; omega

set_option maxRecDepth 100000 in
set_option maxHeartbeats 8000000 in
theorem back_no (s : ByteArray) (hs : s.size ≤ maxLen) (p : Nat) (h : parseP s.data.toList = (none, p)) (t r n : Int) (t0 : 0 ≤ t) (t1 : t ≤ 255) (r0 : 0 ≤ r) (r1 : r ≤ 255) (n0 : 0 ≤ n) (n1 : n ≤ 255) (w : World) (hg : EType w) (hp : PTab w) :
    Calls Tryd.prog 5 #[.string s, .int .u8 t, .int .u8 r, .int .u8 n] w fun e w' => e = .returned (.bool true) ∧ Below w.heap.size w w' := by
  have HG := Lib.hid hg
  have HP := Lib.hid hp
  have HS := Lib.hid hs
  have HO := Lib.hid (back_ok t r n t0 t1 r0 r1)
  have ht1 := Int.emod_lt_of_pos t (show (0 : Int) < 250 by omega)
  have ht0 := Int.emod_nonneg t (show (250 : Int) ≠ 0 by omega)
  have hr1 := Int.emod_lt_of_pos r (show (0 : Int) < 251 by omega)
  have hr0 := Int.emod_nonneg r (show (251 : Int) ≠ 0 by omega)
  have hn1 := Int.emod_lt_of_pos n (show (0 : Int) < 64 by omega)
  have hn0 := Int.emod_nonneg n (show (64 : Int) ≠ 0 by omega)
  have HX := Lib.hid (show okR (1 + t % 250) 0 = true by unfold okR; simp; omega)
  obtain ⟨f1, f2⟩ := shardF_in (1 + t % 250) (1 + n % 64) (by omega)
  have he : ∀ W, (binOp .eql 23 (resV (1 + t % 250) (r % 251)) (resV (1 + t % 250) (r % 251))).run Tryd.prog W = .ok (.bool true) W := fun W => by rw [eql_res]; simp
  have H := Lib.hid h
  clear hg hp h hs
  go_enter Tryd.func5, Tryd.ntmps5
  go_wp2_with fail
  refine (alive_any _ HG.out).mono ?_
  rintro e w1 ⟨rfl, hb1⟩
  have B1 := Lib.hid hb1
  clear hb1
  go_wp2_with fail
  refine (parse_no H.out HS.out _ (HG.out.below B1.out)).mono ?_
  rintro e w2 ⟨b, rfl, hb2, hl2, hF2⟩
  have B2 := Lib.hid (stepB B1.out hb2)
  clear hb2 hl2 hF2
  go_wp2_with fail
  refine (text_int _ _ HO.out _ (HP.out.below (stepA (stepA B2.out _) _))).mono ?_
  rintro e w3 ⟨rfl, hb3⟩
  have B3 := Lib.hid (stepB (stepA (stepA B2.out _) _) hb3)
  have Q3 := Lib.hid (Blk.here (Blk.new_at (n := w2.heap.size + 1) (by simp) 23 #[.int .i64 (1 + t % 250), .int .i64 (r % 251)]) hb3)
  clear hb3
  go_wp2_with fail
  refine (parse_int _ _ HO.out _ (HG.out.below B3.out)).mono ?_
  rintro e w4 ⟨rfl, hb4⟩
  have B4 := Lib.hid (stepB B3.out hb4)
  have Q4 := Lib.hid (Blk.here Q3.out hb4)
  obtain ⟨k0, k1, hl⟩ := res_cells Q4.out
  clear hb4
  go_wp2_with fail
  refine (table_yes _ _ HO.out _).mono ?_
  rintro e w5 ⟨rfl, hb5⟩
  have B5 := Lib.hid (stepB (stepA B4.out _) hb5)
  have Q5 := Lib.hid (Blk.here (Q4.out.alloc _) hb5)
  have P5 := Lib.hid (Blk.here (Blk.new w4 23 #[.int .i64 (1 + t % 250), .int .i64 (r % 251)]) hb5)
  clear k0 k1 hl hb5
  obtain ⟨k0, k1, hl⟩ := res_cells Q5.out
  go_wp2_with fail
  refine (shard_yes _ _ (1 + n % 64) HO.out (by omega) (by omega) _).mono ?_
  rintro e w6 ⟨rfl, hb6⟩
  have B6 := Lib.hid (stepB (stepA B5.out _) hb6)
  have Q6 := Lib.hid (Blk.here (Q5.out.alloc _) hb6)
  have P6 := Lib.hid (Blk.here (P5.out.alloc _) hb6)
  have X6 := Lib.hid (Blk.here (Blk.new w5 23 #[.int .i64 (1 + t % 250), .int .i64 0]) hb6)
  clear k0 k1 hl hb6
  obtain ⟨k0, k1, hl⟩ := res_cells X6.out
  go_wp2_with fail
  refine (shard_yes _ _ (1 + n % 64) HX.out (by omega) (by omega) _).mono ?_
  rintro e w7 ⟨rfl, hb7⟩
  have B7 := Lib.hid (stepB B6.out hb7)
  obtain ⟨q0, q1, ql⟩ := res_cells (Blk.here Q6.out hb7)
  obtain ⟨p0, p1, pl⟩ := res_cells (Blk.here P6.out hb7)
  clear k0 k1 hl hb7
  generalize shardF (1 + t % 250) (1 + n % 64) = sh at f1 f2 ⊢
  go_wp2_with fail
  go_ret
  exact ⟨rfl, B7.out⟩

set_option maxRecDepth 100000 in
set_option maxHeartbeats 8000000 in
theorem back_yes (tt rr : Nat) (g1 : 1 ≤ tt) (g2 : tt ≤ 250) (g3 : rr ≤ 250) (s : ByteArray) (hs : s.size ≤ maxLen) (hss : s = ⟨(Tx tt rr).toArray⟩) (h : parseP s.data.toList = (some (tt, rr), 0)) (t r n : Int) (t0 : 0 ≤ t) (t1 : t ≤ 255) (r0 : 0 ≤ r) (r1 : r ≤ 255) (n0 : 0 ≤ n) (n1 : n ≤ 255) (w : World) (hg : EType w) (hp : PTab w) :
    Calls Tryd.prog 5 #[.string s, .int .u8 t, .int .u8 r, .int .u8 n] w fun e w' => e = .returned (.bool true) ∧ Below w.heap.size w w' := by
  have HG := Lib.hid hg
  have HP := Lib.hid hp
  have HS := Lib.hid hs
  have HO := Lib.hid (back_ok t r n t0 t1 r0 r1)
  have ht1 := Int.emod_lt_of_pos t (show (0 : Int) < 250 by omega)
  have ht0 := Int.emod_nonneg t (show (250 : Int) ≠ 0 by omega)
  have hr1 := Int.emod_lt_of_pos r (show (0 : Int) < 251 by omega)
  have hr0 := Int.emod_nonneg r (show (251 : Int) ≠ 0 by omega)
  have hn1 := Int.emod_lt_of_pos n (show (0 : Int) < 64 by omega)
  have hn0 := Int.emod_nonneg n (show (64 : Int) ≠ 0 by omega)
  have HX := Lib.hid (show okR (1 + t % 250) 0 = true by unfold okR; simp; omega)
  obtain ⟨f1, f2⟩ := shardF_in (1 + t % 250) (1 + n % 64) (by omega)
  have he : ∀ W, (binOp .eql 23 (resV (1 + t % 250) (r % 251)) (resV (1 + t % 250) (r % 251))).run Tryd.prog W = .ok (.bool true) W := fun W => by rw [eql_res]; simp
  have H := Lib.hid h
  have HSS := Lib.hid hss
  have hll := Tx_len (t := tt) (r := rr) g2 g3
  clear hg hp h hs hss
  go_enter Tryd.func5, Tryd.ntmps5
  go_wp2_with fail
  refine (alive_any _ HG.out).mono ?_
  rintro e w1 ⟨rfl, hb1⟩
  have B1 := Lib.hid hb1
  clear hb1
  go_wp2_with fail
  refine (parse_yes H.out HS.out _ (HG.out.below B1.out)).mono ?_
  rintro e w2 ⟨rfl, hb2⟩
  have B2 := Lib.hid (stepB B1.out hb2)
  clear hb2
  go_wp2_with fail
  refine (text_any tt rr g1 g2 g3 _ (HP.out.below (stepA B2.out _))).mono ?_
  rintro e w2b ⟨rfl, hb2b⟩
  have B2b := Lib.hid (stepB (stepA B2.out _) hb2b)
  clear hb2b
  have hq : Tx tt rr = s.toList := by rw [HSS.out, Lib.toList_data]
  have HQ := Lib.hid hq
  clear hq
  have hqq : (Tx tt rr != s.toList) = false := by rw [HQ.out]; simp
  go_wp2_with fail
  refine (text_int _ _ HO.out _ (HP.out.below (stepA B2b.out _))).mono ?_
  rintro e w3 ⟨rfl, hb3⟩
  have B3 := Lib.hid (stepB (stepA B2b.out _) hb3)
  have Q3 := Lib.hid (Blk.here (Blk.new_at (n := w2b.heap.size) (by simp) 23 #[.int .i64 (1 + t % 250), .int .i64 (r % 251)]) hb3)
  clear hb3
  go_wp2_with fail
  refine (parse_int _ _ HO.out _ (HG.out.below B3.out)).mono ?_
  rintro e w4 ⟨rfl, hb4⟩
  have B4 := Lib.hid (stepB B3.out hb4)
  have Q4 := Lib.hid (Blk.here Q3.out hb4)
  obtain ⟨k0, k1, hl⟩ := res_cells Q4.out
  clear hb4
  go_wp2_with fail
  refine (table_yes _ _ HO.out _).mono ?_
  rintro e w5 ⟨rfl, hb5⟩
  have B5 := Lib.hid (stepB (stepA B4.out _) hb5)
  have Q5 := Lib.hid (Blk.here (Q4.out.alloc _) hb5)
  have P5 := Lib.hid (Blk.here (Blk.new w4 23 #[.int .i64 (1 + t % 250), .int .i64 (r % 251)]) hb5)
  clear k0 k1 hl hb5
  obtain ⟨k0, k1, hl⟩ := res_cells Q5.out
  go_wp2_with fail
  refine (shard_yes _ _ (1 + n % 64) HO.out (by omega) (by omega) _).mono ?_
  rintro e w6 ⟨rfl, hb6⟩
  have B6 := Lib.hid (stepB (stepA B5.out _) hb6)
  have Q6 := Lib.hid (Blk.here (Q5.out.alloc _) hb6)
  have P6 := Lib.hid (Blk.here (P5.out.alloc _) hb6)
  have X6 := Lib.hid (Blk.here (Blk.new w5 23 #[.int .i64 (1 + t % 250), .int .i64 0]) hb6)
  clear k0 k1 hl hb6
  obtain ⟨k0, k1, hl⟩ := res_cells X6.out
  go_wp2_with fail
  refine (shard_yes _ _ (1 + n % 64) HX.out (by omega) (by omega) _).mono ?_
  rintro e w7 ⟨rfl, hb7⟩
  have B7 := Lib.hid (stepB B6.out hb7)
  obtain ⟨q0, q1, ql⟩ := res_cells (Blk.here Q6.out hb7)
  obtain ⟨p0, p1, pl⟩ := res_cells (Blk.here P6.out hb7)
  clear k0 k1 hl hb7
  generalize shardF (1 + t % 250) (1 + n % 64) = sh at f1 f2 ⊢
  go_wp2_with fail
  go_ret
  exact ⟨rfl, B7.out⟩

theorem resBack_walk (s : ByteArray) (hs : s.size ≤ maxLen) (t r n : Int) (t0 : 0 ≤ t) (t1 : t ≤ 255) (r0 : 0 ≤ r) (r1 : r ≤ 255) (n0 : 0 ≤ n) (n1 : n ≤ 255) (w : World) (hg : EType w) (hp : PTab w) :
    Calls Tryd.prog 5 #[.string s, .int .u8 t, .int .u8 r, .int .u8 n] w fun e w' => e = .returned (.bool true) ∧ Below w.heap.size w w' := by
  match h : parseP s.data.toList with
  | (none, p) => exact back_no s hs p h t r n t0 t1 r0 r1 n0 n1 w hg hp
  | (some (tt, rr), k) =>
    obtain ⟨g1, g2, g3, e, rfl⟩ := parseP_some h
    exact back_yes tt rr g1 g2 g3 s hs (ba_of e) h t r n t0 t1 r0 r1 n0 n1 w hg hp
end Go.Proofs.YtjfadhdnaloleaaDoor
