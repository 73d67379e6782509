/- The program's write and Encode. -/
import Derived.Test.YtggfadiahacgeaaDoorScrN
namespace Go.Proofs.YtggfadiahacgeaaDoor
open Go.RowKit
set_option linter.unusedVariables false
set_option linter.unusedSimpArgs false

theorem u8_wrap (z : Int) : IntKind.u8.wrap z = ((u8i z).toNat : Int) := by rw [u8i_val, IntKind.wrap_u8]
theorem reads_five (V : World) (a b c d e : UInt8) : Reads (V.alloc (.cells #[.int .u8 (a.toNat : Int), .int .u8 (b.toNat : Int), .int .u8 (c.toNat : Int), .int .u8 (d.toNat : Int), .int .u8 (e.toNat : Int)] 5)) (V.heap.size + 1) 1 (some ⟨V.heap.size, 0, none⟩) 5 (u8s [a, b, c, d, e]) :=
  ⟨rfl, fun _ => ⟨_, rfl, by simp, fun j u hu => by
    have h1 := (Blk.new V 5 #[.int .u8 (a.toNat : Int), .int .u8 (b.toNat : Int), .int .u8 (c.toNat : Int), .int .u8 (d.toNat : Int), .int .u8 (e.toNat : Int)]).cell j
    have h2 : (⟨V.heap.size, 0, none⟩ : Addr).add j = ⟨V.heap.size, j, none⟩ := by unfold Addr.add; split <;> simp_all
    rw [h2, h1]
    simpa [u8s] using hu⟩⟩
set_option maxRecDepth 100000 in
set_option maxHeartbeats 4000000 in
theorem write_pic (v : Value) (n base : Nat) (l : List UInt8) (k c t r m p : Int) (hp : picB k = true) (w : World) (h : w.ownsRow base 5 1 v n (u8s l)) (hb : base ≤ w.heap.size) (hn : n ≤ 100000) :
    Calls Tryd.prog 17 #[v, entV k c t r m p] w fun e w' => ∃ v', e = .returned v' ∧ w'.ownsRow base 5 1 v' (n + 5) (u8s (l ++ wrE [k, c, t, r, m, p])) ∧ Below base w w' := by
  obtain ⟨i0, hi0, hz0, hz1, hz2⟩ := info_parts info_u8
  have HE := Lib.hid (show wrE [k, c, t, r, m, p] = [u8i (k), u8i (p / 65536), u8i (p / 256), u8i (p), u8i (m)] from by unfold wrE; rw [show fld [k, c, t, r, m, p] 0 = k from rfl, hp]; rfl)
  have y0 := u8_wrap (k)
  have y1 := u8_wrap (p / 65536)
  have y2 := u8_wrap (p / 256)
  have y3 := u8_wrap (p)
  have y4 := u8_wrap (m)
  generalize u8i (k) = z0 at y0 HE
  generalize u8i (p / 65536) = z1 at y1 HE
  generalize u8i (p / 256) = z2 at y2 HE
  generalize u8i (p) = z3 at y3 HE
  generalize u8i (m) = z4 at y4 HE
  have HP := Lib.hid hp
  have HN := Lib.hid hn
  have O1 := Lib.hid (h.alloc (.cells #[.int .i64 k, .int .i64 c, .int .i64 t, .int .i64 r, .int .i64 m, .int .i64 p] 30))
  have X1 := Lib.hid (Blk.new w 30 #[.int .i64 k, .int .i64 c, .int .i64 t, .int .i64 r, .int .i64 m, .int .i64 p])
  have B1 := Lib.hid ((Below.refl base w).alloc hb (.cells #[.int .i64 k, .int .i64 c, .int .i64 t, .int .i64 r, .int .i64 m, .int .i64 p] 30))
  have HB := Lib.hid (show base ≤ (w.alloc (.cells #[.int .i64 k, .int .i64 c, .int .i64 t, .int .i64 r, .int .i64 m, .int .i64 p] 30)).heap.size from by simp; omega)
  clear h hp hb hn
  go_enter Tryd.func17, Tryd.ntmps17
  go_upto_region 1 with fail
  generalize w.heap.size = g at X1 ⊢
  generalize w.alloc _ = V at O1 X1 B1 HB ⊢
  have x1 := X1.out.cell 1
  have x2 := X1.out.cell 2
  have x3 := X1.out.cell 3
  have x0 := X1.out.cell 0
  go_quiet (fail)
  go_upto_region 3 with (go_at_call 24; refine (picks_any k _).mono ?_; rintro e w1 ⟨rfl, hbb⟩; rw [HP.out]; have hbV : Below V.heap.size V w1 := ⟨hbb.os, hbb.tape, hbb.output, hbb.size, hbb.block⟩; have O2 := Lib.hid (own_stepS O1.out hbV); have X2 := Lib.hid (X1.out.here hbV); have B2 := Lib.hid (B1.out.trans (hbV.mono HB.out)); have HB2 := Lib.hid (Nat.le_trans HB.out hbV.size); clear hbb hbV)
  rename World => W
  have x5 := X2.out.cell 5
  go_quiet (fail)
  rename_i nq
  have O3 := Lib.hid (show (W.drewN nq).ownsRow base 5 1 v n (u8s l) from O2.out)
  have X3 := Lib.hid (X2.out.drewN nq)
  have B3 := Lib.hid (below_drewN B2.out nq)
  have HB3 := Lib.hid (show base ≤ (W.drewN nq).heap.size from HB2.out)
  clear x5 O2 X2 B2 HB2
  generalize W.drewN nq = V3 at O3 X3 B3 HB3 ⊢
  have x0 := X3.out.cell 0
  have x4 := X3.out.cell 4
  go_wp2_with (at_builtin
               have w3 : n + 5 ≤ maxLen := by have := HN.out; simp only [maxLen]; omega
               have w4 : (n + 5) * 1 ≤ 140737488355328 := by have := HN.out; omega
               have w5 : base ≤ (V3.alloc (.cells #[.int .u8 (z0.toNat : Int), .int .u8 (z1.toNat : Int), .int .u8 (z2.toNat : Int), .int .u8 (z3.toNat : Int), .int .u8 (z4.toNat : Int)] 5)).heap.size := by have := HB3.out; simp; omega
               refine wpList_append_any _ rfl (.tmp 27) (.tmp 40) _ rfl base 5 i0 _ 1 1 Tryd.underlying25 hi0 hz0 hz1 hz2 rfl (by omega) _ n _ rfl (World.ownsRow.alloc O3.out _) _ _ 5 5 _ rfl (reads_five V3 z0 z1 z2 z3 z4) (u8s_one _) w3 w4 w5 ?_
               intro v9 w9 hown9 hg9 hv9
               have B9 := Lib.hid (below_own (B3.out.alloc HB3.out _) hg9 (World.ownsRow.alloc O3.out _) (Nat.le_refl _) w5)
               have O9 := Lib.hid hown9
               clear hown9 hg9 hv9 w3 w4 w5)
  go_ret
  refine ⟨_, rfl, ?_, B9.out⟩
  rw [HE.out, u8s_append]
  exact O9.out
set_option maxRecDepth 100000 in
set_option maxHeartbeats 4000000 in
theorem write_not (v : Value) (n base : Nat) (l : List UInt8) (k c t r m p : Int) (hp : picB k = false) (w : World) (h : w.ownsRow base 5 1 v n (u8s l)) (hb : base ≤ w.heap.size) (hn : n ≤ 100000) :
    Calls Tryd.prog 17 #[v, entV k c t r m p] w fun e w' => ∃ v', e = .returned v' ∧ w'.ownsRow base 5 1 v' (n + 5) (u8s (l ++ wrE [k, c, t, r, m, p])) ∧ Below base w w' := by
  obtain ⟨i0, hi0, hz0, hz1, hz2⟩ := info_parts info_u8
  have HE := Lib.hid (show wrE [k, c, t, r, m, p] = [u8i (k), u8i (c), u8i (t), u8i (r), u8i (m)] from by unfold wrE; rw [show fld [k, c, t, r, m, p] 0 = k from rfl, hp]; rfl)
  have y0 := u8_wrap (k)
  have y1 := u8_wrap (c)
  have y2 := u8_wrap (t)
  have y3 := u8_wrap (r)
  have y4 := u8_wrap (m)
  generalize u8i (k) = z0 at y0 HE
  generalize u8i (c) = z1 at y1 HE
  generalize u8i (t) = z2 at y2 HE
  generalize u8i (r) = z3 at y3 HE
  generalize u8i (m) = z4 at y4 HE
  have HP := Lib.hid hp
  have HN := Lib.hid hn
  have O1 := Lib.hid (h.alloc (.cells #[.int .i64 k, .int .i64 c, .int .i64 t, .int .i64 r, .int .i64 m, .int .i64 p] 30))
  have X1 := Lib.hid (Blk.new w 30 #[.int .i64 k, .int .i64 c, .int .i64 t, .int .i64 r, .int .i64 m, .int .i64 p])
  have B1 := Lib.hid ((Below.refl base w).alloc hb (.cells #[.int .i64 k, .int .i64 c, .int .i64 t, .int .i64 r, .int .i64 m, .int .i64 p] 30))
  have HB := Lib.hid (show base ≤ (w.alloc (.cells #[.int .i64 k, .int .i64 c, .int .i64 t, .int .i64 r, .int .i64 m, .int .i64 p] 30)).heap.size from by simp; omega)
  clear h hp hb hn
  go_enter Tryd.func17, Tryd.ntmps17
  go_upto_region 1 with fail
  generalize w.heap.size = g at X1 ⊢
  generalize w.alloc _ = V at O1 X1 B1 HB ⊢
  have x1 := X1.out.cell 1
  have x2 := X1.out.cell 2
  have x3 := X1.out.cell 3
  have x0 := X1.out.cell 0
  go_quiet (fail)
  go_upto_region 4 with (go_at_call 24; refine (picks_any k _).mono ?_; rintro e w1 ⟨rfl, hbb⟩; rw [HP.out]; have hbV : Below V.heap.size V w1 := ⟨hbb.os, hbb.tape, hbb.output, hbb.size, hbb.block⟩; have O2 := Lib.hid (own_stepS O1.out hbV); have X2 := Lib.hid (X1.out.here hbV); have B2 := Lib.hid (B1.out.trans (hbV.mono HB.out)); have HB2 := Lib.hid (Nat.le_trans HB.out hbV.size); clear hbb hbV)
  rename World => W
  have O3 := O2
  have X3 := X2
  have B3 := B2
  have HB3 := HB2
  clear O2 X2 B2 HB2
  generalize W = V3 at O3 X3 B3 HB3 ⊢
  have x0 := X3.out.cell 0
  have x4 := X3.out.cell 4
  go_wp2_with (at_builtin
               have w3 : n + 5 ≤ maxLen := by have := HN.out; simp only [maxLen]; omega
               have w4 : (n + 5) * 1 ≤ 140737488355328 := by have := HN.out; omega
               have w5 : base ≤ (V3.alloc (.cells #[.int .u8 (z0.toNat : Int), .int .u8 (z1.toNat : Int), .int .u8 (z2.toNat : Int), .int .u8 (z3.toNat : Int), .int .u8 (z4.toNat : Int)] 5)).heap.size := by have := HB3.out; simp; omega
               refine wpList_append_any _ rfl (.tmp 27) (.tmp 40) _ rfl base 5 i0 _ 1 1 Tryd.underlying25 hi0 hz0 hz1 hz2 rfl (by omega) _ n _ rfl (World.ownsRow.alloc O3.out _) _ _ 5 5 _ rfl (reads_five V3 z0 z1 z2 z3 z4) (u8s_one _) w3 w4 w5 ?_
               intro v9 w9 hown9 hg9 hv9
               have B9 := Lib.hid (below_own (B3.out.alloc HB3.out _) hg9 (World.ownsRow.alloc O3.out _) (Nat.le_refl _) w5)
               have O9 := Lib.hid hown9
               clear hown9 hg9 hv9 w3 w4 w5)
  go_ret
  refine ⟨_, rfl, ?_, B9.out⟩
  rw [HE.out, u8s_append]
  exact O9.out
theorem write_any (v : Value) (n base : Nat) (l : List UInt8) (k c t r m p : Int) (w : World) (h : w.ownsRow base 5 1 v n (u8s l)) (hb : base ≤ w.heap.size) (hn : n ≤ 100000) :
    Calls Tryd.prog 17 #[v, entV k c t r m p] w fun e w' => ∃ v', e = .returned v' ∧ w'.ownsRow base 5 1 v' (n + 5) (u8s (l ++ wrE [k, c, t, r, m, p])) ∧ Below base w w' := by
  cases hp : picB k
  · exact write_not v n base l k c t r m p hp w h hb hn
  · exact write_pic v n base l k c t r m p hp w h hb hn
end Go.Proofs.YtggfadiahacgeaaDoor
