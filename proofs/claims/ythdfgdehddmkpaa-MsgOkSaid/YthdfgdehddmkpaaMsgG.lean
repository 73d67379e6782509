/- The contract of package msg's write. -/
import Derived.Test.YthdfgdehddmkpaaMsgD
import Derived.Test.YthdfgdehddmkpaaWordL
namespace Go.Proofs.Ythdfgdehddmkpaa
open Go.RowKit
set_option linter.unusedVariables false
set_option linter.unusedSimpArgs false

/-- What a row of the call's own is, in a world whose rows are as they were. -/
theorem own_keepG {w w' : World} {base size n : Nat} {t : TypeId} {v : Value} {xs : List Value} (h : w.ownsRow base t size v n xs) (hk : ∀ g, base ≤ g → w'.heap[g]? = w.heap[g]?) : w'.ownsRow base t size v n xs := by
  rcases h with ⟨h0, h1 | ⟨g, cap, cur, hv, hb, hh, h2⟩⟩
  · exact ⟨h0, .inl h1⟩
  · exact ⟨h0, .inr ⟨g, cap, cur, hv, hb, (hk g hb).trans hh, h2⟩⟩
/-- What holds between two puts. -/
structure PutSt (w : World) (m : List Int) (bs : List UInt8) (v : Value) (n : Nat) (W : World) : Prop where
  msg : Blk W w.heap.size 29 (mc m)
  bts : Blk W (w.heap.size + 1) 31 #[v]
  err : Blk W (w.heap.size + 2) 33 #[.nilIface]
  own : W.ownsRow (w.heap.size + 3) 5 1 v n (u8s bs)
  bel : Below w.heap.size w W
theorem PutSt.alloc {w W : World} {m : List Int} {bs : List UInt8} {v : Value} {n : Nat} (h : PutSt w m bs v n W) (o : Obj) : PutSt w m bs v n (W.alloc o) :=
  ⟨h.msg.alloc o, h.bts.alloc o, h.err.alloc o, h.own.alloc o, h.bel.alloc h.bel.size o⟩
theorem own_base {w : World} {base base' size n : Nat} {t : TypeId} {v : Value} {xs : List Value} (h : w.ownsRow base t size v n xs) (hb : base' ≤ base) : w.ownsRow base' t size v n xs := by
  rcases h with ⟨h0, h1 | ⟨g, cap, cur, hv, hg, h2⟩⟩
  · exact ⟨h0, .inl h1⟩
  · exact ⟨h0, .inr ⟨g, cap, cur, hv, Nat.le_trans hb hg, h2⟩⟩

set_option maxRecDepth 100000 in
set_option maxHeartbeats 4000000 in
theorem putIn_any (w : World) (m : List Int) (bs : List UInt8) (v : Value) (n : Nat) (wd : Nat) (h1 : 1 ≤ wd) (h4 : wd ≤ 4) (is : List Int) (hf : AllFit wd is) (A' : Option Addr) (m' cap' : Nat) (hN : n + wd * m' ≤ 211106232532992) (W : World)
    (st : PutSt w m bs v n W) (hl : Reads W W.heap.size 1 A' m' (i64s is)) :
    Calls Try.prog 28 #[.int .i64 wd, .slice A' m' cap', .pointer (some ⟨w.heap.size + 2, 0, none⟩), .pointer (some ⟨w.heap.size + 1, 0, none⟩)] W
      fun e w' => e = .returned (.tuple #[]) ∧ ∃ v', PutSt w m (bs ++ encL wd is) v' (n + wd * m') w' := by
  obtain ⟨A, c, rfl, hR, hA⟩ := own_slice st.own
  have ST := Lib.hid st
  have HL := Lib.hid hl
  have HR := Lib.hid hR
  have k0 := st.err.cell 0
  have k1 := st.bts.cell 0
  have HF := Lib.hid hf
  have hn := fun W => run_eql_nil_nil (P := Try.prog) W 33 Try.underlying33
  clear st hl hR hA hf
  go_enter Try.func28, Try.ntmps28
  go_wp2_with fail
  refine (put_ok HF.out A A' n c m' cap' bs h1 h4 hN _ HR.out HL.out).mono ?_
  rintro e w5 ⟨v5, rfl, hown5, hb5⟩
  obtain ⟨A5, c5, rfl, _, _⟩ := own_slice hown5
  have M5 := Lib.hid (ST.out.msg.here hb5)
  have T5 := Lib.hid (ST.out.bts.here hb5)
  have E5 := Lib.hid (ST.out.err.here hb5)
  have B5 := Lib.hid (stepB ST.out.bel hb5)
  have O5 := Lib.hid hown5
  have t0 := T5.out.cell 0
  have e0 := E5.out.cell 0
  have t1 := T5.out.frozen 0
  have e1 := E5.out.frozen 0
  clear hown5 hb5
  go_wp2_with fail
  go_end0
  refine ⟨rfl, .slice A5 (n + wd * m') c5, ?_, ?_, ?_, ?_, ?_⟩
  · exact (M5.out.far (by simp) _).far (by simp) _
  · exact (T5.out.set_ 0 _).far (by simp) _
  · exact (E5.out.far (by simp) _).set_ 0 _
  · refine own_base (own_keepG O5.out fun g hg => ?_) (by have := ST.out.err.lt; omega)
    have := ST.out.err.lt
    rw [Below.heap_setCell _ _ _ g (by simp; omega), Below.heap_setCell _ _ _ g (by simp; omega)]
  · exact (B5.out.setCell (by simp) _).setCell (by simp) _

/-- A message's first bytes, and all. -/
def headM (m : List Int) : List UInt8 := encL 1 [fld m 0, fld m 1, fld m 2] ++ encL 4 [fld m 3, fld m 4] ++ encL 1 [fld m 5, fld m 6, fld m 7, fld m 8] ++ encL 4 [fld m 9, fld m 10] ++ encL 1 [fld m 11]
def encM (m : List Int) : List UInt8 := headM m ++ encL 4 (pathL m)
/-- All numbers fit. -/
structure FitsM (m : List Int) : Prop where
  a : AllFit 1 [fld m 0, fld m 1, fld m 2]
  b : AllFit 4 [fld m 3, fld m 4]
  c : AllFit 1 [fld m 5, fld m 6, fld m 7, fld m 8]
  d : AllFit 4 [fld m 9, fld m 10]
  e : AllFit 1 [fld m 11]
  f : ∀ i, i < 8 → AllFit 4 [stTx m i, stSeq m i]
theorem reads_blk {w : World} {b : Nat} {t : TypeId} {l : List Int} {n : Nat} (h : Blk w b t (i64s l).toArray) (hn : l.length = n) : Reads w w.heap.size 1 (some ⟨b, 0, none⟩) n (i64s l) :=
  ⟨by simp [i64s, hn], fun _ => ⟨_, rfl, h.lt, fun j u hu => by
    have := h.cell j
    rw [show (⟨b, 0, none⟩ : Addr).add j = ⟨b, j, none⟩ by unfold Addr.add; split <;> simp_all, this]
    simpa using hu⟩⟩

theorem take_step {m : List Int} (hl : m.length = 28) {j : Nat} (hj : j < 8) : encL 4 ((pathL m).take (j * 2)) ++ encL 4 [stTx m j, stSeq m j] = encL 4 ((pathL m).take ((j + 1) * 2)) := by
  rw [← pathL_step hl hj, Nat.succ_mul, List.take_add]
  simp [encL, List.flatMap_append]
set_option maxRecDepth 100000 in
set_option maxHeartbeats 8000000 in
theorem write_any (m : List Int) (hl : m.length = 28) (hf : FitsM m) (w : World) :
    Calls Try.prog 18 #[.agg (mc m)] w fun e w' => ∃ A c, e = .returned (.tuple #[.slice A 88 c, .nilIface]) ∧ w'.ownsRow w.heap.size 5 1 (.slice A 88 c) 88 (u8s (encM m)) ∧ Below w.heap.size w w' := by
  have HL := Lib.hid hl
  have HF := Lib.hid hf
  have S0 := Lib.hid (show PutSt w m [] (.slice none 0 0) 0 (((w.alloc (.cells (mc m) 29)).alloc (.cells #[.slice none 0 0] 31)).alloc (.cells #[.nilIface] 33)) from
    ⟨((Blk.new _ _ _).alloc _).alloc _, (Blk.new_at (by simp) _ _).alloc _, Blk.new_at (by simp) _ _, World.ownsRow_nil _ _ _ _, ((Below.alloc (Below.refl _ _) (Nat.le_refl _) _).alloc (by simp) _).alloc (by simp; omega) _⟩)
  have c0 := mc_get hl (i := 0) (by omega)
  have c1 := mc_get hl (i := 1) (by omega)
  have c2 := mc_get hl (i := 2) (by omega)
  have hmf : ∀ (fn : Fn) (first cap : Array Value) (w : World), (Instr.makeFunc fn first cap).run Try.prog w = .ok (.func fn first cap) w := fun _ _ _ _ => rfl
  clear hl hf
  go_enter Try.func18, Try.ntmps18
  go_wp2_with fail
  refine (putIn_any w m [] _ 0 1 (by omega) (by omega) [fld m 0, fld m 1, fld m 2] HF.out.a _ 3 3 (by omega) _ (S0.out.alloc _) (reads_blk (l := [fld m 0, fld m 1, fld m 2]) (Blk.new_at (by simp) _ _) rfl)).mono ?_
  rintro e w1 ⟨rfl, v1, hst1⟩
  have ST1 := Lib.hid hst1
  have k3 := (hst1.msg.cell 3).trans (mc_get HL.out (i := 3) (by omega))
  have k4 := (hst1.msg.cell 4).trans (mc_get HL.out (i := 4) (by omega))
  have hlt1 := hst1.err.lt
  clear hst1 
  go_wp2_with fail
  refine (putIn_any w m _ _ 3 4 (by omega) (by omega) [fld m 3, fld m 4] HF.out.b _ 2 2 (by omega) _ (ST1.out.alloc _) (reads_blk (l := [fld m 3, fld m 4]) (Blk.new_at (by simp) _ _) rfl)).mono ?_
  rintro e w2 ⟨rfl, v2, hst2⟩
  have ST2 := Lib.hid hst2
  have k5 := (hst2.msg.cell 5).trans (mc_get HL.out (i := 5) (by omega))
  have k6 := (hst2.msg.cell 6).trans (mc_get HL.out (i := 6) (by omega))
  have k7 := (hst2.msg.cell 7).trans (mc_get HL.out (i := 7) (by omega))
  have k8 := (hst2.msg.cell 8).trans (mc_get HL.out (i := 8) (by omega))
  have hlt2 := hst2.err.lt
  clear hst2 k3 k4 hlt1
  go_wp2_with fail
  refine (putIn_any w m _ _ 11 1 (by omega) (by omega) [fld m 5, fld m 6, fld m 7, fld m 8] HF.out.c _ 4 4 (by omega) _ (ST2.out.alloc _) (reads_blk (l := [fld m 5, fld m 6, fld m 7, fld m 8]) (Blk.new_at (by simp) _ _) rfl)).mono ?_
  rintro e w3 ⟨rfl, v3, hst3⟩
  have ST3 := Lib.hid hst3
  have k9 := (hst3.msg.cell 9).trans (mc_get HL.out (i := 9) (by omega))
  have k10 := (hst3.msg.cell 10).trans (mc_get HL.out (i := 10) (by omega))
  have hlt3 := hst3.err.lt
  clear hst3 k5 k6 k7 k8 hlt2
  go_wp2_with fail
  refine (putIn_any w m _ _ 15 4 (by omega) (by omega) [fld m 9, fld m 10] HF.out.d _ 2 2 (by omega) _ (ST3.out.alloc _) (reads_blk (l := [fld m 9, fld m 10]) (Blk.new_at (by simp) _ _) rfl)).mono ?_
  rintro e w4 ⟨rfl, v4, hst4⟩
  have ST4 := Lib.hid hst4
  have k11 := (hst4.msg.cell 11).trans (mc_get HL.out (i := 11) (by omega))
  have hlt4 := hst4.err.lt
  clear hst4 k9 k10 hlt3
  go_wp2_with fail
  refine (putIn_any w m _ _ 23 1 (by omega) (by omega) [fld m 11] HF.out.e _ 1 1 (by omega) _ (ST4.out.alloc _) (reads_blk (l := [fld m 11]) (Blk.new_at (by simp) _ _) rfl)).mono ?_
  rintro e w5 ⟨rfl, v5, hst5⟩
  have ST5 := Lib.hid hst5
  have HP := Lib.hid (mc_path HL.out hst5.msg)
  have HZ := Lib.hid (pathL_size HL.out)
  have hlt5 := hst5.err.lt
  clear hst5 k11 hlt4
  go_wp2_with (refine wpList_load_cells rfl 27 _ rfl ⟨w.heap.size, 12, none⟩ rfl (ints (pathL m)) _ HP.out Try.underlying27 rfl HZ.out ?_)
  clear hlt5
  go_loopw [51] (fun k W => ∃ j : Nat, j ≤ 8 ∧ k = .int .i64 j ∧ ∃ v, PutSt w m (headM m ++ encL 4 ((pathL m).take (j * 2))) v (24 + 8 * j) W) (fun k _ => 8 - (intOf k).toNat)
  case atStart => exact ⟨0, by omega, rfl, _, by simpa [headM, encL] using ST5.out⟩
  case round =>
    obtain ⟨j, hj, rfl, v, hst⟩ := hrel
    rename World => W
    have ST := Lib.hid hst
    have hlw := hst.err.lt
    clear hst
    by_cases hlt : j < 8
    · have hix := fun w => index_path HL.out hlt w
      have HT := Lib.hid (take_step HL.out hlt)
      have HFT := Lib.hid (HF.out.f j hlt)
      go_wp2_with fail
      refine (putIn_any w m _ _ (24 + 8 * j) 4 (by omega) (by omega) [stTx m j, stSeq m j] HFT.out _ 2 2 (by omega) _ ((ST.out.alloc _).alloc _) (reads_blk (l := [stTx m j, stSeq m j]) (Blk.new_at (by simp) _ _) rfl)).mono ?_
      rintro e w7 ⟨rfl, v7, hst7⟩
      rw [List.append_assoc, HT.out, show 24 + 8 * j + 4 * 2 = 24 + 8 * (j + 1) by omega] at hst7
      have ST7 := Lib.hid hst7
      clear hst7 hix
      go_wp2_with fail
      go_roundw
      case rel => exact ⟨j + 1, by omega, by go_num, v7, ST7.out⟩
      case measure => simp [intOf]; omega
    · obtain rfl : j = 8 := by omega
      have HT := Lib.hid (show (pathL m).take (8 * 2) = pathL m from List.take_of_length_le (by simp [pathL, HL.out]))
      obtain ⟨A, c, rfl, _, _⟩ := own_slice ST.out.own
      have t0 := ST.out.bts.cell 0
      have e0 := ST.out.err.cell 0
      have t1 := ST.out.bts.frozen 0
      have e1 := ST.out.err.frozen 0
      go_wp2_with fail
      go_region
      all_goals
        go_wp2_with fail
        have q0 : (W.setCell ⟨w.heap.size + 1, 0, none⟩ (.slice A 88 c)).cell? ⟨w.heap.size + 1, 0, none⟩ = some (.slice A 88 c) := (ST.out.bts.set_ 0 (.slice A 88 c)).cell 0
        have q1 : ((W.setCell ⟨w.heap.size + 1, 0, none⟩ (.slice A 88 c)).setCell ⟨w.heap.size + 1 + 1, 0, none⟩ .nilIface).cell? ⟨w.heap.size + 1 + 1, 0, none⟩ = some .nilIface := ((ST.out.err.far (by simp) (.slice A 88 c)).set_ 0 .nilIface).cell 0
        refine bodyPost_ret (v := .tuple #[.slice A 88 c, .nilIface]) (by simp [results, Try.results18, go_sem, q0, q1]) rfl ⟨A, c, rfl, ?_, ?_⟩
        · refine World.ownsRow.drew (own_base (own_keepG (base := w.heap.size + 3) (w := W) ?_ fun g hg => ?_) (by omega))
          · have := ST.out.own
            rw [HT.out] at this
            exact this
          · rw [Below.heap_setCell _ _ _ g (by simp; omega), Below.heap_setCell _ _ _ g (by simp; omega)]
        · exact ((ST.out.bel.setCell (by simp) _).setCell (by simp; omega) _).drew
end Go.Proofs.Ythdfgdehddmkpaa
