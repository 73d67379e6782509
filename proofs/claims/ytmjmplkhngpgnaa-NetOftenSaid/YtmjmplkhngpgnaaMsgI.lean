/- The contract of package msg's write. -/
import Derived.Test.YtmjmplkhngpgnaaMsgF
import Derived.Test.YtmjmplkhngpgnaaWord
import Derived.Test.YtmjmplkhngpgnaaBase
namespace Go.Proofs.Ytmjmplkhngpgnaa
open Go.RowKit
set_option linter.unusedVariables false
set_option linter.unusedSimpArgs false

/-- What a row of the call's own is, in a world whose rows are as they were. -/
theorem own_keepG {w w' : World} {base size n : Nat} {t : TypeId} {v : Value} {xs : List Value} (h : w.ownsRow base t size v n xs) (hk : ∀ g, base ≤ g → w'.heap[g]? = w.heap[g]?) : w'.ownsRow base t size v n xs := by
  rcases h with ⟨h0, h1 | ⟨g, cap, cur, hv, hb, hh, h2⟩⟩
  · exact ⟨h0, .inl h1⟩
  · exact ⟨h0, .inr ⟨g, cap, cur, hv, hb, (hk g hb).trans hh, h2⟩⟩
/-- What holds between two puts. -/
structure PutSt (w : World) (m : List Int) (bs : List UInt8) (v : Value) (n : Nat) (W : World) : Prop where
  msg : Blk W w.heap.size 31 (mc m)
  bts : Blk W (w.heap.size + 1) 22 #[v]
  err : Blk W (w.heap.size + 2) 33 #[.nilIface]
  own : W.ownsRow (w.heap.size + 3) 5 1 v n (u8s bs)
  bel : Below w.heap.size w W
theorem PutSt.alloc {w W : World} {m : List Int} {bs : List UInt8} {v : Value} {n : Nat} (h : PutSt w m bs v n W) (o : Obj) : PutSt w m bs v n (W.alloc o) :=
  ⟨h.msg.alloc o, h.bts.alloc o, h.err.alloc o, h.own.alloc o, h.bel.alloc h.bel.size o⟩
theorem own_base {w : World} {base base' size n : Nat} {t : TypeId} {v : Value} {xs : List Value} (h : w.ownsRow base t size v n xs) (hb : base' ≤ base) : w.ownsRow base' t size v n xs := by
  rcases h with ⟨h0, h1 | ⟨g, cap, cur, hv, hg, h2⟩⟩
  · exact ⟨h0, .inl h1⟩
  · exact ⟨h0, .inr ⟨g, cap, cur, hv, Nat.le_trans hb hg, h2⟩⟩

set_option maxRecDepth 100000 in
set_option maxHeartbeats 4000000 in
theorem putIn_any (w : World) (m : List Int) (bs : List UInt8) (v : Value) (n : Nat) (wd : Nat) (h1 : 1 ≤ wd) (h4 : wd ≤ 4) (is : List Int) (hf : AllFit wd is) (A' : Option Addr) (m' cap' : Nat) (hN : n + wd * m' ≤ 211106232532992) (W : World)
    (st : PutSt w m bs v n W) (hl : Reads W W.heap.size 1 A' m' (i64s is)) :
    Calls Try.prog 57 #[.int .i64 wd, .slice A' m' cap', .pointer (some ⟨w.heap.size + 2, 0, none⟩), .pointer (some ⟨w.heap.size + 1, 0, none⟩)] W
      fun e w' => e = .returned (.tuple #[]) ∧ ∃ v', PutSt w m (bs ++ encL wd is) v' (n + wd * m') w' := by
  obtain ⟨A, c, rfl, hR, hA⟩ := own_slice st.own
  have ST := Lib.hid st
  have HL := Lib.hid hl
  have HR := Lib.hid hR
  have k0 := st.err.cell 0
  have k1 := st.bts.cell 0
  have HF := Lib.hid hf
  have hn := fun W => run_eql_nil_nil (P := Try.prog) W 33 Try.underlying33
  clear st hl hR hA hf
  go_enter Try.func57, Try.ntmps57
  go_wp2_with fail
  refine (put_ok HF.out A A' n c m' cap' bs h1 h4 hN _ HR.out HL.out).mono ?_
  rintro e w5 ⟨v5, rfl, hown5, hb5⟩
  obtain ⟨A5, c5, rfl, _, _⟩ := own_slice hown5
  have M5 := Lib.hid (ST.out.msg.here hb5)
  have T5 := Lib.hid (ST.out.bts.here hb5)
  have E5 := Lib.hid (ST.out.err.here hb5)
  have B5 := Lib.hid (stepB ST.out.bel hb5)
  have O5 := Lib.hid hown5
  have t0 := T5.out.cell 0
  have e0 := E5.out.cell 0
  have t1 := T5.out.frozen 0
  have e1 := E5.out.frozen 0
  clear hown5 hb5
  go_wp2_with fail
  go_end0
  refine ⟨rfl, .slice A5 (n + wd * m') c5, ?_, ?_, ?_, ?_, ?_⟩
  · exact (M5.out.far (by simp) _).far (by simp) _
  · exact (T5.out.set_ 0 _).far (by simp) _
  · exact (E5.out.far (by simp) _).set_ 0 _
  · refine own_base (own_keepG O5.out fun g hg => ?_) (by have := ST.out.err.lt; omega)
    have := ST.out.err.lt
    rw [Below.heap_setCell _ _ _ g (by simp; omega), Below.heap_setCell _ _ _ g (by simp; omega)]
  · exact (B5.out.setCell (by simp) _).setCell (by simp) _

/-- A message's first bytes, and all. -/
def headM (m : List Int) : List UInt8 := encL 1 [fld m 0, fld m 1, fld m 2] ++ encL 4 [fld m 3, fld m 4] ++ encL 1 [fld m 5, fld m 6, fld m 7, fld m 8] ++ encL 4 [fld m 9, fld m 10] ++ encL 1 [fld m 11]
def encM (m : List Int) : List UInt8 := headM m ++ encL 4 (pathL m)
/-- All numbers fit. -/
structure FitsM (m : List Int) : Prop where
  a : AllFit 1 [fld m 0, fld m 1, fld m 2]
  b : AllFit 4 [fld m 3, fld m 4]
  c : AllFit 1 [fld m 5, fld m 6, fld m 7, fld m 8]
  d : AllFit 4 [fld m 9, fld m 10]
  e : AllFit 1 [fld m 11]
  f : ∀ i, i < 8 → AllFit 4 [stTx m i, stSeq m i]
theorem reads_blk {w : World} {b : Nat} {t : TypeId} {l : List Int} {n : Nat} (h : Blk w b t (i64s l).toArray) (hn : l.length = n) : Reads w w.heap.size 1 (some ⟨b, 0, none⟩) n (i64s l) :=
  ⟨by simp [i64s, hn], fun _ => ⟨_, rfl, h.lt, fun j u hu => by
    have := h.cell j
    rw [show (⟨b, 0, none⟩ : Addr).add j = ⟨b, j, none⟩ by unfold Addr.add; split <;> simp_all, this]
    simpa using hu⟩⟩

theorem take_step {m : List Int} (hl : m.length = 28) {j : Nat} (hj : j < 8) : encL 4 ((pathL m).take (j * 2)) ++ encL 4 [stTx m j, stSeq m j] = encL 4 ((pathL m).take ((j + 1) * 2)) := by
  rw [← pathL_step hl hj, Nat.succ_mul, List.take_add]
  simp [encL, List.flatMap_append]
set_option maxRecDepth 100000 in
set_option maxHeartbeats 8000000 in
theorem write_any (m : List Int) (hl : m.length = 28) (hf : FitsM m) (w : World) :
    Calls Try.prog 44 #[.agg (mc m)] w fun e w' => ∃ A c, e = .returned (.tuple #[.slice A 88 c, .nilIface]) ∧ w'.ownsRow w.heap.size 5 1 (.slice A 88 c) 88 (u8s (encM m)) ∧ Below w.heap.size w w' := by
  have HL := Lib.hid hl
  have HF := Lib.hid hf
  have S0 := Lib.hid (show PutSt w m [] (.slice none 0 0) 0 (((w.alloc (.cells (mc m) 31)).alloc (.cells #[.slice none 0 0] 22)).alloc (.cells #[.nilIface] 33)) from
    ⟨((Blk.new _ _ _).alloc _).alloc _, (Blk.new_at (by simp) _ _).alloc _, Blk.new_at (by simp) _ _, World.ownsRow_nil _ _ _ _, ((Below.alloc (Below.refl _ _) (Nat.le_refl _) _).alloc (by simp) _).alloc (by simp; omega) _⟩)
  have c0 := mc_get hl (i := 0) (by omega)
  have c1 := mc_get hl (i := 1) (by omega)
  have c2 := mc_get hl (i := 2) (by omega)
  have hmf : ∀ (fn : Fn) (first cap : Array Value) (w : World), (Instr.makeFunc fn first cap).run Try.prog w = .ok (.func fn first cap) w := fun _ _ _ _ => rfl
  clear hl hf
  go_enter Try.func44, Try.ntmps44
  go_wp2_with fail
  refine (putIn_any w m [] _ 0 1 (by omega) (by omega) [fld m 0, fld m 1, fld m 2] HF.out.a _ 3 3 (by omega) _ (S0.out.alloc _) (reads_blk (l := [fld m 0, fld m 1, fld m 2]) (Blk.new_at (by simp) _ _) rfl)).mono ?_
  rintro e w1 ⟨rfl, v1, hst1⟩
  have ST1 := Lib.hid hst1
  have k3 := (hst1.msg.cell 3).trans (mc_get HL.out (i := 3) (by omega))
  have k4 := (hst1.msg.cell 4).trans (mc_get HL.out (i := 4) (by omega))
  have hlt1 := hst1.err.lt
  clear hst1 
  go_wp2_with fail
  refine (putIn_any w m _ _ 3 4 (by omega) (by omega) [fld m 3, fld m 4] HF.out.b _ 2 2 (by omega) _ (ST1.out.alloc _) (reads_blk (l := [fld m 3, fld m 4]) (Blk.new_at (by simp) _ _) rfl)).mono ?_
  rintro e w2 ⟨rfl, v2, hst2⟩
  have ST2 := Lib.hid hst2
  have k5 := (hst2.msg.cell 5).trans (mc_get HL.out (i := 5) (by omega))
  have k6 := (hst2.msg.cell 6).trans (mc_get HL.out (i := 6) (by omega))
  have k7 := (hst2.msg.cell 7).trans (mc_get HL.out (i := 7) (by omega))
  have k8 := (hst2.msg.cell 8).trans (mc_get HL.out (i := 8) (by omega))
  have hlt2 := hst2.err.lt
  clear hst2 k3 k4 hlt1
  go_wp2_with fail
  refine (putIn_any w m _ _ 11 1 (by omega) (by omega) [fld m 5, fld m 6, fld m 7, fld m 8] HF.out.c _ 4 4 (by omega) _ (ST2.out.alloc _) (reads_blk (l := [fld m 5, fld m 6, fld m 7, fld m 8]) (Blk.new_at (by simp) _ _) rfl)).mono ?_
  rintro e w3 ⟨rfl, v3, hst3⟩
  have ST3 := Lib.hid hst3
  have k9 := (hst3.msg.cell 9).trans (mc_get HL.out (i := 9) (by omega))
  have k10 := (hst3.msg.cell 10).trans (mc_get HL.out (i := 10) (by omega))
  have hlt3 := hst3.err.lt
  clear hst3 k5 k6 k7 k8 hlt2
  go_wp2_with fail
  refine (putIn_any w m _ _ 15 4 (by omega) (by omega) [fld m 9, fld m 10] HF.out.d _ 2 2 (by omega) _ (ST3.out.alloc _) (reads_blk (l := [fld m 9, fld m 10]) (Blk.new_at (by simp) _ _) rfl)).mono ?_
  rintro e w4 ⟨rfl, v4, hst4⟩
  have ST4 := Lib.hid hst4
  have k11 := (hst4.msg.cell 11).trans (mc_get HL.out (i := 11) (by omega))
  have hlt4 := hst4.err.lt
  clear hst4 k9 k10 hlt3
  go_wp2_with fail
  refine (putIn_any w m _ _ 23 1 (by omega) (by omega) [fld m 11] HF.out.e _ 1 1 (by omega) _ (ST4.out.alloc _) (reads_blk (l := [fld m 11]) (Blk.new_at (by simp) _ _) rfl)).mono ?_
  rintro e w5 ⟨rfl, v5, hst5⟩
  have ST5 := Lib.hid hst5
  have HP := Lib.hid (mc_path HL.out hst5.msg)
  have HZ := Lib.hid (pathL_size HL.out)
  have hlt5 := hst5.err.lt
  clear hst5 k11 hlt4
  go_wp2_with (refine wpList_load_cells rfl 29 _ rfl ⟨w.heap.size, 12, none⟩ rfl (ints (pathL m)) _ HP.out Try.underlying29 rfl HZ.out ?_)
  clear hlt5
  go_loopw [51] (fun k W => ∃ j : Nat, j ≤ 8 ∧ k = .int .i64 j ∧ ∃ v, PutSt w m (headM m ++ encL 4 ((pathL m).take (j * 2))) v (24 + 8 * j) W) (fun k _ => 8 - (intOf k).toNat)
  case atStart => exact ⟨0, by omega, rfl, _, by simpa [headM, encL] using ST5.out⟩
  case round =>
    obtain ⟨j, hj, rfl, v, hst⟩ := hrel
    rename World => W
    have ST := Lib.hid hst
    have hlw := hst.err.lt
    clear hst
    by_cases hlt : j < 8
    · have hix := fun w => index_path HL.out hlt w
      have HT := Lib.hid (take_step HL.out hlt)
      have HFT := Lib.hid (HF.out.f j hlt)
      go_wp2_with fail
      refine (putIn_any w m _ _ (24 + 8 * j) 4 (by omega) (by omega) [stTx m j, stSeq m j] HFT.out _ 2 2 (by omega) _ ((ST.out.alloc _).alloc _) (reads_blk (l := [stTx m j, stSeq m j]) (Blk.new_at (by simp) _ _) rfl)).mono ?_
      rintro e w7 ⟨rfl, v7, hst7⟩
      rw [List.append_assoc, HT.out, show 24 + 8 * j + 4 * 2 = 24 + 8 * (j + 1) by omega] at hst7
      have ST7 := Lib.hid hst7
      clear hst7 hix
      go_wp2_with fail
      go_roundw
      case rel => exact ⟨j + 1, by omega, by go_num, v7, ST7.out⟩
      case measure => simp [intOf]; omega
    · obtain rfl : j = 8 := by omega
      have HT := Lib.hid (show (pathL m).take (8 * 2) = pathL m from List.take_of_length_le (by simp [pathL, HL.out]))
      obtain ⟨A, c, rfl, _, _⟩ := own_slice ST.out.own
      have t0 := ST.out.bts.cell 0
      have e0 := ST.out.err.cell 0
      have t1 := ST.out.bts.frozen 0
      have e1 := ST.out.err.frozen 0
      go_wp2_with fail
      go_region
      all_goals
        go_wp2_with fail
        have q0 : (W.setCell ⟨w.heap.size + 1, 0, none⟩ (.slice A 88 c)).cell? ⟨w.heap.size + 1, 0, none⟩ = some (.slice A 88 c) := (ST.out.bts.set_ 0 (.slice A 88 c)).cell 0
        have q1 : ((W.setCell ⟨w.heap.size + 1, 0, none⟩ (.slice A 88 c)).setCell ⟨w.heap.size + 1 + 1, 0, none⟩ .nilIface).cell? ⟨w.heap.size + 1 + 1, 0, none⟩ = some .nilIface := ((ST.out.err.far (by simp) (.slice A 88 c)).set_ 0 .nilIface).cell 0
        refine bodyPost_ret (v := .tuple #[.slice A 88 c, .nilIface]) (by simp [results, Try.results44, go_sem, q0, q1]) rfl ⟨A, c, rfl, ?_, ?_⟩
        · refine World.ownsRow.drew (own_base (own_keepG (base := w.heap.size + 3) (w := W) ?_ fun g hg => ?_) (by omega))
          · have := ST.out.own
            rw [HT.out] at this
            exact this
          · rw [Below.heap_setCell _ _ _ g (by simp; omega), Below.heap_setCell _ _ _ g (by simp; omega)]
        · exact ((ST.out.bel.setCell (by simp) _).setCell (by simp; omega) _).drew
end Go.Proofs.Ytmjmplkhngpgnaa
/- The contract of package msg's read. -/
namespace Go.Proofs.Ytmjmplkhngpgnaa
open Go.RowKit
set_option linter.unusedVariables false
set_option linter.unusedSimpArgs false

/-- Where a message's number stands in its bytes, and in how many. -/
def posM (i : Nat) : Nat := if i < 3 then i else if i < 5 then 3 + 4 * (i - 3) else if i < 9 then 11 + (i - 5) else if i < 11 then 15 + 4 * (i - 9) else if i < 12 then 23 else 24 + 4 * (i - 12)
def widM (i : Nat) : Nat := if i < 3 then 1 else if i < 5 then 4 else if i < 9 then 1 else if i < 11 then 4 else if i < 12 then 1 else 4
theorem pos_wid {i : Nat} (h : i < 28) : posM i + widM i ≤ 88 := by
  unfold posM widM
  split <;> (try split) <;> (try split) <;> (try split) <;> (try split) <;> omega
/-- A number of the message of bytes. -/
def decAt (l : List UInt8) (i : Nat) : Int := ((decN ((l.drop (posM i)).take (widM i)) : Nat) : Int)
/-- The message of bytes; so far. -/
def decM (l : List UInt8) : List Int := (List.range 28).map (decAt l)
def fillM (l : List UInt8) (c : Nat) : List Int := (List.range 28).map fun i => if i < c then decAt l i else 0
@[simp] theorem decM_length (l : List UInt8) : (decM l).length = 28 := by simp [decM]
@[simp] theorem fillM_length (l : List UInt8) (c : Nat) : (fillM l c).length = 28 := by simp [fillM]
theorem fillM_zero (l : List UInt8) : fillM l 0 = List.replicate 28 0 := by simp [fillM]; rfl
theorem fillM_all (l : List UInt8) : fillM l 28 = decM l := by
  unfold fillM decM
  apply List.map_congr_left
  intro i hi
  rw [if_pos (by simpa using hi)]
theorem fillM_set (l : List UInt8) {c : Nat} (h : c < 28) : (fillM l c).set c (decAt l c) = fillM l (c + 1) := by
  apply List.ext_getElem?
  intro i
  rw [List.getElem?_set]
  by_cases hi : i < 28
  · by_cases hc : c = i
    · subst hc; simp [fillM, h]
    · rw [if_neg hc]
      simp only [fillM, List.getElem?_map, List.getElem?_range hi, Option.map_some]
      by_cases h2 : i < c
      · rw [if_pos h2, if_pos (by omega)]
      · rw [if_neg h2, if_neg (by omega)]
  · rw [if_neg (by omega), List.getElem?_eq_none (by simp; omega), List.getElem?_eq_none (by simp; omega)]

/-- What holds between two takes. -/
structure TkSt (w : World) (r n cap : Nat) (A : Option Addr) (l : List UInt8) (k c : Nat) (W : World) : Prop where
  rlt : r < w.heap.size
  box : Blk W w.heap.size 71 #[.func (.func 31) #[.pointer (some ⟨r, 0, none⟩)] #[]]
  msg : Blk W (w.heap.size + 1) 31 (mc (fillM l c))
  err : Blk W (w.heap.size + 2) 33 #[.nilIface]
  rd : RdAt W r A n cap k
  rds : Reads W r 1 A n (u8s l)
  bel : Below r w W
section
variable {w W : World} {r n cap k c : Nat} {A : Option Addr} {l : List UInt8}
theorem TkSt.store (h : TkSt w r n cap A l k c W) (hc : c < 28) {x : Int} (hx : x = decAt l c) : TkSt w r n cap A l k (c + 1) (W.setCell ⟨w.heap.size + 1, c, none⟩ (.int .i64 x)) :=
  ⟨h.rlt, h.box.far (by simp) _, by
    have := h.msg.set_ c (.int .i64 x)
    rw [mc_set, hx, fillM_set l hc] at this
    rw [hx]; exact this, h.err.far (by simp) _, h.rd.far (by have := h.rlt; simp; omega) _, h.rds.setCell (by have := h.rlt; simp; omega) _, h.bel.setCell (by have := h.rlt; simp; omega) _⟩
theorem TkSt.drew (h : TkSt w r n cap A l k c W) : TkSt w r n cap A l k c W.drew := ⟨h.rlt, h.box.drew, h.msg.drew, h.err.drew, h.rd.drew, h.rds.drew, h.bel.drew⟩
end

set_option maxRecDepth 100000 in
set_option maxHeartbeats 4000000 in
theorem nextIn_any (w : World) (r n cap : Nat) (A : Option Addr) (l : List UInt8) (k c wd : Nat) (h1 : 1 ≤ wd) (h4 : wd ≤ 4) (hk : k + wd ≤ n) (hn : n ≤ 140737488355328) (W : World) (st : TkSt w r n cap A l k c W) :
    Calls Try.prog 45 #[.int .i64 wd, .pointer (some ⟨w.heap.size + 2, 0, none⟩), .pointer (some ⟨w.heap.size, 0, none⟩)] W
      fun e w' => e = .returned (.int .i64 (decN ((l.drop k).take wd))) ∧ TkSt w r n cap A l (k + wd) c w' := by
  have ST := Lib.hid st
  have k0 := st.err.cell 0
  have k1 := st.box.cell 0
  have hn0 := fun W => run_eql_nil_nil (P := Try.prog) W 33 Try.underlying33
  clear st
  go_enter Try.func45, Try.ntmps45
  go_wp2_with fail
  refine (take_ok r n cap k wd A l h1 h4 hk hn _ ST.out.rd (ST.out.rds.more (Nat.le_of_lt ST.out.rd.lt))).mono ?_
  rintro e w5 ⟨rfl, q, rfl⟩
  have hr0 := ST.out.rlt
  have S5 := Lib.hid (show TkSt w r n cap A l (k + wd) c ((W.drewN q).setCell ⟨r, 1, none⟩ (.int .i64 ((k + wd : Nat) : Int))) from
    ⟨ST.out.rlt, (ST.out.box.drewN q).far (by simp; omega) _, (ST.out.msg.drewN q).far (by simp; omega) _, (ST.out.err.drewN q).far (by simp; omega) _, (ST.out.rd.drewN q).set_ 1 _, (ST.out.rds.drewN q).setCell (Nat.le_refl _) _, (below_drewN ST.out.bel q).setCell (Nat.le_refl _) _⟩)
  generalize (W.drewN q).setCell ⟨r, 1, none⟩ (.int .i64 ((k + wd : Nat) : Int)) = V at S5 ⊢
  have e0 := S5.out.err.cell 0
  have e1 := S5.out.err.frozen 0
  clear k0 k1
  go_wp2_with fail
  go_ret
  exact ⟨rfl, S5.out.rlt, S5.out.box.far (by simp) _, S5.out.msg.far (by simp) _, S5.out.err.set_ 0 _, S5.out.rd.far (by simp; omega) _, S5.out.rds.setCell (by simp; omega) _, S5.out.bel.setCell (by simp; omega) _⟩
/-- The same, by the number's place in the message. -/
theorem nextAt (i : Nat) (w : World) (r cap : Nat) (A : Option Addr) (l : List UInt8) (k c wd : Nat) (hi : i < 28) (hp : posM i = k) (hw : widM i = wd) (h1 : 1 ≤ wd) (h4 : wd ≤ 4) (W : World) (st : TkSt w r 88 cap A l k c W) :
    Calls Try.prog 45 #[.int .i64 wd, .pointer (some ⟨w.heap.size + 2, 0, none⟩), .pointer (some ⟨w.heap.size, 0, none⟩)] W
      fun e w' => e = .returned (.int .i64 (decAt l i)) ∧ TkSt w r 88 cap A l (k + wd) c w' :=
  (nextIn_any w r 88 cap A l k c wd h1 h4 (by have := pos_wid hi; omega) (by omega) W st).mono fun e w' ⟨he, hs⟩ => ⟨by rw [he]; subst hp; subst hw; rfl, hs⟩

set_option maxRecDepth 100000 in
set_option maxHeartbeats 8000000 in
theorem read_any (r cap : Nat) (A : Option Addr) (l : List UInt8) (w : World) (hrd : RdAt w r A 88 cap (0 : Nat)) (hrs : Reads w r 1 A 88 (u8s l)) :
    Calls Try.prog 29 #[.func (.func 31) #[.pointer (some ⟨r, 0, none⟩)] #[]] w fun e w' => e = .returned (.tuple #[.agg (mc (decM l)), .nilIface]) ∧ Below r w w' := by
  have hr0 : r < w.heap.size := hrd.lt
  have S0 := Lib.hid (show TkSt w r 88 cap A l 0 0 (((w.alloc (.cells #[.func (.func 31) #[.pointer (some ⟨r, 0, none⟩)] #[]] 71)).alloc (.cells (mc (fillM l 0)) 31)).alloc (.cells #[.nilIface] 33)) from
    ⟨hr0, ((Blk.new _ _ _).alloc _).alloc _, (Blk.new_at (by simp) _ _).alloc _, Blk.new_at (by simp) _ _, ((hrd.alloc _).alloc _).alloc _, ((hrs.alloc (Nat.le_of_lt hr0) _).alloc (by simp; omega) _).alloc (by simp; omega) _,
      ((Below.alloc (Below.refl _ _) (Nat.le_of_lt hr0) _).alloc (by simp; omega) _).alloc (by simp; omega) _⟩)
  rw [show mc (fillM l 0) = #[.int .i64 0, .int .i64 0, .int .i64 0, .int .i64 0, .int .i64 0, .int .i64 0, .int .i64 0, .int .i64 0, .int .i64 0, .int .i64 0, .int .i64 0, .int .i64 0, .int .i64 0, .int .i64 0, .int .i64 0, .int .i64 0, .int .i64 0, .int .i64 0, .int .i64 0, .int .i64 0, .int .i64 0, .int .i64 0, .int .i64 0, .int .i64 0, .int .i64 0, .int .i64 0, .int .i64 0, .int .i64 0] from by rw [fillM_zero]; rfl] at S0
  have hmf : ∀ (fn : Fn) (first cap : Array Value) (w : World), (Instr.makeFunc fn first cap).run Try.prog w = .ok (.func fn first cap) w := fun _ _ _ _ => rfl
  clear hrd hrs
  go_enter Try.func29, Try.ntmps29
  go_wp2_with fail
  refine (nextAt 0 w r cap A l 0 0 1 (by omega) rfl rfl (by omega) (by omega) _ S0.out).mono ?_
  rintro e w1 ⟨rfl, hst1⟩
  have S1 := Lib.hid (show TkSt w r 88 cap A l 1 0 w1 from hst1)
  clear hst1
  go_wp2_with fail
  refine (nextAt 1 w r cap A l 1 0 1 (by omega) rfl rfl (by omega) (by omega) _ S1.out).mono ?_
  rintro e w2 ⟨rfl, hst2⟩
  have S2 := Lib.hid (show TkSt w r 88 cap A l 2 0 w2 from hst2)
  clear hst2
  go_wp2_with fail
  refine (nextAt 2 w r cap A l 2 0 1 (by omega) rfl rfl (by omega) (by omega) _ S2.out).mono ?_
  rintro e w3 ⟨rfl, hst3⟩
  have S3 := Lib.hid (show TkSt w r 88 cap A l 3 0 w3 from hst3)
  clear hst3
  have k0 := (S3.out.msg.cell 0).trans (mc_get (by simp) (i := 0) (by omega))
  have g0 := S3.out.msg.frozen 0
  have k1 := (S3.out.msg.cell 1).trans (mc_get (by simp) (i := 1) (by omega))
  have g1 := S3.out.msg.frozen 1
  have k2 := (S3.out.msg.cell 2).trans (mc_get (by simp) (i := 2) (by omega))
  have g2 := S3.out.msg.frozen 2
  go_wp2_with fail
  clear k0 g0
  clear k1 g1
  clear k2 g2
  refine (nextAt 3 w r cap A l 3 3 4 (by omega) rfl rfl (by omega) (by omega) _ (TkSt.store (TkSt.store (TkSt.store S3.out (by omega) (c := 0) (x := decAt l 0) rfl) (by omega) (c := 1) (x := decAt l 1) rfl) (by omega) (c := 2) (x := decAt l 2) rfl)).mono ?_
  rintro e w4 ⟨rfl, hst4⟩
  have S4 := Lib.hid (show TkSt w r 88 cap A l 7 3 w4 from hst4)
  clear hst4
  go_wp2_with fail
  refine (nextAt 4 w r cap A l 7 3 4 (by omega) rfl rfl (by omega) (by omega) _ S4.out).mono ?_
  rintro e w5 ⟨rfl, hst5⟩
  have S5 := Lib.hid (show TkSt w r 88 cap A l 11 3 w5 from hst5)
  clear hst5
  have k3 := (S5.out.msg.cell 3).trans (mc_get (by simp) (i := 3) (by omega))
  have g3 := S5.out.msg.frozen 3
  have k4 := (S5.out.msg.cell 4).trans (mc_get (by simp) (i := 4) (by omega))
  have g4 := S5.out.msg.frozen 4
  go_wp2_with fail
  clear k3 g3
  clear k4 g4
  refine (nextAt 5 w r cap A l 11 5 1 (by omega) rfl rfl (by omega) (by omega) _ (TkSt.store (TkSt.store S5.out (by omega) (c := 3) (x := decAt l 3) rfl) (by omega) (c := 4) (x := decAt l 4) rfl)).mono ?_
  rintro e w6 ⟨rfl, hst6⟩
  have S6 := Lib.hid (show TkSt w r 88 cap A l 12 5 w6 from hst6)
  clear hst6
  go_wp2_with fail
  refine (nextAt 6 w r cap A l 12 5 1 (by omega) rfl rfl (by omega) (by omega) _ S6.out).mono ?_
  rintro e w7 ⟨rfl, hst7⟩
  have S7 := Lib.hid (show TkSt w r 88 cap A l 13 5 w7 from hst7)
  clear hst7
  go_wp2_with fail
  refine (nextAt 7 w r cap A l 13 5 1 (by omega) rfl rfl (by omega) (by omega) _ S7.out).mono ?_
  rintro e w8 ⟨rfl, hst8⟩
  have S8 := Lib.hid (show TkSt w r 88 cap A l 14 5 w8 from hst8)
  clear hst8
  go_wp2_with fail
  refine (nextAt 8 w r cap A l 14 5 1 (by omega) rfl rfl (by omega) (by omega) _ S8.out).mono ?_
  rintro e w9 ⟨rfl, hst9⟩
  have S9 := Lib.hid (show TkSt w r 88 cap A l 15 5 w9 from hst9)
  clear hst9
  have k5 := (S9.out.msg.cell 5).trans (mc_get (by simp) (i := 5) (by omega))
  have g5 := S9.out.msg.frozen 5
  have k6 := (S9.out.msg.cell 6).trans (mc_get (by simp) (i := 6) (by omega))
  have g6 := S9.out.msg.frozen 6
  have k7 := (S9.out.msg.cell 7).trans (mc_get (by simp) (i := 7) (by omega))
  have g7 := S9.out.msg.frozen 7
  have k8 := (S9.out.msg.cell 8).trans (mc_get (by simp) (i := 8) (by omega))
  have g8 := S9.out.msg.frozen 8
  go_wp2_with fail
  clear k5 g5
  clear k6 g6
  clear k7 g7
  clear k8 g8
  refine (nextAt 9 w r cap A l 15 9 4 (by omega) rfl rfl (by omega) (by omega) _ (TkSt.store (TkSt.store (TkSt.store (TkSt.store S9.out (by omega) (c := 5) (x := decAt l 5) rfl) (by omega) (c := 6) (x := decAt l 6) rfl) (by omega) (c := 7) (x := decAt l 7) rfl) (by omega) (c := 8) (x := decAt l 8) rfl)).mono ?_
  rintro e w10 ⟨rfl, hst10⟩
  have S10 := Lib.hid (show TkSt w r 88 cap A l 19 9 w10 from hst10)
  clear hst10
  go_wp2_with fail
  refine (nextAt 10 w r cap A l 19 9 4 (by omega) rfl rfl (by omega) (by omega) _ S10.out).mono ?_
  rintro e w11 ⟨rfl, hst11⟩
  have S11 := Lib.hid (show TkSt w r 88 cap A l 23 9 w11 from hst11)
  clear hst11
  have k9 := (S11.out.msg.cell 9).trans (mc_get (by simp) (i := 9) (by omega))
  have g9 := S11.out.msg.frozen 9
  have k10 := (S11.out.msg.cell 10).trans (mc_get (by simp) (i := 10) (by omega))
  have g10 := S11.out.msg.frozen 10
  go_wp2_with fail
  clear k9 g9
  clear k10 g10
  refine (nextAt 11 w r cap A l 23 11 1 (by omega) rfl rfl (by omega) (by omega) _ (TkSt.store (TkSt.store S11.out (by omega) (c := 9) (x := decAt l 9) rfl) (by omega) (c := 10) (x := decAt l 10) rfl)).mono ?_
  rintro e w12 ⟨rfl, hst12⟩
  have S12 := Lib.hid (show TkSt w r 88 cap A l 24 11 w12 from hst12)
  clear hst12
  have k11 := (S12.out.msg.cell 11).trans (mc_get (by simp) (i := 11) (by omega))
  have g11 := S12.out.msg.frozen 11
  go_wp2_with fail
  clear k11 g11
  have L0 := Lib.hid (TkSt.store S12.out (by omega) (c := 11) (x := decAt l 11) rfl)
  clear S0 S1 S2 S3 S4 S5 S6 S7 S8 S9 S10 S11 S12
  go_loopw [45] (fun k W => ∃ j : Nat, j ≤ 8 ∧ k = .int .i64 j ∧ TkSt w r 88 cap A l (24 + 8 * j) (12 + j * 2) W) (fun k _ => 8 - (intOf k).toNat)
  case atStart => exact ⟨0, by omega, rfl, L0.out⟩
  case round =>
    obtain ⟨j, hj, rfl, hst⟩ := hrel
    rename World => W
    have ST := Lib.hid hst
    clear hst
    by_cases hlt : j < 8
    · have hp1 : posM (12 + j * 2) = 24 + 8 * j := by unfold posM; rw [if_neg (by omega), if_neg (by omega), if_neg (by omega), if_neg (by omega), if_neg (by omega)]; omega
      have hp2 : posM (12 + j * 2 + 1) = 24 + 8 * j + 4 := by unfold posM; rw [if_neg (by omega), if_neg (by omega), if_neg (by omega), if_neg (by omega), if_neg (by omega)]; omega
      have hv1 : widM (12 + j * 2) = 4 := by unfold widM; rw [if_neg (by omega), if_neg (by omega), if_neg (by omega), if_neg (by omega), if_neg (by omega)]
      have hv2 : widM (12 + j * 2 + 1) = 4 := by unfold widM; rw [if_neg (by omega), if_neg (by omega), if_neg (by omega), if_neg (by omega), if_neg (by omega)]
      have HP1 := Lib.hid hp1
      have HP2 := Lib.hid hp2
      have HV1 := Lib.hid hv1
      have HV2 := Lib.hid hv2
      clear hp1 hp2 hv1 hv2
      go_wp2_with fail
      refine wp_region_held_drew (S := fun _ => True) (by kernel_rfl) trivial (fun hHeld => ?_)
      refine wpAnyH_take (i := 0) (v := ?_) rfl (by kernel_rfl) (by kernel_rfl) (by kernel_rfl) (fun _ _ _ h => h) (Or.inl ⟨by rfl, ?_⟩) (by assumption) ?_
      rotate_left
      · (intro w0 hSw; (try dsimp only at hSw); go_simp; try with_reducible rfl)
      try simp only [List.getElem_toArray, List.getElem_cons_succ, List.getElem_cons_zero, Act.put, List.setIfInBounds_toArray, List.set_cons_zero, List.set_cons_succ]
      refine wpAnyH_take (i := 1) (v := ?_) rfl (by kernel_rfl) (by kernel_rfl) (by kernel_rfl) (fun _ _ _ h => h) (Or.inl ⟨by rfl, ?_⟩) (by assumption) ?_
      rotate_left
      · (intro w0 hSw; (try dsimp only at hSw); go_simp; try with_reducible rfl)
      try simp only [List.getElem_toArray, List.getElem_cons_succ, List.getElem_cons_zero, Act.put, List.setIfInBounds_toArray, List.set_cons_zero, List.set_cons_succ]
      refine wpAnyH_take (i := 2) (v := ?_) rfl (by kernel_rfl) (by kernel_rfl) (by kernel_rfl) (fun _ _ _ h => h) (Or.inl ⟨by rfl, ?_⟩) (by assumption) ?_
      rotate_left
      · (intro w0 hSw; (try dsimp only at hSw); go_simp; try with_reducible rfl)
      try simp only [List.getElem_toArray, List.getElem_cons_succ, List.getElem_cons_zero, Act.put, List.setIfInBounds_toArray, List.set_cons_zero, List.set_cons_succ]
      refine wpAnyH_take (i := 4) (v := ?_) rfl (by kernel_rfl) (by kernel_rfl) (by kernel_rfl) (fun _ _ _ h => h) (Or.inl ⟨by rfl, ?_⟩) (by assumption) ?_
      rotate_left
      · (intro w0 hSw; (try dsimp only at hSw); go_simp; try with_reducible rfl)
      try simp only [List.getElem_toArray, List.getElem_cons_succ, List.getElem_cons_zero, Act.put, List.setIfInBounds_toArray, List.set_cons_zero, List.set_cons_succ]
      refine wpAnyH_take (i := 6) (v := ?_) rfl (by kernel_rfl) (by kernel_rfl) (by kernel_rfl) (fun _ _ _ h => h) (Or.inl ⟨by rfl, ?_⟩) (by assumption) ?_
      rotate_left
      · (intro w0 hSw; (try dsimp only at hSw); go_simp; try with_reducible rfl)
      try simp only [List.getElem_toArray, List.getElem_cons_succ, List.getElem_cons_zero, Act.put, List.setIfInBounds_toArray, List.set_cons_zero, List.set_cons_succ]
      refine wpAnyH_take (i := 10) (v := ?_) rfl (by kernel_rfl) (by kernel_rfl) (by kernel_rfl) (fun _ _ _ h => h) (Or.inl ⟨by rfl, ?_⟩) (by assumption) ?_
      rotate_left
      · (intro w0 hSw; (try dsimp only at hSw); go_simp; try with_reducible rfl)
      try simp only [List.getElem_toArray, List.getElem_cons_succ, List.getElem_cons_zero, Act.put, List.setIfInBounds_toArray, List.set_cons_zero, List.set_cons_succ]
      refine wpAnyH_ready (rs := [3]) (by kernel_rfl) (by simp) ?_
      refine AllReadyH.cons rfl (fun K hK => ?_) AllReadyH.nil
      go_simp
      refine (nextAt (12 + j * 2) w r cap A l (24 + 8 * j) (12 + j * 2) 4 (by omega) HP1.out HV1.out (by omega) (by omega) _ ST.out.drew).mono ?_
      rintro e w5 ⟨rfl, hst5⟩
      have S5 := Lib.hid hst5
      clear hst5
      try go_simp
      refine hK.out _ _ trivial (fun hHeld => ?_)
      clear hK K
      refine wpAnyH_take (i := 7) (v := ?_) rfl (by kernel_rfl) (by kernel_rfl) (by kernel_rfl) (fun _ _ _ h => h) (Or.inl ⟨by rfl, ?_⟩) (by assumption) ?_
      rotate_left
      · (intro w0 hSw; (try dsimp only at hSw); go_simp; try with_reducible rfl)
      try simp only [List.getElem_toArray, List.getElem_cons_succ, List.getElem_cons_zero, Act.put, List.setIfInBounds_toArray, List.set_cons_zero, List.set_cons_succ]
      refine wpAnyH_take (i := 8) (v := ?_) rfl (by kernel_rfl) (by kernel_rfl) (by kernel_rfl) (fun _ _ _ h => h) (Or.inl ⟨by rfl, ?_⟩) (by assumption) ?_
      rotate_left
      · (intro w0 hSw; (try dsimp only at hSw); go_simp; try with_reducible rfl)
      try simp only [List.getElem_toArray, List.getElem_cons_succ, List.getElem_cons_zero, Act.put, List.setIfInBounds_toArray, List.set_cons_zero, List.set_cons_succ]
      refine wpAnyH_ready (rs := [5]) (by kernel_rfl) (by simp) ?_
      refine AllReadyH.cons rfl (fun K hK => ?_) AllReadyH.nil
      go_simp
      refine (nextAt (12 + j * 2 + 1) w r cap A l (24 + 8 * j + 4) (12 + j * 2) 4 (by omega) HP2.out HV2.out (by omega) (by omega) _ S5.out).mono ?_
      rintro e w6 ⟨rfl, hst6⟩
      have S6 := Lib.hid hst6
      have k0 := (hst6.msg.cell (12 + j * 2)).trans (mc_get (by simp) (i := 12 + j * 2) (by omega))
      have k1 := (hst6.msg.cell (12 + j * 2 + 1)).trans (mc_get (by simp) (i := 12 + j * 2 + 1) (by omega))
      have g0 := hst6.msg.frozen (12 + j * 2)
      have g1 := hst6.msg.frozen (12 + j * 2 + 1)
      clear hst6
      try go_simp
      refine hK.out _ _ trivial (fun hHeld => ?_)
      clear hK K
      refine wpAnyH_ready (rs := [9]) (by kernel_rfl) (by simp) ?_
      refine AllReadyH.cons rfl (fun K hK => ?_) AllReadyH.nil
      go_simp
      refine hK.out _ _ trivial (fun hHeld => ?_)
      clear hK K
      refine wpAnyH_take (i := 11) (v := ?_) rfl (by kernel_rfl) (by kernel_rfl) (by kernel_rfl) (fun _ _ _ h => h) (Or.inl ⟨by rfl, ?_⟩) (by assumption) ?_
      rotate_left
      · (intro w0 hSw; (try dsimp only at hSw); go_simp; try with_reducible rfl)
      try simp only [List.getElem_toArray, List.getElem_cons_succ, List.getElem_cons_zero, Act.put, List.setIfInBounds_toArray, List.set_cons_zero, List.set_cons_succ]
      refine wpAnyH_take (i := 12) (v := ?_) rfl (by kernel_rfl) (by kernel_rfl) (by kernel_rfl) (fun _ _ _ h => h) (Or.inl ⟨by rfl, ?_⟩) (by assumption) ?_
      rotate_left
      · (intro w0 hSw; (try dsimp only at hSw); go_simp; try with_reducible rfl)
      try simp only [List.getElem_toArray, List.getElem_cons_succ, List.getElem_cons_zero, Act.put, List.setIfInBounds_toArray, List.set_cons_zero, List.set_cons_succ]
      refine wpAnyH_ready (rs := [13]) (by kernel_rfl) (by simp) ?_
      refine AllReadyH.cons rfl (fun K hK => ?_) AllReadyH.nil
      go_simp
      refine hK.out _ _ trivial (fun hHeld => ?_)
      clear hK K
      refine wpAnyH_done (by kernel_rfl) ?_ _
      clear k0 k1 g0 g1 hHeld
      go_wp2_with fail
      go_roundw
      case rel => exact ⟨j + 1, by omega, by go_num, by
        have := TkSt.store (TkSt.store S6.out (by omega) (c := 12 + j * 2) (x := decAt l (12 + j * 2)) rfl) (by omega) (c := 12 + j * 2 + 1) (x := decAt l (12 + j * 2 + 1)) rfl
        rw [show 24 + 8 * j + 4 + 4 = 24 + 8 * (j + 1) by omega, show 12 + j * 2 + 1 + 1 = 12 + (j + 1) * 2 by omega] at this
        exact this⟩
      case measure => simp [intOf]; omega
    · obtain rfl : j = 8 := by omega
      have HM := Lib.hid (show Blk W (w.heap.size + 1) 31 (mc (decM l)) by have := ST.out.msg; rwa [show 12 + 8 * 2 = 28 from rfl, fillM_all] at this)
      have HI := Lib.hid (mc_info (decM_length l))
      have HI2 := Lib.hid (show (Try.prog.info? 31).map (·.size) = some (mc (decM l)).toList.length by rw [Array.length_toList]; exact mc_info (decM_length l))
      go_wp2_with fail
      refine wp_region_held_drew (S := fun w' => w'.cell? ⟨w.heap.size + 1 + 1, 0, none⟩ = some .nilIface ∧ w'.frozen? ⟨w.heap.size + 1 + 1, 0, none⟩ = false ∧ Blk w' (w.heap.size + 1) 31 (mc (decM l)) ∧ Blk w' (w.heap.size + 2) 33 #[.nilIface] ∧ Below r w w') (by kernel_rfl) ?_ (fun hHeld => ?_)
      · exact ⟨ST.out.err.cell 0, ST.out.err.frozen 0, HM.out.drew, ST.out.err.drew, ST.out.bel.drew⟩
      refine wpAnyH_take (i := 0) (v := .agg (mc (decM l))) rfl (by kernel_rfl) (by kernel_rfl) (by kernel_rfl) (fun _ _ _ h => h) (yieldsIf_load_mid (by rfl) 31 (.tmp 2) rfl (w.heap.size + 1) 0 rfl (mc (decM l)).toList _ (fun w0 h => h.2.2.1.range) Try.underlying31 rfl HI2.out) (by assumption) ?_
      try simp only [List.getElem_toArray, List.getElem_cons_succ, List.getElem_cons_zero, Act.put, List.setIfInBounds_toArray, List.set_cons_zero, List.set_cons_succ]
      refine wpAnyH_take (i := 1) (v := ?_) rfl (by kernel_rfl) (by kernel_rfl) (by kernel_rfl) (fun _ _ _ h => h) (Or.inl ⟨by rfl, ?_⟩) (by assumption) ?_
      rotate_left
      · (intro w0 hSw; (try dsimp only at hSw); go_simp; try with_reducible rfl)
      try simp only [List.getElem_toArray, List.getElem_cons_succ, List.getElem_cons_zero, Act.put, List.setIfInBounds_toArray, List.set_cons_zero, List.set_cons_succ]
      refine wpAnyH_ready (rs := [2]) (by kernel_rfl) (by simp) ?_
      refine AllReadyH.cons rfl (fun K hK => ?_) AllReadyH.nil
      refine step_store_mid (by rfl) 31 (.tmp 2) (.tmp 61) rfl (w.heap.size + 1) 0 (mc (decM l)) rfl rfl (hHeld.2.2.1.there (Nat.le_refl _)) HI.out (ints_oneCell _) ?_
      refine hK.out _ _ ?_ (fun hHeld => ?_)
      · have h1 := hHeld.2.2.1.put (mc (decM l)) rfl
        have h2 := hHeld.2.2.2.1.farCells (b := w.heap.size + 1) (by omega) (mc (decM l)).toList 0
        exact ⟨h2.cell 0, h2.frozen 0, h1, h2, Below.setCells (by omega) _ _ _ hHeld.2.2.2.2⟩
      clear hK K
      generalize World.setCells _ _ _ _ = V at hHeld ⊢
      refine wpAnyH_ready (rs := [3]) (by kernel_rfl) (by simp) ?_
      refine AllReadyH.cons rfl (fun K hK => ?_) AllReadyH.nil
      go_simp
      refine hK.out _ _ ?_ (fun hHeld => ?_)
      · have h2 := hHeld.2.2.2.1.set_ 0 .nilIface
        exact ⟨h2.cell 0, h2.frozen 0, hHeld.2.2.1.far (by simp) _, h2, hHeld.2.2.2.2.setCell (by simp; omega) _⟩
      clear hK K
      refine wpAnyH_done (by kernel_rfl) ?_ _
      generalize World.setCell _ _ _ = U at hHeld ⊢
      have HH := Lib.hid hHeld
      clear hHeld
      go_wp2_with fail
      have he : (loadVar 33 ⟨w.heap.size + 1 + 1, 0, none⟩).run Try.prog U = .ok .nilIface U := by
        have := HH.out.1
        simp [go_sem, this]
      exact bodyPost_ret (v := .tuple #[.agg (mc (decM l)), .nilIface]) (results_cells2 rfl rfl rfl (run_loadVar_row U (w.heap.size + 1) _ 31 (mc (decM l)) (0, 0) _ HH.out.2.2.1 Try.underlying31 rfl HI.out) he) rfl ⟨rfl, HH.out.2.2.2.2⟩
end Go.Proofs.Ytmjmplkhngpgnaa
