/- The walk of MsgBack. -/
import Derived.Test.YthdfgdehddmkpaaMsgK
import Derived.Test.YthdfgdehddmkpaaMsgP
namespace Go.Proofs.Ythdfgdehddmkpaa
open Go.RowKit
set_option linter.unusedVariables false
set_option linter.unusedSimpArgs false

/-- Decode's error's number. -/
def badD (n : Nat) : Int := if n < 88 then 3 else if 88 < n then 4 else 5
/-- Do bytes decode? -/
def goodD (l : List UInt8) : Bool := decide (l.length = 88) && mayB (decM l)
theorem decode_good (A : Option Addr) (n cap : Nat) (l : List UInt8) (w : World) (hr : Reads w w.heap.size 1 A n (u8s l)) (hg : goodD l = true) :
    Calls Try.prog 15 #[.slice A n cap] w fun e w' => e = .returned (.tuple #[.agg (mc (decM l)), .nilIface]) ∧ Below w.heap.size w w' := by
  unfold goodD at hg
  rw [Bool.and_eq_true] at hg
  have h88 : l.length = 88 := of_decide_eq_true hg.1
  have hn := hr.u8_len
  obtain rfl : n = 88 := by omega
  exact (decode_88 A cap l w hr).mono fun e w' ⟨he, hb⟩ => ⟨by rw [he, ansM, hg.2]; rfl, hb⟩
theorem decode_wrong (A : Option Addr) (n cap : Nat) (l : List UInt8) (w : World) (hr : Reads w w.heap.size 1 A n (u8s l)) (hg : goodD l = false) :
    Calls Try.prog 15 #[.slice A n cap] w fun e w' => e = .returned (.tuple #[.agg (mc zM), errno (badD n)]) ∧ Below w.heap.size w w' := by
  have hn := hr.u8_len
  rcases Nat.lt_trichotomy n 88 with h | h | h
  · exact (decode_short A n cap h w).mono fun e w' ⟨he, hb⟩ => ⟨by rw [he, badD, if_pos h], hb⟩
  · subst h
    have hm : mayB (decM l) = false := by
      unfold goodD at hg
      rwa [decide_eq_true hn, Bool.true_and] at hg
    exact (decode_88 A cap l w hr).mono fun e w' ⟨he, hb⟩ => ⟨by rw [he, ansM, hm]; rfl, hb⟩
  · exact (decode_long A n cap h w).mono fun e w' ⟨he, hb⟩ => ⟨by rw [he, badD, if_neg (by omega), if_pos h], hb⟩
theorem eql_msg {a b : List Int} (ha : a.length = 28) (hb : b.length = 28) (w : World) : (binOp .eql 29 (.agg (mc a)) (.agg (mc b))).run Try.prog w = .ok (.bool (decide (a = b))) w := eql_flat flat_msg (by omega) ha hb w
theorem neq_msg {a b : List Int} (ha : a.length = 28) (hb : b.length = 28) (w : World) : (binOp .neq 29 (.agg (mc a)) (.agg (mc b))).run Try.prog w = .ok (.bool (!decide (a = b))) w := neq_flat flat_msg (by omega) ha hb w
theorem goodD_enc {m : List Int} (hl : m.length = 28) (h : mayB m = true) : goodD (encM m) = true := by
  unfold goodD
  rw [dec_enc hl h, h, decide_eq_true (encM_length hl)]; rfl

set_option maxRecDepth 100000 in
set_option maxHeartbeats 8000000 in
theorem msgBack_walk (m : List Int) (hl : m.length = 28) (A : Option Addr) (n cap : Nat) (l : List UInt8) (w : World) (hr : Reads w w.heap.size 1 A n (u8s l)) :
    Calls Try.prog 5 #[.agg (mc m), .slice A n cap] w fun e w' => e = .returned (.bool true) ∧ Below w.heap.size w w' := by
  have HL := Lib.hid hl
  have HR := Lib.hid hr
  have HI := Lib.hid (mc_info hl)
  have HZ := Lib.hid (mc_info zM_length)
  have HD := Lib.hid (mc_info (decM_length l))
  have hgm := guard_msg
  have hn0 := fun W => run_eql_nil_nil (P := Try.prog) W 33 Try.underlying33
  have hn1 := fun W k => run_eql_held_nil (P := Try.prog) W 33 55 (.int .i64 k) Try.underlying33
  have he0 : ∀ W, (binOp .neq 29 (.agg (mc m)) (.agg (mc m))).run Try.prog W = .ok (.bool false) W := fun W => by rw [neq_msg hl hl]; simp
  have he1 : ∀ W, (binOp .eql 29 (.agg (mc zM)) (.agg (mc zM))).run Try.prog W = .ok (.bool true) W := fun W => by rw [eql_msg zM_length zM_length]; simp
  rw [mc_zero] at he1
  clear hl hr
  cases hm : mayB m
  · have HM := Lib.hid hm
    clear hm
    go_enter Try.func5, Try.ntmps5
    go_wp2_with fail
    refine (msgAlive _).mono ?_
    rintro e w1 ⟨rfl, hb1⟩
    have B1 := Lib.hid (stepB (stepA (Below.refl w.heap.size w) (.cells (mc m) 29)) hb1)
    have M1 := Lib.hid ((Blk.new w 29 (mc m)).here hb1)
    clear hb1
    go_wp2_with (refine wpList_load_row rfl 29 (.tmp 2) rfl w.heap.size rfl 29 (mc m) (0, 0) _ M1.out Try.underlying29 rfl HI.out ?_)
    refine (encode_bad m HL.out HM.out _).mono ?_
    rintro e w2 ⟨rfl, hb2⟩
    have B5 := Lib.hid (stepB B1.out hb2)
    clear hb2
    go_wp2_with fail
    cases hg : goodD l
    · have HG := Lib.hid hg
      clear hg
      have HR5 := Lib.hid (HR.out.step B5.out)
      refine (decode_wrong A n cap l _ HR5.out HG.out).mono ?_
      rintro e w6 ⟨rfl, hb6⟩
      have B6 := Lib.hid (stepB B5.out hb6)
      have hw6 : w.heap.size ≤ w6.heap.size := B6.out.size
      clear hb6
      have N6 := Lib.hid (Blk.new w6 29 (mc zM))
      rw [mc_zero] at N6
      go_wp2_with (first
        | (refine wpList_store_mid rfl 29 (.tmp 9) (.tmp 42) rfl w6.heap.size 0 (mc zM) rfl rfl (mc_there zM_length zM_length N6.out) HZ.out (ints_oneCell _) ?_
           have N7 := Lib.hid (mc_put zM_length zM_length N6.out)
           have B7 := Lib.hid (Below.setCells (B := w.heap.size) (b := w6.heap.size) hw6 (mc zM).toList 0 _ (stepA B6.out (.cells (mc zM) 29)))
           rw [mc_zero] at N7 B7
           rw [mc_zero]
           generalize World.setCells _ _ _ _ = U at N7 B7 ⊢)
        | (refine wpList_load_row rfl 29 (.tmp 9) rfl w6.heap.size rfl 29 _ (0, 0) _ N7.out Try.underlying29 rfl HZ.out ?_))
      go_ret
      exact ⟨rfl, B7.out⟩
    · have hg2 := hg
      unfold goodD at hg2
      rw [Bool.and_eq_true] at hg2
      have hn88 : n = 88 := by have h1 : l.length = 88 := of_decide_eq_true hg2.1; have h2 := HR.out.u8_len; omega
      have HML := Lib.hid hg2.2
      have HLL := Lib.hid (show l.length = 88 from of_decide_eq_true hg2.1)
      have HG := Lib.hid hg
      clear hg hg2
      subst hn88
      have HR5 := Lib.hid (HR.out.step B5.out)
      refine (decode_good A 88 cap l _ HR5.out HG.out).mono ?_
      rintro e w6 ⟨rfl, hb6⟩
      have B6 := Lib.hid (stepB B5.out hb6)
      have hw6 : w.heap.size ≤ w6.heap.size := B6.out.size
      clear hb6
      have N6 := Lib.hid (Blk.new w6 29 (mc zM))
      rw [mc_zero] at N6
      go_wp2_with (first
        | (refine wpList_store_mid rfl 29 (.tmp 9) (.tmp 42) rfl w6.heap.size 0 (mc (decM l)) rfl rfl (mc_there zM_length (decM_length l) N6.out) HD.out (ints_oneCell _) ?_
           have N7 := Lib.hid (mc_put zM_length (decM_length l) N6.out)
           have B7 := Lib.hid (Below.setCells (B := w.heap.size) (b := w6.heap.size) hw6 (mc (decM l)).toList 0 _ (stepA B6.out (.cells (mc zM) 29)))
           rw [mc_zero] at B7
           generalize World.setCells _ _ _ _ = U at N7 B7 ⊢)
        | (refine wpList_load_row rfl 29 (.tmp 9) rfl w6.heap.size rfl 29 _ (0, 0) _ N7.out Try.underlying29 rfl HD.out ?_))
      refine (encode_ok (decM l) (decM_length l) HML.out _).mono ?_
      rintro e w8 ⟨A8, c8, rfl, hown8, hb8⟩
      rw [enc_dec HLL.out] at hown8
      have B8 := Lib.hid (stepB B7.out hb8)
      have R8 := Lib.hid (Reads.of_own hown8)
      have HR8 := Lib.hid (HR.out.step B8.out)
      clear hown8 hb8
      go_wp2_with fail
      refine (same_yes A8 A 88 c8 cap _ _ l _ HLL.out (by omega) R8.out HR8.out).mono ?_
      rintro e w9 ⟨rfl, q, rfl⟩
      go_wp2_with fail
      go_ret
      exact ⟨rfl, below_drewN B8.out _⟩
  · have HM := Lib.hid hm
    clear hm
    go_enter Try.func5, Try.ntmps5
    go_wp2_with fail
    refine (msgAlive _).mono ?_
    rintro e w1 ⟨rfl, hb1⟩
    have B1 := Lib.hid (stepB (stepA (Below.refl w.heap.size w) (.cells (mc m) 29)) hb1)
    have M1 := Lib.hid ((Blk.new w 29 (mc m)).here hb1)
    clear hb1
    go_wp2_with (refine wpList_load_row rfl 29 (.tmp 2) rfl w.heap.size rfl 29 (mc m) (0, 0) _ M1.out Try.underlying29 rfl HI.out ?_)
    refine (encode_ok m HL.out HM.out _).mono ?_
    rintro e w2 ⟨A2, c2, rfl, hown2, hb2⟩
    have B2 := Lib.hid (stepB B1.out hb2)
    have M2 := Lib.hid (M1.out.here hb2)
    have R2 := Lib.hid (Reads.of_own hown2)
    clear hown2 hb2
    go_wp2_with fail
    refine (decode_good A2 88 c2 (encM m) _ R2.out (goodD_enc HL.out HM.out)).mono ?_
    rintro e w3 ⟨rfl, hb3⟩
    rw [dec_enc HL.out HM.out]
    have B3 := Lib.hid (stepB B2.out hb3)
    have M3 := Lib.hid (M2.out.here hb3)
    have hw3 : w.heap.size < w3.heap.size := M3.out.lt
    have hg3 : w.heap.size ≠ w3.heap.size := by omega
    clear hb3
    have N3 := Lib.hid (Blk.new w3 29 (mc zM))
    rw [mc_zero] at N3
    go_wp2_with (first
      | (refine wpList_store_mid rfl 29 (.tmp 7) (.tmp 25) rfl w3.heap.size 0 (mc m) rfl rfl (mc_there zM_length HL.out N3.out) HI.out (ints_oneCell _) ?_
         have N4 := Lib.hid (mc_put zM_length HL.out N3.out)
         have M4 := Lib.hid ((M3.out.alloc (.cells (mc zM) 29)).farCells hg3 (mc m).toList 0)
         have B5 := Lib.hid (Below.setCells (B := w.heap.size) (b := w3.heap.size) (Nat.le_of_lt hw3) (mc m).toList 0 _ (stepA B3.out (.cells (mc zM) 29)))
         rw [mc_zero] at M4 B5
         generalize World.setCells _ _ _ _ = V at N4 M4 B5 ⊢)
      | (refine wpList_load_row_g (by rfl) 29 (.tmp 7) rfl w3.heap.size rfl 29 (mc m) (0, 0) _ N4.out Try.underlying29 rfl HI.out ?_)
      | (refine wpList_load_row_g (by rfl) 29 (.tmp 2) rfl w.heap.size rfl 29 (mc m) (0, 0) _ M4.out Try.underlying29 rfl HI.out ?_))
    cases hg : goodD l
    · have HG := Lib.hid hg
      clear hg
      have HR5 := Lib.hid (HR.out.step B5.out)
      refine (decode_wrong A n cap l _ HR5.out HG.out).mono ?_
      rintro e w6 ⟨rfl, hb6⟩
      have B6 := Lib.hid (stepB B5.out hb6)
      have hw6 : w.heap.size ≤ w6.heap.size := B6.out.size
      clear hb6
      have N6 := Lib.hid (Blk.new w6 29 (mc zM))
      rw [mc_zero] at N6
      go_wp2_with (first
        | (refine wpList_store_mid rfl 29 (.tmp 9) (.tmp 42) rfl w6.heap.size 0 (mc zM) rfl rfl (mc_there zM_length zM_length N6.out) HZ.out (ints_oneCell _) ?_
           have N7 := Lib.hid (mc_put zM_length zM_length N6.out)
           have B7 := Lib.hid (Below.setCells (B := w.heap.size) (b := w6.heap.size) hw6 (mc zM).toList 0 _ (stepA B6.out (.cells (mc zM) 29)))
           rw [mc_zero] at N7 B7
           rw [mc_zero]
           generalize World.setCells _ _ _ _ = U at N7 B7 ⊢)
        | (refine wpList_load_row rfl 29 (.tmp 9) rfl w6.heap.size rfl 29 _ (0, 0) _ N7.out Try.underlying29 rfl HZ.out ?_))
      go_ret
      exact ⟨rfl, B7.out⟩
    · have hg2 := hg
      unfold goodD at hg2
      rw [Bool.and_eq_true] at hg2
      have hn88 : n = 88 := by have h1 : l.length = 88 := of_decide_eq_true hg2.1; have h2 := HR.out.u8_len; omega
      have HML := Lib.hid hg2.2
      have HLL := Lib.hid (show l.length = 88 from of_decide_eq_true hg2.1)
      have HG := Lib.hid hg
      clear hg hg2
      subst hn88
      have HR5 := Lib.hid (HR.out.step B5.out)
      refine (decode_good A 88 cap l _ HR5.out HG.out).mono ?_
      rintro e w6 ⟨rfl, hb6⟩
      have B6 := Lib.hid (stepB B5.out hb6)
      have hw6 : w.heap.size ≤ w6.heap.size := B6.out.size
      clear hb6
      have N6 := Lib.hid (Blk.new w6 29 (mc zM))
      rw [mc_zero] at N6
      go_wp2_with (first
        | (refine wpList_store_mid rfl 29 (.tmp 9) (.tmp 42) rfl w6.heap.size 0 (mc (decM l)) rfl rfl (mc_there zM_length (decM_length l) N6.out) HD.out (ints_oneCell _) ?_
           have N7 := Lib.hid (mc_put zM_length (decM_length l) N6.out)
           have B7 := Lib.hid (Below.setCells (B := w.heap.size) (b := w6.heap.size) hw6 (mc (decM l)).toList 0 _ (stepA B6.out (.cells (mc zM) 29)))
           rw [mc_zero] at B7
           generalize World.setCells _ _ _ _ = U at N7 B7 ⊢)
        | (refine wpList_load_row rfl 29 (.tmp 9) rfl w6.heap.size rfl 29 _ (0, 0) _ N7.out Try.underlying29 rfl HD.out ?_))
      refine (encode_ok (decM l) (decM_length l) HML.out _).mono ?_
      rintro e w8 ⟨A8, c8, rfl, hown8, hb8⟩
      rw [enc_dec HLL.out] at hown8
      have B8 := Lib.hid (stepB B7.out hb8)
      have R8 := Lib.hid (Reads.of_own hown8)
      have HR8 := Lib.hid (HR.out.step B8.out)
      clear hown8 hb8
      go_wp2_with fail
      refine (same_yes A8 A 88 c8 cap _ _ l _ HLL.out (by omega) R8.out HR8.out).mono ?_
      rintro e w9 ⟨rfl, q, rfl⟩
      go_wp2_with fail
      go_ret
      exact ⟨rfl, below_drewN B8.out _⟩
end Go.Proofs.Ythdfgdehddmkpaa
