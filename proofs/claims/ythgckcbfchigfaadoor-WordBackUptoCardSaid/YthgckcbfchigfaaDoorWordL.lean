/- Layer 3's statements: the document's examples (alive). -/
import Derived.Test.YthgckcbfchigfaaDoorRefW
namespace Go.Proofs.YthgckcbfchigfaaDoor
open Go.RowKit
set_option linter.unusedVariables false
set_option linter.unusedSimpArgs false


theorem Reads.step {w w' : World} {size n : Nat} {A : Option Addr} {xs : List Value} (h : Reads w w.heap.size size A n xs) (hb : Below w.heap.size w w') : Reads w' w'.heap.size size A n xs := (h.below hb).more hb.size
theorem Reads.stepA {w : World} {size n : Nat} {A : Option Addr} {xs : List Value} (h : Reads w w.heap.size size A n xs) (o : Obj) : Reads (w.alloc o) (w.alloc o).heap.size size A n xs := (h.alloc (Nat.le_refl _) o).more (by simp)

/-- Put of numbers that all fit. -/
theorem put_ok {wd : Nat} {is : List Int} (hf : AllFit wd is) (A A' : Option Addr) (n cap m cap' : Nat) (bs : List UInt8) (h1 : 1 ≤ wd) (h4 : wd ≤ 4) (hN : n + wd * m ≤ 211106232532992) (w : World) (hb : Reads w w.heap.size 1 A n (u8s bs)) (hl : Reads w w.heap.size 1 A' m (i64s is)) :
    Calls Tryd.prog 8 #[.slice A n cap, .int .i64 wd, .slice A' m cap'] w fun e w' => ∃ v, e = .returned (.tuple #[v, .nilIface]) ∧ w'.ownsRow w.heap.size 5 1 v (n + wd * m) (u8s (bs ++ encL wd is)) ∧ Below w.heap.size w w' :=
  (put_any A A' n cap m cap' wd bs is h1 h4 hN w hb hl).mono fun e w' h => by
    rcases h with ⟨_, h⟩ | ⟨k, b, h, _⟩
    · exact h
    · exact (h.notAll hf).elim
theorem put_bad {wd : Nat} {is : List Int} {k : Nat} (hf : FirstBad wd is k) (A A' : Option Addr) (n cap m cap' : Nat) (bs : List UInt8) (h1 : 1 ≤ wd) (h4 : wd ≤ 4) (hN : n + wd * m ≤ 211106232532992) (w : World) (hb : Reads w w.heap.size 1 A n (u8s bs)) (hl : Reads w w.heap.size 1 A' m (i64s is)) :
    Calls Tryd.prog 8 #[.slice A n cap, .int .i64 wd, .slice A' m cap'] w fun e w' => ∃ b, e = .returned (.tuple #[.slice none 0 0, faultV b]) ∧ FaultAt w' b k 2 ∧ Below w.heap.size w w' :=
  (put_any A A' n cap m cap' wd bs is h1 h4 hN w hb hl).mono fun e w' h => by
    rcases h with ⟨h, _⟩ | ⟨j, b, h, h'⟩
    · exact (hf.notAll h).elim
    · obtain rfl := h.one hf; exact ⟨b, h'⟩
theorem putR_ok {wd : Nat} {is : List Int} (hf : AllFit wd is) (A A' : Option Addr) (n cap m cap' : Nat) (bs : List UInt8) (h1 : 1 ≤ wd) (h4 : wd ≤ 4) (hN : n + wd * m ≤ 211106232532992) (w : World) (hb : Reads w w.heap.size 1 A n (u8s bs)) (hl : Reads w w.heap.size 1 A' m (i64s is)) :
    Calls Tryd.prog 9 #[.slice A n cap, .int .i64 wd, .slice A' m cap'] w fun e w' => ∃ v, e = .returned (.tuple #[v, .int .i64 (-1), .int .i64 0]) ∧ w'.ownsRow w.heap.size 5 1 v (n + wd * m) (u8s (bs ++ encL wd is)) ∧ Below w.heap.size w w' :=
  (putR_any A A' n cap m cap' wd bs is h1 h4 hN w hb hl).mono fun e w' h => by
    rcases h with ⟨_, h⟩ | ⟨k, h, _⟩
    · exact h
    · exact (h.notAll hf).elim
theorem putR_bad {wd : Nat} {is : List Int} {k : Nat} (hf : FirstBad wd is k) (A A' : Option Addr) (n cap m cap' : Nat) (bs : List UInt8) (h1 : 1 ≤ wd) (h4 : wd ≤ 4) (hN : n + wd * m ≤ 211106232532992) (w : World) (hb : Reads w w.heap.size 1 A n (u8s bs)) (hl : Reads w w.heap.size 1 A' m (i64s is)) :
    Calls Tryd.prog 9 #[.slice A n cap, .int .i64 wd, .slice A' m cap'] w fun e w' => e = .returned (.tuple #[.slice none 0 0, .int .i64 (k : Int), .int .i64 2]) ∧ Below w.heap.size w w' :=
  (putR_any A A' n cap m cap' wd bs is h1 h4 hN w hb hl).mono fun e w' h => by
    rcases h with ⟨h, _⟩ | ⟨j, h, h'⟩
    · exact (hf.notAll h).elim
    · obtain rfl := h.one hf; exact h'

theorem own_slice {w : World} {base n : Nat} {t : TypeId} {v : Value} {xs : List Value} (h : w.ownsRow base t 1 v n xs) : ∃ A cap, v = .slice A n cap ∧ Reads w w.heap.size 1 A n xs ∧ (∀ ad, A = some ad → base ≤ ad.block) := by
  have e : ∃ A c, v = .slice A n c := by
    rcases h.2 with ⟨rfl, h0⟩ | ⟨g', cap', cur, rfl, _⟩
    · subst h0; exact ⟨_, _, rfl⟩
    · exact ⟨_, _, rfl⟩
  obtain ⟨A, c, rfl⟩ := e
  exact ⟨A, c, rfl, Reads.of_own h, fun ad ha => by subst ha; exact ownBlock_ge h ad.block (by simp [Value.ownBlock])⟩

theorem ex_fit : AllFit 2 [1, 258] := by intro x hx; simp at hx; rcases hx with rfl | rfl <;> decide
theorem ex_bytes : encL 2 [1, 258] = [0, 1, 1, 2] := by decide +kernel

set_option maxRecDepth 100000 in
set_option maxHeartbeats 4000000 in
theorem wordAlive (w : World) (hg : EType w) :
    Calls Tryd.prog 7 #[] w fun e w' => e = .returned (.bool true) ∧ Below w.heap.size w w' := by
  have HG := Lib.hid hg
  clear hg
  go_enter Tryd.func7, Tryd.ntmps7
  go_wp2_with fail
  have hl0 : Reads (w.alloc (.cells #[.int .i64 1, .int .i64 258] 3)) (w.heap.size + 1) 1 (some ⟨w.heap.size, 0, none⟩) 2 (i64s [1, 258]) :=
    ⟨rfl, fun _ => ⟨_, rfl, by simp, fun j u hu => by
      match j, hu with
      | 0, hu => simp [i64s] at hu; subst hu; simp [Addr.add]
      | 1, hu => simp [i64s] at hu; subst hu; simp [Addr.add]⟩⟩
  have HL0 := Lib.hid hl0
  clear hl0
  refine (put_ok (wd := 2) ex_fit none (some ⟨w.heap.size, 0, none⟩) 0 0 2 2 [] (by omega) (by omega) (by omega) _ Reads.none_ (by simpa using HL0.out)).mono ?_
  rintro e w1 ⟨v, rfl, hown, hb1⟩
  rw [ex_bytes] at hown
  obtain ⟨A1, c1, rfl, hR1, hA1⟩ := own_slice hown
  have B1 := Lib.hid (((Below.refl w.heap.size w).alloc (Nat.le_refl _) _).trans (hb1.mono (by simp)))
  have R1 := Lib.hid hR1
  clear hown hb1 hR1 hA1 HL0
  go_wp2_with fail
  refine (new_any (some ⟨w1.heap.size, 0, none⟩) 1 1 [1] (by omega) _ ((reads_new1 w1 _ 1 1 rfl).more (by simp))).mono ?_
  rintro e w2 ⟨r, A2, c2, rfl, hr2, hR2, hA2, hlr, hb2⟩
  have B2 := Lib.hid (stepB (stepA B1.out _) hb2)
  have R12 := Lib.hid ((R1.out.stepA _).step hb2)
  have RD := Lib.hid hr2
  clear hr2 hR2 hA2 hlr hb2
  go_wp2_with fail
  refine (take_short r 1 c2 0 2 A2 (by omega) (by omega) (by omega) (by omega) (by omega) _ RD.out).mono ?_
  rintro e w3 ⟨b, rfl, hb3, hlb, hF3⟩
  have B3 := Lib.hid (stepB B2.out hb3)
  have R13 := Lib.hid (R12.out.step hb3)
  have E3 := Lib.hid (HG.out.below B3.out)
  have F3 := Lib.hid hF3
  clear hb3 hlb hF3
  have hw4 : Reads (w3.alloc (.cells #[.int .u8 0, .int .u8 1, .int .u8 1, .int .u8 2] 5)) (w3.heap.size + 1) 1 (some ⟨w3.heap.size, 0, none⟩) 4 (u8s [0, 1, 1, 2]) :=
    ⟨rfl, fun _ => ⟨_, rfl, by simp, fun j u hu => by
      match j, hu with
      | 0, hu => simp [u8s] at hu; subst hu; simp [Addr.add]
      | 1, hu => simp [u8s] at hu; subst hu; simp [Addr.add]
      | 2, hu => simp [u8s] at hu; subst hu; simp [Addr.add]
      | 3, hu => simp [u8s] at hu; subst hu; simp [Addr.add]⟩⟩
  have HW4 := Lib.hid hw4
  clear hw4
  go_wp2_with fail
  refine (same_yes A1 (some ⟨w3.heap.size, 0, none⟩) 4 c1 4 _ _ [0, 1, 1, 2] _ rfl (by omega) (R13.out.stepA _) HW4.out).mono ?_
  rintro e w4 ⟨rfl, q, rfl⟩
  go_wp2_with fail
  refine (at_fault b 1 3 _ ?_ ?_).mono ?_
  · exact (E3.out.alloc _)
  · exact (F3.out.alloc _)
  rintro e w5 ⟨rfl, hb5⟩
  have B5 := Lib.hid (stepB (below_drewN (stepA B3.out (.cells #[.int .u8 0, .int .u8 1, .int .u8 1, .int .u8 2] 5)) q) hb5)
  have F5 := Lib.hid (((F3.out.alloc _).drewN q).here hb5)
  clear hb5
  go_wp2_with fail
  refine (code_fault b 1 3 (by decide) _ F5.out).mono ?_
  rintro e w6 ⟨rfl, rfl⟩
  go_wp2_with fail
  go_ret
  exact ⟨rfl, B5.out⟩
end Go.Proofs.YthgckcbfchigfaaDoor
