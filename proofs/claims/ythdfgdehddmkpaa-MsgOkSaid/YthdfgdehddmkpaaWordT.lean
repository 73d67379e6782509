/- The contracts of a reader's Take, and of the document's. -/
import Derived.Test.YthdfgdehddmkpaaWord
import Derived.Deep.DeepCutAuto
import Derived.StillTailTactics
namespace Go.Proofs.Ythdfgdehddmkpaa
open Go.RowKit
set_option linter.unusedVariables false
set_option linter.unusedSimpArgs false

theorem or_i64 {n c : Nat} (hn : n < 36028797018963968) (hc : c < 256) : IntKind.i64.wrap ((BitVec.ofInt 64 ((n : Int) * 256) ||| BitVec.ofInt 64 (c : Int)).toNat : Int) = ((256 * n + c : Nat) : Int) := by
  have e1 : BitVec.ofInt 64 ((n : Int) * 256) = BitVec.ofNat 64 (n * 256) := by
    rw [← BitVec.ofInt_natCast]; congr 1
  have e2 : BitVec.ofInt 64 (c : Int) = BitVec.ofNat 64 c := BitVec.ofInt_natCast ..
  rw [e1, e2, BitVec.toNat_or, BitVec.toNat_ofNat, BitVec.toNat_ofNat, Nat.mod_eq_of_lt (by omega), Nat.mod_eq_of_lt (by omega), or_byte hn hc]
  exact IntWalk.i64_in _ (by omega)

set_option maxRecDepth 100000 in
set_option maxHeartbeats 4000000 in
theorem take_short (r n cap k wd : Nat) (A : Option Addr) (h1 : 1 ≤ wd) (h4 : wd ≤ 4) (hk : k ≤ n) (hs : n < k + wd) (hn : n ≤ 9223372036854775807) (w : World) (h : RdAt w r A n cap k) :
    Calls Try.prog 26 #[.pointer (some ⟨r, 0, none⟩), .int .i64 wd] w fun e w' => ∃ b, e = .returned (.tuple #[.int .i64 0, faultV b]) ∧ Below w.heap.size w w' ∧ w.heap.size ≤ b ∧ FaultAt w' b n 3 := by
  have HW := Lib.hid (mayW_iff.2 (show 1 ≤ (wd : Int) ∧ (wd : Int) ≤ 4 by omega))
  have H := Lib.hid h
  have d0 : decide (n - k < wd) = true := by simp; omega
  clear h
  go_enter Try.func26, Try.ntmps26
  go_wp2_with fail
  refine (mayBe_yes HW.out _).mono ?_
  rintro e w' ⟨rfl, rfl⟩
  go_wp2_with fail
  refine (left_any r n cap k A hk hn _ H.out).mono ?_
  rintro e w' ⟨rfl, q, rfl⟩
  have c0 : w.cell? ⟨r, 0, none⟩ = some (.slice A n cap) := H.out.cell 0
  go_wp2_with fail
  go_region
  all_goals
    go_wp2_with fail
    go_ret2
    exact ⟨_, rfl, (below_drewN (Below.refl _ _) _).alloc (Nat.le_refl _) _, Nat.le_refl _, Blk.new _ _ _⟩

set_option maxRecDepth 100000 in
set_option maxHeartbeats 4000000 in
theorem take_ok (r n cap k wd : Nat) (A : Option Addr) (l : List UInt8) (h1 : 1 ≤ wd) (h4 : wd ≤ 4) (hk : k + wd ≤ n) (hn : n ≤ 140737488355328) (w : World) (h : RdAt w r A n cap k) (hr : Reads w w.heap.size 1 A n (u8s l)) :
    Calls Try.prog 26 #[.pointer (some ⟨r, 0, none⟩), .int .i64 wd] w fun e w' => e = .returned (.tuple #[.int .i64 (decN ((l.drop k).take wd)), .nilIface]) ∧ ∃ q, w' = (w.drewN q).setCell ⟨r, 1, none⟩ (.int .i64 ((k + wd : Nat) : Int)) := by
  have HW := Lib.hid (mayW_iff.2 (show 1 ≤ (wd : Int) ∧ (wd : Int) ≤ 4 by omega))
  have H := Lib.hid h
  have HR := Lib.hid hr
  have HL := Lib.hid hr.u8_len
  have d0 : decide (n - k < wd) = false := by simp; omega
  clear h hr
  go_enter Try.func26, Try.ntmps26
  go_wp2_with fail
  refine (mayBe_yes HW.out _).mono ?_
  rintro e w' ⟨rfl, rfl⟩
  go_wp2_with fail
  refine (left_any r n cap k A (by omega) (by omega) _ H.out).mono ?_
  rintro e w' ⟨rfl, q0, rfl⟩
  go_wp2_with fail
  go_loopw [6, 32] (fun m i W => ∃ j q : Nat, j ≤ wd ∧ i = .int .i64 j ∧ m = .int .i64 (decN ((l.drop k).take j)) ∧ W = w.drewN q) (fun _ i _ => wd - (intOf i).toNat)
  case atStart => exact ⟨0, q0, Nat.zero_le _, rfl, rfl, rfl⟩
  case round =>
    obtain ⟨j, q, hj, rfl, rfl, rfl⟩ := hrel
    have c0 : w.cell? ⟨r, 0, none⟩ = some (.slice A n cap) := H.out.cell 0
    have c1 : w.cell? ⟨r, 1, none⟩ = some (.int .i64 k) := H.out.cell 1
    by_cases hlt : j < wd
    · have hkl : k + j < l.length := by rw [HL.out]; omega
      obtain ⟨ad, rfl, hb, hc⟩ := HR.out.u8_at hkl
      have hT : decN ((l.drop k).take (j + 1)) = 256 * decN ((l.drop k).take j) + (l[k + j]).toNat := by
        rw [decN_take_succ (l.drop k) (k := j) (by rw [List.length_drop]; omega), List.getElem_drop]
      have hT2 := decN_take_lt (l.drop k) j (by rw [List.length_drop, HL.out]; omega)
      have hp := pw_le (k := j) (by omega)
      have hc256 := (l[k + j]).toNat_lt
      have HT := Lib.hid hT
      clear hT
      generalize (l[k + j]).toNat = c at hc hc256 HT
      generalize decN ((l.drop k).take j) = m at hT2 HT
      have hwr : IntKind.i64.wrap ((m : Int) * 256) = (m : Int) * 256 := IntWalk.i64_in _ (by omega)
      have hor := or_i64 (n := m) (c := c) (by omega) (by omega)
      have hadd : IntKind.i64.wrap ((k : Int) + (j : Int)) = ((k + j : Nat) : Int) := IntWalk.i64_in _ (by omega)
      go_wp2_with fail
      go_quiet (fail)
      go_wp2_with fail
      go_roundw
      case rel => exact ⟨j + 1, _, by omega, by go_num, by rw [HT.out, ← hor]; rfl, rfl⟩
      case measure => simp [intOf]; omega
    · obtain rfl : j = wd := by omega
      have hf : w.frozen? ⟨r, 1, none⟩ = false := H.out.frozen 1
      go_wp2_with fail
      go_ret2
      exact ⟨rfl, q, rfl⟩
end Go.Proofs.Ythdfgdehddmkpaa
