/- The program's read: five bytes, or fewer. -/
import Derived.Test.YtggfadiahacgeaaDoorScrB
import Derived.Test.YtggfadiahacgeaaDoorBase
namespace Go.Proofs.YtggfadiahacgeaaDoor
open Go.RowKit
set_option linter.unusedVariables false
set_option linter.unusedSimpArgs false

theorem bits_or_low (x y : Int) (i : Nat) (hx : 0 ≤ x) (hy : 0 ≤ y) (hm : x % 2 ^ i = 0) (hl : y < 2 ^ i) (hb : x + y < 2 ^ 62) : bits .or .i64 x y = x + y := by
  obtain ⟨a, rfl⟩ := Int.eq_ofNat_of_zero_le hx
  obtain ⟨b, rfl⟩ := Int.eq_ofNat_of_zero_le hy
  have hm' : a % 2 ^ i = 0 := by exact_mod_cast hm
  have hl' : b < 2 ^ i := by exact_mod_cast hl
  have hb' : a + b < 2 ^ 62 := by exact_mod_cast hb
  have ho : a ||| b = a + b := by
    obtain ⟨k, rfl⟩ : ∃ k, a = 2 ^ i * k := ⟨a / 2 ^ i, by rw [Nat.mul_div_cancel' (Nat.dvd_of_mod_eq_zero hm')]⟩
    rw [Nat.two_pow_add_eq_or_of_lt hl']
  show IntKind.i64.wrap (((BitVec.ofInt 64 (a : Int) ||| BitVec.ofInt 64 (b : Int)).toNat : Nat) : Int) = _
  have e1 : BitVec.ofInt 64 (a : Int) = BitVec.ofNat 64 a := by rw [BitVec.ofInt_natCast]
  have e2 : BitVec.ofInt 64 (b : Int) = BitVec.ofNat 64 b := by rw [BitVec.ofInt_natCast]
  rw [e1, e2, BitVec.toNat_or, BitVec.toNat_ofNat, BitVec.toNat_ofNat, Nat.mod_eq_of_lt (by omega), Nat.mod_eq_of_lt (by omega), ho]
  rw [show ((a + b : Nat) : Int) = (a : Int) + (b : Int) by omega]
  exact IntWalk.i64_in _ (by omega)
theorem u8_cells {w : World} {B n : Nat} {A : Option Addr} {l : List UInt8} (h : Reads w B 1 A n (u8s l)) (h0 : 0 < n) : ∃ b off, A = some ⟨b, off, none⟩ ∧ b < B ∧ ∀ j, j < n → w.cell? ⟨b, off + j, none⟩ = some (.int .u8 (byt l j)) := by
  have hl := h.u8_len
  obtain ⟨ad, e, hb, hc⟩ := h.2 h0
  obtain ⟨b, off, sp⟩ := ad
  have hsp : sp = none := World.cell?_spot (hc 0 _ (byt_get (by omega)))
  subst hsp
  refine ⟨b, off, e, hb, fun j hj => ?_⟩
  have := hc j _ (byt_get (by omega))
  rw [← this]
  unfold Addr.add
  split
  · rename_i h; subst h; rfl
  · rfl
theorem info_ent (a b c d e f : Value) : (Tryd.prog.info? 30).map (·.size) = some (#[a, b, c, d, e, f] : Array Value).size := by kernel_rfl

set_option maxRecDepth 100000 in
set_option maxHeartbeats 2000000 in
theorem read_short (A : Option Addr) (n cap : Nat) (hn : n < 5) (w : World) :
    Calls Tryd.prog 21 #[.slice A n cap] w fun e w' => e = .returned (.agg (ints zE).toArray) ∧ Below w.heap.size w w' := by
  have d1 : decide ((n : Int) < 5) = true := by simp; omega
  have d2 : decide (n < 5) = true := by simp; omega
  go_enter Tryd.func21, Tryd.ntmps21
  go_wp2_with fail
  refine bodyPost_ret (v := .agg (ints zE).toArray) (by simp [results, Tryd.results21, go_sem, ints, zE]) rfl ⟨rfl, ?_⟩
  repeat (first | exact Below.refl _ _ | refine Below.setCell ?_ (by simp) _ | refine Below.alloc ?_ (by simp <;> omega) _)
end Go.Proofs.YtggfadiahacgeaaDoor
