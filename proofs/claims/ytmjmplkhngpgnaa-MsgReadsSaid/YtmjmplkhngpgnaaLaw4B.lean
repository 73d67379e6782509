/- The walk of MsgBack. -/
import Derived.Test.YtmjmplkhngpgnaaMsgK
namespace Go.Proofs.Ytmjmplkhngpgnaa
open Go.RowKit
set_option linter.unusedVariables false
set_option linter.unusedSimpArgs false

/-- Decode's error's number. -/
def badD (n : Nat) : Int := if n < 88 then 3 else if 88 < n then 4 else 5
/-- Do bytes decode? -/
def goodD (l : List UInt8) : Bool := decide (l.length = 88) && mayB (decM l)
theorem decode_good (A : Option Addr) (n cap : Nat) (l : List UInt8) (w : World) (hr : Reads w w.heap.size 1 A n (u8s l)) (hg : goodD l = true) :
    Calls Try.prog 10 #[.slice A n cap] w fun e w' => e = .returned (.tuple #[.agg (mc (decM l)), .nilIface]) ∧ Below w.heap.size w w' := by
  unfold goodD at hg
  rw [Bool.and_eq_true] at hg
  have h88 : l.length = 88 := of_decide_eq_true hg.1
  have hn := hr.u8_len
  obtain rfl : n = 88 := by omega
  exact (decode_88 A cap l w hr).mono fun e w' ⟨he, hb⟩ => ⟨by rw [he, ansM, hg.2]; rfl, hb⟩
theorem decode_wrong (A : Option Addr) (n cap : Nat) (l : List UInt8) (w : World) (hr : Reads w w.heap.size 1 A n (u8s l)) (hg : goodD l = false) :
    Calls Try.prog 10 #[.slice A n cap] w fun e w' => e = .returned (.tuple #[.agg (mc zM), errno (badD n)]) ∧ Below w.heap.size w w' := by
  have hn := hr.u8_len
  rcases Nat.lt_trichotomy n 88 with h | h | h
  · exact (decode_short A n cap h w).mono fun e w' ⟨he, hb⟩ => ⟨by rw [he, badD, if_pos h], hb⟩
  · subst h
    have hm : mayB (decM l) = false := by
      unfold goodD at hg
      rwa [decide_eq_true hn, Bool.true_and] at hg
    exact (decode_88 A cap l w hr).mono fun e w' ⟨he, hb⟩ => ⟨by rw [he, ansM, hm]; rfl, hb⟩
  · exact (decode_long A n cap h w).mono fun e w' ⟨he, hb⟩ => ⟨by rw [he, badD, if_neg (by omega), if_pos h], hb⟩
theorem goodD_enc {m : List Int} (hl : m.length = 28) (h : mayB m = true) : goodD (encM m) = true := by
  unfold goodD
  rw [dec_enc hl h, h, decide_eq_true (encM_length hl)]; rfl

end Go.Proofs.Ytmjmplkhngpgnaa
