/- The document's One, whatever comes. -/
import Derived.Test.YtggfadiahacgeaaDoorScrHb
import Derived.Test.YtggfadiahacgeaaDoorScrHc
namespace Go.Proofs.YtggfadiahacgeaaDoor
open Go.RowKit
set_option linter.unusedVariables false
set_option linter.unusedSimpArgs false

theorem oneR_any (a b c d e : Int) (hb : 0 ≤ b ∧ b ≤ 255) (hc : 0 ≤ c ∧ c ≤ 255) (hd : 0 ≤ d ∧ d ≤ 255) (he : 0 ≤ e ∧ e ≤ 255) (w : World) :
    Calls Tryd.prog 13 #[.int .i64 a, .int .i64 b, .int .i64 c, .int .i64 d, .int .i64 e] w fun x w' => x = .returned (.agg (ints (oneE a b c d e)).toArray) ∧ Below w.heap.size w w' := by
  by_cases k0 : a < 1
  · rcases (show b < 1 ∨ 8 < b ∨ (1 ≤ b ∧ b ≤ 8) by omega) with h | h | h
    · exact one_0_lo a b c d e hb hc hd he k0 h w
    · exact one_0_hi a b c d e hb hc hd he k0 h w
    · exact one_0_in a b c d e hb hc hd he k0 h w
  by_cases k9 : 9 < a
  · rcases (show b < 1 ∨ 8 < b ∨ (1 ≤ b ∧ b ≤ 8) by omega) with h | h | h
    · exact one_9_lo a b c d e hb hc hd he k9 h w
    · exact one_9_hi a b c d e hb hc hd he k9 h w
    · exact one_9_in a b c d e hb hc hd he k9 h w
  by_cases k7 : 7 ≤ a ∧ a ≤ 9
  · by_cases hs : e = 0
    · rcases (show b < 1 ∨ 8 < b ∨ (1 ≤ b ∧ b ≤ 8) by omega) with h | h | h
      · exact one_7y_lo a b c d e hb hc hd he k7 h hs w
      · exact one_7y_hi a b c d e hb hc hd he k7 h hs w
      · exact one_7y_in a b c d e hb hc hd he k7 h hs w
    · rcases (show b < 1 ∨ 8 < b ∨ (1 ≤ b ∧ b ≤ 8) by omega) with h | h | h
      · exact one_7n_lo a b c d e hb hc hd he k7 h hs w
      · exact one_7n_hi a b c d e hb hc hd he k7 h hs w
      · exact one_7n_in a b c d e hb hc hd he k7 h hs w
  by_cases k1 : a = 1
  · by_cases hs : b + c + d + e = 0
    · exact one_1y a b c d e hb hc hd he k1 (by omega) hs w
    · rcases (show b < 1 ∨ 8 < b ∨ (1 ≤ b ∧ b ≤ 8) by omega) with h | h | h
      · exact one_1n_lo a b c d e hb hc hd he k1 h hs w
      · exact one_1n_hi a b c d e hb hc hd he k1 h hs w
      · exact one_1n_in a b c d e hb hc hd he k1 h hs w
  by_cases k3 : a = 3
  · rcases (show b < 1 ∨ 8 < b ∨ (1 ≤ b ∧ b ≤ 8) by omega) with h | h | h
    · exact one_3x_lo a b c d e hb hc hd he k3 h w
    · exact one_3x_hi a b c d e hb hc hd he k3 h w
    · cases hr : rowB c d with
      | false => exact one_3r a b c d e hb hc hd he k3 h hr w
      | true =>
        rcases (show e < 1 ∨ 4 < e ∨ (1 ≤ e ∧ e ≤ 4) by omega) with h3 | h3 | h3
        · exact one_3l a b c d e hb hc hd he k3 h hr h3 w
        · exact one_3h a b c d e hb hc hd he k3 h hr h3 w
        · exact one_3y a b c d e hb hc hd he k3 h hr h3 w
  by_cases k2 : a = 2
  · rcases (show b < 1 ∨ 8 < b ∨ (1 ≤ b ∧ b ≤ 8) by omega) with h | h | h
    · exact one_2x_lo a b c d e hb hc hd he k2 h w
    · exact one_2x_hi a b c d e hb hc hd he k2 h w
    · by_cases hs : c + d + e = 0
      · exact one_2y a b c d e hb hc hd he k2 h hs w
      · exact one_2n a b c d e hb hc hd he k2 h hs w
  by_cases k4 : a = 4
  · rcases (show b < 1 ∨ 8 < b ∨ (1 ≤ b ∧ b ≤ 8) by omega) with h | h | h
    · exact one_4x_lo a b c d e hb hc hd he k4 h w
    · exact one_4x_hi a b c d e hb hc hd he k4 h w
    · by_cases hs : c + d + e = 0
      · exact one_4y a b c d e hb hc hd he k4 h hs w
      · exact one_4n a b c d e hb hc hd he k4 h hs w
  by_cases k5 : a = 5
  · rcases (show b < 1 ∨ 8 < b ∨ (1 ≤ b ∧ b ≤ 8) by omega) with h | h | h
    · exact one_5x_lo a b c d e hb hc hd he k5 h w
    · exact one_5x_hi a b c d e hb hc hd he k5 h w
    · by_cases hs : c + d + e = 0
      · exact one_5y a b c d e hb hc hd he k5 h hs w
      · exact one_5n a b c d e hb hc hd he k5 h hs w
  by_cases k6 : a = 6
  · rcases (show b < 1 ∨ 8 < b ∨ (1 ≤ b ∧ b ≤ 8) by omega) with h | h | h
    · exact one_6x_lo a b c d e hb hc hd he k6 h w
    · exact one_6x_hi a b c d e hb hc hd he k6 h w
    · by_cases hs : c + d + e = 0
      · exact one_6y a b c d e hb hc hd he k6 h hs w
      · exact one_6n a b c d e hb hc hd he k6 h hs w
  omega
end Go.Proofs.YtggfadiahacgeaaDoor
