/- slices.Sort at a row of the call's own. -/
import Derived.Test.YtmfoffigmojdcaaGreatGraM
import Derived.Test.YtmfoffigmojdcaaGreatBase
import Derived.Test.YtmfoffigmojdcaaGreatWord
import Derived.Test.YtmfoffigmojdcaaGreatShelfS
import Derived.Lib.OwnBridge
import Derived.Lib.SlKeysI
namespace Go.Proofs.YtmfoffigmojdcaaGreat
open Go.RowKit Go.Maps Go.Sort Go.Shelf
set_option linter.unusedVariables false
set_option linter.unusedSimpArgs false

section
variable {w : World} {B n : Nat} {v : Value} {l : List Int}
theorem sort_own (w : World) (h : w.ownsRow B 3 1 v n (i64s l)) (hn : n < 4611686018427387904) :
    Calls Tryz.prog 107 #[v] w fun e w' => e = .returned (.tuple #[]) ∧ w'.ownsRow B 3 1 v n (i64s (srt l)) ∧ Turn (fun k => v.ownBlock = some k) w w' := by
  have hl : l.length = n := by have := h.1; rw [i64s_length] at this; omega
  rcases h.2 with ⟨rfl, h0⟩ | ⟨gb, cap, cur, rfl, hbase, hgb, r1, r2, r3, r4⟩
  · have hs : l = [] := List.eq_nil_of_length_eq_zero (by omega)
    subst hs
    have hc := AnyM.slices_Sort_int_none Tryz.laysSort none 0 w
    change Calls Tryz.prog 107 _ _ _ at hc
    exact hc.mono fun e w' ⟨h1, h2⟩ => by
      subst h2
      exact ⟨h1, by simpa [srt] using h, Turn.refl _ _⟩
  · have hH : Holds encZ w gb 0 l.toArray := holds_of_block_i hgb (by rw [Nat.mul_one] at r4; rw [hl]; exact r4)
    have hgl := (Array.getElem?_eq_some_iff.1 hgb).1
    have hc := AnyM.slices_Sort_int Tryz.laysSort gb 0 cap l w hH hgl (by omega)
    change Calls Tryz.prog 107 _ _ _ at hc
    rw [hl] at hc
    refine hc.mono fun e w' ⟨h1, nn, os, h2⟩ => ?_
    subst h2
    refine ⟨h1, ?_, (Turn.refl _ _).grown (grownBy_sorted_i _) fun k hk _ => hk⟩
    have := ownsRow_sorted_i (w := w) (n := nn) (os := os) (ts := srt l) (ss := l) (srt_len l) hbase hgb (by omega) r2 r3
    rw [hl] at this
    exact this
end
end Go.Proofs.YtmfoffigmojdcaaGreat
