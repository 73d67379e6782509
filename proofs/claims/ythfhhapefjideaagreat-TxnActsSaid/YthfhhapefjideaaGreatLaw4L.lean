/- The document's Ok, of whatever message. -/
import Derived.Test.YthfhhapefjideaaGreatRefK
import Derived.Test.YthfhhapefjideaaGreatRefKAS
import Derived.Test.YthfhhapefjideaaGreatRefKA1P
import Derived.Test.YthfhhapefjideaaGreatRefKA1M
import Derived.Test.YthfhhapefjideaaGreatRefKA1Y
import Derived.Test.YthfhhapefjideaaGreatRefKA2P
import Derived.Test.YthfhhapefjideaaGreatRefKA2M
import Derived.Test.YthfhhapefjideaaGreatRefKA2Y
import Derived.Test.YthfhhapefjideaaGreatRefKB
import Derived.Test.YthfhhapefjideaaGreatRefKC
import Derived.Test.YthfhhapefjideaaGreatRefKD1
import Derived.Test.YthfhhapefjideaaGreatRefKD2
import Derived.Test.YthfhhapefjideaaGreatRefKE
import Derived.Test.YthfhhapefjideaaGreatRefKF
import Derived.Test.YthfhhapefjideaaGreatRefKG
namespace Go.Proofs.YthfhhapefjideaaGreat
open Go.RowKit
set_option linter.unusedVariables false
set_option linter.unusedSimpArgs false

theorem refOk_1 (m : List Int) (hl : m.length = 28) (hk : fld m 0 = 1) (hg : goesB m = true) (w : World) :
    Calls Tryz.prog 61 #[.agg (mc m)] w fun e w' => e = .returned (.bool (mayB m)) ∧ Below w.heap.size w w' := by
  cases htx : inS 1 1048576 (fld m 3)
  · exact refOk_1t m hl hk hg htx w
  cases hsq : inS 1 1048576 (fld m 4)
  · exact refOk_1s m hl hk hg htx hsq w
  cases hpl : resB (fld m 5) (fld m 6)
  · exact refOk_1p m hl hk hg htx hsq hpl w
  rcases (show fld m 7 < 1 ∨ 4 < fld m 7 ∨ (1 ≤ fld m 7 ∧ fld m 7 ≤ 4) by omega) with h8 | h8 | h8
  · exact refOk_1l m hl hk hg htx hsq hpl h8 w
  · exact refOk_1h m hl hk hg htx hsq hpl h8 w
  · exact refOk_1y m hl hk hg htx hsq hpl h8 w
theorem refOk_2 (m : List Int) (hl : m.length = 28) (hk : fld m 0 = 2) (hg : goesB m = true) (w : World) :
    Calls Tryz.prog 61 #[.agg (mc m)] w fun e w' => e = .returned (.bool (mayB m)) ∧ Below w.heap.size w w' := by
  cases htx : inS 1 1048576 (fld m 3)
  · exact refOk_2t m hl hk hg htx w
  cases hsq : inS 1 1048576 (fld m 4)
  · exact refOk_2s m hl hk hg htx hsq w
  cases hpl : resB (fld m 5) (fld m 6)
  · exact refOk_2p m hl hk hg htx hsq hpl w
  rcases (show fld m 7 < 1 ∨ 4 < fld m 7 ∨ (1 ≤ fld m 7 ∧ fld m 7 ≤ 4) by omega) with h8 | h8 | h8
  · exact refOk_2l m hl hk hg htx hsq hpl h8 w
  · exact refOk_2h m hl hk hg htx hsq hpl h8 w
  · exact refOk_2y m hl hk hg htx hsq hpl h8 w
theorem refOk_any (m : List Int) (hl : m.length = 28) (w : World) :
    Calls Tryz.prog 61 #[.agg (mc m)] w fun e w' => e = .returned (.bool (mayB m)) ∧ Below w.heap.size w w' := by
  cases hg : goesB m
  · by_cases hk : 1 ≤ fld m 0 ∧ fld m 0 ≤ 11
    · exact refOk_stray m hl hg hk w
    · exact refOk_num m hl hg (by omega) w
  · rcases kind_cases (fld m 0) with h | h | h | h | h | h | h | h | h | h | h | h
    · exact refOk_1 m hl h hg w
    · exact refOk_2 m hl h hg w
    · exact refOk_3 m hl h hg w
    · exact refOk_4 m hl h hg w
    · exact refOk_5 m hl h hg w
    · exact refOk_6 m hl h hg w
    · exact refOk_7 m hl h hg w
    · exact refOk_8 m hl h hg w
    · exact refOk_9 m hl h hg w
    · exact refOk_10 m hl h hg w
    · rcases way_both h hg with hw | hw
      · exact refOk_11o m hl h hg hw w
      · exact refOk_11b m hl h hg hw w
    · unfold goesB at hg
      rw [wayB_out h] at hg
      cases hg

end Go.Proofs.YthfhhapefjideaaGreat
