/- The document's Ok: a probe's steps, stored. -/
import Derived.Test.YthfhhapefjideaaGreatRefK
import Derived.Deep.QuietTactic
import Derived.BigQuiet
namespace Go.Proofs.YthfhhapefjideaaGreat
open Go.RowKit
set_option linter.unusedVariables false
set_option linter.unusedSimpArgs false

theorem pathL_cells {m : List Int} (hl : m.length = 28) : 12 + (ints (pathL m)).toArray.size ≤ 28 := by simp [pathL, hl]
theorem pathL_info {m : List Int} (hl : m.length = 28) : (Tryz.prog.info? 44).map (·.size) = some (ints (pathL m)).toArray.size := by
  rw [List.size_toArray]; exact pathL_size hl
theorem mc_there_at {w : World} {g : Nat} {t : TypeId} {c : Array Value} (h : Blk w g t c) {n : Nat} (hn : 12 + n ≤ 28) (hc : c.size = 28 := by simp [mc]) : w.there g 12 n := fun j hj =>
  ⟨by rw [h.cell (12 + j), Array.getElem?_eq_getElem (by omega)]; rfl, h.frozen (12 + j)⟩
theorem mc_splice {w : World} {g : Nat} {t : TypeId} {m q q2 : List Int} {x : Int} {c : Array Value} (hl : m.length = 28) (h : Blk w g t c) (hq : q.length = 28 := by rfl) (hc : c = (mc q).setIfInBounds 11 (.int .i64 x) := by rfl) (he : q2 = (q.set 11 x).take 12 ++ (List.range 16).map (fun i => fld m (12 + i)) := by rfl) :
    Blk (w.setCells g 12 (ints (pathL m)).toArray.toList) g t (mc q2) := by
  have h1 := h.setCells (ints (pathL m)).toArray.toList 12
  rw [hc, mc_set] at h1
  have h2 : splice (mc (q.set 11 x)) 12 (ints (pathL m)).toArray.toList = mc q2 := by
    rw [he, ← pathL_list hl]
    apply Array.ext_getElem?
    intro i
    rw [splice_get]
    have hp : (pathL m).length = 16 := by simp [pathL, hl]
    have hm : (mc (q.set 11 x)).size = 28 := mc_size (by simpa using hq)
    have ht : ((q.set 11 x).take 12).length = 12 := by rw [List.length_take, List.length_set]; omega
    simp only [ints_length, hp, hm]
    by_cases hi : 12 ≤ i ∧ i < 12 + 16 ∧ i < 28
    · rw [if_pos hi]
      simp only [mc, List.getElem?_toArray, ints, List.getElem?_map]
      rw [List.getElem?_append_right (by omega), ht]
    · rw [if_neg hi]
      simp only [mc, List.getElem?_toArray, ints, List.getElem?_map]
      by_cases h12 : i < 12
      · rw [List.getElem?_append_left (by omega), List.getElem?_take_of_lt h12]
      · rw [List.getElem?_eq_none (by rw [List.length_set]; omega), List.getElem?_eq_none (by rw [List.length_append]; omega)]
  rwa [h2] at h1
end Go.Proofs.YthfhhapefjideaaGreat
