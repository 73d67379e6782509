/- The document's numbers: Ints, has, Rising, Nodes, edge. -/
import Derived.Test.YtiapnaecdefonaaGraD
import Derived.Deep.DeepCutAuto
namespace Go.Proofs.Ytiapnaecdefonaa
open Go.RowKit
set_option linter.unusedVariables false
set_option linter.unusedSimpArgs false

theorem Reads.inum {w : World} {B n : Nat} {A : Option Addr} {l : List Int} (h : Reads w B 1 A n (i64s l)) : l.length = n := by have := h.1; rw [i64s_length] at this; omega
set_option maxRecDepth 100000 in
set_option maxHeartbeats 4000000 in
/-- Slices of integers that read as one list are the same. -/
theorem ints_same (A A' : Option Addr) (n c c' B B' : Nat) (l : List Int) (w : World) (hn : n ≤ 9223372036854775807) (h : Reads w B 1 A n (i64s l)) (h' : Reads w B' 1 A' n (i64s l)) :
    Calls Try.prog 9 #[.slice A n c, .slice A' n c'] w fun e w' => e = .returned (.bool true) ∧ ∃ q, w' = w.drewN q := by
  have H := Lib.hid h
  have H' := Lib.hid h'
  have HL := Lib.hid h.inum
  clear h h'
  go_enter Try.func9, Try.ntmps9
  go_wp2_with fail
  go_loopw [5] (fun i W => ∃ k q : Nat, k ≤ n ∧ i = .int .i64 k ∧ W = w.drewN q) (fun i _ => n - (RowKit.intOf i).toNat)
  case atStart => exact ⟨0, 0, Nat.zero_le _, rfl, rfl⟩
  case round =>
    obtain ⟨k, q, hk, rfl, rfl⟩ := hrel
    by_cases hlt : k < n
    · obtain ⟨b, off, rfl, hb, hc⟩ := int_cells H.out (by omega)
      obtain ⟨b', off', rfl, hb', hc'⟩ := int_cells H'.out (by omega)
      have k1 := hc k (by rw [HL.out]; exact hlt)
      have k2 := hc' k (by rw [HL.out]; exact hlt)
      clear hc hc' hb hb'
      generalize gd l k = x at k1 k2
      go_wp2_with fail
      go_quiet (fail)
      go_wp2_with fail
      go_roundw
      case rel => exact ⟨k + 1, _, by omega, by go_num, rfl⟩
      case measure => simp [RowKit.intOf]; omega
    · go_wp2_with fail
      go_ret
      exact ⟨rfl, q, rfl⟩
set_option maxRecDepth 100000 in
set_option maxHeartbeats 4000000 in
theorem has_any (A : Option Addr) (n c B : Nat) (l : List Int) (x : Int) (w : World) (hn : n ≤ 9223372036854775807) (h : Reads w B 1 A n (i64s l)) :
    Calls Try.prog 27 #[.slice A n c, .int .i64 x] w fun e w' => e = .returned (.bool (decide (x ∈ l))) ∧ w = w' := by
  have H := Lib.hid h
  have HL := Lib.hid h.inum
  clear h
  go_enter Try.func27, Try.ntmps27
  go_wp2_with fail
  go_loopw [5] (fun i W => ∃ k : Nat, k ≤ n ∧ i = .int .i64 k ∧ x ∉ l.take k ∧ w = W) (fun i _ => n - (RowKit.intOf i).toNat)
  case atStart => exact ⟨0, Nat.zero_le _, rfl, by simp, rfl⟩
  case round =>
    obtain ⟨k, hk, rfl, hno, rfl⟩ := hrel
    have NO := Lib.hid hno
    clear hno
    by_cases hlt : k < n
    · obtain ⟨b, off, rfl, hb, hc⟩ := int_cells H.out (by omega)
      have hlk : k < l.length := by rw [HL.out]; exact hlt
      have k1 := hc k hlk
      have hts := List.take_add_one (l := l) (i := k)
      rw [List.getElem?_eq_getElem hlk, ← gd_get hlk] at hts
      have hm : gd l k ∈ l := by rw [gd_get hlk]; exact List.getElem_mem hlk
      have TS := Lib.hid hts
      have HM := Lib.hid hm
      clear hc hb hts hm hlk
      generalize gd l k = y at k1 TS HM
      by_cases e : y = x
      · subst e
        have HD := Lib.hid (show decide (y ∈ l) = true by simpa using HM.out)
        go_wp2_with fail
        go_ret
        exact ⟨by rw [HD.out]; rfl, by first | rfl | trivial⟩
      · have d1 : (y == x) = false := by simpa using e
        go_wp2_with fail
        go_roundw
        case rel =>
          refine ⟨k + 1, by omega, by go_num, ?_, by first | rfl | trivial⟩
          rw [TS.out, List.mem_append]
          rintro (h | h)
          · exact NO.out h
          · simp at h; exact e h.symm
        case measure => simp [RowKit.intOf]; omega
    · obtain rfl : k = n := by omega
      have HD := Lib.hid (show decide (x ∈ l) = false by have := NO.out; rw [List.take_of_length_le (by rw [HL.out]; exact Nat.le_refl _)] at this; simpa using this)
      go_wp2_with fail
      go_ret
      exact ⟨by rw [HD.out]; rfl, by first | rfl | trivial⟩
section
variable {w : World} {B n : Nat} {A : Option Addr} {ls : List (List Int)}
set_option maxRecDepth 100000 in
set_option maxHeartbeats 4000000 in
theorem edge_any {c : Nat} (x y : Int) (w : World) (h : EdgM w B A n ls) (hn : n ≤ 1000) :
    Calls Try.prog 26 #[.slice A n c, .int .i64 x, .int .i64 y] w fun e w' => e = .returned (.bool (decide ((x, y) ∈ eds ls))) ∧ w = w' := by
  have H := Lib.hid h
  clear h
  go_enter Try.func26, Try.ntmps26
  go_wp2_with fail
  go_loopw [7] (fun i W => ∃ k : Nat, k ≤ n ∧ i = .int .i64 k ∧ (x, y) ∉ eds (ls.take k) ∧ w = W) (fun i _ => n - (RowKit.intOf i).toNat)
  case atStart => exact ⟨0, Nat.zero_le _, rfl, by simp [eds], rfl⟩
  case round =>
    obtain ⟨k, hk, rfl, hno, rfl⟩ := hrel
    have NO := Lib.hid hno
    clear hno
    by_cases hlt : k < n
    · obtain ⟨b, off, a, s, t, u, rfl, hbl, ⟨hl, e⟩, hc, wa, wt⟩ := H.out.at_ hlt
      have HE := Lib.hid (eds_take ls hl e)
      have hm : (a, t) ∈ eds ls := List.mem_map.2 ⟨_, List.getElem_mem hl, by rw [e]; rfl⟩
      have HM := Lib.hid hm
      have k0 : w.cell? ⟨b, off + k * 4, none⟩ = some (.int .i64 a) := by have := hc 0 _ rfl; simpa [Addr.add] using this
      have k2 : w.cell? ⟨b, off + k * 4 + 2, none⟩ = some (.int .i64 t) := by have := hc 2 _ rfl; simpa [Addr.add] using this
      have C2 := Lib.hid k2
      clear hc wa wt e hm
      by_cases e1 : a = x
      · subst e1
        by_cases e2 : t = y
        · subst e2
          have HD := Lib.hid (show decide ((a, t) ∈ eds ls) = true by simpa using HM.out)
          go_wp2_with fail
          go_ret
          exact ⟨by rw [HD.out]; rfl, by first | rfl | trivial⟩
        · have d1 : (t == y) = false := by simpa using e2
          go_wp2_with fail
          go_roundw
          case rel =>
            refine ⟨k + 1, by omega, by go_num, ?_, by first | rfl | trivial⟩
            rw [HE.out, List.mem_append]
            rintro (h | h)
            · exact NO.out h
            · simp at h; exact e2 h.symm
          case measure => simp [RowKit.intOf]; omega
      · have d1 : (a == x) = false := by simpa using e1
        go_wp2_with fail
        go_roundw
        case rel =>
          refine ⟨k + 1, by omega, by go_num, ?_, by first | rfl | trivial⟩
          rw [HE.out, List.mem_append]
          rintro (h | h)
          · exact NO.out h
          · simp at h; exact e1 h.1.symm
        case measure => simp [RowKit.intOf]; omega
    · obtain rfl : k = n := by omega
      have HD := Lib.hid (show decide ((x, y) ∈ eds ls) = false by have := NO.out; rw [List.take_of_length_le (by have := H.out.count; omega)] at this; simpa using this)
      go_wp2_with fail
      go_ret
      exact ⟨by rw [HD.out]; rfl, by first | rfl | trivial⟩
end
end Go.Proofs.Ytiapnaecdefonaa
