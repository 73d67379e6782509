/- The contracts of New, find, isTime, whose. -/
import Derived.Test.YtmfoffigmojdcaaGreatCliP
import Derived.WalkMore
import Derived.Laws.Tables
namespace Go.Proofs.YtmfoffigmojdcaaGreat
open Go.RowKit
set_option linter.unusedVariables false
set_option linter.unusedSimpArgs false

set_option maxRecDepth 100000 in
set_option maxHeartbeats 1000000 in
theorem cTime_any (x : Int) (w : World) : Calls Tryz.prog 106 #[.int .i64 x] w fun e w' => e = .returned (.bool (isT x)) ∧ w = w' := by
  by_cases h1 : 0 ≤ x
  · have d1 : decide (0 ≤ x) = true := by simpa using h1
    have e : isT x = decide (x ≤ 1099511627776) := by unfold isT; simp [h1]
    go_enter Tryz.func106, Tryz.ntmps106
    go_wp2_with fail
    go_ret
    exact ⟨by first | rfl | (rw [e]; rfl), rfl⟩
  · have d1 : decide (0 ≤ x) = false := by simpa using h1
    have e : isT x = false := by unfold isT; simp [h1]
    go_enter Tryz.func106, Tryz.ntmps106
    go_wp2_with fail
    go_ret
    exact ⟨by first | rfl | (rw [e]; rfl), rfl⟩

set_option maxRecDepth 100000 in
set_option maxHeartbeats 1000000 in
theorem cNew_bad (n : Int) (h : n < 1 ∨ 8 < n) (w : World) :
    Calls Tryz.prog 32 #[.int .i64 n] w fun e w' => e = .returned (.tuple #[.pointer none, errno 2]) ∧ w = w' := by
  by_cases h1 : n < 1
  · have d1 : decide (n < 1) = true := by simpa using h1
    go_enter Tryz.func32, Tryz.ntmps32
    go_wp2_with fail
    go_ret2
    exact ⟨rfl, rfl⟩
  · have d1 : decide (n < 1) = false := by simpa using h1
    have d2 : decide (8 < n) = true := by simp; omega
    go_enter Tryz.func32, Tryz.ntmps32
    go_wp2_with fail
    go_ret2
    exact ⟨rfl, rfl⟩
theorem built_clients (v : Int) : Tryz.prog.built 123 [(0, .int .i64 v)] = some #[.int .i64 v, .int .i64 0, .bool false, .int .i64 0, .int .i64 0, .bool false, .int .i64 0, .int .i64 0, .bool false, .int .i64 0, .int .i64 0, .bool false, .int .i64 0, .int .i64 0, .bool false, .int .i64 0, .int .i64 0, .bool false, .int .i64 0, .int .i64 0, .bool false, .int .i64 0, .int .i64 0, .bool false, .int .i64 0, .int .i64 0, .bool false, .int .i64 0] := by kernel_rfl
theorem clB_new (n : Nat) (h1 : 1 ≤ n) (h8 : n ≤ 8) : clB n (List.replicate n noCl) = #[.int .i64 (n : Int), .int .i64 0, .bool false, .int .i64 0, .int .i64 0, .bool false, .int .i64 0, .int .i64 0, .bool false, .int .i64 0, .int .i64 0, .bool false, .int .i64 0, .int .i64 0, .bool false, .int .i64 0, .int .i64 0, .bool false, .int .i64 0, .int .i64 0, .bool false, .int .i64 0, .int .i64 0, .bool false, .int .i64 0, .int .i64 0, .bool false, .int .i64 0] := by
  have e : full (List.replicate n noCl) = List.replicate 9 noCl := by
    unfold full
    rw [List.length_replicate, List.replicate_append_replicate, show n + (8 - n) = 8 by omega]; rfl
  unfold clB
  rw [e]; rfl
set_option maxRecDepth 100000 in
set_option maxHeartbeats 1000000 in
theorem cNew_ok (n : Nat) (h1 : 1 ≤ n) (h8 : n ≤ 8) (w : World) :
    Calls Tryz.prog 32 #[.int .i64 (n : Int)] w fun e w' => e = .returned (.tuple #[.pointer (some ⟨w.heap.size, 0, none⟩), .nilIface]) ∧ Cli w' w.heap.size n (List.replicate n noCl) ∧ Below w.heap.size w w' := by
  have d1 : decide ((n : Int) < 1) = false := by simp; omega
  have d2 : decide ((8 : Int) < (n : Int)) = false := by simp; omega
  have HC := Lib.hid (clB_new n h1 h8)
  go_enter Tryz.func32, Tryz.ntmps32
  go_wp2_with fail
  go_ret2
  refine ⟨rfl, ⟨?_, by simp, h1, h8, ClOk.new n⟩, Joins.below_alloc1 w _⟩
  rw [HC.out]
  exact Blk.new w _ _

set_option maxRecDepth 100000 in
set_option maxHeartbeats 1000000 in
theorem cFind_nil (id : Int) (w : World) : Calls Tryz.prog 87 #[.pointer none, .int .i64 id] w fun e w' => e = .returned (.tuple #[.pointer none, errno 1]) ∧ w = w' := by
  go_enter Tryz.func87, Tryz.ntmps87
  go_wp2_with fail
  go_ret2
  exact ⟨rfl, rfl⟩
section
variable {p n : Nat} {L : List Cl}
set_option maxRecDepth 100000 in
set_option maxHeartbeats 1000000 in
theorem cFind_none (id : Int) (hid : id < 1 ∨ (n : Int) < id) (w : World) (h : Cli w p n L) : Calls Tryz.prog 87 #[.pointer (some ⟨p, 0, none⟩), .int .i64 id] w fun e w' => e = .returned (.tuple #[.pointer none, errno 10]) ∧ w = w' := by
  have k0 := h.many
  clear h
  by_cases h1 : id < 1
  · have d1 : decide (id < 1) = true := by simpa using h1
    go_enter Tryz.func87, Tryz.ntmps87
    go_wp2_with fail
    go_ret2
    exact ⟨rfl, rfl⟩
  · have d1 : decide (id < 1) = false := by simpa using h1
    have d2 : decide ((n : Int) < id) = true := by simp; omega
    go_enter Tryz.func87, Tryz.ntmps87
    go_wp2_with fail
    go_ret2
    exact ⟨rfl, rfl⟩
set_option maxRecDepth 100000 in
set_option maxHeartbeats 1000000 in
theorem cFind_ok (j : Nat) (h1 : 1 ≤ j) (hj : j ≤ n) (w : World) (h : Cli w p n L) : Calls Tryz.prog 87 #[.pointer (some ⟨p, 0, none⟩), .int .i64 (j : Int)] w fun e w' => e = .returned (.tuple #[.pointer (some ⟨p, 1 + j * 3, none⟩), .nilIface]) ∧ w = w' := by
  have k0 := h.many
  have h8 := h.hi
  have d1 : decide ((j : Int) < 1) = false := by simp; omega
  have d2 : decide ((n : Int) < (j : Int)) = false := by simp; omega
  clear h
  go_enter Tryz.func87, Tryz.ntmps87
  go_wp2_with fail
  go_ret2
  exact ⟨rfl, rfl⟩

set_option maxRecDepth 100000 in
set_option maxHeartbeats 4000000 in
theorem cWhose_any (tx : Int) (w : World) (h : Cli w p n L) : Calls Tryz.prog 88 #[.pointer (some ⟨p, 0, none⟩), .int .i64 tx] w fun e w' => e = .returned (.int .i64 (ofL tx L)) ∧ w = w' := by
  have k0 := h.many
  have HN := Lib.hid h.hi
  have HH := Lib.hid h
  have HL := Lib.hid h.len
  clear h
  go_enter Tryz.func88, Tryz.ntmps88
  go_wp2_with fail
  go_step3
  go_wp2_with fail
  go_step3
  go_wp2_with fail
  go_loopw [5, 6] (fun f i W => ∃ j : Nat, 1 ≤ j ∧ j ≤ n + 1 ∧ f = .int .i64 0 ∧ i = .int .i64 (j : Int) ∧ (∀ q ∈ L.take (j - 1), ¬ (0 < tx ∧ q.tx = tx)) ∧ w = W) (fun _ i _ => n + 2 - (RowKit.intOf i).toNat)
  case atStart => exact ⟨1, by omega, by omega, rfl, rfl, by simp, rfl⟩
  case round =>
    obtain ⟨j, h1, hj, rfl, rfl, hall, rfl⟩ := hrel
    have HA := Lib.hid hall
    clear hall
    by_cases hlt : j ≤ n
    · have h8 := HN.out
      have hkl : j - 1 < L.length := by rw [HL.out]; omega
      have d0 : decide ((j : Int) ≤ (n : Int)) = true := decide_eq_true (by omega)
      have c0 := (HH.out.cells h1 (by omega)).1
      have HX := Lib.hid (show 0 < tx → (clAt L (j - 1)).tx = tx → ofL tx L = j from fun hp he => by
        have := ofL_hit hkl HA.out hp (by rw [← clAt_get hkl]; exact he); omega)
      have HY := Lib.hid (show ¬ (0 < tx ∧ (clAt L (j - 1)).tx = tx) → ∀ q ∈ L.take j, ¬ (0 < tx ∧ q.tx = tx) from fun hne q hq => by
        rw [show j = j - 1 + 1 by omega, List.take_add_one, List.getElem?_eq_getElem hkl, Option.toList_some] at hq
        rcases List.mem_append.1 hq with hq | hq
        · exact HA.out q hq
        · rw [List.mem_singleton.1 hq, ← clAt_get hkl]; exact hne)
      have hx := (HH.out.ok.tx _ (clAt_mem hkl)).1
      generalize (clAt L (j - 1)).tx = x at c0 HX HY hx
      by_cases hz : x = 0
      · have e1 : (x == 0) = true := by simpa using hz
        have HZ := Lib.hid (HY.out (fun h => by omega))
        clear hz HX HY hx
        go_wp2_with fail
        go_roundw
        case rel => exact ⟨j + 1, by omega, by omega, rfl, by go_num, HZ.out, trivial⟩
        case measure => simp [RowKit.intOf]; omega
      · have e1 : (x == 0) = false := by simpa using hz
        by_cases he : x = tx
        · have e2 : (x == tx) = true := by simpa using he
          have HZ := Lib.hid (HX.out (by omega) he)
          clear hz he HX HY hx
          go_wp2_with fail
          rw [Exit.noGoto_ret]
          go_ret
          exact ⟨by rw [HZ.out]; rfl, rfl⟩
        · have e2 : (x == tx) = false := by simpa using he
          have HZ := Lib.hid (HY.out (fun h => he h.2))
          clear hz he HX HY hx
          go_wp2_with fail
          go_roundw
          case rel => exact ⟨j + 1, by omega, by omega, rfl, by go_num, HZ.out, trivial⟩
          case measure => simp [RowKit.intOf]; omega
    · obtain rfl : j = n + 1 := by omega
      have d0 : decide (((n + 1 : Nat) : Int) ≤ (n : Int)) = false := by simp; omega
      rw [show n + 1 - 1 = n by omega, List.take_of_length_le (by rw [HL.out]; exact Nat.le_refl _)] at HA
      have HZ := Lib.hid (ofL_miss HA.out)
      clear HA
      go_wp2_with fail
      rw [Exit.noGoto_ret]
      go_ret
      exact ⟨by rw [HZ.out]; rfl, rfl⟩
end
end Go.Proofs.YtmfoffigmojdcaaGreat
