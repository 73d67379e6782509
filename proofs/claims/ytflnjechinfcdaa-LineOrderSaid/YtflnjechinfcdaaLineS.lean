/- The contract of seek. -/
import Derived.Test.YtflnjechinfcdaaLineB
import Derived.Deep.LoopGhost
namespace Go.Proofs.Ytflnjechinfcdaa
open Go.RowKit
set_option linter.unusedVariables false
set_option linter.unusedSimpArgs false

theorem index_two (v0 v1 : Value) (i : Nat) (hi : i < 2) (W : World) : (Instr.index 56 (.agg #[v0, v1]) (.int .i64 (i : Int))).run Try.prog W = .ok (if i = 0 then v0 else v1) W := by
  have hse : (sizeOf 30).run Try.prog W = .ok 1 W := by
    have h : (Try.prog.info? 30).map (·.size) = some 1 := by kernel_rfl
    obtain ⟨i, hi, he⟩ := Option.map_eq_some_iff.1 h
    simp [sizeOf, typeInfo, hi, he]
  unfold Instr.index
  simp only [asIntOf, Sem.run_bind, Sem.run_pure, Result.andThen_ok, run_underlying Try.underlying56]
  rw [if_pos (by omega)]
  simp only [Sem.run_bind, hse, Result.andThen_ok, Int.toNat_natCast, Nat.mul_one]
  have hp : ∀ (v : Value), #[v0, v1][i]? = some v → (part 30 #[v0, v1] i).run Try.prog W = .ok v W := fun v hv => by
    simp [part, isAgg, run_underlying Try.underlying30, hv]
  match i, hi with
  | 0, _ => exact hp v0 rfl
  | 1, _ => exact hp v1 rfl
/-- What seek answers. -/
def seekV (tx : Int) (U D : List Wt) : Value := match idx tx U with
  | some k => .tuple #[.int .i64 0, .int .i64 k, .nilIface]
  | none => match idx tx D with
    | some k => .tuple #[.int .i64 1, .int .i64 k, .nilIface]
    | none => .tuple #[.int .i64 0, .int .i64 0, errno 10]
set_option maxRecDepth 100000 in
set_option maxHeartbeats 1000000 in
theorem seek_nil (tx : Int) (w : World) : Calls Try.prog 25 #[.pointer none, .int .i64 tx] w fun e w' => e = .returned (.tuple #[.int .i64 0, .int .i64 0, errno 1]) ∧ w = w' := by
  go_enter Try.func25, Try.ntmps25
  go_wp2
  go_step3
  go_wp2
  try rw [Exit.noGoto_ret]
  go_ret3
  exact ⟨rfl, rfl⟩

set_option maxRecDepth 100000 in
set_option maxHeartbeats 4000000 in
theorem seek_any {B g : Nat} {r0 r1 : Option Nat} {lim : Int} {U D : List Wt} (tx : Int) (w : World) (h : Line w B g r0 r1 lim U D) : Calls Try.prog 25 #[.pointer (some ⟨g, 0, none⟩), .int .i64 tx] w fun e w' => e = .returned (seekV tx U D) ∧ Below w.heap.size w w' := by
  obtain ⟨v0, v1, hl, _, _⟩ := h
  obtain ⟨A0, c0, A1, c1, rfl, rfl, hr0, hr1, hc0, hc1, k0, k1, k2⟩ := hl.cells
  have hlen := hl.ok.len
  have R0 := Lib.hid hr0
  have R1 := Lib.hid hr1
  have HI4 := Lib.hid info_wait4
  have x0 : ∀ W, (Instr.index 56 (.agg #[.slice A0 U.length c0, .slice A1 D.length c1]) (.int .i64 0)).run Try.prog W = .ok (.slice A0 U.length c0) W := fun W => index_two _ _ 0 (by omega) W
  have x1 : ∀ W, (Instr.index 56 (.agg #[.slice A0 U.length c0, .slice A1 D.length c1]) (.int .i64 1)).run Try.prog W = .ok (.slice A1 D.length c1) W := fun W => index_two _ _ 1 (by omega) W
  clear hl hr0 hr1 hc0 hc1
  go_enter Try.func25, Try.ntmps25
  go_wp2
  go_step3
  go_wp2
  go_step3
  go_wp2
  refine wp_loop_rounds 3 ?_
  rw [rounds_succ]
  go_wp2_with fail
  go_loopw [4, 5, 6, 25] (fun s4 s5 s6 i W => ∃ k : Nat, k ≤ U.length ∧ s4 = .int .i64 0 ∧ s5 = .int .i64 0 ∧ s6 = errno 10 ∧ i = .int .i64 k ∧ (∀ q ∈ U.take k, q.tx ≠ tx) ∧ Below w.heap.size w W) (fun _ _ _ i _ => U.length - (RowKit.intOf i).toNat)
  case atStart => exact ⟨0, Nat.zero_le _, rfl, rfl, rfl, rfl, by simp, Below.refl _ _⟩
  case round =>
    obtain ⟨k, hk, rfl, rfl, rfl, rfl, hall, hbel⟩ := hrel
    have HA := Lib.hid hall
    have HB := Lib.hid hbel
    clear hall hbel
    by_cases hlt : k < U.length
    · obtain ⟨b, off, rfl, hb, hc0, hc1, hc2, hc3⟩ := (R0.out.below HB.out).w_at hlt
      have HX := Lib.hid (show U[k].tx = tx → idx tx U = some k from fun he => idx_hit hlt HA.out he)
      have HY := Lib.hid (show U[k].tx ≠ tx → ∀ q ∈ U.take (k + 1), q.tx ≠ tx from fun hne q hq => by
        rw [List.take_add_one, List.getElem?_eq_getElem hlt, Option.toList_some] at hq
        rcases List.mem_append.1 hq with hq | hq
        · exact HA.out q hq
        · rw [List.mem_singleton.1 hq]; exact hne)
      generalize U[k] = q at hc0 hc1 hc2 hc3 HX HY
      obtain ⟨a, b', c, d⟩ := q
      simp only at hc0 hc1 hc2 hc3 HX HY
      have HC := Lib.hid (four_cells (q := ⟨a, b', c, d⟩) hc0 hc1 hc2 hc3)
      have d0 : decide ((k : Int) < (U.length : Int)) = true := by simp; omega
      clear hc0 hc1 hc2 hc3 hb
      by_cases he : a = tx
      · have e1 : (a == tx) = true := by simpa using he
        have HZ := Lib.hid (HX.out he)
        clear he HX HY
        go_wp2_with (refine wpList_load_cells rfl 33 (.tmp 28) rfl ⟨b, off + k * 4, none⟩ rfl [.int .i64 a, .int .i64 b', .int .i64 c, .bool d] _ HC.out Try.underlying33 rfl HI4.out ?_)
        try rw [Exit.noGoto_ret]
        go_ret3
        exact ⟨by unfold seekV; rw [HZ.out]; rfl, HB.out.alloc HB.out.size _⟩
      · have e1 : (a == tx) = false := by simpa using he
        have HZ := Lib.hid (HY.out he)
        clear he HX HY
        go_wp2_with (refine wpList_load_cells rfl 33 (.tmp 28) rfl ⟨b, off + k * 4, none⟩ rfl [.int .i64 a, .int .i64 b', .int .i64 c, .bool d] _ HC.out Try.underlying33 rfl HI4.out ?_)
        go_roundw
        case rel => exact ⟨k + 1, by omega, rfl, rfl, rfl, by go_num, HZ.out, HB.out.alloc HB.out.size _⟩
        case measure => simp [RowKit.intOf]; omega
    · obtain rfl : k = U.length := by omega
      rw [List.take_of_length_le (Nat.le_refl _)] at HA
      have HZ := Lib.hid (idx_miss HA.out)
      have d0 : decide ((U.length : Int) < (U.length : Int)) = false := by simp
      clear HA
      have HZU := Lib.hid HZ.out
      clear HZ
      go_wp2_with fail
      rw [rounds_succ]
      go_wp2_with fail
      go_loopw [4, 5, 6, 25] (fun s4 s5 s6 i W => ∃ k : Nat, k ≤ D.length ∧ s4 = .int .i64 0 ∧ s5 = .int .i64 0 ∧ s6 = errno 10 ∧ i = .int .i64 k ∧ (∀ q ∈ D.take k, q.tx ≠ tx) ∧ Below w.heap.size w W) (fun _ _ _ i _ => D.length - (RowKit.intOf i).toNat)
      case atStart => exact ⟨0, Nat.zero_le _, rfl, rfl, rfl, rfl, by simp, HB.out⟩
      case round =>
        obtain ⟨k, hk, rfl, rfl, rfl, rfl, hall, hbel⟩ := hrel
        have HA := Lib.hid hall
        have HB2 := Lib.hid hbel
        clear hall hbel
        by_cases hlt : k < D.length
        · obtain ⟨b, off, rfl, hb, hc0, hc1, hc2, hc3⟩ := (R1.out.below HB2.out).w_at hlt
          have HX := Lib.hid (show D[k].tx = tx → idx tx D = some k from fun he => idx_hit hlt HA.out he)
          have HY := Lib.hid (show D[k].tx ≠ tx → ∀ q ∈ D.take (k + 1), q.tx ≠ tx from fun hne q hq => by
            rw [List.take_add_one, List.getElem?_eq_getElem hlt, Option.toList_some] at hq
            rcases List.mem_append.1 hq with hq | hq
            · exact HA.out q hq
            · rw [List.mem_singleton.1 hq]; exact hne)
          generalize D[k] = q at hc0 hc1 hc2 hc3 HX HY
          obtain ⟨a, b', c, d⟩ := q
          simp only at hc0 hc1 hc2 hc3 HX HY
          have HC := Lib.hid (four_cells (q := ⟨a, b', c, d⟩) hc0 hc1 hc2 hc3)
          have d0 : decide ((k : Int) < (D.length : Int)) = true := by simp; omega
          clear hc0 hc1 hc2 hc3 hb
          by_cases he : a = tx
          · have e1 : (a == tx) = true := by simpa using he
            have HZ := Lib.hid (HX.out he)
            clear he HX HY
            go_wp2_with (refine wpList_load_cells rfl 33 (.tmp 28) rfl ⟨b, off + k * 4, none⟩ rfl [.int .i64 a, .int .i64 b', .int .i64 c, .bool d] _ HC.out Try.underlying33 rfl HI4.out ?_)
            try rw [Exit.noGoto_ret]
            go_ret3
            exact ⟨by unfold seekV; rw [HZU.out]; simp only []; rw [HZ.out]; rfl, HB2.out.alloc HB2.out.size _⟩
          · have e1 : (a == tx) = false := by simpa using he
            have HZ := Lib.hid (HY.out he)
            clear he HX HY
            go_wp2_with (refine wpList_load_cells rfl 33 (.tmp 28) rfl ⟨b, off + k * 4, none⟩ rfl [.int .i64 a, .int .i64 b', .int .i64 c, .bool d] _ HC.out Try.underlying33 rfl HI4.out ?_)
            go_roundw
            case rel => exact ⟨k + 1, by omega, rfl, rfl, rfl, by go_num, HZ.out, HB2.out.alloc HB2.out.size _⟩
            case measure => simp [RowKit.intOf]; omega
        · obtain rfl : k = D.length := by omega
          rw [List.take_of_length_le (Nat.le_refl _)] at HA
          have HZ1 := Lib.hid (idx_miss HA.out)
          have d0 : decide ((D.length : Int) < (D.length : Int)) = false := by simp
          clear HA
          go_wp2_with fail
          rw [rounds_succ]
          go_wp2_with fail
          try rw [Exit.noGoto_ret]
          go_ret3
          exact ⟨by unfold seekV; rw [HZU.out]; simp only []; rw [HZ1.out]; rfl, HB2.out⟩
end Go.Proofs.Ytflnjechinfcdaa
