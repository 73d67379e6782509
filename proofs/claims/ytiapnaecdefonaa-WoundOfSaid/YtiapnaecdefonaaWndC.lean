/- The document's By. -/
import Derived.Test.YtiapnaecdefonaaEdgA
import Derived.Test.YtiapnaecdefonaaWndM
namespace Go.Proofs.Ytiapnaecdefonaa
open Go.RowKit
set_option linter.unusedVariables false
set_option linter.unusedSimpArgs false

section
variable {w : World} {B n : Nat} {A : Option Addr} {ls : List (List Int)}
set_option maxRecDepth 100000 in
set_option maxHeartbeats 8000000 in
theorem byR_any {c : Nat} (x : Int) (w : World) (h : EdgM w B A n ls) (hn : n ≤ 1000) :
    Calls Try.prog 31 #[.slice A n c, .int .i64 x] w fun e w' => e = .returned (.tuple #[.int .i64 ((byL (eds ls) x).getD 0), .bool (byL (eds ls) x).isSome]) ∧ w = w' := by
  have H := Lib.hid h
  clear h
  go_enter Try.func31, Try.ntmps31
  go_wp2_with fail
  go_loopw [6, 7, 8] (fun s6 s7 s8 W => ∃ (k : Nat) (o : Option Int), k ≤ n ∧ s6 = .int .i64 (o.getD 0) ∧ s7 = .bool o.isSome ∧ s8 = .int .i64 k ∧ byL (eds (ls.take k)) x = o ∧ w = W) (fun _ _ i _ => n - (RowKit.intOf i).toNat)
  case atStart => exact ⟨0, none, Nat.zero_le _, rfl, rfl, rfl, rfl, rfl⟩
  case round =>
    obtain ⟨k, o, hk, rfl, rfl, rfl, ho, rfl⟩ := hrel
    have HO := Lib.hid ho
    clear ho
    by_cases hlt : k < n
    · obtain ⟨b, off, a, s, t, u, rfl, hbl, ⟨hl, e⟩, hc, wa, wt⟩ := H.out.at_ hlt
      have HE := Lib.hid (show byL (eds (ls.take (k + 1))) x = byStep x o (a, t) from by rw [eds_take ls hl e, byL_snoc, HO.out])
      have k0 : w.cell? ⟨b, off + k * 4, none⟩ = some (.int .i64 a) := by have := hc 0 _ rfl; simpa [Addr.add] using this
      have k2 : w.cell? ⟨b, off + k * 4 + 2, none⟩ = some (.int .i64 t) := by have := hc 2 _ rfl; simpa [Addr.add] using this
      clear hc wa wt e
      by_cases e1 : t = x
      · subst e1
        by_cases e2 : a < t
        · have d2 : decide (a < t) = true := by simpa using e2
          cases o with
          | none =>
            have HN := Lib.hid (HE.out.trans (show _ = some a by simp [byStep, e2]))
            clear e2 HE
            go_wp2_with fail
            go_roundw
            case rel => exact ⟨k + 1, some a, by omega, rfl, rfl, by go_num, HN.out, by first | rfl | trivial⟩
            case measure => simp [RowKit.intOf]; omega
          | some n1 =>
            by_cases e3 : a < n1
            · have d3 : decide (a < n1) = true := by simpa using e3
              have HN := Lib.hid (HE.out.trans (show _ = some a by simp [byStep, e2, e3]))
              clear e2 e3 HE
              go_wp2_with fail
              go_roundw
              case rel => exact ⟨k + 1, some a, by omega, rfl, rfl, by go_num, HN.out, by first | rfl | trivial⟩
              case measure => simp [RowKit.intOf]; omega
            · have d3 : decide (a < n1) = false := by simpa using e3
              have HN := Lib.hid (HE.out.trans (show _ = some n1 by simp [byStep, e2, e3]))
              clear e2 e3 HE
              go_wp2_with fail
              go_roundw
              case rel => exact ⟨k + 1, some n1, by omega, rfl, rfl, by go_num, HN.out, by first | rfl | trivial⟩
              case measure => simp [RowKit.intOf]; omega
        · have d2 : decide (a < t) = false := by simpa using e2
          have HN := Lib.hid (HE.out.trans (show _ = o by cases o <;> simp [byStep, e2]))
          clear e2 HE
          go_wp2_with fail
          go_roundw
          case rel => exact ⟨k + 1, o, by omega, rfl, rfl, by go_num, HN.out, by first | rfl | trivial⟩
          case measure => simp [RowKit.intOf]; omega
      · have d1 : (t == x) = false := by simpa using e1
        have HN := Lib.hid (HE.out.trans (show _ = o by cases o <;> simp [byStep, e1]))
        clear HE
        go_wp2_with fail
        go_roundw
        case rel => exact ⟨k + 1, o, by omega, rfl, rfl, by go_num, HN.out, by first | rfl | trivial⟩
        case measure => simp [RowKit.intOf]; omega
    · obtain rfl : k = n := by omega
      have HN := Lib.hid (show byL (eds ls) x = o from by have := HO.out; rwa [List.take_of_length_le (by have := H.out.count; omega)] at this)
      go_wp2_with fail
      go_ret2
      exact ⟨by rw [HN.out]; rfl, by first | rfl | trivial⟩
end
end Go.Proofs.Ytiapnaecdefonaa
