/- What layer 2's statements say of ways: a law's alive. -/
import Derived.Test.YtjfadhdnaloleaaDoorResQ
import Derived.Test.YtjfadhdnaloleaaDoorResT
import Derived.Outline
import Derived.Laws.StructEq
namespace Go.Proofs.YtjfadhdnaloleaaDoor
open Go.RowKit
set_option linter.unusedVariables false
set_option linter.unusedSimpArgs false

theorem EType.below {w w' : World} (h : EType w) (hb : Below w.heap.size w w') : EType w' := by
  have hl : 0 < w.heap.size := World.block_lt_of_cell? _ _ h
  unfold EType
  rw [(bcell hb).1 _ _ hl]; exact h

/-- Parse of a text that is a resource's. -/
theorem parse_yes {s : ByteArray} {t r k : Nat} (h : parseP s.data.toList = (some (t, r), k)) (hs : s.size ≤ maxLen) (w : World) (hg : EType w) :
    Calls Tryd.prog 17 #[.string s] w fun e w' => e = .returned (.tuple #[resV t r, .nilIface]) ∧ Below w.heap.size w w' :=
  (parse_any s hs w hg).mono fun e w' hp => by rw [h] at hp; exact hp
/-- Parse of a text that is none's. -/
def ParseBad (p : Nat) (w : World) (e : Ending) (w' : World) : Prop := ∃ b, e = .returned (.tuple #[resV 0 0, faultV b]) ∧ Below w.heap.size w w' ∧ w.heap.size ≤ b ∧ FaultAt w' b p 5
theorem parse_no {s : ByteArray} {p : Nat} (h : parseP s.data.toList = (none, p)) (hs : s.size ≤ maxLen) (w : World) (hg : EType w) :
    Calls Tryd.prog 17 #[.string s] w (ParseBad p w) :=
  (parse_any s hs w hg).mono fun e w' hp => by rw [h] at hp; exact hp

theorem ex_3dot : parseP [51, 46] = (none, 2) := by decide +kernel
theorem ex_251 : parseP [50, 53, 49] = (none, 2) := by decide +kernel
theorem ex_314 : parseP [51, 46, 49, 52] = (some (3, 14), 0) := by decide +kernel

/-- '==' of two resources. -/
theorem eql_res (a b c d : Int) (w : World) : (binOp .eql 23 (resV a b) (resV c d)).run Tryd.prog w = .ok (.bool (a == c && b == d)) w := by
  have u3 := Tryd.underlying3
  have a3 := Tryd.isAgg3
  have z3 := Tryd.sizeOf3
  have hS : Tryd.prog.underlying 23 = some (.struct (Tryd.prog.fieldsOf 23)) := by kernel_rfl
  have hp : Tryd.prog.stoodInHeld 23 = false := by kernel_rfl
  rw [run_eql_struct, show (10000 : Nat) = 9999 + 1 from rfl, run_equalIn_agg w 9999 23 _ _ hS hp]
  simp only [Program.fieldsOf, Tryd.underlying23]
  go_simp
  by_cases h1 : a = c <;> by_cases h2 : b = d <;> simp [h1, h2]

theorem EType.alloc {w : World} (h : EType w) (o : Obj) : EType (w.alloc o) := by
  have hl : 0 < w.heap.size := World.block_lt_of_cell? _ _ h
  unfold EType
  rw [World.cell?_alloc_lt _ _ ⟨0, 0, none⟩ hl]; exact h

theorem shard_ex (w : World) : Calls Tryd.prog 10 #[resV 3 14, .int .i64 2] w fun e w' => e = .returned (.tuple #[.int .i64 1, .nilIface]) ∧ Below w.heap.size w w' :=
  (shard_yes 3 14 2 (by decide) (by decide) (by decide) w).mono fun _ _ ⟨h, hw⟩ => ⟨by rw [h]; rfl, hw⟩
theorem parse_ex1 (w : World) (hg : EType w) : Calls Tryd.prog 17 #[.string ⟨#[51, 46]⟩] w (ParseBad 2 w) := parse_no (s := ⟨#[51, 46]⟩) ex_3dot (by decide) w hg
theorem parse_ex2 (w : World) (hg : EType w) : Calls Tryd.prog 17 #[.string ⟨#[50, 53, 49]⟩] w (ParseBad 2 w) := parse_no (s := ⟨#[50, 53, 49]⟩) ex_251 (by decide) w hg
theorem parse_ex3 (w : World) (hg : EType w) : Calls Tryd.prog 17 #[.string ⟨#[51, 46, 49, 52]⟩] w fun e w' => e = .returned (.tuple #[resV 3 14, .nilIface]) ∧ Below w.heap.size w w' := parse_yes (s := ⟨#[51, 46, 49, 52]⟩) ex_314 (by decide) w hg
theorem at_two (b : Nat) (w : World) (hg : EType w) (hb : FaultAt w b 2 5) :
    Calls Tryd.prog 19 #[faultV b] w fun e w' => e = .returned (.int .i64 2) ∧ Below w.heap.size w w' := at_fault b 2 5 w hg hb

set_option maxRecDepth 100000 in
set_option maxHeartbeats 4000000 in
theorem alive_any (w : World) (hg : EType w) :
    Calls Tryd.prog 8 #[] w fun e w' => e = .returned (.bool true) ∧ Below w.heap.size w w' := by
  have HG := Lib.hid hg
  clear hg
  go_enter Tryd.func8, Tryd.ntmps8
  go_wp2_with fail
  refine (shard_ex _).mono ?_
  rintro e w1 ⟨rfl, hb1⟩
  have E1 := Lib.hid (HG.out.below hb1)
  have B1 := Lib.hid hb1
  clear hb1
  go_wp2_with fail
  refine (parse_ex1 _ E1.out).mono ?_
  rintro e w2 ⟨b1, rfl, hb2, hl1, hF1⟩
  have E2 := Lib.hid (E1.out.below hb2)
  have B2 := Lib.hid (B1.out.trans (hb2.mono B1.out.size))
  have F1 := Lib.hid hF1
  clear hb2 hl1 hF1
  go_wp2_with fail
  refine (parse_ex2 _ ?_).mono ?_
  · exact E2.out.alloc _
  rintro e w3 ⟨b2, rfl, hb3, hl2, hF2⟩
  have E3 := Lib.hid ((E2.out.alloc _).below hb3)
  have B3 := Lib.hid ((B2.out.alloc B2.out.size _).trans (hb3.mono (by have := B2.out.size; simp; omega)))
  have F13 := Lib.hid ((F1.out.alloc _).here hb3)
  have F2 := Lib.hid hF2
  clear hb3 hl2 hF2
  go_wp2_with fail
  refine (parse_ex3 _ ?_).mono ?_
  · exact E3.out.alloc _
  rintro e w4 ⟨rfl, hb4⟩
  have E4 := Lib.hid ((E3.out.alloc _).below hb4)
  have B4 := Lib.hid ((B3.out.alloc B3.out.size _).trans (hb4.mono (by have := B3.out.size; simp; omega)))
  have F14 := Lib.hid ((F13.out.alloc _).here hb4)
  have F24 := Lib.hid ((F2.out.alloc _).here hb4)
  clear hb4
  go_wp2_with fail
  refine (at_two b1 _ ?_ ?_).mono ?_
  · exact E4.out.alloc _
  · exact F14.out.alloc _
  rintro e w5 ⟨rfl, hb5⟩
  have E5 := Lib.hid ((E4.out.alloc _).below hb5)
  have B5 := Lib.hid ((B4.out.alloc B4.out.size _).trans (hb5.mono (by have := B4.out.size; simp; omega)))
  have F25 := Lib.hid ((F24.out.alloc _).here hb5)
  have R5 := Lib.hid ((Blk.new w4 23 #[.int .i64 3, .int .i64 14]).here hb5)
  clear hb5
  go_wp2_with fail
  refine (at_two b2 _ E5.out F25.out).mono ?_
  rintro e w6 ⟨rfl, hb6⟩
  have B6 := Lib.hid (B5.out.trans (hb6.mono B5.out.size))
  have R6 := R5.out.here hb6
  have k0 := R6.cell 0
  have k1 := R6.cell 1
  have he : (binOp .eql 23 (resV 3 14) (resV 3 14)).run Tryd.prog w6 = .ok (.bool true) w6 := eql_res 3 14 3 14 w6
  clear hb6 R6
  go_wp2_with fail
  go_ret
  exact ⟨rfl, B6.out⟩
end Go.Proofs.YtjfadhdnaloleaaDoor
