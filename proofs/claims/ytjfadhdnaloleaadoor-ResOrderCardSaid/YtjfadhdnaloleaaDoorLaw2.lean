/- The walks of layer 2's statements. -/
import Derived.Test.YtjfadhdnaloleaaDoorResL
import Derived.Test.YtjfadhdnaloleaaDoorRefP
namespace Go.Proofs.YtjfadhdnaloleaaDoor
open Go.RowKit
set_option linter.unusedVariables false
set_option linter.unusedSimpArgs false

theorem stepB {w W W' : World} (h : Below w.heap.size w W) (hb : Below W.heap.size W W') : Below w.heap.size w W' := h.trans (hb.mono h.size)
theorem stepA {w W : World} (h : Below w.heap.size w W) (o : Obj) : Below w.heap.size w (W.alloc o) := h.alloc h.size o
abbrev ResAt (w : World) (b : Nat) (t r : Int) : Prop := Blk w b 23 #[.int .i64 t, .int .i64 r]
theorem res_cells {w : World} {b : Nat} {t r : Int} (h : ResAt w b t r) : w.cell? ⟨b, 0, none⟩ = some (.int .i64 t) ∧ w.cell? ⟨b, 1, none⟩ = some (.int .i64 r) ∧ b < w.heap.size := ⟨h.cell 0, h.cell 1, h.lt⟩
theorem neq_res (a b c d : Int) (w : World) : (binOp .neq 23 (resV a b) (resV c d)).run Tryd.prog w = .ok (.bool (!(a == c && b == d))) w := by
  have h := eql_res a b c d w
  rw [run_eql_struct] at h
  rw [run_neq_struct]
  cases hq : (Op.equalIn 10000 23 (resV a b) (resV c d)).run Tryd.prog w with
  | ok x w' =>
    rw [hq] at h
    simp only [Result.andThen_ok, Result.ok.injEq, Value.bool.injEq] at h
    obtain ⟨rfl, rfl⟩ := h
    simp only [Result.andThen_ok]
  | halt x w' => rw [hq] at h; simp [Result.andThen] at h

set_option maxRecDepth 100000 in
set_option maxHeartbeats 4000000 in
theorem reads_long (s : ByteArray) (h : 200 < s.size) (w : World) (hg : EType w) :
    Calls Tryd.prog 4 #[.string s] w fun e w' => e = .returned (.bool true) ∧ Below w.heap.size w w' := by
  have d0 : decide ((200 : Int) < (s.size : Int)) = true := decide_eq_true (by omega)
  have HG := Lib.hid hg
  clear hg
  go_enter Tryd.func4, Tryd.ntmps4
  go_wp2_with fail
  refine (alive_any _ HG.out).mono ?_
  rintro e w1 ⟨rfl, hb1⟩
  go_wp2_with fail
  go_ret
  exact ⟨rfl, hb1⟩

set_option maxRecDepth 100000 in
set_option maxHeartbeats 4000000 in
theorem reads_yes (s : ByteArray) (hs : s.size ≤ 200) (t r k : Nat) (h : parseP s.data.toList = (some (t, r), k)) (w : World) (hg : EType w) :
    Calls Tryd.prog 4 #[.string s] w fun e w' => e = .returned (.bool true) ∧ Below w.heap.size w w' := by
  have d0 : decide ((200 : Int) < (s.size : Int)) = false := decide_eq_false (by omega)
  have HG := Lib.hid hg
  have H := Lib.hid h
  have HR := Lib.hid (show ansV (parseP s.data.toList) = .tuple #[resV t r, .int .i64 0, .int .i64 0] by rw [h]; rfl)
  have he : ∀ W, (binOp .eql 23 (resV t r) (resV t r)).run Tryd.prog W = .ok (.bool true) W := fun W => by rw [eql_res]; simp
  clear hg h
  go_enter Tryd.func4, Tryd.ntmps4
  go_wp2_with fail
  refine (alive_any _ HG.out).mono ?_
  rintro e w1 ⟨rfl, hb1⟩
  have B1 := Lib.hid hb1
  have E1 := Lib.hid (HG.out.below hb1)
  clear hb1
  go_wp2_with fail
  refine (parse_yes H.out (by unfold maxLen; omega) _ E1.out).mono ?_
  rintro e w2 ⟨rfl, hb2⟩
  have B2 := Lib.hid (stepB B1.out hb2)
  clear hb2
  go_wp2_with fail
  refine (parseR_any s hs _).mono ?_
  rintro e w3 ⟨he3, hb3⟩
  rw [HR.out] at he3
  subst he3
  have R3 := Blk.here (Blk.new w2 23 #[.int .i64 t, .int .i64 r]) hb3
  obtain ⟨k0, k1, hlt⟩ := res_cells R3
  have B3 := Lib.hid (stepB (stepA B2.out _) hb3)
  clear hb3 R3
  go_wp2_with fail
  go_ret
  exact ⟨rfl, stepA B3.out _⟩

set_option maxRecDepth 100000 in
set_option maxHeartbeats 4000000 in
theorem reads_no (s : ByteArray) (hs : s.size ≤ 200) (p : Nat) (h : parseP s.data.toList = (none, p)) (w : World) (hg : EType w) :
    Calls Tryd.prog 4 #[.string s] w fun e w' => e = .returned (.bool true) ∧ Below w.heap.size w w' := by
  have d0 : decide ((200 : Int) < (s.size : Int)) = false := decide_eq_false (by omega)
  have HG := Lib.hid hg
  have H := Lib.hid h
  have HR := Lib.hid (show ansV (parseP s.data.toList) = .tuple #[resV 0 0, .int .i64 p, .int .i64 5] by rw [h]; rfl)
  have he : ∀ W, (binOp .eql 23 (resV 0 0) (resV 0 0)).run Tryd.prog W = .ok (.bool true) W := fun W => by rw [eql_res]; simp
  clear hg h
  go_enter Tryd.func4, Tryd.ntmps4
  go_wp2_with fail
  refine (alive_any _ HG.out).mono ?_
  rintro e w1 ⟨rfl, hb1⟩
  have B1 := Lib.hid hb1
  have E1 := Lib.hid (HG.out.below hb1)
  clear hb1
  go_wp2_with fail
  refine (parse_no H.out (by unfold maxLen; omega) _ E1.out).mono ?_
  rintro e w2 ⟨b, rfl, hb2, hl2, hF2⟩
  have B2 := Lib.hid (stepB B1.out hb2)
  have E2 := Lib.hid (E1.out.below hb2)
  have F2 := Lib.hid hF2
  clear hb2 hl2 hF2
  go_wp2_with fail
  refine (parseR_any s hs _).mono ?_
  rintro e w3 ⟨he3, hb3⟩
  rw [HR.out] at he3
  subst he3
  have R3 := Blk.here (Blk.new w2 23 #[.int .i64 0, .int .i64 0]) hb3
  obtain ⟨k0, k1, hlt⟩ := res_cells R3
  have B3 := Lib.hid (stepB (stepA B2.out _) hb3)
  have E3 := Lib.hid ((E2.out.alloc _).below hb3)
  have F3 := Lib.hid ((F2.out.alloc _).here hb3)
  clear hb3 R3
  go_wp2_with fail
  refine (code_fault b p 5 (by decide) _ ?_).mono ?_
  · exact F3.out.alloc _
  rintro e w4 ⟨rfl, rfl⟩
  go_wp2_with fail
  refine (at_fault b p 5 _ ?_ ?_).mono ?_
  · exact E3.out.alloc _
  · exact F3.out.alloc _
  rintro e w5 ⟨rfl, hb5⟩
  have B5 := Lib.hid (stepB (stepA B3.out _) hb5)
  clear hb5
  go_wp2_with fail
  go_ret
  exact ⟨rfl, B5.out⟩

theorem resReads_walk (s : ByteArray) (w : World) (hg : EType w) :
    Calls Tryd.prog 4 #[.string s] w fun e w' => e = .returned (.bool true) ∧ Below w.heap.size w w' := by
  by_cases h : 200 < s.size
  · exact reads_long s h w hg
  · match hp : parseP s.data.toList with
    | (some (t, r), k) => exact reads_yes s (by omega) t r k hp w hg
    | (none, p) => exact reads_no s (by omega) p hp w hg
end Go.Proofs.YtjfadhdnaloleaaDoor
