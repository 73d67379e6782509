/- The contracts of package script: what a kind has, whether an entry may be. -/
import Derived.Test.YtggfadiahacgeaaDoorScrM
import Derived.Test.YtggfadiahacgeaaDoorRes
import Derived.Test.YtggfadiahacgeaaDoorBase
import Derived.RegionTactic
import Derived.BigRegion
import Derived.BigQuiet
import Derived.Deep.DeepCutAuto
import Derived.Deep.RegionHeld
namespace Go.Proofs.YtggfadiahacgeaaDoor
open Go.RowKit
set_option linter.unusedVariables false
set_option linter.unusedSimpArgs false

theorem row_ok (t r : Int) : rowB t r = okR t r := rfl
theorem flat_res2 : flatB Tryd.prog 5 27 = some (true, 2) := by kernel_rfl
theorem flat_span2 : flatB Tryd.prog 5 47 = some (true, 2) := by kernel_rfl
theorem guard_res2 : Tryd.prog.eqGuardType Tryd.prog.depth 27 = false := by kernel_rfl
theorem guard_span2 : Tryd.prog.eqGuardType Tryd.prog.depth 47 = false := by kernel_rfl

set_option maxRecDepth 100000 in
set_option maxHeartbeats 1000000 in
theorem sHas_any (lo hi x : Int) (w : World) :
    Calls Tryd.prog 15 #[.agg #[.int .i64 lo, .int .i64 hi], .int .i64 x] w fun e w' => e = .returned (.bool (insB lo hi x)) ∧ Below w.heap.size w w' := by
  have HR : ∀ b : Bool, insB lo hi x = b → Hid (b = insB lo hi x) := fun b h => h.symm
  cases h1 : decide (lo ≤ x) <;> cases h2 : decide (x ≤ hi)
  all_goals
    have HQ := HR _ (by unfold insB; simp only [h1, h2]; rfl)
    clear HR
    go_enter Tryd.func15, Tryd.ntmps15
    go_wp2
    go_ret
    exact ⟨ret_bool HQ.out, Joins.below_alloc1 _ _⟩

/-- What a kind has, as a value. -/
def namV (k : Int) : Value := .agg #[.bool (kdB k), .bool (lokB k), .int .i64 (cliL k), .int .i64 (cliH k), .int .i64 (modL k), .int .i64 (modH k), .int .i64 0, .int .i64 (picH k)]
theorem kinds (k : Int) : k = 0 ∨ k = 1 ∨ k = 2 ∨ k = 3 ∨ k = 4 ∨ k = 5 ∨ k = 6 ∨ k = 7 ∨ k = 8 ∨ k = 9 ∨ (k < 0 ∨ 9 < k) := by omega
theorem nam_no {k : Int} (h : k < 0 ∨ 9 < k) : namV k = .agg #[.bool false, .bool false, .int .i64 0, .int .i64 0, .int .i64 0, .int .i64 0, .int .i64 0, .int .i64 0] := by
  have h1 : kdB k = false := by unfold kdB; simp; omega
  have h2 : lokB k = false := by unfold lokB; simp; omega
  have h3 : cliB k = false := by unfold cliB; simp; omega
  have h4 : picB k = false := by unfold picB; simp; omega
  unfold namV cliL cliH modL modH picH
  rw [h1, h2, h3, h4]; rfl
set_option maxRecDepth 100000 in
set_option maxHeartbeats 4000000 in
theorem named_any (k : Int) (w : World) :
    Calls Tryd.prog 14 #[.int .i64 k] w fun e w' => e = .returned (namV k) ∧ Below w.heap.size w w' := by
  obtain ⟨v, hv⟩ : ∃ v, namV k = v := ⟨_, rfl⟩
  have HV := Lib.hid hv
  rw [hv]
  clear hv
  rcases kinds k with rfl | rfl | rfl | rfl | rfl | rfl | rfl | rfl | rfl | rfl | h
  case' inr.inr.inr.inr.inr.inr.inr.inr.inr.inr =>
    have HV := Lib.hid ((nam_no h).symm.trans HV.out)
    have h0 : (k == 0) = false := by simp; omega
    have h1 : (k == 1) = false := by simp; omega
    have h2 : (k == 2) = false := by simp; omega
    have h3 : (k == 3) = false := by simp; omega
    have h4 : (k == 4) = false := by simp; omega
    have h5 : (k == 5) = false := by simp; omega
    have h6 : (k == 6) = false := by simp; omega
    have h7 : (k == 7) = false := by simp; omega
    have h8 : (k == 8) = false := by simp; omega
    have h9 : (k == 9) = false := by simp; omega
    clear h
  all_goals
    go_enter Tryd.func14, Tryd.ntmps14
    go_wp2
    refine bodyPost_ret (v := v) (by rw [← HV.out]; simp [results, Tryd.results14, go_sem]; try rfl) rfl ⟨rfl, ?_⟩
    repeat (first | exact Below.refl _ _ | refine Below.setCell ?_ (by simp) _ | refine Below.alloc ?_ (by simp <;> omega) _)
theorem named_kd {k : Int} : namV k = .agg #[.bool (kdB k), .bool (lokB k), .int .i64 (cliL k), .int .i64 (cliH k), .int .i64 (modL k), .int .i64 (modH k), .int .i64 0, .int .i64 (picH k)] := rfl
theorem picH_iff (k : Int) : (!decide ((0 : Int) = 0 ∧ picH k = 0)) = picB k := by
  unfold picH
  cases picB k <;> decide
theorem run_pickf (k : Int) (W : World) : (Instr.field 49 (.agg #[.bool (kdB k), .bool (lokB k), .int .i64 (cliL k), .int .i64 (cliH k), .int .i64 (modL k), .int .i64 (modH k), .int .i64 0, .int .i64 (picH k)]) 4).run Tryd.prog W = .ok (.agg #[.int .i64 0, .int .i64 (picH k)]) W := by
  unfold Instr.field
  simp [run_underlying Tryd.underlying49, asAgg, part, Tryd.isAgg47, Tryd.sizeOf47]
set_option maxRecDepth 100000 in
set_option maxHeartbeats 1000000 in
theorem picks_any (k : Int) (w : World) :
    Calls Tryd.prog 24 #[.int .i64 k] w fun e w' => e = .returned (.bool (picB k)) ∧ Below w.heap.size w w' := by
  obtain ⟨b, hb⟩ : ∃ b, picB k = b := ⟨_, rfl⟩
  have HB := Lib.hid (show (!decide (picH k = 0)) = b from (by rw [← hb, ← picH_iff]; simp))
  rw [hb]
  clear hb
  have hne := fun W => neq_two (P := Tryd.prog) flat_span2 (by omega) 0 (picH k) 0 0 W
  have hg := guard_span2
  have hf := run_pickf k
  go_enter Tryd.func24, Tryd.ntmps24
  go_wp2_with (go_at_call 14; refine (named_any k _).mono ?_; rintro e w' ⟨rfl, hb⟩; rw [named_kd])
  go_ret
  exact ⟨ret_bool HB.out, hb⟩


set_option maxRecDepth 100000 in
set_option maxHeartbeats 1000000 in
theorem sPlace_any (t r : Int) (named : Bool) (w : World) :
    Calls Tryd.prog 16 #[resV t r, .bool named] w fun e w' => e = .returned (.bool (placeE named t r)) ∧ Below w.heap.size w w' := by
  have hg := guard_res2
  have he := fun W => eql_two (P := Tryd.prog) flat_res2 (by omega) t r 0 0 W
  cases named
  · have HR : ∀ b : Bool, decide (t = 0 ∧ r = 0) = b → Hid (b = placeE false t r) := fun b h => h.symm
    cases hd : decide (t = 0 ∧ r = 0)
    all_goals
      have HQ := HR _ hd
      rw [hd] at he
      clear HR hd
      go_enter Tryd.func16, Tryd.ntmps16
      go_wp2
      go_ret
      refine ⟨ret_bool HQ.out, ?_⟩
      repeat (first | exact Below.refl _ _ | refine Below.setCell ?_ (by simp) _ | refine Below.alloc ?_ (by simp <;> omega) _)
  · clear he
    go_enter Tryd.func16, Tryd.ntmps16
    go_wp2_with (go_at_call 23; refine (rok_any t r _).mono ?_; rintro e w' ⟨rfl, rfl⟩)
    go_ret
    refine ⟨rfl, ?_⟩
    repeat (first | exact Below.refl _ _ | refine Below.setCell ?_ (by simp) _ | refine Below.alloc ?_ (by simp <;> omega) _)
theorem sHas_b (lo hi x : Int) (b : Bool) (hb : insB lo hi x = b) (w : World) :
    Calls Tryd.prog 15 #[.agg #[.int .i64 lo, .int .i64 hi], .int .i64 x] w fun e w' => e = .returned (.bool b) ∧ Below w.heap.size w w' := by rw [← hb]; exact sHas_any lo hi x w
theorem sPlace_b (t r : Int) (named b : Bool) (hb : placeE named t r = b) (w : World) :
    Calls Tryd.prog 16 #[resV t r, .bool named] w fun e w' => e = .returned (.bool b) ∧ Below w.heap.size w w' := by rw [← hb]; exact sPlace_any t r named w
abbrev entV (k c t r m p : Int) : Value := .agg #[.int .i64 k, .int .i64 c, .int .i64 t, .int .i64 r, .int .i64 m, .int .i64 p]
end Go.Proofs.YtggfadiahacgeaaDoor
