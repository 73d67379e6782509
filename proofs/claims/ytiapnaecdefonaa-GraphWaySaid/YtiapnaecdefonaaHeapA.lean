/- The heap of numbers: its methods. -/
import Derived.Test.YtiapnaecdefonaaBase
import Derived.Test.YtiapnaecdefonaaWord
import Derived.Test.YtiapnaecdefonaaGraS
import Derived.BigRegion
import Derived.BigQuiet
import Derived.RegionTactic
import Derived.ChangeKeysEq
namespace Go.Proofs.Ytiapnaecdefonaa
open Go.RowKit
set_option linter.unusedVariables false
set_option linter.unusedSimpArgs false

theorem leastLoad (w : World) (g : Nat) (v : Value) (h : w.cell? ⟨g, 0, none⟩ = some v) : (loadVar 64 ⟨g, 0, none⟩).run Try.prog w = .ok v w := by
  have ha : ∀ w, (isAgg 64).run Try.prog w = .ok false w := fun w => by kernel_rfl
  unfold loadVar
  simp only [Sem.run_bind, ha, Result.andThen_ok, Bool.false_eq_true, if_false]
  rw [run_load, h]
theorem leastPlace (w : World) (g : Nat) : (fieldPlace ⟨g, 0, none⟩ { name := "IntSlice", type := 64, offset := 0, embedded := true, tag := "", pkgPath := "", byteOffset := 0 }).run Try.prog w = .ok ⟨g, 0, none⟩ w := by
  have ha : ∀ w, (sizeOf 64).run Try.prog w = .ok 1 w := fun w => by kernel_rfl
  unfold fieldPlace
  simp only [Sem.run_bind, ha, Result.andThen_ok]
  rfl
/-- A method that *least has by the numbers that it embeds: the numbers are loaded. -/
theorem mLoad {name : String} {f : Nat} (hm : (Try.prog.info? 63).bind (fun i => (i.methods.find? (·.name == name)).map (fun m => (m.path, m.func))) = some (#[⟨66, 0, true⟩], some (f, false)))
    (g : Nat) (v : Value) (w : World) (h : w.cell? ⟨g, 0, none⟩ = some v) : (Go.method 228 63 (.pointer (some ⟨g, 0, none⟩)) name).run Try.prog w = .ok (f, v) w := by
  obtain ⟨i, hi, hm⟩ := Option.bind_eq_some_iff.1 hm
  obtain ⟨m, hf, hm⟩ := Option.map_eq_some_iff.1 hm
  obtain ⟨h1, h2⟩ := Prod.mk.inj hm
  have hu : ∀ w, (underlying 66).run Try.prog w = .ok (.struct #[{ name := "IntSlice", type := 64, offset := 0, embedded := true, tag := "", pkgPath := "", byteOffset := 0 }]) w := fun w => by kernel_rfl
  have hs : ∀ w, (underlying 64).run Try.prog w = .ok (.slice 3) w := fun w => by kernel_rfl
  rw [show (228 : Nat) = (228 - 1) + 1 from rfl]
  unfold Go.method
  simp only [Sem.run_bind, run_typeInfo _ hi, Result.andThen_ok, hf, h1, h2, follow, hu, Place.get, Sem.run_pure, asAddr, leastPlace, receiverAt, hs, leastLoad w g v h]
  simp [follow, hu, Place.get, asAddr, leastPlace, hs, leastLoad w g v h, Result.andThen]

/-- A cell of a row of the call's own is written. -/
theorem own_set {w : World} {B r n m c : Nat} {t : TypeId} {H : List Int} (h : w.ownsRow B t 1 (.slice (some ⟨r, 0, none⟩) n c) m (i64s H)) {k : Nat} (hk : k < H.length) (x : Int) :
    (w.setCell ⟨r, k, none⟩ (.int .i64 x)).ownsRow B t 1 (.slice (some ⟨r, 0, none⟩) n c) m (i64s (H.set k x)) := by
  obtain ⟨h0, h1 | ⟨g, cap, cur, hv, hb, hh, hnc, hcm, hcs, ht⟩⟩ := h
  · obtain ⟨h1, _⟩ := h1; cases h1
  · injection hv with e1 e2 e3
    injection e1 with e1
    injection e1 with e1 _ _
    subst e1 e3
    rw [i64s_length] at h0
    refine ⟨by rw [i64s_length, List.length_set]; omega, .inr ⟨r, c, cur.setIfInBounds k (.int .i64 x), by rw [e2], hb, Blk.set_ (g := r) (t := t) (cs := cur) hh k _, hnc, hcm, by simpa using hcs, ?_⟩⟩
    rw [Array.toList_setIfInBounds, List.take_set, ht]
    simp [i64s, List.map_set]
set_option maxRecDepth 100000 in
set_option maxHeartbeats 1000000 in
theorem lenI_any (A : Option Addr) (n c : Nat) (w : World) : Calls Try.prog 35 #[.slice A n c] w fun e w' => e = .returned (.int .i64 n) ∧ w = w' := by
  go_enter Try.func35, Try.ntmps35
  go_wp2_with fail
  go_ret
  exact ⟨rfl, rfl⟩
set_option maxRecDepth 100000 in
set_option maxHeartbeats 2000000 in
theorem lessI_any {w : World} {r n c : Nat} {x y : Int} {i j : Nat} (hi : i < n) (hj : j < n) (k0 : w.cell? ⟨r, i, none⟩ = some (.int .i64 x)) (k1 : w.cell? ⟨r, j, none⟩ = some (.int .i64 y)) :
    Calls Try.prog 87 #[.slice (some ⟨r, 0, none⟩) n c, .int .i64 i, .int .i64 j] w fun e w' => e = .returned (.bool (decide (x < y))) ∧ ∃ q, w' = w.drewN q := by
  have k2 : w.cell? ⟨r, 0 + i, none⟩ = some (.int .i64 x) := by rw [Nat.zero_add]; exact k0
  have k3 : w.cell? ⟨r, 0 + j, none⟩ = some (.int .i64 y) := by rw [Nat.zero_add]; exact k1
  go_enter Try.func87, Try.ntmps87
  go_wp2_with fail
  go_quiet (fail)
  go_wp2_with fail
  go_ret
  exact ⟨rfl, _, rfl⟩
set_option maxRecDepth 100000 in
set_option maxHeartbeats 4000000 in
theorem swapI_any {w : World} {r n c : Nat} {x y : Int} {i j : Nat} (hi : i < n) (hj : j < n) (k0 : w.cell? ⟨r, i, none⟩ = some (.int .i64 x)) (k1 : w.cell? ⟨r, j, none⟩ = some (.int .i64 y)) (f0 : w.frozen? ⟨r, i, none⟩ = false) (f1 : w.frozen? ⟨r, j, none⟩ = false) :
    Calls Try.prog 91 #[.slice (some ⟨r, 0, none⟩) n c, .int .i64 i, .int .i64 j] w fun e w' => e = .returned (.tuple #[]) ∧ ∃ q, w' = ((w.setCell ⟨r, i, none⟩ (.int .i64 y)).setCell ⟨r, j, none⟩ (.int .i64 x)).drewN q := by
  obtain ⟨v', hy'⟩ := cell?_setCell_some (w := w) (p := ⟨r, i, none⟩) (x := .int .i64 y) (q := ⟨r, j, none⟩) k1
  go_enter Try.func91, Try.ntmps91
  go_wp2_with fail
  go_region
  all_goals (try go_wp2)
  all_goals go_end0
  all_goals exact ⟨rfl, 1, rfl⟩
end Go.Proofs.Ytiapnaecdefonaa
