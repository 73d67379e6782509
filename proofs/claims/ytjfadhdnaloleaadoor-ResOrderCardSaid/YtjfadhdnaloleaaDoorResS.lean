/- The contracts of package res's compare and Less. -/
import Derived.Test.YtjfadhdnaloleaaDoorRes
import Derived.Test.YtjfadhdnaloleaaDoorShelf2
import Derived.Deep.RegionHeld3
import Derived.Lib.AppendIntMem
import Derived.Outline
namespace Go.Proofs.YtjfadhdnaloleaaDoor
open Go.RowKit
set_option linter.unusedVariables false
set_option linter.unusedSimpArgs false

theorem cmpInt_left (x y : Int) (w : World) : Calls Tryd.prog 44 #[.int .i64 x, .int .i64 y] w fun e w' => e = .returned (.int .i64 (Lib.compareInt x y)) ∧ w = w' :=
  (Tryd.cmpInt x y w).mono fun _ _ ⟨h, hw⟩ => ⟨h, hw.symm⟩

/-- cmp.Or of two numbers: the first one that isn't 0. -/
def orF (x y : Int) : Int := if x = 0 then y else x
set_option maxRecDepth 100000 in
set_option maxHeartbeats 1000000 in
theorem or_two (b : Nat) (x y : Int) (w : World) (h0 : w.cell? ⟨b, 0, none⟩ = some (.int .i64 x)) (h1 : w.cell? ⟨b, 1, none⟩ = some (.int .i64 y)) :
    Calls Tryd.prog 43 #[.slice (some ⟨b, 0, none⟩) 2 2] w fun e w' => e = .returned (.int .i64 (orF x y)) ∧ w = w' := by
  by_cases hx : x = 0
  · subst hx
    have HY : Hid (orF 0 y = y) := by show _ = _; simp [orF]
    by_cases hy : y = 0
    · subst hy
      go_enter Tryd.func43, Tryd.ntmps43
      go_wp2_with fail
      refine wp_loop_rounds 3 ?_
      rw [rounds_succ]
      go_wp2_with fail
      rw [rounds_succ]
      go_wp2_with fail
      rw [rounds_succ]
      go_wp2_with fail
      go_ret
      exact ⟨rfl, rfl⟩
    · have e1 : (y != 0) = true := by simpa using hy
      clear hy
      go_enter Tryd.func43, Tryd.ntmps43
      go_wp2_with fail
      refine wp_loop_rounds 2 ?_
      rw [rounds_succ]
      go_wp2_with fail
      rw [rounds_succ]
      go_wp2_with fail
      go_ret
      exact ⟨ret_i64 HY.out.symm, rfl⟩
  · have HY : Hid (orF x y = x) := by show _ = _; simp [orF, hx]
    have e1 : (x != 0) = true := by simpa using hx
    clear hx
    go_enter Tryd.func43, Tryd.ntmps43
    go_wp2_with fail
    refine wp_loop_rounds 1 ?_
    rw [rounds_succ]
    go_wp2_with fail
    go_ret
    exact ⟨ret_i64 HY.out.symm, rfl⟩

/-- What compare answers. -/
def cmpF (x y : Int × Int) : Int := orF (Lib.compareInt x.1 y.1) (Lib.compareInt x.2 y.2)
/-- New blocks alone, behind draws. -/
def GrewBy (w w' : World) : Prop := ∃ q os, w' = Sort.grow (w.drewN q) os
theorem GrewBy.refl (w : World) : GrewBy w w := ⟨0, #[], by simp [World.drewN_zero]⟩
theorem GrewBy.alloc {w w' : World} (h : GrewBy w w') (o : Obj) : GrewBy w (w'.alloc o) := by
  obtain ⟨q, os, rfl⟩ := h
  exact ⟨q, os ++ #[o], by rw [Sort.alloc_eq_grow, Sort.grow_grow]⟩
theorem GrewBy.drew {w w' : World} (h : GrewBy w w') : GrewBy w w'.drew := by
  obtain ⟨q, os, rfl⟩ := h
  exact ⟨q + 1, os, by simp only [Sort.grow, World.drew, World.drewN]; congr 1⟩
theorem GrewBy.below {w w' : World} (h : GrewBy w w') : Below w.heap.size w w' := by
  obtain ⟨q, os, rfl⟩ := h
  exact Lib.below_grow _ _ (Nat.le_refl _) _ _

set_option maxRecDepth 100000 in
set_option maxHeartbeats 4000000 in
theorem compare_any (a b c d : Int) (w : World) :
    Calls Tryd.prog 33 #[resV a b, resV c d] w fun e w' => e = .returned (.int .i64 (cmpF (a, b) (c, d))) ∧ GrewBy w w' := by
  unfold cmpF
  generalize hu : Lib.compareInt a c = u
  generalize hv : Lib.compareInt b d = v
  have H1 : ∀ W, Calls Tryd.prog 44 #[.int .i64 a, .int .i64 c] W fun e w' => e = .returned (.int .i64 u) ∧ W = w' := fun W => hu ▸ cmpInt_left a c W
  have H2 : ∀ W, Calls Tryd.prog 44 #[.int .i64 b, .int .i64 d] W fun e w' => e = .returned (.int .i64 v) ∧ W = w' := fun W => hv ▸ cmpInt_left b d W
  have I1 := Lib.hid H1
  have I2 := Lib.hid H2
  clear H1 H2 hu hv
  have hg : GrewBy w ((w.alloc (.cells #[.int .i64 a, .int .i64 b] 23)).alloc (.cells #[.int .i64 c, .int .i64 d] 23)) := ((GrewBy.refl w).alloc _).alloc _
  go_enter Tryd.func33, Tryd.ntmps33
  go_wp2_with fail
  have k0 : ((w.alloc (.cells #[.int .i64 a, .int .i64 b] 23)).alloc (.cells #[.int .i64 c, .int .i64 d] 23)).cell? ⟨w.heap.size, 0, none⟩ = some (.int .i64 a) := by simp
  have k1 : ((w.alloc (.cells #[.int .i64 a, .int .i64 b] 23)).alloc (.cells #[.int .i64 c, .int .i64 d] 23)).cell? ⟨w.heap.size, 1, none⟩ = some (.int .i64 b) := by simp
  have k2 : ((w.alloc (.cells #[.int .i64 a, .int .i64 b] 23)).alloc (.cells #[.int .i64 c, .int .i64 d] 23)).cell? ⟨w.heap.size + 1, 0, none⟩ = some (.int .i64 c) := by simp
  have k3 : ((w.alloc (.cells #[.int .i64 a, .int .i64 b] 23)).alloc (.cells #[.int .i64 c, .int .i64 d] 23)).cell? ⟨w.heap.size + 1, 1, none⟩ = some (.int .i64 d) := by simp
  generalize ((w.alloc (.cells #[.int .i64 a, .int .i64 b] 23)).alloc (.cells #[.int .i64 c, .int .i64 d] 23)) = W at hg k0 k1 k2 k3 ⊢
  go_region_held3 (fun w' => w'.cell? ⟨w.heap.size, 0, none⟩ = some (.int .i64 a) ∧ w'.cell? ⟨w.heap.size, 1, none⟩ = some (.int .i64 b) ∧ w'.cell? ⟨w.heap.size + 1, 0, none⟩ = some (.int .i64 c) ∧ w'.cell? ⟨w.heap.size + 1, 1, none⟩ = some (.int .i64 d))
    (go_keep)
    (first
      | (go_at_call_of 44 (Value.int .i64 a); refine (I1.out _).mono ?_; rintro e w5 ⟨rfl, rfl⟩)
      | (go_at_call_of 44 (Value.int .i64 b); refine (I2.out _).mono ?_; rintro e w5 ⟨rfl, rfl⟩)
      | (go_at_call 43; refine (or_two _ u v _ ?_ ?_).mono ?_; (simp); (simp); rintro e w5 ⟨rfl, rfl⟩))
  all_goals
    go_wp2_with fail
    go_ret
    exact ⟨rfl, (hg.alloc _).drew⟩

/-- Does a resource stand ahead of another one, by compare? -/
def ltF (a b c d : Int) : Bool := decide (cmpF (a, b) (c, d) < 0)
theorem ltF_eq (a b c d : Int) : ltF a b c d = decide (a < c ∨ a = c ∧ b < d) := by
  unfold ltF cmpF orF Lib.compareInt
  rw [Bool.eq_iff_iff]
  simp only [decide_eq_true_eq]
  by_cases h1 : a < c
  · simp [h1]
  · by_cases h2 : a > c
    · simp [h1, h2]; omega
    · have h3 : a = c := by omega
      subst h3
      by_cases h4 : b < d
      · simp [h4]
      · by_cases h5 : b > d <;> simp [h4, h5]
set_option maxRecDepth 100000 in
set_option maxHeartbeats 1000000 in
theorem less_any (a b c d : Int) (w : World) :
    Calls Tryd.prog 21 #[resV a b, resV c d] w fun e w' => e = .returned (.bool (ltF a b c d)) ∧ GrewBy w w' := by
  unfold ltF
  go_enter Tryd.func21, Tryd.ntmps21
  go_wp2_with fail
  have hg : GrewBy w ((w.alloc (.cells #[.int .i64 a, .int .i64 b] 23)).alloc (.cells #[.int .i64 c, .int .i64 d] 23)) := ((GrewBy.refl w).alloc _).alloc _
  refine (compare_any a b c d _).mono ?_
  rintro e w5 ⟨rfl, hg5⟩
  go_wp2_with fail
  go_ret
  refine ⟨rfl, ?_⟩
  obtain ⟨q, os, rfl⟩ := hg5
  obtain ⟨q2, os2, e2⟩ := hg
  rw [e2]
  exact ⟨q2 + q, os2 ++ os, by simp only [Sort.grow, World.drewN, Array.append_assoc, Nat.add_assoc]⟩

/-! ### The sort -/
def encR (x : Int × Int) : List Value := [.int .i64 x.1, .int .i64 x.2]
theorem swo_cmp : Sort.SWO (ltOf cmpF) := by
  have e : ∀ x y : Int × Int, ltOf cmpF x y = decide (x.1 < y.1 ∨ x.1 = y.1 ∧ x.2 < y.2) := fun x y => ltF_eq x.1 x.2 y.1 y.2
  constructor
  · intro x; rw [e]; simp
  · intro x y z h1 h2; rw [e] at *; simp at *; omega
  · intro x y z h1 h2; rw [e] at *; simp at *; omega
theorem sortF_any (blk off cap : Nat) (d : Array (Int × Int)) (w : World) (hH : Sort.HoldsK encR 2 w blk off d) (hblk : blk < w.heap.size) (hsz : d.size < 4611686018427387904) :
    Calls Tryd.prog 32 #[.slice (some ⟨blk, off, none⟩) d.size cap, .func (.func 33) #[] #[]] w fun e w' =>
      e = .returned (.tuple #[]) ∧ ∃ d' n os, Sort.PermIn 0 d.size d d' ∧ Sort.SortedIn (ltOf cmpF) 0 d.size d' ∧ w' = sortWorldK encR 2 w blk off n d' os := by
  have eg : ∀ args w, (callFunc 33 args).run Tryd.prog w = .ok (.enter 33 args) w := enters_of Tryd.func33 (by kernel_rfl) rfl
  exact AnyQ.slices_SortFunc Tryd.laysSort 2 Tryd.isAgg23 Tryd.sizeOf23 encR (fun _ => rfl) (fun x v hv => by simp [encR] at hv; rcases hv with rfl | rfl <;> rfl) cmpF swo_cmp 33 #[] blk off cap d w eg
    (fun m os dk _ x y => compare_any x.1 x.2 y.1 y.2 _) hH hblk hsz
end Go.Proofs.YtjfadhdnaloleaaDoor
