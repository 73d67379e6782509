/- A line in memory; the contracts of New, lot, many, first, All. -/
import Derived.Test.YtflnjechinfcdaaLineC
import Derived.Test.YtflnjechinfcdaaErr
import Derived.Deep.QuietTactic
import Derived.BigQuiet
import Derived.IntWalk
namespace Go.Proofs.Ytflnjechinfcdaa
open Go.RowKit
set_option linter.unusedVariables false
set_option linter.unusedSimpArgs false

/-- A line: block g has its limit and the slices of both lots. -/
structure Lin (w : World) (B g : Nat) (lim : Int) (v0 v1 : Value) (U D : List Wt) : Prop where
  box : Blk w g 58 #[.int .i64 lim, v0, v1]
  r0 : w.ownsRow B 33 4 v0 U.length (wvs U)
  r1 : w.ownsRow B 33 4 v1 D.length (wvs D)
  ne : ∀ k, v0.ownBlock = some k → v1.ownBlock ≠ some k
  geB : B ≤ g
  ok : LinOk lim U D
/-- A line; the blocks of its lots. -/
def Line (w : World) (B g : Nat) (r0 r1 : Option Nat) (lim : Int) (U D : List Wt) : Prop := ∃ v0 v1, Lin w B g lim v0 v1 U D ∧ v0.ownBlock = r0 ∧ v1.ownBlock = r1
/-- What a line's calls may turn. -/
def LS (g : Nat) (r0 r1 : Option Nat) (k : Nat) : Prop := k = g ∨ r0 = some k ∨ r1 = some k
/-- The lots' blocks next. -/
def LNext (w : World) (r0 r1 r0' r1' : Option Nat) : Prop := ∀ k, (r0' = some k ∨ r1' = some k) → (r0 = some k ∨ r1 = some k) ∨ w.heap.size ≤ k
theorem LNext.refl (w : World) (r0 r1 : Option Nat) : LNext w r0 r1 r0 r1 := fun k h => .inl h
section
variable {w w' w'' : World} {B g : Nat} {r0 r1 r0' r1' r0'' r1'' : Option Nat} {lim : Int} {U D : List Wt} {v0 v1 : Value}
theorem LNext.trans (h : LNext w r0 r1 r0' r1') (h' : LNext w' r0' r1' r0'' r1'') (hs : w.heap.size ≤ w'.heap.size) : LNext w r0 r1 r0'' r1'' := fun k hk => by
  rcases h' k hk with h1 | h1
  · exact h k h1
  · exact .inr (Nat.le_trans hs h1)
theorem LNext.ls (h : LNext w r0 r1 r0' r1') : ∀ k, k < w.heap.size → LS g r0' r1' k → LS g r0 r1 k := fun k hk hs => by
  rcases hs with hs | hs
  · exact .inl hs
  · rcases h k hs with h1 | h1
    · exact .inr h1
    · omega
theorem Lin.turn {S : Nat → Prop} (h : Lin w B g lim v0 v1 U D) (ht : Turn S w w') (hg : ¬ S g) (h0 : ∀ k, v0.ownBlock = some k → ¬ S k) (h1 : ∀ k, v1.ownBlock = some k → ¬ S k) : Lin w' B g lim v0 v1 U D :=
  ⟨h.box.turn ht hg, own_turn h.r0 ht h0, own_turn h.r1 ht h1, h.ne, h.geB, h.ok⟩
theorem Line.turn {S : Nat → Prop} (h : Line w B g r0 r1 lim U D) (ht : Turn S w w') (hn : ∀ k, LS g r0 r1 k → ¬ S k) : Line w' B g r0 r1 lim U D := by
  obtain ⟨v0, v1, hl, rfl, rfl⟩ := h
  exact ⟨v0, v1, hl.turn ht (hn g (.inl rfl)) (fun k hk => hn k (.inr (.inl hk))) (fun k hk => hn k (.inr (.inr hk))), rfl, rfl⟩
theorem Line.step (h : Line w B g r0 r1 lim U D) (hb : Below w.heap.size w w') : Line w' B g r0 r1 lim U D := h.turn (S := fun _ => False) (Turn.of_below hb) fun _ _ => id
theorem Line.ok (h : Line w B g r0 r1 lim U D) : LinOk lim U D := by obtain ⟨v0, v1, hl, _⟩ := h; exact hl.ok
theorem Line.geB (h : Line w B g r0 r1 lim U D) : B ≤ g := by obtain ⟨v0, v1, hl, _⟩ := h; exact hl.geB
theorem Line.ls_lt (h : Line w B g r0 r1 lim U D) : ∀ k, LS g r0 r1 k → B ≤ k ∧ k < w.heap.size := by
  obtain ⟨v0, v1, hl, rfl, rfl⟩ := h
  intro k hk
  rcases hk with rfl | hk | hk
  · exact ⟨hl.geB, hl.box.lt⟩
  · obtain ⟨cur, hh, hb⟩ := own_heap hl.r0 k hk
    exact ⟨hb, own_lt hh⟩
  · obtain ⟨cur, hh, hb⟩ := own_heap hl.r1 k hk
    exact ⟨hb, own_lt hh⟩
theorem Line.below_of (h : Line w B g r0 r1 lim U D) (ht : Turn (LS g r0 r1) w w') : Below B w w' := ht.below (fun k hk hs => by have := (h.ls_lt k hs).1; omega) (by have := h.ls_lt g (.inl rfl); omega)
/-- A slice that is none of the line's own. -/
def Off (g : Nat) (r0 r1 : Option Nat) (A : Option Addr) : Prop := ∀ ad, A = some ad → ¬ LS g r0 r1 ad.block
theorem Off.none_ (g : Nat) (r0 r1 : Option Nat) : Off g r0 r1 none := fun ad h => by cases h
theorem Off.next {A : Option Addr} (h : Off g r0 r1 A) (hn : LNext w r0 r1 r0' r1') (hA : ∀ ad, A = some ad → ad.block < w.heap.size) : Off g r0' r1' A := fun ad he hs => h ad he (hn.ls _ (hA ad he) hs)
/-- What is newer than the line is none of its own. -/
theorem Line.off (h : Line w B g r0 r1 lim U D) {A : Option Addr} (hA : ∀ ad, A = some ad → w.heap.size ≤ ad.block) : Off g r0 r1 A := fun ad he hs => by
  have := (h.ls_lt _ hs).2
  have := hA ad he
  omega
theorem Line.off_old (h : Line w B g r0 r1 lim U D) {A : Option Addr} (hA : ∀ ad, A = some ad → ad.block < B) : Off g r0 r1 A := fun ad he hs => by
  have := (h.ls_lt _ hs).1
  have := hA ad he
  omega
end
theorem Lin.cells {w : World} {B g : Nat} {lim : Int} {v0 v1 : Value} {U D : List Wt} (h : Lin w B g lim v0 v1 U D) :
    ∃ A0 c0 A1 c1, v0 = .slice A0 U.length c0 ∧ v1 = .slice A1 D.length c1 ∧ Reads w w.heap.size 4 A0 U.length (wvs U) ∧ Reads w w.heap.size 4 A1 D.length (wvs D) ∧ U.length ≤ c0 ∧ D.length ≤ c1 ∧ w.cell? ⟨g, 0, none⟩ = some (.int .i64 lim) ∧ w.cell? ⟨g, 1, none⟩ = some (.slice A0 U.length c0) ∧ w.cell? ⟨g, 2, none⟩ = some (.slice A1 D.length c1) := by
  obtain ⟨A0, c0, rfl, hr0, hc0, _⟩ := own_w h.r0
  obtain ⟨A1, c1, rfl, hr1, hc1, _⟩ := own_w h.r1
  exact ⟨A0, c0, A1, c1, rfl, rfl, hr0, hr1, hc0, hc1, h.box.cell 0, h.box.cell 1, h.box.cell 2⟩
theorem LinOk.len {lim : Int} {U D : List Wt} (h : LinOk lim U D) : U.length + D.length ≤ 64 := by have := h.cnt; have := h.lim; omega

/-! ### New, lot, many -/
set_option maxRecDepth 100000 in
set_option maxHeartbeats 1000000 in
theorem newLine_bad (s : Int) (h : s < 1 ∨ 64 < s) (w : World) :
    Calls Try.prog 8 #[.int .i64 s] w fun e w' => e = .returned (.tuple #[.pointer none, errno 2]) ∧ w = w' := by
  by_cases h1 : s < 1
  · have d1 : decide (s < 1) = true := by simpa using h1
    go_enter Try.func8, Try.ntmps8
    go_wp2_with fail
    go_ret2
    exact ⟨rfl, rfl⟩
  · have d1 : decide (s < 1) = false := by simpa using h1
    have d2 : decide (64 < s) = true := by simp; omega
    go_enter Try.func8, Try.ntmps8
    go_wp2_with fail
    go_ret2
    exact ⟨rfl, rfl⟩
set_option maxRecDepth 100000 in
set_option maxHeartbeats 1000000 in
theorem newLine_ok (s : Int) (h : 1 ≤ s ∧ s ≤ 64) (w : World) :
    Calls Try.prog 8 #[.int .i64 s] w fun e w' => e = .returned (.tuple #[.pointer (some ⟨w.heap.size, 0, none⟩), .nilIface]) ∧ Line w' w.heap.size w.heap.size none none s [] [] ∧ Below w.heap.size w w' := by
  have d1 : decide (s < 1) = false := by simp; omega
  have d2 : decide (64 < s) = false := by simp; omega
  have H := Lib.hid h
  clear h
  go_enter Try.func8, Try.ntmps8
  go_wp2_with fail
  go_ret2
  exact ⟨rfl, ⟨_, _, ⟨Blk.new _ _ _, World.ownsRow_nil _ _ _ _, World.ownsRow_nil _ _ _ _, fun k hk => by simp [Value.ownBlock] at hk, Nat.le_refl _, LinOk.start H.out⟩, rfl, rfl⟩, Joins.below_alloc1 _ _⟩
set_option maxRecDepth 100000 in
set_option maxHeartbeats 1000000 in
theorem lot_any (q : Wt) (w : World) : Calls Try.prog 28 #[.agg (wv q).toArray] w fun e w' => e = .returned (.int .i64 (if q.up then 0 else 1)) ∧ Below w.heap.size w w' := by
  obtain ⟨a, b, c, d⟩ := q
  show Calls _ _ #[.agg #[.int .i64 a, .int .i64 b, .int .i64 c, .bool d]] _ _
  cases d
  · go_enter Try.func28, Try.ntmps28
    go_wp2_with fail
    go_ret
    exact ⟨rfl, Joins.below_alloc1 _ _⟩
  · go_enter Try.func28, Try.ntmps28
    go_wp2_with fail
    go_ret
    exact ⟨rfl, Joins.below_alloc1 _ _⟩
section
variable {w : World} {B g : Nat} {r0 r1 : Option Nat} {lim : Int} {U D : List Wt}
set_option maxRecDepth 100000 in
set_option maxHeartbeats 1000000 in
theorem many_any (w : World) (h : Line w B g r0 r1 lim U D) : Calls Try.prog 24 #[.pointer (some ⟨g, 0, none⟩)] w fun e w' => e = .returned (.int .i64 ((U.length + D.length : Nat) : Int)) ∧ ∃ q, w' = w.drewN q := by
  obtain ⟨v0, v1, hl, _, _⟩ := h
  obtain ⟨A0, c0, A1, c1, rfl, rfl, hr0, hr1, hc0, hc1, k0, k1, k2⟩ := hl.cells
  have hlen := hl.ok.len
  have s1 : IntKind.i64.wrap ((U.length : Int) + (D.length : Int)) = (U.length : Int) + (D.length : Int) := IntWalk.i64_in _ (by omega)
  clear hl hr0 hr1
  go_enter Try.func24, Try.ntmps24
  go_wp2_with fail
  go_quiet (fail)
  go_wp2_with fail
  go_ret
  exact ⟨by first | rfl | (simp), _, rfl⟩

/-- A slice that is told, newer than what was there. -/
structure Told (w w' : World) (A : Option Addr) (m : Nat) (L : List Wt) : Prop where
  reads : Reads w' w'.heap.size 4 A m (wvs L)
  new : ∀ ad, A = some ad → w.heap.size ≤ ad.block ∧ ad.block < w'.heap.size
  row : 0 < m → ∃ b cs, A = some ⟨b, 0, none⟩ ∧ Blk w' b 33 cs ∧ m * 4 ≤ cs.size
set_option maxRecDepth 100000 in
set_option maxHeartbeats 1000000 in
theorem first_any (w : World) (h : Line w B g r0 r1 lim U D) {m : Nat} (hm : m ≤ U.length + D.length) : Calls Try.prog 23 #[.pointer (some ⟨g, 0, none⟩), .int .i64 m] w fun e w' => ∃ A, e = .returned (.slice A m m) ∧ Told w w' A m ((U ++ D).take m) ∧ Below w.heap.size w w' := by
  have hg := (h.ls_lt g (.inl rfl)).2
  obtain ⟨v0, v1, hl, _, _⟩ := h
  obtain ⟨A0, c0, A1, c1, rfl, rfl, hr0, hr1, hc0, hc1, k0, k1, k2⟩ := hl.cells
  have hlen := hl.ok.len
  have R0 := Lib.hid hr0
  have R1 := Lib.hid hr1
  have HL := Lib.hid hlen
  have HG := Lib.hid hg
  clear hl hr0 hr1 k0 hg
  go_enter Try.func23, Try.ntmps23
  have K1 := Lib.hid k1
  have K2 := Lib.hid k2
  go_wp2_with (go_at_call 31
               refine (concat_w _ K1.out K2.out R0.out R1.out HL.out HG.out).mono ?_
               rintro e w1 ⟨v, rfl, hrow, hb⟩
               obtain ⟨A, c, rfl, hr, hc, hA⟩ := own_w hrow
               have HR := Lib.hid hr
               have HROW := Lib.hid hrow
               have HA := Lib.hid hA
               have HB := Lib.hid hb
               clear hr hrow hA hb)
  go_ret
  refine ⟨A, rfl, ⟨HR.out.w_take hm, fun ad he => ⟨(HA.out ad he).1, (HA.out ad he).2.1⟩, fun h0 => ?_⟩, HB.out⟩
  rcases HROW.out.2 with ⟨_, h00⟩ | ⟨b, cap, cur, hv, hbs, hh, hnc, hcm, hcs, _⟩
  · omega
  · injection hv with e1 e2 e3
    subst e1
    exact ⟨b, cur, rfl, hh, by rw [hcs]; exact Nat.mul_le_mul_right _ (by omega)⟩

set_option maxRecDepth 100000 in
set_option maxHeartbeats 1000000 in
theorem allLine_nil (w : World) : Calls Try.prog 14 #[.pointer none] w fun e w' => e = .returned (.slice none 0 0) ∧ w = w' := by
  go_enter Try.func14, Try.ntmps14
  go_wp2_with fail
  go_ret
  exact ⟨rfl, rfl⟩
set_option maxRecDepth 100000 in
set_option maxHeartbeats 1000000 in
theorem allLine_any (w : World) (h : Line w B g r0 r1 lim U D) : Calls Try.prog 14 #[.pointer (some ⟨g, 0, none⟩)] w fun e w' => ∃ A, e = .returned (.slice A (U.length + D.length) (U.length + D.length)) ∧ Told w w' A (U.length + D.length) (U ++ D) ∧ Below w.heap.size w w' := by
  have H := Lib.hid h
  clear h
  go_enter Try.func14, Try.ntmps14
  go_wp2_with fail
  refine (many_any _ H.out).mono ?_
  rintro e w1 ⟨rfl, q, rfl⟩
  go_wp2_with fail
  refine (first_any _ (H.out.step (below_drewN (Below.refl _ _) q)) (Nat.le_refl _)).mono ?_
  rintro e w2 ⟨A, rfl, hT, hb⟩
  rw [List.take_of_length_le (by simp)] at hT
  have HT := Lib.hid hT
  have HB := Lib.hid hb
  clear hT hb
  go_wp2_with fail
  go_ret
  exact ⟨A, rfl, ⟨HT.out.reads, HT.out.new, HT.out.row⟩, stepB (below_drewN (Below.refl _ _) q) HB.out⟩
end
end Go.Proofs.Ytflnjechinfcdaa
