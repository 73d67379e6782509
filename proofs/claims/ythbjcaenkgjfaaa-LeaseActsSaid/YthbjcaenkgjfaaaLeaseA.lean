/- Leases in memory; the contracts of New, isTime, Since, Renew, End. -/
import Derived.Test.YthbjcaenkgjfaaaMapI
import Derived.Test.YthbjcaenkgjfaaaErr
import Derived.Test.YthbjcaenkgjfaaaHeld
import Derived.BigQuiet
import Derived.IntWalk
namespace Go.Proofs.Ythbjcaenkgjfaaa
open Go.RowKit
set_option linter.unusedVariables false
set_option linter.unusedSimpArgs false

def isT (x : Int) : Bool := decide (0 ≤ x ∧ x ≤ 1099511627776)
theorem isT_iff {x : Int} : isT x = true ↔ 0 ≤ x ∧ x ≤ 1099511627776 := by unfold isT; simp
/-- Who is renewed, at what time. -/
def renL (k now : Int) (L : List IP) : List IP := putL k (max ((atL k L).getD 0) now) L
/-- Who is due. -/
def dueL (span now : Int) (L : List IP) : List IP := L.filter fun p => decide (span ≤ now - p.2)
def dueIds (span now : Int) (L : List IP) : List Int := if isT now then (dueL span now L).map (·.1) else []

structure LsOk (span : Int) (L : List IP) : Prop where
  ris : Rising L
  ids : ∀ p ∈ L, 1 ≤ p.1 ∧ p.1 ≤ 9223372036854775807
  tms : ∀ p ∈ L, 0 ≤ p.2 ∧ p.2 ≤ 1099511627776
  span : 1 ≤ span ∧ span ≤ 1000
namespace LsOk
variable {span : Int} {L : List IP}
theorem start (h : 1 ≤ span ∧ span ≤ 1000) : LsOk span [] := ⟨rising_nil, by simp, by simp, h⟩
theorem at_ (h : LsOk span L) {k s : Int} (hs : atL k L = some s) : 0 ≤ s ∧ s ≤ 1099511627776 := h.tms _ (at_mem hs)
theorem atD (h : LsOk span L) (k : Int) : 0 ≤ (atL k L).getD 0 ∧ (atL k L).getD 0 ≤ 1099511627776 := by
  cases hs : atL k L with
  | none => simp
  | some s => simpa using h.at_ hs
theorem ren (h : LsOk span L) {k now : Int} (hk : 1 ≤ k ∧ k ≤ 9223372036854775807) (hn : isT now = true) : LsOk span (renL k now L) := by
  have h1 := isT_iff.1 hn
  have h2 := h.atD k
  refine ⟨rising_put h.ris, fun p hp => ?_, fun p hp => ?_, h.span⟩
  · rcases put_mem hp with rfl | hp
    · exact hk
    · exact h.ids p hp
  · rcases put_mem hp with rfl | hp
    · show 0 ≤ max _ _ ∧ max _ _ ≤ _
      omega
    · exact h.tms p hp
theorem del (h : LsOk span L) (k : Int) : LsOk span (delL k L) :=
  ⟨rising_del h.ris k, fun p hp => h.ids p (List.mem_filter.1 hp).1, fun p hp => h.tms p (List.mem_filter.1 hp).1, h.span⟩
end LsOk

/-- Leases: block g has the span and the map, block b. -/
structure Lse (w : World) (g b n : Nat) (span : Int) (L : List IP) : Prop where
  box : Blk w g 57 #[.int .i64 span, .map (some b)]
  map : MapI w b n L
  ok : LsOk span L
section
variable {w w' : World} {g b n : Nat} {span : Int} {L : List IP}
theorem Lse.ne (h : Lse w g b n span L) : b ≠ g := MapI.ne h.map h.box
theorem Lse.turn {S : Nat → Prop} (h : Lse w g b n span L) (ht : Turn S w w') (hg : ¬ S g) (hb : ¬ S b) : Lse w' g b n span L := ⟨h.box.turn ht hg, MapI.turn h.map ht hb, h.ok⟩
theorem Lse.step (h : Lse w g b n span L) (hb : Below w.heap.size w w') : Lse w' g b n span L := h.turn (S := fun _ => False) (Turn.of_below hb) id id
theorem Lse.lt (h : Lse w g b n span L) : g < w.heap.size ∧ b < w.heap.size := ⟨h.box.lt, World.ownsMap.lt h.map⟩
end

set_option maxRecDepth 100000 in
set_option maxHeartbeats 1000000 in
theorem isTime_any (x : Int) (w : World) : Calls Try.prog 22 #[.int .i64 x] w fun e w' => e = .returned (.bool (isT x)) ∧ w = w' := by
  by_cases h1 : 0 ≤ x
  · have d1 : decide (0 ≤ x) = true := by simpa using h1
    have e : isT x = decide (x ≤ 1099511627776) := by unfold isT; simp [h1]
    go_enter Try.func22, Try.ntmps22
    go_wp2_with fail
    go_ret
    exact ⟨by first | rfl | (rw [e]; rfl), rfl⟩
  · have d1 : decide (0 ≤ x) = false := by simpa using h1
    have e : isT x = false := by unfold isT; simp [h1]
    go_enter Try.func22, Try.ntmps22
    go_wp2_with fail
    go_ret
    exact ⟨by first | rfl | (rw [e]; rfl), rfl⟩

set_option maxRecDepth 100000 in
set_option maxHeartbeats 1000000 in
theorem newL_bad (s : Int) (h : s < 1 ∨ 1000 < s) (w : World) :
    Calls Try.prog 8 #[.int .i64 s] w fun e w' => e = .returned (.tuple #[.pointer none, errno 2]) ∧ w = w' := by
  by_cases h1 : s < 1
  · have d1 : decide (s < 1) = true := by simpa using h1
    go_enter Try.func8, Try.ntmps8
    go_wp2_with fail
    go_ret2
    exact ⟨rfl, rfl⟩
  · have d1 : decide (s < 1) = false := by simpa using h1
    have d2 : decide (1000 < s) = true := by simp; omega
    go_enter Try.func8, Try.ntmps8
    go_wp2_with fail
    go_ret2
    exact ⟨rfl, rfl⟩
set_option maxRecDepth 100000 in
set_option maxHeartbeats 1000000 in
theorem newL_ok (s : Int) (h : 1 ≤ s ∧ s ≤ 1000) (w : World) :
    Calls Try.prog 8 #[.int .i64 s] w fun e w' => e = .returned (.tuple #[.pointer (some ⟨w.heap.size + 1, 0, none⟩), .nilIface]) ∧ Lse w' (w.heap.size + 1) w.heap.size 0 s [] ∧ Below w.heap.size w w' := by
  have d1 : decide (s < 1) = false := by simp; omega
  have d2 : decide (1000 < s) = false := by simp; omega
  have H := Lib.hid h
  have hmm := @run_makeMap Try.prog
  clear h
  go_enter Try.func8, Try.ntmps8
  go_wp2_with fail
  go_ret2
  refine ⟨rfl, ⟨Blk.new_at (by simp) _ _, ?_, LsOk.start H.out⟩, ?_⟩
  · exact World.ownsMap.alloc (World.ownsMap_made w _ _ _) _
  · exact ((Below.refl _ _).alloc (Nat.le_refl _) _).alloc (by simp) _

set_option maxRecDepth 100000 in
set_option maxHeartbeats 1000000 in
theorem since_nil (k : Int) (w : World) : Calls Try.prog 10 #[.pointer none, .int .i64 k] w fun e w' => e = .returned (.tuple #[.int .i64 0, errno 1]) ∧ w = w' := by
  go_enter Try.func10, Try.ntmps10
  go_wp2_with fail
  go_ret2
  exact ⟨rfl, rfl⟩
/-- What Since answers. -/
def sinceV (k : Int) (L : List IP) : Value := match atL k L with | some s => .tuple #[.int .i64 s, .nilIface] | none => .tuple #[.int .i64 0, errno 10]
set_option maxRecDepth 100000 in
set_option maxHeartbeats 1000000 in
theorem since_any {g b n : Nat} {span : Int} {L : List IP} (k : Int) (hk : (Lit.int .i64 k).wf = true) (w : World) (h : Lse w g b n span L) :
    Calls Try.prog 10 #[.pointer (some ⟨g, 0, none⟩), .int .i64 k] w fun e w' => e = .returned (sinceV k L) ∧ w = w' := by
  have k1 : w.cell? ⟨g, 1, none⟩ = some (.map (some b)) := h.box.cell 1
  have HM := Lib.hid h.map
  have HK := Lib.hid hk
  clear h hk
  cases hs : atL k L with
  | none =>
    have e : sinceV k L = .tuple #[.int .i64 0, errno 10] := by unfold sinceV; rw [hs]
    have hh : Maps.has (DL L) (.int .i64 k) = false := by rw [DL_has, hs]; rfl
    have HH := Lib.hid hh
    have HS := Lib.hid hs
    clear hh hs
    go_enter Try.func10, Try.ntmps10
    go_wp2_with (at_lookup
                 refine wpList_lookup_own_ok_int _ rfl _ _ 55 rfl 3 3 .i64 keyedI Try.underlying55 Try.underlying3 (zeroI _) b n _ rfl HM.out _ _ rfl (keyI HK.out) ?_
                 intro c hat hwc
                 rw [HH.out])
    go_ret2
    exact ⟨by first | rfl | (rw [e]; rfl), rfl⟩
  | some s =>
    have e : sinceV k L = .tuple #[.int .i64 s, .nilIface] := by unfold sinceV; rw [hs]
    have hh : Maps.has (DL L) (.int .i64 k) = true := by rw [DL_has, hs]; rfl
    have HH := Lib.hid hh
    have HS := Lib.hid hs
    clear hh hs
    go_enter Try.func10, Try.ntmps10
    go_wp2_with (at_lookup
                 refine wpList_lookup_own_ok_int _ rfl _ _ 55 rfl 3 3 .i64 keyedI Try.underlying55 Try.underlying3 (zeroI _) b n _ rfl HM.out _ _ rfl (keyI HK.out) ?_
                 intro c hat hwc
                 rw [HH.out]
                 obtain rfl : s = c := by rw [DL_at, HS.out] at hat; injection hat with hat; injection hat)
    go_ret2
    exact ⟨by first | rfl | (rw [e]; rfl), rfl⟩
end Go.Proofs.Ythbjcaenkgjfaaa
