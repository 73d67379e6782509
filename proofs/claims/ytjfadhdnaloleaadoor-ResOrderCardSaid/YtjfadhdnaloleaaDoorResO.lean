/- The contract of package res's Sort. -/
import Derived.Test.YtjfadhdnaloleaaDoorResS
import Derived.Laws.OwnMore
import Derived.Deep.AppendLies
import Derived.Maps.AppendAt
import Derived.RegionTactic
import Derived.OwnWalk
namespace Go.Proofs.YtjfadhdnaloleaaDoor
open Go.RowKit
set_option linter.unusedVariables false
set_option linter.unusedSimpArgs false

theorem res_info : (Tryd.prog.info? 23).map (fun i => (i.zero, i.size, i.bytes)) = some (some (.agg #[.int .i64 0, .int .i64 0]), 2, 16) := by kernel_rfl
/-- The cells of a list of resources. -/
def flat (d : Array (Int × Int)) : List Value := (Sort.flatK encR 2 d).toList
theorem flat_len (d : Array (Int × Int)) : (flat d).length = d.size * 2 := by simp [flat]
theorem flat_one (d : Array (Int × Int)) : ∀ u ∈ flat d, u.oneCell' = true := by
  intro u hu
  unfold flat at hu
  obtain ⟨j, hj, rfl⟩ := List.getElem_of_mem hu
  have hj' : j < d.size * 2 := by simpa using hj
  have e : (Sort.flatK encR 2 d).toList[j] = (Sort.flatK encR 2 d)[j]! := by
    rw [getElem!_pos _ j (by simpa using hj')]; simp
  rw [e, Sort.get_flatK _ _ _ _ hj']
  have : j % 2 = 0 ∨ j % 2 = 1 := by omega
  rcases this with h | h <;> rw [h] <;> rfl
theorem holds_of_own {w : World} {base g cap n : Nat} {d : Array (Int × Int)} (h : w.ownsRow base 23 2 (.slice (some ⟨g, 0, none⟩) n cap) n (flat d)) (hn : n = d.size) : Sort.HoldsK encR 2 w g 0 d := by
  subst hn
  intro j hj
  have hj' : j < d.size * 2 := by simpa using hj
  have hc := h.cellAt j hj'
  rcases h.2 with ⟨h0, _⟩ | ⟨g', cap', cur, hv, _, hh, _⟩
  · cases h0
  · injection hv with hv _ _
    injection hv with hv
    injection hv with hg
    subst hg
    refine ⟨?_, by rw [Nat.zero_add]; simp [World.frozen?, hh]⟩
    rw [Nat.zero_add, hc]
    unfold flat
    rw [Array.getElem?_toList, getElem!_pos _ j hj, Array.getElem?_eq_getElem hj]; rfl

/-- What is sorted. -/
structure SortedTo (w : World) (d : Array (Int × Int)) (v : Value) (w' : World) : Prop where
  bel : Below w.heap.size w w'
  at_ : ∃ g cap d', v = .slice (some ⟨g, 0, none⟩) d.size cap ∧ w.heap.size ≤ g ∧ g < w'.heap.size ∧ Sort.HoldsK encR 2 w' g 0 d' ∧ Sort.PermIn 0 d.size d d' ∧ Sort.SortedIn (ltOf cmpF) 0 d.size d'

theorem clone_any (b off n c : Nat) (news : List Value) (w : World) (hl : news.length = n * 2) (hn : n ≤ 1000) (hc : ∀ j u, news[j]? = some u → w.cell? ⟨b, off + j, none⟩ = some u) (h1 : ∀ u ∈ news, u.oneCell' = true) :
    Calls Tryd.prog 31 #[.slice (some ⟨b, off, none⟩) n c] w fun e w' => ∃ v', e = .returned v' ∧ w'.ownsRow w.heap.size 23 2 v' n news ∧ v' ≠ .slice none 0 0 ∧ Below w.heap.size w w' := by
  obtain ⟨i0, hi0, hz0, hz1, hz2⟩ := info_parts res_info
  exact AnyE.slices_Clone Tryd.laysClone i0 _ 2 16 hi0 hz0 hz1 hz2 rfl (by omega) Tryd.sizeOf23 b off n c news w hl (by unfold maxLen; omega) (by omega) hc h1

theorem putK_below {w : World} {g : Nat} {B : Nat} (hB : B ≤ g) (hw : B ≤ w.heap.size) (off : Nat) (d' : Array (Int × Int)) (m : Nat) (os : Array Obj) : Below B w (sortWorldK encR 2 w g off m d' os) := by
  refine ⟨rfl, rfl, rfl, ?_, fun k hk => ?_⟩
  · simp [sortWorldK, Sort.grow, Sort.putRowK, Sort.putRow, Sort.mapBlock, Sort.ahead]
  · simp only [sortWorldK, Sort.grow, Sort.putRowK, Sort.putRow, Sort.mapBlock, Sort.ahead]
    rw [Array.getElem?_append_left (by simp; omega), Array.getElem?_modify, if_neg (by omega)]
theorem putK_holds {w : World} {g : Nat} {d d' : Array (Int × Int)} (h : Sort.HoldsK encR 2 w g 0 d) (hg : g < w.heap.size) (hs : d'.size = d.size) (m : Nat) (os : Array Obj) : Sort.HoldsK encR 2 (sortWorldK encR 2 w g 0 m d' os) g 0 d' :=
  holdsK_sortWorldK_c encR 2 w g 0 d d' m os h hg hs
theorem putK_size (w : World) (g off m : Nat) (d' : Array (Int × Int)) (os : Array Obj) : w.heap.size ≤ (sortWorldK encR 2 w g off m d' os).heap.size := size_sortWorldK_c encR 2 w g off m d' os

set_option maxRecDepth 100000 in
set_option maxHeartbeats 1000000 in
theorem sort_some (b off c : Nat) (d : Array (Int × Int)) (hd : 0 < d.size) (hsz : d.size ≤ 1000) (w : World) (hc : ∀ j u, (flat d)[j]? = some u → w.cell? ⟨b, off + j, none⟩ = some u) :
    Calls Tryd.prog 20 #[.slice (some ⟨b, off, none⟩) d.size c] w fun e w' => ∃ v, e = .returned v ∧ SortedTo w d v w' := by
  have HC := Lib.hid hc
  clear hc
  go_enter Tryd.func20, Tryd.ntmps20
  go_wp2_with fail
  refine (clone_any b off d.size c (flat d) _ (flat_len d) hsz HC.out (flat_one d)).mono ?_
  rintro e w1 ⟨v, rfl, hown, hv, hb1⟩
  obtain ⟨g, cap, rfl, hg1, hg2⟩ := hown.form hd
  have hH := holds_of_own hown rfl
  have HH := Lib.hid hH
  have HB := Lib.hid hb1
  clear hown hv hH hb1
  go_wp2_with fail
  refine (sortF_any g 0 cap d _ HH.out hg2 (by omega)).mono ?_
  rintro e w2 ⟨rfl, d', n, os, hp, hs, rfl⟩
  have HP := Lib.hid hp
  have HS := Lib.hid hs
  clear hp hs
  go_wp2_with fail
  go_ret
  exact ⟨_, rfl, ⟨HB.out.trans (putK_below hg1 HB.out.size 0 d' n os), g, cap, d', rfl, hg1, Nat.lt_of_lt_of_le hg2 (putK_size _ _ _ _ _ _), putK_holds HH.out hg2 HP.out.1 n os, HP.out, HS.out⟩⟩

set_option maxRecDepth 100000 in
set_option maxHeartbeats 1000000 in
theorem sort_nil (w : World) :
    Calls Tryd.prog 20 #[.slice none 0 0] w fun e w' => (∃ p c, e = .returned (.slice p 0 c)) ∧ Below w.heap.size w w' := by
  go_enter Tryd.func20, Tryd.ntmps20
  go_wp2_with fail
  refine (AnyE.slices_Clone_nil Tryd.laysClone 0 0 _).mono ?_
  rintro e w1 ⟨rfl, rfl⟩
  go_wp2_with fail
  refine (AnyF.slices_SortFunc_none Tryd.laysSort _ _ _ _).mono ?_
  rintro e w2 ⟨rfl, rfl⟩
  go_wp2_with fail
  go_ret
  exact ⟨⟨none, 0, rfl⟩, Below.refl _ _⟩
set_option maxRecDepth 100000 in
set_option maxHeartbeats 1000000 in
theorem sort_zero (b off c : Nat) (w : World) :
    Calls Tryd.prog 20 #[.slice (some ⟨b, off, none⟩) 0 c] w fun e w' => (∃ p c, e = .returned (.slice p 0 c)) ∧ Below w.heap.size w w' := by
  go_enter Tryd.func20, Tryd.ntmps20
  go_wp2_with fail
  refine (clone_any b off 0 c [] _ rfl (by omega) (fun j u h => by simp at h) (by simp)).mono ?_
  rintro e w1 ⟨v, rfl, hown, hv, hb1⟩
  obtain ⟨p, c1, rfl⟩ : ∃ p c1, v = .slice p 0 c1 := by
    rcases hown.2 with ⟨rfl, _⟩ | ⟨g, cap, cur, rfl, _⟩
    · exact ⟨_, _, rfl⟩
    · exact ⟨_, _, rfl⟩
  have HB := Lib.hid hb1
  clear hown hv hb1
  go_wp2_with fail
  refine (AnyF.slices_SortFunc_none Tryd.laysSort _ _ _ _).mono ?_
  rintro e w2 ⟨rfl, rfl⟩
  go_wp2_with fail
  go_ret
  exact ⟨⟨p, c1, rfl⟩, HB.out⟩
end Go.Proofs.YtjfadhdnaloleaaDoor
