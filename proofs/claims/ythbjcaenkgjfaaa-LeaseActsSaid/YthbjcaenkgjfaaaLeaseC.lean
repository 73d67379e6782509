/- The contracts of All and Due. -/
import Derived.Test.YthbjcaenkgjfaaaLeaseA
import Derived.Test.YthbjcaenkgjfaaaWord
import Derived.Test.YthbjcaenkgjfaaaShelf6
import Derived.Maps.RangeWalk
namespace Go.Proofs.Ythbjcaenkgjfaaa
open Go.RowKit Go.Maps Go.Sort Go.Shelf
set_option linter.unusedVariables false
set_option linter.unusedSimpArgs false

set_option maxRecDepth 100000 in
set_option maxHeartbeats 1000000 in
theorem all_nilp (w : World) : Calls Try.prog 12 #[.pointer none] w fun e w' => e = .returned (.slice none 0 0) ∧ w = w' := by
  go_enter Try.func12, Try.ntmps12
  go_wp2_with fail
  go_ret
  exact ⟨rfl, rfl⟩
set_option maxRecDepth 100000 in
set_option maxHeartbeats 1000000 in
theorem due_nilp (now : Int) (w : World) : Calls Try.prog 13 #[.pointer none, .int .i64 now] w fun e w' => e = .returned (.slice none 0 0) ∧ w = w' := by
  go_enter Try.func13, Try.ntmps13
  go_wp2_with fail
  go_ret
  exact ⟨rfl, rfl⟩

/-- slices.Sort's two contracts at this dump, at the fence that asks nothing. -/
theorem sortsI (m : Nat) : AnyZI.SortsIn Try.prog Try.laysSorted_ren Fence.wide m :=
  ⟨fun blk off cap ss W hH hblk hsz => callsIn_wide.2 (AnyM.slices_Sort_int Try.laysSort blk off cap ss W hH hblk hsz),
   fun p cap W => callsIn_wide.2 (AnyM.slices_Sort_int_none Try.laysSort p cap W)⟩

set_option maxRecDepth 100000 in
set_option maxHeartbeats 1000000 in
theorem all_any {g b n : Nat} {span : Int} {L : List IP} (w : World) (h : Lse w g b n span L) (hm : n ≤ 1000000) :
    Calls Try.prog 12 #[.pointer (some ⟨g, 0, none⟩)] w fun e w' => ∃ v, e = .returned v ∧ w'.ownsRow w.heap.size 3 1 v (L.map (·.1)).length (i64s (L.map (·.1))) ∧ Below w.heap.size w w' := by
  refine (callsIn_wide (n := 6)).1 ?_
  have k1 : w.cell? ⟨g, 1, none⟩ = some (.map (some b)) := h.box.cell 1
  have hown := h.map
  have hsz : Maps.size (DL L) ≤ 1000000 := Nat.le_trans (World.ownsMap.size_le hown) hm
  have hbl := hown.lt
  have hris := h.ok.ris
  clear h
  have hseq : SeqGives Fence.wide 2 Try.prog 28 #[.pointer (some ⟨w.heap.size, 0, none⟩)] encZ (fun ss => ss.Perm (intKeys (DL L))) (Maps.size (DL L)) (w.alloc (.cells #[.map (some b)] 55)) :=
    AnyZI.keys_gives (ρ := Try.laysKeys_ren) { Try.laysKeys with } Fence.wide _ trivial rfl (by omega) w.heap.size b n (DL L) _ (by simp) (by simp) (by
      obtain ⟨es, clock, hb, Ft, hs, hD⟩ := hown
      exact ⟨es, clock, (Below.heap_alloc _ _ b hbl).trans hb, Ft, hs, hD⟩)
  have cK : ∀ mb W, CallsIn Fence.wide 5 Try.prog 21 #[.map mb] W fun e w' => e = .returned (.func (.func 28) #[] #[.pointer (some ⟨W.heap.size, 0, none⟩)]) ∧ w' = W.alloc (.cells #[.map mb] 55) := fun mb W => AnyZI.keys_in Try.laysKeys Fence.wide 5 trivial rfl mb W
  have cS := AnyZI.sorted_in Try.laysSorted Fence.wide 5 trivial trivial trivial trivial rfl (by omega) (sortsI _) (enters_of Try.func23 (by kernel_rfl) rfl) 28 #[.pointer (some ⟨w.heap.size, 0, none⟩)] trivial (enters_of Try.func28 (by kernel_rfl) rfl) _ _ (by simp only [maxLen]; omega) (by omega) _ hseq
  change CallsIn _ _ Try.prog 20 _ _ _ at cS
  have hfK : Fence.wide.fn 21 := trivial
  have hfS : Fence.wide.fn 20 := trivial
  clear hown hsz
  refine callsIn_of_wp Try.func12 rfl trivial ?_ rfl
  simp only [Try.ntmps12, List.size_toArray, List.length_cons, List.length_nil, Nat.reduceAdd, Nat.reduceSub, Array.replicate_succ, Array.replicate_zero, List.push_toArray, List.append_toArray, List.nil_append, List.cons_append]
  gi_wp2_with (first
    | (gi_at_call 21; refine (cK _ _).mono ?_; rintro e w' ⟨rfl, rfl⟩)
    | (gi_at_call 20; refine cS.mono ?_; rintro e w' ⟨v, ss, rfl, hS, hrow, hnil, hb⟩))
  go_ret
  rw [DL_keys] at hS
  have hsort : ss.mergeSort (fun x y => decide (x ≤ y)) = L.map (·.1) := perm_sorted hris hS
  rw [hsort, hS.length_eq] at hrow
  exact ⟨v, rfl, own_less hrow (by simp), ((Below.refl _ w).alloc (Nat.le_refl _) _).trans (hb.mono (by simp))⟩

set_option maxRecDepth 100000 in
set_option maxHeartbeats 4000000 in
theorem due_any {g b n : Nat} {span : Int} {L : List IP} (now : Int) (w : World) (h : Lse w g b n span L) (hm : n ≤ 1000000) :
    Calls Try.prog 13 #[.pointer (some ⟨g, 0, none⟩), .int .i64 now] w fun e w' => ∃ v, e = .returned v ∧ w'.ownsRow w.heap.size 3 1 v (dueIds span now L).length (i64s (dueIds span now L)) ∧ Below w.heap.size w w' := by
  cases hn : isT now
  · have e0 : dueIds span now L = [] := by unfold dueIds; rw [hn]; rfl
    rw [e0]
    have HN := Lib.hid hn
    clear hn e0 h
    go_enter Try.func13, Try.ntmps13
    go_wp2_with (go_at_call 22; refine (isTime_any _ _).mono ?_; rintro e w' ⟨rfl, rfl⟩; rw [HN.out])
    go_ret
    exact ⟨_, rfl, World.ownsRow_nil _ _ _ _, Below.refl _ _⟩
  · have e0 : dueIds span now L = (dueL span now L).map (·.1) := by unfold dueIds; rw [hn]; rfl
    rw [e0]
    have hT := isT_iff.1 hn
    have HN := Lib.hid hn
    have HH := Lib.hid h
    have k1 : w.cell? ⟨g, 1, none⟩ = some (.map (some b)) := h.box.cell 1
    have hsp := h.ok.span
    have hgl := h.box.lt
    have hbl : b < w.heap.size := World.ownsMap.lt h.map
    have hgb := h.ne
    have HSZ := Lib.hid (show Maps.size (DL L) ≤ 1000000 from Nat.le_trans (World.ownsMap.size_le h.map) hm)
    obtain ⟨i0, hi0, hz0, hz1, hz2⟩ := info_parts info_int
    clear hn e0 h hm
    go_enter Try.func13, Try.ntmps13
    go_wp2_with (first
      | (go_at_call 22; refine (isTime_any _ _).mono ?_; rintro e w' ⟨rfl, rfl⟩; rw [HN.out])
      | (at_range; refine wpList_range_own _ rfl _ 55 rfl 3 3 keyedI Try.underlying55 _ b n _ rfl HH.out.map ?_; intro w0 hrg0 hg0 hs0))
    go_frame
    have R0 := Lib.hid hrg0
    have B0 := Lib.hid ((Below.refl w.heap.size w).grown hg0 (Nat.le_refl _) (fun j hj => by cases hj))
    clear hrg0 hg0 hs0
    go_loopw [5] (fun v wr => ∃ (left : Lit → Bool) (cnt : Nat) (ss : List Int), wr.ranges Try.prog 3 (plainElem Try.prog 3) b w.heap.size n (DL L) left cnt ∧ CollI L (fun p => decide (span ≤ now - p.2)) left ss ∧ ss.length + cnt ≤ 1000000 ∧
        wr.ownsRow w.heap.size 3 1 v ss.length (i64s ss) ∧ Below w.heap.size w wr)
      (fun _ wr => wr.rangeLeft b w.heap.size)
    case atStart => exact ⟨_, _, [], R0.out, CollI.start L _, by have := HSZ.out; simp; omega, World.ownsRow_nil _ _ _ _, B0.out⟩
    case round =>
      obtain ⟨left, cnt, ss, hrg, hcol, hlen, hrow, hnx⟩ := hrel
      have HR := Lib.hid hrg
      have HC := Lib.hid hcol
      have HW := Lib.hid hrow
      have HX := Lib.hid hnx
      clear hrg hcol hrow hnx
      go_wp2_with (at_next; refine wpList_next_ranges_ii _ rfl _ rfl 3 3 .i64 .i64 keyedI Try.underlying3 Try.underlying3 b w.heap.size n _ _ _ rfl HR.out ?_ ?_)
      · intro hc0 hl0
        have HP := Lib.hid (HC.out.perm HH.out.ok.ris hl0)
        have HS := Lib.hid (HC.out.sorted HH.out.ok.ris hl0)
        clear hc0 hl0
        rcases HW.out.2 with ⟨rfl, hz⟩ | ⟨gb, cap, cur, rfl, hbase, hgb, r1, r2, r3, r4⟩
        · go_wp2_with (go_at_call 23; refine (AnyM.slices_Sort_int_none Try.laysSort none 0 _).mono ?_; rintro e w' ⟨rfl, rfl⟩)
          go_ret
          have hss : ss = [] := List.eq_nil_of_length_eq_zero hz
          have e1 : (dueL span now L).map (·.1) = [] := by
            have := HP.out.length_eq
            rw [hss] at this
            exact List.eq_nil_of_length_eq_zero this.symm
          rw [e1]
          exact ⟨_, rfl, World.ownsRow_nil _ _ _ _, HX.out⟩
        · have hH : Holds encZ _ gb 0 ss.toArray := holds_of_block_i hgb (by simpa [i64s] using r4)
          have hgl := (Array.getElem?_eq_some_iff.1 hgb).1
          have cS := AnyM.slices_Sort_int Try.laysSort gb 0 cap ss _ hH hgl (by omega)
          change Calls Try.prog 23 _ _ _ at cS
          have CS := Lib.hid cS
          clear cS hH
          go_wp2_with (go_at_call 23; refine CS.out.mono ?_; rintro e w' ⟨rfl, nn, os, rfl⟩)
          go_ret
          have hrow2 := ownsRow_sorted_i (w := _) (n := nn) (os := os) (ts := ss.mergeSort fun x y => decide (x ≤ y)) (by simp) hbase hgb r1 r2 r3
          have hlen2 : ((dueL span now L).map (·.1)).length = ss.length := HP.out.length_eq.symm
          refine ⟨_, rfl, ?_, HX.out.grown (grownBy_sorted_i _) HX.out.size (fun j hj => by cases hj; exact hbase)⟩
          rw [hlen2]
          have e2 : (dueL span now L).map (·.1) = ss.mergeSort (fun x y => decide (x ≤ y)) := HS.out.symm
          rw [e2]
          exact hrow2
      · intro x c w1 cnt1 hwx hwc hlx hat hrg1 hlt hg1 hs1 hen
        have hc := CollI.at_ hat
        have htm := HH.out.ok.at_ hc
        have B1 := Lib.hid (HX.out.grown hg1 HX.out.size (fun j hj => by cases hj; exact Nat.le_refl _))
        have R1 := Lib.hid hrg1
        have C1 := Lib.hid hc
        have W1 := Lib.hid (show w1.ownsRow w.heap.size 3 1 _ ss.length (i64s ss) from own_turn HW.out ((Turn.refl (fun k => k = w.heap.size) _).grown hg1 (fun k hk _ => by cases hk; rfl)) (fun k hk e => by
          obtain ⟨cur, hh, _⟩ := own_heap HW.out k hk
          obtain ⟨_, _, _, hr, _⟩ := HR.out
          subst e
          first | (rw [hr] at hh; cases hh) | (simp_all)))
        have k0 : w1.cell? ⟨g, 0, none⟩ = some (.int .i64 span) := (HH.out.box.below B1.out hgl).cell 0
        have hwr : IntKind.i64.wrap (now - c) = now - c := IntWalk.i64_in _ (by omega)
        clear hc hrg1 hg1 hs1 hat
        by_cases hd : span ≤ now - c
        · have d1 : decide (span ≤ now - c) = true := by simpa using hd
          have CC := Lib.hid (HC.out.hit hlx C1.out (by simpa using hd))
          clear hd hlx
          go_wp2_with (at_builtin
                       refine wpList_append_wide _ rfl (.tmp 33) (.tmp 35) _ rfl w.heap.size 3 i0 _ 1 8 Try.underlying31 hi0 hz0 hz1 hz2 rfl (by omega) _ ss.length (i64s ss) rfl
                           (W1.out.alloc _) _ (some ⟨w1.heap.size, 0, none⟩) 1 1 (i64s [x]) rfl (reads_newInt w1 _ x) (i64s_one _) (by simp only [maxLen]; omega) (by omega) (by have := B1.out.size; simp; omega) ?_
                       intro v9 w9 hown9 hg9
                       have O9 := Lib.hid hown9
                       have G9 := Lib.hid hg9
                       clear hown9 hg9)
          have hne9 : ∀ k, v9.ownBlock = some k → True := fun _ _ => trivial
          have R9 := Lib.hid ((R1.out.alloc (.cells #[.int .i64 x] 3)).kept G9.out (by
            intro e
            obtain ⟨cur, hh, _⟩ := own_heap W1.out b e.symm
            obtain ⟨es, clock, hb, _⟩ := R1.out.owns
            rw [hb] at hh; cases hh) (by
            intro e
            obtain ⟨cur, hh, _⟩ := own_heap W1.out w.heap.size e.symm
            obtain ⟨_, _, _, hr, _⟩ := R1.out
            first | (rw [hr] at hh; cases hh) | (simp_all)))
          go_roundw
          case rel => exact ⟨_, cnt1, ss ++ [x], R9.out, CC.out, by simp; omega, by rw [show i64s (ss ++ [x]) = i64s ss ++ i64s [x] by simp [i64s]]; simpa using O9.out, below_own (B1.out.alloc B1.out.size _) G9.out (W1.out.alloc _) (Nat.le_refl _) (by have := B1.out.size; simp; omega)⟩
          case measure => rw [R9.out.left_eq, HR.out.left_eq]; exact hlt
        · have d1 : decide (span ≤ now - c) = false := by simpa using hd
          have CC := Lib.hid (HC.out.miss hlx C1.out (by simpa using hd))
          clear hd hlx
          go_wp2_with fail
          go_roundw
          case rel => exact ⟨_, cnt1, ss, R1.out, CC.out, by omega, W1.out, B1.out⟩
          case measure => rw [R1.out.left_eq, HR.out.left_eq]; exact hlt
end Go.Proofs.Ythbjcaenkgjfaaa
