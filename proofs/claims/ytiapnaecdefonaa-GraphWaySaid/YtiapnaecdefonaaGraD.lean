/- The contract of Reach. -/
import Derived.Test.YtiapnaecdefonaaGraC
namespace Go.Proofs.Ytiapnaecdefonaa
open Go.RowKit Go.Maps Go.Sort Go.Shelf
set_option linter.unusedVariables false
set_option linter.unusedSimpArgs false

/-- slices.Sort's two contracts at this dump, at the fence that asks nothing. -/
theorem sortsG (m : Nat) : AnyZI.SortsIn Try.prog Try.laysSorted_ren Fence.wide m :=
  ⟨fun blk off cap ss W hH hblk hsz => callsIn_wide.2 (AnyM.slices_Sort_int Try.laysSort blk off cap ss W hH hblk hsz),
   fun p cap W => callsIn_wide.2 (AnyM.slices_Sort_int_none Try.laysSort p cap W)⟩
theorem keysG_sorted {L : List VP} (h : RisG L) {ss : List Int} (hp : ss.Perm (L.map (·.1))) : ss.mergeSort (fun x y => decide (x ≤ y)) = L.map (·.1) ∧ Ris (L.map (·.1)) := by
  have hr : Ris (L.map (·.1)) := List.pairwise_map.2 h
  refine ⟨ris_ext (srt_ris ((hp.nodup_iff).2 (ris_nodup hr))) hr fun x => ?_, hr⟩
  exact (srt_mem (l := ss)).trans hp.mem_iff
theorem fin_of {ls : List (List Int)} (hwf : ∀ l ∈ ls, ∀ y ∈ l, (Lit.int .i64 y).wf = true) (h4 : ∀ l ∈ ls, l.length = 4) (hn : ls.length ≤ 200) : Fin (nxt (eds ls)) (nds (eds ls)) where
  sub := fun x y h => (nds_of h).2
  wf := fun y hy => by
    obtain ⟨e, he, h1⟩ := nds_mem.1 hy
    obtain ⟨l, hl, rfl⟩ := List.mem_map.1 he
    have h2 := h4 l hl
    have hfld : ∀ j, j < 4 → (Lit.int .i64 (fld l j)).wf = true := fun j hj => hwf l hl _ (List.mem_of_getElem? (fld_get (by omega)))
    rcases h1 with rfl | rfl
    · exact hfld 0 (by omega)
    · exact hfld 2 (by omega)
  len := by have := nds_len (eds ls); have h2 : (eds ls).length = ls.length := by simp [eds]
            omega
  each := fun x => by have := outs_len (eds ls) x; have h2 : (eds ls).length = ls.length := by simp [eds]
                      have h3 : (nxt (eds ls) x).length = (outs (eds ls) x).length := srt_len _
                      omega
section
variable {w : World} {n : Nat} {A : Option Addr} {ls : List (List Int)} {fr : Int}
theorem EdgM.fin {B : Nat} (h : EdgM w B A n ls) (hn : n ≤ 200) : Fin (nxt (eds ls)) (nds (eds ls)) := fin_of h.wf h.four (by have := h.count; omega)
set_option maxRecDepth 100000 in
set_option maxHeartbeats 4000000 in
theorem reachG_any {c : Nat} (w : World) (h : EdgM w w.heap.size A n ls) (hn : n ≤ 200) (hfr : (Lit.int .i64 fr).wf = true) :
    Calls Try.prog 21 #[.slice A n c, .int .i64 fr] w fun e w' => ∃ v l, e = .returned v ∧ Ris l ∧ (∀ x, x ∈ l ↔ Rp (nxt (eds ls)) fr x) ∧ w'.ownsRow w.heap.size 3 1 v l.length (i64s l) ∧ Below w.heap.size w w' := by
  refine (callsIn_wide (n := 6)).1 ?_
  have HF := Lib.hid (h.fin hn)
  have cE := (callsIn_wide (n := 5)).2 (ends_any (c := c) w h (by omega))
  have CE := Lib.hid cE
  have WF := Lib.hid hfr
  have hfE : Fence.wide.fn 24 := trivial
  have hfR : Fence.wide.fn 23 := trivial
  have hfK : Fence.wide.fn 38 := trivial
  have hfS : Fence.wide.fn 29 := trivial
  clear h cE hfr
  refine callsIn_of_wp Try.func21 rfl trivial ?_ rfl
  simp only [Try.ntmps21, List.size_toArray, List.length_cons, List.length_nil, Nat.reduceAdd, Nat.reduceSub, Array.replicate_succ, Array.replicate_zero, List.push_toArray, List.append_toArray, List.nil_append, List.cons_append]
  gi_wp2_with (gi_at_call 24; refine CE.out.mono ?_; rintro e w1 ⟨b, rfl, hbl, hnx, hb1⟩)
  have NX := Lib.hid hnx
  have B1 := Lib.hid hb1
  have cR := (callsIn_wide (n := 5)).2 (reach_any (fr := fr) w1 hnx (Nat.le_refl _) HF.out WF.out)
  have CR := Lib.hid cR
  clear hnx hb1 cR
  gi_wp2_with (gi_at_call 23; refine CR.out.mono ?_; rintro e w2 ⟨rfl, hb2, i, m, hi, hm, hmap⟩)
  obtain ⟨L, hL0, hL1, hL2⟩ := hmap
  have hsz : Maps.size (DV L) ≤ 1001 := Nat.le_trans (World.ownsMap.size_le hL1) hm
  have hbl2 := World.ownsMap.lt hL1
  have hseq : SeqGives Fence.wide 2 Try.prog 48 #[.pointer (some ⟨w2.heap.size, 0, none⟩)] encZ (fun ss => ss.Perm (intKeys (DV L))) (Maps.size (DV L)) (w2.alloc (.cells #[.map (some w1.heap.size)] 48)) :=
    AnyZI.keys_gives (ρ := Try.laysKeys_ren) { Try.laysKeys with } Fence.wide _ trivial rfl (by omega) w2.heap.size w1.heap.size m (DV L) _ (by simp) (by simp) (by
      obtain ⟨es, clock, hb, Ft, hs, hD⟩ := hL1
      exact ⟨es, clock, (Below.heap_alloc _ _ _ hbl2).trans hb, Ft, hs, hD⟩)
  have cK : ∀ mb W, CallsIn Fence.wide 5 Try.prog 38 #[.map mb] W fun e w' => e = .returned (.func (.func 48) #[] #[.pointer (some ⟨W.heap.size, 0, none⟩)]) ∧ w' = W.alloc (.cells #[.map mb] 48) := fun mb W => AnyZI.keys_in Try.laysKeys Fence.wide 5 trivial rfl mb W
  have cS := AnyZI.sorted_in Try.laysSorted Fence.wide 5 trivial trivial trivial trivial rfl (by omega) (sortsG _) (enters_of Try.func42 (by kernel_rfl) rfl) 48 #[.pointer (some ⟨w2.heap.size, 0, none⟩)] trivial (enters_of Try.func48 (by kernel_rfl) rfl) _ _ (by simp only [maxLen]; omega) (by omega) _ hseq
  change CallsIn _ _ Try.prog 29 _ _ _ at cS
  have CS := Lib.hid cS
  have CK := Lib.hid cK
  have B2 := Lib.hid hb2
  have L0 := Lib.hid hL0
  have L2 := Lib.hid hL2
  have HI := Lib.hid hi
  clear cS cK hb2 hL0 hL1 hL2 hsz hseq hi
  refine (CK.out _ _).mono ?_
  rintro e w3 ⟨rfl, rfl⟩
  gi_wp2_with (gi_at_call 29; refine CS.out.mono ?_; rintro e w' ⟨v, ss, rfl, hS, hrow, hnil, hb⟩)
  go_ret
  rw [DV_keys] at hS
  obtain ⟨hsort, hris⟩ := keysG_sorted L0.out hS
  rw [hsort, hS.length_eq] at hrow
  have hsz := B1.out.size
  have hsz2 := B2.out.size
  refine ⟨v, L.map (·.1), rfl, hris, fun x => ?_, own_less hrow (by simp; omega), ((B1.out.trans (B2.out.mono hsz)).alloc (by omega) _).trans (hb.mono (by simp; omega))⟩
  rw [← bst_reach HI.out x]
  have h1 : (atG x L).isSome = ((bst (nxt (eds ls)) fr i).ahead x).isSome := by rw [L2.out x]; unfold aheadV; rw [Option.isSome_map]
  rw [← h1]
  constructor
  · intro hx
    obtain ⟨p, hp, rfl⟩ := List.mem_map.1 hx
    rw [mem_atG L0.out hp]; rfl
  · intro hx
    obtain ⟨v, hv⟩ := Option.isSome_iff_exists.1 hx
    exact List.mem_map.2 ⟨_, atG_mem hv, rfl⟩
end
end Go.Proofs.Ytiapnaecdefonaa
