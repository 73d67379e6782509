/- The contracts of package net's New, Len, remainder, add, Send. -/
import Derived.Test.YtmjmplkhngpgnaaNetT
import Derived.Test.YtmjmplkhngpgnaaMsgK
import Derived.StillTailTactics
import Derived.Deep.QuietTactic
import Derived.BigQuiet
namespace Go.Proofs.Ytmjmplkhngpgnaa
open Go.RowKit
set_option linter.unusedVariables false
set_option linter.unusedSimpArgs false

theorem info_ptr : (Try.prog.info? 80).map (fun i => (i.zero, i.size, i.bytes)) = some (some (.pointer none), 1, 8) := by kernel_rfl

set_option maxRecDepth 100000 in
set_option maxHeartbeats 1000000 in
theorem new_bad (lim : Int) (h : lim < 1 ∨ 65536 < lim) (w : World) :
    Calls Try.prog 14 #[.int .i64 lim] w fun e w' => e = .returned (.tuple #[.pointer none, errno 2]) ∧ w' = w := by
  by_cases h1 : lim < 1
  · have d1 : decide (lim < 1) = true := by simpa using h1
    go_enter Try.func14, Try.ntmps14
    go_wp2_with fail
    go_ret2
    exact ⟨rfl, rfl⟩
  · have d1 : decide (lim < 1) = false := by simpa using h1
    have d2 : decide (65536 < lim) = true := by simp; omega
    go_enter Try.func14, Try.ntmps14
    go_wp2_with fail
    go_ret2
    exact ⟨rfl, rfl⟩
set_option maxRecDepth 100000 in
set_option maxHeartbeats 1000000 in
theorem new_ok (lim : Int) (h : 1 ≤ lim ∧ lim ≤ 65536) (w : World) :
    Calls Try.prog 14 #[.int .i64 lim] w fun e w' => e = .returned (.tuple #[.pointer (some ⟨w.heap.size, 0, none⟩), .nilIface]) ∧ Net w' w.heap.size w.heap.size none lim [] ∧ Below w.heap.size w w' := by
  have d1 : decide (lim < 1) = false := by simp; omega
  have d2 : decide (65536 < lim) = false := by simp; omega
  have H := Lib.hid h
  clear h
  go_enter Try.func14, Try.ntmps14
  go_wp2_with fail
  go_ret2
  exact ⟨rfl, ⟨_, [], ⟨Blk.new _ _ _, World.ownsRow_nil _ _ _ _, fun i p m hp _ => by simp at hp, by simp, Nat.le_refl _, by have := H.out; simp; omega, H.out.2⟩, rfl⟩, Joins.below_alloc1 _ _⟩

set_option maxRecDepth 100000 in
set_option maxHeartbeats 1000000 in
theorem len_nil (w : World) : Calls Try.prog 19 #[.pointer none] w fun e w' => e = .returned (.int .i64 0) ∧ w' = w := by
  go_enter Try.func19, Try.ntmps19
  go_wp2_with fail
  go_ret
  exact ⟨rfl, rfl⟩
theorem NetW.slice {w : World} {B g : Nat} {lim : Int} {ms : List (List Int)} {v : Value} {ps : List Nat} (h : NetW w B g lim ms v ps) : ∃ A c, v = .slice A ms.length c ∧ Reads w w.heap.size 1 A ms.length (ps.map ptr) := by
  obtain ⟨A, c, e, hr, _⟩ := own_slice h.row
  exact ⟨A, c, e, hr⟩
set_option maxRecDepth 100000 in
set_option maxHeartbeats 1000000 in
theorem len_any {B g : Nat} {r : Option Nat} {lim : Int} {ms : List (List Int)} (w : World) (h : Net w B g r lim ms) : Calls Try.prog 19 #[.pointer (some ⟨g, 0, none⟩)] w fun e w' => e = .returned (.int .i64 ms.length) ∧ w' = w := by
  obtain ⟨v, ps, hw, _⟩ := h
  obtain ⟨A, c, rfl, _⟩ := hw.slice
  have k1 : w.cell? ⟨g, 1, none⟩ = some (.slice A ms.length c) := hw.box.cell 1
  clear hw
  go_enter Try.func19, Try.ntmps19
  go_wp2_with fail
  go_ret
  exact ⟨rfl, rfl⟩

theorem rem_twice (k : Int) {n : Nat} (h : 0 < n) : (k.tmod n + n).tmod n = k % n := by
  have h1 := Int.tmod_lt_of_pos k (show (0 : Int) < n by omega)
  have h2 : -(n : Int) < k.tmod n := by
    have := Int.tmod_lt_of_pos (-k) (show (0 : Int) < n by omega)
    rw [Int.neg_tmod] at this; omega
  rw [Int.tmod_eq_emod_of_nonneg (by omega), Int.add_emod_right]
  have h3 := Int.tmod_add_mul_tdiv k n
  conv => rhs; rw [← h3, Int.add_mul_emod_self_left]
set_option maxRecDepth 100000 in
set_option maxHeartbeats 1000000 in
theorem remainder_any (k : Int) {n : Nat} (h : 0 < n) (hn : n ≤ 65536) (hk : (Lit.int .i64 k).wf = true) (w : World) : Calls Try.prog 56 #[.int .i64 k, .int .i64 n] w fun e w' => e = .returned (.int .i64 (k % n)) ∧ w' = w := by
  have hr := rem_twice k h
  have h1 := Int.tmod_lt_of_pos k (show (0 : Int) < n by omega)
  have h2 : -(n : Int) < k.tmod n := by
    have := Int.tmod_lt_of_pos (-k) (show (0 : Int) < n by omega)
    rw [Int.neg_tmod] at this; omega
  have hz : ((n : Int) == 0) = false := by simp; omega
  have hz2 : (n = 0) = False := by simp; omega
  have w1 : IntKind.i64.wrap (k.tmod n) = k.tmod n := IntWalk.i64_in _ (by omega)
  have w2 : IntKind.i64.wrap (k.tmod n + n) = k.tmod n + n := IntWalk.i64_in _ (by omega)
  have h3 := Int.emod_nonneg k (show (n : Int) ≠ 0 by omega)
  have h4 := Int.emod_lt_of_pos k (show (0 : Int) < n by omega)
  have w3 : IntKind.i64.wrap (k % n) = k % n := IntWalk.i64_in _ (by omega)
  have HR := Lib.hid hr
  clear h1 h2 h3 h4
  go_enter Try.func56, Try.ntmps56
  go_wp2_with fail
  go_ret
  exact ⟨by first | rfl | (rw [HR.out]) | (rw [HR.out]; rw [w3]), rfl⟩

section
variable {W w3 : World} {B g p : Nat} {lim : Int} {ms : List (List Int)} {m : List Int} {v v3 : Value} {ps : List Nat}
theorem NetW.apart (h : NetW W B g lim ms v ps) : v.ownBlock ≠ some g := fun e => by
  obtain ⟨cur, hh, _⟩ := own_heap h.row g e
  exact heap_ne h.box hh (by decide) rfl
theorem NetW.apart_msg (h : NetW W B g lim ms v ps) {k : Nat} {cs : Array Value} (hk : Blk W k 31 cs) : k ≠ g ∧ v.ownBlock ≠ some k := ⟨fun e => heap_ne hk h.box (by decide) e, fun e => by
  obtain ⟨cur, hh, _⟩ := own_heap h.row k e
  exact heap_ne hk hh (by decide) rfl⟩
theorem Blk.grown {k : Nat} {t : TypeId} {cs : Array Value} {r : Option Nat} (h : Blk W k t cs) (hg : W.grownBy w3 r) (hr : r ≠ some k) : Blk w3 k t cs := (hg.block k h.lt fun e => hr e.symm).trans h
/-- A message's pointer behind the row. -/
theorem NetW.added (h : NetW W B g lim ms v ps) (hp : Blk W p 31 (mc m)) (hl : m.length = 28) (hlt : (ms.length : Int) < lim) {o : Obj} (hown : w3.ownsRow B 80 1 v3 (ms.length + 1) (ps.map ptr ++ [ptr p]))
    (hg : (W.alloc o).grownBy w3 v.ownBlock) : Blk w3 g 78 #[.int .i64 lim, v] ∧ NetW (w3.setCell ⟨g, 1, none⟩ v3) B g lim (ms ++ [m]) v3 (ps ++ [p]) ∧ Turn (NS g v.ownBlock) W (w3.setCell ⟨g, 1, none⟩ v3) := by
  have hb : Blk w3 g 78 #[.int .i64 lim, v] := (h.box.alloc o).grown hg h.apart
  have keep : ∀ k cs, Blk W k 31 cs → Blk (w3.setCell ⟨g, 1, none⟩ v3) k 31 cs := fun k cs hk => ((hk.alloc o).grown hg (h.apart_msg hk).2).far (p := ⟨g, 1, none⟩) (h.apart_msg hk).1 v3
  refine ⟨hb, ⟨?_, ?_, ?_, ?_, h.geB, ?_, h.top⟩, ?_⟩
  · have := hb.set_ 1 v3
    exact this
  · have := own_turn (S := fun k => k = g) hown ((Turn.refl (fun k => k = g) w3).setCell (p := ⟨g, 1, none⟩) (fun _ => rfl) v3) (fun k hk e => by
      obtain ⟨cur, hh, _⟩ := own_heap hown k hk
      exact heap_ne hb hh (by decide) e.symm)
    simpa using this
  · intro i q m' hq hm'
    rcases Nat.lt_trichotomy i ms.length with hi | hi | hi
    · rw [List.getElem?_append_left (by rw [h.len]; exact hi)] at hq
      rw [List.getElem?_append_left hi] at hm'
      exact keep _ _ (h.pts i q m' hq hm')
    · subst hi
      have hq' : (ps ++ [p])[ms.length]? = some p := by rw [← h.len]; simp
      rw [hq'] at hq
      simp at hm'
      cases hq; subst hm'
      exact keep _ _ hp
    · rw [List.getElem?_eq_none (by simp; omega)] at hm'; cases hm'
  · intro m' hm'
    rcases List.mem_append.1 hm' with h1 | h1
    · exact h.all m' h1
    · simp at h1; subst h1; exact hl
  · simp; omega
  · exact (((Turn.refl _ _).alloc o).grown hg (fun k hk _ => .inr hk)).setCell (p := ⟨g, 1, none⟩) (fun _ => .inl rfl) v3
end
theorem reads_newPtr (V : World) (t : TypeId) (p : Nat) : Reads (V.alloc (.cells #[.pointer (some ⟨p, 0, none⟩)] t)) (V.heap.size + 1) 1 (some ⟨V.heap.size, 0, none⟩) 1 [ptr p] :=
  ⟨rfl, fun _ => ⟨_, rfl, by simp, cell_one_new V _ t⟩⟩
/-- What add leaves. -/
def addMs (lim : Int) (ms : List (List Int)) (m : List Int) : List (List Int) := if lim ≤ ms.length then ms else ms ++ [m]
def addE (lim : Int) (ms : List (List Int)) : Value := if lim ≤ ms.length then errno 6 else .nilIface
set_option maxRecDepth 100000 in
set_option maxHeartbeats 4000000 in
theorem add_any {B g p : Nat} {r : Option Nat} {lim : Int} {ms : List (List Int)} {m : List Int} (w : World) (h : Net w B g r lim ms) (hp : Blk w p 31 (mc m)) (hl : m.length = 28) :
    Calls Try.prog 37 #[.pointer (some ⟨g, 0, none⟩), .pointer (some ⟨p, 0, none⟩)] w fun e w' => e = .returned (addE lim ms) ∧ ∃ r', Net w' B g r' lim (addMs lim ms m) ∧ Turn (NS g r) w w' ∧ Next w r r' := by
  have HN := Lib.hid h
  obtain ⟨v, ps, hw, hr⟩ := h
  obtain ⟨A, c, rfl, _⟩ := hw.slice
  have HW := Lib.hid hw
  have HP := Lib.hid hp
  have HL := Lib.hid hl
  have HR := Lib.hid hr
  have k0 : w.cell? ⟨g, 0, none⟩ = some (.int .i64 lim) := hw.box.cell 0
  have k1 : w.cell? ⟨g, 1, none⟩ = some (.slice A ms.length c) := hw.box.cell 1
  obtain ⟨i0, hi0, hz0, hz1, hz2⟩ := info_parts info_ptr
  clear hw hp hl hr
  by_cases hfull : lim ≤ ms.length
  · have HE := Lib.hid (show addE lim ms = errno 6 by unfold addE; rw [if_pos hfull])
    have HM := Lib.hid (show addMs lim ms m = ms by unfold addMs; rw [if_pos hfull])
    have d1 : decide (lim ≤ (ms.length : Int)) = true := by simpa using hfull
    go_enter Try.func37, Try.ntmps37
    go_wp2_with fail
    go_quiet (fail)
    go_wp2_with fail
    go_ret
    exact ⟨by rw [HE.out]; rfl, r, by rw [HM.out]; exact HN.out.step (below_drewN (Below.refl _ _) _), (Turn.refl _ _).drewN _, Next.refl _ _⟩
  · have HE := Lib.hid (show addE lim ms = .nilIface by unfold addE; rw [if_neg hfull])
    have HM := Lib.hid (show addMs lim ms m = ms ++ [m] by unfold addMs; rw [if_neg hfull])
    have d1 : decide (lim ≤ (ms.length : Int)) = false := by simpa using hfull
    have HF := Lib.hid (show (ms.length : Int) < lim by omega)
    go_enter Try.func37, Try.ntmps37
    go_wp2_with fail
    go_quiet (fail)
    generalize hq : w.drewN _ = W
    have BW := Lib.hid (show Below w.heap.size w W by rw [← hq]; exact below_drewN (Below.refl _ _) _)
    have WW := Lib.hid (show NetW W B g lim ms (.slice A ms.length c) ps by rw [← hq]; exact HW.out.turn (S := fun _ => False) ((Turn.refl _ _).drewN _) id (fun _ _ => id) (fun _ _ _ => id))
    have PW := Lib.hid (show Blk W p 31 (mc m) by rw [← hq]; exact HP.out.drewN _)
    have k0' : W.cell? ⟨g, 0, none⟩ = some (.int .i64 lim) := WW.out.box.cell 0
    have k1' : W.cell? ⟨g, 1, none⟩ = some (.slice A ms.length c) := WW.out.box.cell 1
    clear hq k0 k1
    go_wp2_with (at_builtin
                 refine wpList_append_any _ rfl (.tmp 20) (.tmp 22) _ rfl B 80 i0 _ 1 8 Try.underlying76 hi0 hz0 hz1 hz2 rfl (by omega) (.slice A ms.length c) ms.length (ps.map ptr) rfl
                   (World.ownsRow.alloc WW.out.row _) (W.heap.size + 1) (some ⟨W.heap.size, 0, none⟩) 1 1 [ptr p] rfl (reads_newPtr W _ p) (by intro u hu; simp at hu; subst hu; rfl) (by have := WW.out.cnt; have := WW.out.top; simp only [maxLen]; omega) (by have := WW.out.cnt; have := WW.out.top; omega) (by have := WW.out.geB; have := WW.out.box.lt; simp; omega) ?_
                 intro v3 w3 hown3 hg3 hv3
                 obtain ⟨A3, c3, rfl, _, _⟩ := own_slice hown3
                 obtain ⟨hb3, hn3, ht3⟩ := WW.out.added PW.out HL.out HF.out hown3 hg3
                 have k3 : w3.cell? ⟨g, 1, none⟩ = some (.slice A ms.length c) := hb3.cell 1
                 have k4 := hb3.frozen 1
                 have N3 := Lib.hid hn3
                 have T3 := Lib.hid ht3
                 have V3 := Lib.hid hv3
                 clear hown3 hg3 hv3 hb3 hn3 ht3)
    go_ret
    refine ⟨by rw [HE.out]; rfl, (Value.slice A3 (ms.length + 1) c3).ownBlock, ⟨_, _, by rw [HM.out]; exact N3.out, rfl⟩, ?_, ?_⟩
    · rw [← HR.out]
      exact (Turn.of_below BW.out).trans T3.out (fun _ _ h => h)
    · rw [← HR.out]
      rcases V3.out with h | h
      · exact .inl h
      · exact .inr fun k hk => by rw [h] at hk; cases hk; have := BW.out.size; simp; omega
end Go.Proofs.Ytmjmplkhngpgnaa
