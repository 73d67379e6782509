/- The contracts of package net's Deliver, Drop, Twice, and of their closures. -/
import Derived.Test.YtmjmplkhngpgnaaNetB
import Derived.StillTailTactics
import Derived.Deep.RegionHeld
namespace Go.Proofs.Ytmjmplkhngpgnaa
open Go.RowKit
set_option linter.unusedVariables false
set_option linter.unusedSimpArgs false

/-- The place that a raw number picks of n. -/
def pickN (k : Int) (n : Nat) : Nat := (k % n).toNat
theorem pickN_lt (k : Int) {n : Nat} (h : 0 < n) : pickN k n < n := by
  have h3 := Int.emod_nonneg k (show (n : Int) ≠ 0 by omega)
  have h4 := Int.emod_lt_of_pos k (show (0 : Int) < n by omega)
  unfold pickN; omega
theorem pickN_eq (k : Int) {n : Nat} (h : 0 < n) : k % (n : Int) = (pickN k n : Nat) := by
  have h3 := Int.emod_nonneg k (show (n : Int) ≠ 0 by omega)
  unfold pickN; omega
/-- A net all of whose messages lie below a block. -/
def NetU (w : World) (B g : Nat) (r : Option Nat) (lim : Int) (ms : List (List Int)) (u : Nat) : Prop := ∃ v ps, NetW w B g lim ms v ps ∧ v.ownBlock = r ∧ ∀ p ∈ ps, p < u
section
variable {w w' : World} {B g u : Nat} {r : Option Nat} {lim : Int} {ms : List (List Int)} {v : Value} {ps : List Nat}
theorem NetW.ps_lt (h : NetW w B g lim ms v ps) : ∀ p ∈ ps, p < w.heap.size := fun p hp => by
  obtain ⟨i, hi, rfl⟩ := List.getElem_of_mem hp
  have hl := h.len
  exact (h.pts i _ _ (List.getElem?_eq_getElem hi) (List.getElem?_eq_getElem (show i < ms.length by omega))).lt
theorem Net.upto (h : Net w B g r lim ms) : NetU w B g r lim ms w.heap.size := by obtain ⟨v, ps, hw, hr⟩ := h; exact ⟨v, ps, hw, hr, hw.ps_lt⟩
theorem NetU.net (h : NetU w B g r lim ms u) : Net w B g r lim ms := by obtain ⟨v, ps, hw, hr, _⟩ := h; exact ⟨v, ps, hw, hr⟩
theorem NetU.turn {S : Nat → Prop} (h : NetU w B g r lim ms u) (ht : Turn S w w') (hg : ¬ S g) (hr : ∀ k, r = some k → ¬ S k) (hm : ∀ k, k < u → ¬ S k) : NetU w' B g r lim ms u := by
  obtain ⟨v, ps, hw, rfl, hu⟩ := h
  exact ⟨v, ps, ⟨hw.box.turn ht hg, own_turn hw.row ht hr, fun i p m hp hmm => (hw.pts i p m hp hmm).turn ht (hm p (hu p (List.mem_of_getElem? hp))), hw.all, hw.geB, hw.cnt, hw.top⟩, rfl, hu⟩
theorem NetU.step (h : NetU w B g r lim ms u) (hb : Below w.heap.size w w') : NetU w' B g r lim ms u := h.turn (S := fun _ => False) (Turn.of_below hb) id (fun _ _ => id) (fun _ _ => id)
end
/-- A net's row, its place i. -/
theorem NetW.place {w : World} {B g : Nat} {lim : Int} {ms : List (List Int)} {v : Value} {ps : List Nat} (h : NetW w B g lim ms v ps) {i : Nat} (hi : i < ms.length) :
    ∃ rb c p, v = .slice (some ⟨rb, 0, none⟩) ms.length c ∧ w.cell? ⟨rb, i, none⟩ = some (.pointer (some ⟨p, 0, none⟩)) ∧ ps[i]? = some p ∧ Blk w p 31 (mc (ms.getD i zM)) ∧ (ms.getD i zM).length = 28 := by
  have hl := h.len
  rcases h.row.2 with ⟨e, h0⟩ | ⟨rb, cap, cur, hv, hB, hh, hnc, hcm, hcs, htk⟩
  · omega
  · have hp : ps[i]? = some (ps[i]'(by omega)) := List.getElem?_eq_getElem (by omega)
    have hm : ms[i]? = some (ms[i]'hi) := List.getElem?_eq_getElem hi
    have hd : ms.getD i zM = ms[i]'hi := by simp [List.getD, hi]
    refine ⟨rb, cap, ps[i]'(by omega), hv, ?_, hp, ?_, ?_⟩
    · rw [Blk.cell (t := 80) (cs := cur) hh i]
      rw [Nat.mul_one] at htk
      have h1 : (cur.toList.take ms.length)[i]? = (ps.map ptr)[i]? := by rw [htk]
      rw [List.getElem?_take, if_pos hi, ptr_get (by omega)] at h1
      simpa [ptr] using h1
    · rw [hd]; exact h.pts i _ _ hp hm
    · rw [hd]; exact h.all _ (List.getElem_mem hi)

set_option maxRecDepth 100000 in
set_option maxHeartbeats 4000000 in
theorem deliver1_any {B g pn pm i u : Nat} {r : Option Nat} {lim : Int} {ms : List (List Int)} {z : List Int} (w0 w : World) (h : NetU w0 B g r lim ms u) (hb : Below w0.heap.size w0 w) (hi : i < ms.length)
    (hn : Blk w pn 41 #[.pointer (some ⟨g, 0, none⟩)]) (hm : Blk w pm 31 (mc z)) (hz : z.length = 28) (hge : w0.heap.size ≤ pm) (hpn : pn ≠ pm) :
    Calls Try.prog 39 #[.int .i64 i, .pointer (some ⟨pn, 0, none⟩), .pointer (some ⟨pm, 0, none⟩)] w fun e w' => e = .returned .nilIface ∧ NetU w' B g r lim (ms.eraseIdx i) u ∧ Blk w' pm 31 (mc (ms.getD i zM)) ∧ Turn (NS g r) w0 w' := by
  obtain ⟨v, ps, hw0, hr, hu⟩ := h
  have hw : NetW w B g lim ms v ps := hw0.turn (S := fun _ => False) (Turn.of_below hb) id (fun _ _ => id) (fun _ _ _ => id)
  obtain ⟨rb, c, p, rfl, kp, hps, hpm, hlm⟩ := hw.place hi
  have hp0 : p < w0.heap.size := by
    obtain ⟨_, _, _, _, _, hps0, hpm0, _⟩ := hw0.place hi
    rw [hps] at hps0; cases hps0; exact hpm0.lt
  have hg0 : g < w0.heap.size := hw0.box.lt
  have hrb0 : rb < w0.heap.size := by obtain ⟨cur, hh, _⟩ := own_heap hw0.row rb rfl; exact own_lt hh
  have hb1 : Below w0.heap.size w0 (w.setCells pm 0 (mc (ms.getD i zM)).toList) := Below.setCells hge _ _ _ hb
  have hw1 : NetW (w.setCells pm 0 (mc (ms.getD i zM)).toList) B g lim ms (.slice (some ⟨rb, 0, none⟩) ms.length c) ps := hw0.turn (S := fun _ => False) (Turn.of_below hb1) id (fun _ _ => id) (fun _ _ _ => id)
  have hn1 : Blk (w.setCells pm 0 (mc (ms.getD i zM)).toList) pn 41 #[.pointer (some ⟨g, 0, none⟩)] := hn.farCells hpn _ _ _
  have hm1 : Blk (w.setCells pm 0 (mc (ms.getD i zM)).toList) pm 31 (mc (ms.getD i zM)) := mc_put hz hlm hm
  have HB1 := Lib.hid hb1
  have HW1 := Lib.hid hw1
  have HN1 := Lib.hid hn1
  have HM1 := Lib.hid hm1
  have HR := Lib.hid hr
  have HPS := Lib.hid hu
  have HPM := Lib.hid hpm
  have HLM := Lib.hid hlm
  have HI := Lib.hid (mc_info hlm)
  have HTH := Lib.hid (mc_there hz hlm hm)
  have k0 : w.cell? ⟨pn, 0, none⟩ = some (.pointer (some ⟨g, 0, none⟩)) := hn.cell 0
  have k1 : w.cell? ⟨g, 1, none⟩ = some (.slice (some ⟨rb, 0, none⟩) ms.length c) := hw.box.cell 1
  have hi' : (i : Int) < (ms.length : Int) := by omega
  have s1 : IntKind.i64.wrap ((i : Int) + 1) = (i : Int) + 1 := IntWalk.i64_in _ (by have := hw.cnt; have := hw.top; omega)
  have HNE := Lib.hid (show pm ≠ g ∧ pm ≠ rb by constructor <;> omega)
  clear hu hw0 hw hb1 hw1 hn1 hm1 hr hpm hlm hn hm
  go_enter Try.func39, Try.ntmps39
  go_upto_region 2 with (first
    | (refine wpList_load_row rfl 31 (.tmp 12) rfl p rfl 31 (mc (ms.getD i zM)) (0, 0) _ HPM.out Try.underlying31 rfl HI.out ?_)
    | (refine wpList_store_mid (by rfl) 31 (.tmp 2) (.tmp 13) (by rfl) pm 0 (mc (ms.getD i zM)) (by rfl) (by rfl) HTH.out HI.out (ints_oneCell _) ?_))
  generalize w.setCells pm 0 (mc (ms.getD i zM)).toList = W at HB1 HW1 HN1 HM1 ⊢
  clear k0 k1 kp
  have k0 : W.cell? ⟨pn, 0, none⟩ = some (.pointer (some ⟨g, 0, none⟩)) := HN1.out.cell 0
  have k1 : W.cell? ⟨g, 1, none⟩ = some (.slice (some ⟨rb, 0, none⟩) ms.length c) := HW1.out.box.cell 1
  go_wp2_with fail
  have B2 := Lib.hid (Below.drew HB1.out)
  have W2 := Lib.hid (HW1.out.turn (S := fun _ => False) ((Turn.refl _ _).drew) id (fun _ _ => id) (fun _ _ _ => id))
  have M2 := Lib.hid HM1.out.drew
  have N2 := Lib.hid HN1.out.drew
  refine wp_region_held_drew (S := fun w' => w'.cell? ⟨pn, 0, none⟩ = some (.pointer (some ⟨g, 0, none⟩))) (by kernel_rfl) ?_ (fun hHeld => ?_)
  · exact N2.out.cell 0
  refine wpAnyH_take (i := 0) (v := ?_) rfl (by kernel_rfl) (by kernel_rfl) (by kernel_rfl) (fun _ _ _ h => h) (Or.inl ⟨by rfl, ?_⟩) (by assumption) ?_
  rotate_left
  · (intro w0 hSw; (try dsimp only at hSw); go_simp; try with_reducible rfl)
  try simp only [List.getElem_toArray, List.getElem_cons_succ, List.getElem_cons_zero, Act.put, List.setIfInBounds_toArray, List.set_cons_zero, List.set_cons_succ]
  refine wpAnyH_take (i := 1) (v := ?_) rfl (by kernel_rfl) (by kernel_rfl) (by kernel_rfl) (fun _ _ _ h => h) (Or.inl ⟨by rfl, ?_⟩) (by assumption) ?_
  rotate_left
  · (intro w0 hSw; (try dsimp only at hSw); go_simp; try with_reducible rfl)
  try simp only [List.getElem_toArray, List.getElem_cons_succ, List.getElem_cons_zero, Act.put, List.setIfInBounds_toArray, List.set_cons_zero, List.set_cons_succ]
  refine wpAnyH_take (i := 2) (v := ?_) rfl (by kernel_rfl) (by kernel_rfl) (by kernel_rfl) (fun _ _ _ h => h) (Or.inl ⟨by rfl, ?_⟩) (by assumption) ?_
  rotate_left
  · (intro w0 hSw; (try dsimp only at hSw); go_simp; try with_reducible rfl)
  try simp only [List.getElem_toArray, List.getElem_cons_succ, List.getElem_cons_zero, Act.put, List.setIfInBounds_toArray, List.set_cons_zero, List.set_cons_succ]
  refine wpAnyH_take (i := 3) (v := ?_) rfl (by kernel_rfl) (by kernel_rfl) (by kernel_rfl) (fun _ _ _ h => h) (Or.inl ⟨by rfl, ?_⟩) (by assumption) ?_
  rotate_left
  · (intro w0 hSw; (try dsimp only at hSw); go_simp; try with_reducible rfl)
  try simp only [List.getElem_toArray, List.getElem_cons_succ, List.getElem_cons_zero, Act.put, List.setIfInBounds_toArray, List.set_cons_zero, List.set_cons_succ]
  refine wpAnyH_take (i := 5) (v := ?_) rfl (by kernel_rfl) (by kernel_rfl) (by kernel_rfl) (fun _ _ _ h => h) (Or.inl ⟨by rfl, ?_⟩) (by assumption) ?_
  rotate_left
  · (intro w0 hSw; (try dsimp only at hSw); go_simp; try with_reducible rfl)
  try simp only [List.getElem_toArray, List.getElem_cons_succ, List.getElem_cons_zero, Act.put, List.setIfInBounds_toArray, List.set_cons_zero, List.set_cons_succ]
  refine wpAnyH_take (i := 6) (v := ?_) rfl (by kernel_rfl) (by kernel_rfl) (by kernel_rfl) (fun _ _ _ h => h) (Or.inl ⟨by rfl, ?_⟩) (by assumption) ?_
  rotate_left
  · (intro w0 hSw; (try dsimp only at hSw); go_simp; try with_reducible rfl)
  try simp only [List.getElem_toArray, List.getElem_cons_succ, List.getElem_cons_zero, Act.put, List.setIfInBounds_toArray, List.set_cons_zero, List.set_cons_succ]
  refine wpAnyH_take (i := 7) (v := ?_) rfl (by kernel_rfl) (by kernel_rfl) (by kernel_rfl) (fun _ _ _ h => h) (Or.inl ⟨by rfl, ?_⟩) (by assumption) ?_
  rotate_left
  · (intro w0 hSw; (try dsimp only at hSw); go_simp; try with_reducible rfl)
  try simp only [List.getElem_toArray, List.getElem_cons_succ, List.getElem_cons_zero, Act.put, List.setIfInBounds_toArray, List.set_cons_zero, List.set_cons_succ]
  refine wpAnyH_ready (rs := [4]) (by kernel_rfl) (by simp) ?_
  refine AllReadyH.cons rfl (fun K hK => ?_) AllReadyH.nil
  go_simp
  refine hK.out _ _ hHeld (fun hHeld => ?_)
  clear hK K
  refine wpAnyH_ready (rs := [8]) (by kernel_rfl) (by simp) ?_
  refine AllReadyH.cons rfl (fun K hK => ?_) AllReadyH.nil
  go_simp
  refine (delete_any W.drew W2.out.row hi).mono ?_
  rintro e w3 ⟨rfl, hown3, ht3⟩
  try go_simp
  obtain ⟨hb3, hw3, ht4⟩ := W2.out.deleted hi ht3 hown3 rfl
  have N3 := Lib.hid (N2.out.turn ht3 (fun e => by
    obtain ⟨cur, hh, _⟩ := own_heap W2.out.row _ e
    exact heap_ne N2.out hh (by decide) rfl))
  have hpg : pn ≠ g := heap_ne N2.out W2.out.box (by decide)
  have k3 : w3.cell? ⟨g, 1, none⟩ = some (.slice (some ⟨rb, 0, none⟩) ms.length c) := hb3.cell 1
  have k4 := hb3.frozen 1
  have W4 := Lib.hid hw3
  have T4 := Lib.hid ht4
  have M4 := Lib.hid ((M2.out.turn ht3 (fun e => HNE.out.2 (by simp [Value.ownBlock] at e; exact e.symm))).far (p := ⟨g, 1, none⟩) HNE.out.1 (.slice (some ⟨rb, 0, none⟩) (ms.length - 1) c))
  clear hown3 ht3 hb3 hw3 ht4 hHeld
  refine hK.out _ _ (N3.out.cell 0) (fun hHeld => ?_)
  clear hK K
  refine wpAnyH_take (i := 9) (v := ?_) rfl (by kernel_rfl) (by kernel_rfl) (by kernel_rfl) (fun _ _ _ h => h) (Or.inl ⟨by rfl, ?_⟩) (by assumption) ?_
  rotate_left
  · (intro w0 hSw; (try dsimp only at hSw); go_simp; try with_reducible rfl)
  try simp only [List.getElem_toArray, List.getElem_cons_succ, List.getElem_cons_zero, Act.put, List.setIfInBounds_toArray, List.set_cons_zero, List.set_cons_succ]
  refine wpAnyH_take (i := 10) (v := ?_) rfl (by kernel_rfl) (by kernel_rfl) (by kernel_rfl) (fun _ _ _ h => h) (Or.inl ⟨by rfl, ?_⟩) (by assumption) ?_
  rotate_left
  · (intro w0 hSw; (try dsimp only at hSw); go_simp; try with_reducible rfl)
  try simp only [List.getElem_toArray, List.getElem_cons_succ, List.getElem_cons_zero, Act.put, List.setIfInBounds_toArray, List.set_cons_zero, List.set_cons_succ]
  refine wpAnyH_ready (rs := [11]) (by kernel_rfl) (by simp) ?_
  refine AllReadyH.cons rfl (fun K hK => ?_) AllReadyH.nil
  go_simp
  refine hK.out _ _ ((N3.out.far (p := ⟨g, 1, none⟩) hpg _).cell 0) (fun hHeld => ?_)
  clear hK K
  refine wpAnyH_done (by kernel_rfl) ?_ _
  clear hHeld
  go_wp2_with fail
  go_ret
  refine ⟨rfl, ⟨_, _, W4.out, HR.out, fun p hp => HPS.out p (List.mem_of_mem_eraseIdx hp)⟩, M4.out, ?_⟩
  rw [← HR.out]
  exact (Turn.of_below B2.out).trans T4.out (fun _ _ h => h)

set_option maxRecDepth 100000 in
set_option maxHeartbeats 4000000 in
theorem twice1_any {B g pn i : Nat} {r : Option Nat} {lim : Int} {ms : List (List Int)} (w : World) (h : Net w B g r lim ms) (hi : i < ms.length)
    (hn : Blk w pn 41 #[.pointer (some ⟨g, 0, none⟩)]) :
    Calls Try.prog 41 #[.int .i64 i, .pointer (some ⟨pn, 0, none⟩)] w fun e w' => e = .returned (addE lim ms) ∧ ∃ r', Net w' B g r' lim (addMs lim ms (ms.getD i zM)) ∧ Turn (NS g r) w w' ∧ Next w r r' := by
  have HN := Lib.hid h
  obtain ⟨v, ps, hw, hr⟩ := h
  obtain ⟨rb, c, p, rfl, kp, hps, hpm, hlm⟩ := hw.place hi
  have k0 : w.cell? ⟨pn, 0, none⟩ = some (.pointer (some ⟨g, 0, none⟩)) := hn.cell 0
  have k1 : w.cell? ⟨g, 1, none⟩ = some (.slice (some ⟨rb, 0, none⟩) ms.length c) := hw.box.cell 1
  have hi' : (i : Int) < (ms.length : Int) := by omega
  have HPM := Lib.hid hpm
  have HLM := Lib.hid hlm
  clear hw hpm hlm hn hr hps
  go_enter Try.func41, Try.ntmps41
  go_wp2_with fail
  go_still_tail 8, (by kernel_rfl)
  have N2 := Lib.hid (HN.out.step (Below.drew (Below.refl _ _)))
  have M2 := Lib.hid HPM.out.drew
  have B2 := Lib.hid (Below.drew (Below.refl w.heap.size w))
  change wpList _ _ _ _ _ w.drew
  generalize w.drew = X at N2 M2 B2 ⊢
  clear k0 k1 kp
  go_wp2_with (go_at_call 37
               refine (add_any X N2.out M2.out HLM.out).mono ?_
               rintro e w3 ⟨rfl, r3, hn3, ht3, hx3⟩
               have N3 := Lib.hid hn3
               have T3 := Lib.hid ht3
               have X3 := Lib.hid hx3
               clear hn3 ht3 hx3)
  go_ret
  exact ⟨rfl, r3, N3.out, (Turn.of_below B2.out).trans T3.out (fun _ _ h => h), (Next.refl _ _).trans X3.out B2.out.size⟩
end Go.Proofs.Ytmjmplkhngpgnaa
