/- A net whose messages' blocks are told something of; its Send. -/
import Derived.Test.YtmjmplkhngpgnaaNetD
namespace Go.Proofs.Ytmjmplkhngpgnaa
open Go.RowKit
set_option linter.unusedVariables false
set_option linter.unusedSimpArgs false

def NetP (w : World) (B g : Nat) (r : Option Nat) (lim : Int) (ms : List (List Int)) (F : Nat → Prop) : Prop := ∃ v ps, NetW w B g lim ms v ps ∧ v.ownBlock = r ∧ ∀ p ∈ ps, F p
section
variable {w w' : World} {B g : Nat} {r : Option Nat} {lim : Int} {ms : List (List Int)} {F F' : Nat → Prop}
theorem NetP.net (h : NetP w B g r lim ms F) : Net w B g r lim ms := by obtain ⟨v, ps, hw, hr, _⟩ := h; exact ⟨v, ps, hw, hr⟩
theorem NetP.imp (h : NetP w B g r lim ms F) (hF : ∀ p, p < w.heap.size → F p → F' p) : NetP w B g r lim ms F' := by
  obtain ⟨v, ps, hw, hr, hp⟩ := h
  exact ⟨v, ps, hw, hr, fun p hpp => hF p (hw.ps_lt p hpp) (hp p hpp)⟩
theorem NetP.turn {S : Nat → Prop} (h : NetP w B g r lim ms F) (ht : Turn S w w') (hg : ¬ S g) (hr : ∀ k, r = some k → ¬ S k) (hm : ∀ k, F k → ¬ S k) : NetP w' B g r lim ms F := by
  obtain ⟨v, ps, hw, rfl, hu⟩ := h
  exact ⟨v, ps, ⟨hw.box.turn ht hg, own_turn hw.row ht hr, fun i p m hp hmm => (hw.pts i p m hp hmm).turn ht (hm p (hu p (List.mem_of_getElem? hp))), hw.all, hw.geB, hw.cnt, hw.top⟩, rfl, hu⟩
theorem NetP.step (h : NetP w B g r lim ms F) (hb : Below w.heap.size w w') : NetP w' B g r lim ms F := h.turn (S := fun _ => False) (Turn.of_below hb) id (fun _ _ => id) (fun _ _ => id)
theorem Net.netP (h : Net w B g r lim ms) : NetP w B g r lim ms (fun p => p < w.heap.size) := by obtain ⟨v, ps, hw, hr⟩ := h; exact ⟨v, ps, hw, hr, hw.ps_lt⟩
end
set_option maxRecDepth 100000 in
set_option maxHeartbeats 4000000 in
theorem addP_any {B g p : Nat} {r : Option Nat} {lim : Int} {ms : List (List Int)} {m : List Int} {F : Nat → Prop} (w : World) (h : NetP w B g r lim ms F) (hFp : F p) (hp : Blk w p 31 (mc m)) (hl : m.length = 28) :
    Calls Try.prog 37 #[.pointer (some ⟨g, 0, none⟩), .pointer (some ⟨p, 0, none⟩)] w fun e w' => e = .returned (addE lim ms) ∧ ∃ r', NetP w' B g r' lim (addMs lim ms m) F ∧ Turn (NS g r) w w' ∧ Next w r r' := by
  have HN := Lib.hid h
  obtain ⟨v, ps, hw, hr, hF⟩ := h
  have HF := Lib.hid hF
  have HFP := Lib.hid hFp
  obtain ⟨A, c, rfl, _⟩ := hw.slice
  have HW := Lib.hid hw
  have HP := Lib.hid hp
  have HL := Lib.hid hl
  have HR := Lib.hid hr
  have k0 : w.cell? ⟨g, 0, none⟩ = some (.int .i64 lim) := hw.box.cell 0
  have k1 : w.cell? ⟨g, 1, none⟩ = some (.slice A ms.length c) := hw.box.cell 1
  obtain ⟨i0, hi0, hz0, hz1, hz2⟩ := info_parts info_ptr
  clear hw hp hl hr hF hFp
  by_cases hfull : lim ≤ ms.length
  · have HE := Lib.hid (show addE lim ms = errno 6 by unfold addE; rw [if_pos hfull])
    have HM := Lib.hid (show addMs lim ms m = ms by unfold addMs; rw [if_pos hfull])
    have d1 : decide (lim ≤ (ms.length : Int)) = true := by simpa using hfull
    go_enter Try.func37, Try.ntmps37
    go_wp2_with fail
    go_quiet (fail)
    go_wp2_with fail
    go_ret
    exact ⟨by rw [HE.out]; rfl, r, by rw [HM.out]; exact HN.out.step (below_drewN (Below.refl _ _) _), (Turn.refl _ _).drewN _, Next.refl _ _⟩
  · have HE := Lib.hid (show addE lim ms = .nilIface by unfold addE; rw [if_neg hfull])
    have HM := Lib.hid (show addMs lim ms m = ms ++ [m] by unfold addMs; rw [if_neg hfull])
    have d1 : decide (lim ≤ (ms.length : Int)) = false := by simpa using hfull
    have HLT := Lib.hid (show (ms.length : Int) < lim by omega)
    go_enter Try.func37, Try.ntmps37
    go_wp2_with fail
    go_quiet (fail)
    generalize hq : w.drewN _ = W
    have BW := Lib.hid (show Below w.heap.size w W by rw [← hq]; exact below_drewN (Below.refl _ _) _)
    have WW := Lib.hid (show NetW W B g lim ms (.slice A ms.length c) ps by rw [← hq]; exact HW.out.turn (S := fun _ => False) ((Turn.refl _ _).drewN _) id (fun _ _ => id) (fun _ _ _ => id))
    have PW := Lib.hid (show Blk W p 31 (mc m) by rw [← hq]; exact HP.out.drewN _)
    have k0' : W.cell? ⟨g, 0, none⟩ = some (.int .i64 lim) := WW.out.box.cell 0
    have k1' : W.cell? ⟨g, 1, none⟩ = some (.slice A ms.length c) := WW.out.box.cell 1
    clear hq k0 k1
    go_wp2_with (at_builtin
                 refine wpList_append_any _ rfl (.tmp 20) (.tmp 22) _ rfl B 80 i0 _ 1 8 Try.underlying76 hi0 hz0 hz1 hz2 rfl (by omega) (.slice A ms.length c) ms.length (ps.map ptr) rfl
                   (World.ownsRow.alloc WW.out.row _) (W.heap.size + 1) (some ⟨W.heap.size, 0, none⟩) 1 1 [ptr p] rfl (reads_newPtr W _ p) (by intro u hu; simp at hu; subst hu; rfl) (by have := WW.out.cnt; have := WW.out.top; simp only [maxLen]; omega) (by have := WW.out.cnt; have := WW.out.top; omega) (by have := WW.out.geB; have := WW.out.box.lt; simp; omega) ?_
                 intro v3 w3 hown3 hg3 hv3
                 obtain ⟨A3, c3, rfl, _, _⟩ := own_slice hown3
                 obtain ⟨hb3, hn3, ht3⟩ := WW.out.added PW.out HL.out HLT.out hown3 hg3
                 have k3 : w3.cell? ⟨g, 1, none⟩ = some (.slice A ms.length c) := hb3.cell 1
                 have k4 := hb3.frozen 1
                 have N3 := Lib.hid hn3
                 have T3 := Lib.hid ht3
                 have V3 := Lib.hid hv3
                 clear hown3 hg3 hv3 hb3 hn3 ht3)
    go_ret
    refine ⟨by rw [HE.out]; rfl, (Value.slice A3 (ms.length + 1) c3).ownBlock, ⟨_, _, by rw [HM.out]; exact N3.out, rfl, fun q hq => by rcases List.mem_append.1 hq with h1 | h1; { exact HF.out q h1 }; { simp at h1; subst h1; exact HFP.out }⟩, ?_, ?_⟩
    · rw [← HR.out]
      exact (Turn.of_below BW.out).trans T3.out (fun _ _ h => h)
    · rw [← HR.out]
      rcases V3.out with h | h
      · exact .inl h
      · exact .inr fun k hk => by rw [h] at hk; cases hk; have := BW.out.size; simp; omega
set_option maxRecDepth 100000 in
set_option maxHeartbeats 4000000 in
theorem sendP_any {B g : Nat} {r : Option Nat} {lim : Int} {ms : List (List Int)} {m : List Int} {F : Nat → Prop} (w : World) (h : NetP w B g r lim ms F) (hFn : F w.heap.size) (hl : m.length = 28) :
    Calls Try.prog 21 #[.pointer (some ⟨g, 0, none⟩), .agg (mc m)] w fun e w' => e = .returned (sendE lim ms m) ∧ ∃ r', NetP w' B g r' lim (sendMs lim ms m) F ∧ Turn (NS g r) w w' ∧ Next w r r' := by
  have HN := Lib.hid h
  have HL := Lib.hid hl
  have HI := Lib.hid (mc_info hl)
  have M0 := Lib.hid (Blk.new w 31 (mc m))
  have hn0 := fun W => run_eql_nil_nil (P := Try.prog) W 33 Try.underlying33
  have hn1 := fun W k => run_eql_held_nil (P := Try.prog) W 33 69 (.int .i64 k) Try.underlying33
  have HFN := Lib.hid hFn
  clear h hl hFn
  cases hm : mayB m
  · have HE := Lib.hid (show sendE lim ms m = errno 5 by unfold sendE; rw [hm]; rfl)
    have HS := Lib.hid (show sendMs lim ms m = ms by unfold sendMs; rw [hm]; rfl)
    have HM := Lib.hid hm
    clear hm
    go_enter Try.func21, Try.ntmps21
    go_wp2_with (refine wpList_load_row rfl 31 (.tmp 3) rfl w.heap.size rfl 31 (mc m) (0, 0) _ M0.out Try.underlying31 rfl HI.out ?_)
    refine (ok_any m HL.out _).mono ?_
    rintro e w1 ⟨rfl, hb1⟩
    rw [HM.out, if_neg (by decide)]
    have B1 := Lib.hid (stepB (stepA (Below.refl w.heap.size w) _) hb1)
    clear hb1
    go_wp2_with fail
    go_ret
    exact ⟨by rw [HE.out]; rfl, r, by rw [HS.out]; exact HN.out.step B1.out, Turn.of_below B1.out, Next.refl _ _⟩
  · have HE := Lib.hid (show sendE lim ms m = addE lim ms by unfold sendE; rw [hm]; rfl)
    have HS := Lib.hid (show sendMs lim ms m = addMs lim ms m by unfold sendMs; rw [hm]; rfl)
    have HM := Lib.hid hm
    clear hm
    go_enter Try.func21, Try.ntmps21
    go_wp2_with (refine wpList_load_row rfl 31 (.tmp 3) rfl w.heap.size rfl 31 (mc m) (0, 0) _ M0.out Try.underlying31 rfl HI.out ?_)
    refine (ok_any m HL.out _).mono ?_
    rintro e w1 ⟨rfl, hb1⟩
    rw [HM.out, if_pos rfl]
    have B1 := Lib.hid (stepB (stepA (Below.refl w.heap.size w) _) hb1)
    have M1 := Lib.hid (M0.out.here hb1)
    clear hb1
    go_wp2_with fail
    refine (addP_any _ (HN.out.step B1.out) HFN.out M1.out HL.out).mono ?_
    rintro e w2 ⟨rfl, r2, hn2, ht2, hx2⟩
    have N2 := Lib.hid hn2
    have T2 := Lib.hid ht2
    have X2 := Lib.hid hx2
    clear hn2 ht2 hx2
    go_wp2_with fail
    go_ret
    exact ⟨by rw [HE.out]; rfl, r2, by rw [HS.out]; exact N2.out, (Turn.of_below B1.out).trans T2.out (fun _ _ h => h), (Next.refl _ _).trans X2.out B1.out.size⟩

end Go.Proofs.Ytmjmplkhngpgnaa
