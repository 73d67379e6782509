/- A coordinator: note. -/
import Derived.Test.YtmfoffigmojdcaaGreatCoN
import Derived.Test.YtmfoffigmojdcaaGreatMsgS
import Derived.Test.YtmfoffigmojdcaaGreatHeld2
namespace Go.Proofs.YtmfoffigmojdcaaGreat
open Go.RowKit
set_option linter.unusedVariables false
set_option linter.unusedSimpArgs false

theorem info_event : (Tryz.prog.info? 65).map (fun i => (i.zero, i.size, i.bytes)) = some (some (.agg #[.int .i64 0, .int .i64 0, .int .i64 0, .int .i64 0, .int .i64 0, .int .i64 0, .int .i64 0]), 7, 56) := by kernel_rfl
theorem ev_info (a b c d e f g : Int) : (Tryz.prog.info? 65).map (·.size) = some (#[Value.int .i64 a, .int .i64 b, .int .i64 c, .int .i64 d, .int .i64 e, .int .i64 f, .int .i64 g] : Array Value).size := by
  obtain ⟨i0, hi0, _, h1, _⟩ := info_parts info_event
  rw [hi0]; simp [h1]
theorem ev_load {w : World} {k : Nat} {a b c d e f g : Int} (h : Blk w k 65 #[.int .i64 a, .int .i64 b, .int .i64 c, .int .i64 d, .int .i64 e, .int .i64 f, .int .i64 g]) : (loadVar 65 ⟨k, 0, none⟩).run Tryz.prog w = .ok (.agg #[.int .i64 a, .int .i64 b, .int .i64 c, .int .i64 d, .int .i64 e, .int .i64 f, .int .i64 g]) w :=
  run_loadVar_row w k _ 65 _ (0, 0) _ h Tryz.underlying65 rfl (ev_info a b c d e f g)
theorem readsE_blk {w : World} {g size : Nat} {t : TypeId} {l : List Int} (h : Blk w g t (ints l).toArray) (hl : l.length = size) : Reads w w.heap.size size (some ⟨g, 0, none⟩) 1 (ints l) :=
  ⟨by rw [ints_length]; omega, fun _ => ⟨_, rfl, h.lt, fun j u hu => by
    have h1 := h.cell j
    have h2 : (⟨g, 0, none⟩ : Addr).add j = ⟨g, j, none⟩ := by unfold Addr.add; split <;> simp_all
    rw [h2, h1]; simpa using hu⟩⟩
section
variable {g n : Nat} {c : Co} {P : Pt}
set_option maxRecDepth 100000 in
set_option maxHeartbeats 8000000 in
theorem note_any (e0 e1 e2 e3 e4 e5 e6 : Int) (w : World) (h : CoM w g n c P) (hl : c.ev.length ≤ 100000) (c' : Co) (hc' : c' = { c with ev := c.ev ++ [[e0, e1, e2, e3, e4, e5, e6]] }) :
    Calls Tryz.prog 46 #[.pointer (some ⟨g, 0, none⟩), .agg #[.int .i64 e0, .int .i64 e1, .int .i64 e2, .int .i64 e3, .int .i64 e4, .int .i64 e5, .int .i64 e6]] w fun e w' => e = .returned (.tuple #[]) ∧ ∃ ve', CoS w w' g n P (fun _ => False) c' { P with ve := ve' } := by
  obtain ⟨i0, hi0, hz0, hz1, hz2⟩ := info_parts info_event
  have HC' := Lib.hid hc'
  have H1 := Lib.hid (h.step (Joins.below_alloc1 w (.cells #[.int .i64 e0, .int .i64 e1, .int .i64 e2, .int .i64 e3, .int .i64 e4, .int .i64 e5, .int .i64 e6] 65)))
  have X1 := Lib.hid (show Blk (w.alloc (.cells #[.int .i64 e0, .int .i64 e1, .int .i64 e2, .int .i64 e3, .int .i64 e4, .int .i64 e5, .int .i64 e6] 65)) w.heap.size 65 #[.int .i64 e0, .int .i64 e1, .int .i64 e2, .int .i64 e3, .int .i64 e4, .int .i64 e5, .int .i64 e6] from Blk.new w _ _)
  have B1 := Lib.hid (Joins.below_alloc1 w (.cells #[.int .i64 e0, .int .i64 e1, .int .i64 e2, .int .i64 e3, .int .i64 e4, .int .i64 e5, .int .i64 e6] 65))
  obtain ⟨A, ca, ev⟩ := own_len h.r.evr
  have HVE := Lib.hid (fun k (hk : P.ve.ownBlock = some k) => (own_ge h.r.evr hk).2)
  have EV := Lib.hid ev
  have HL := Lib.hid hl
  clear h hc' hl ev
  go_enter Tryz.func46, Tryz.ntmps46
  go_upto_region 1 with fail
  obtain ⟨be, hbe⟩ : ∃ be, be = w.heap.size := ⟨_, rfl⟩
  have HB := Lib.hid hbe
  rw [← hbe] at X1 ⊢
  clear hbe
  generalize w.alloc (.cells #[.int .i64 e0, .int .i64 e1, .int .i64 e2, .int .i64 e3, .int .i64 e4, .int .i64 e5, .int .i64 e6] 65) = V at X1 H1 B1 ⊢
  have hgl := H1.out.box.lt
  have x12 : V.cell? ⟨g, 12, none⟩ = some (.slice A c.ev.length ca) := by rw [← EV.out]; exact H1.out.box.cell 12
  have KP := Lib.hid (show ∀ Y, Below V.heap.size V Y → (Y.cell? ⟨g, 12, none⟩ = some (.slice A c.ev.length ca) ∧ Blk Y be 65 #[.int .i64 e0, .int .i64 e1, .int .i64 e2, .int .i64 e3, .int .i64 e4, .int .i64 e5, .int .i64 e6]) from fun Y hy =>
    ⟨(hy.cell (p := ⟨g, 12, none⟩) hgl).trans x12, X1.out.here hy⟩)
  clear x12
  refine wp_region_till 10 (fun w' => w'.cell? ⟨g, 12, none⟩ = some (.slice A c.ev.length ca) ∧ Blk w' be 65 #[.int .i64 e0, .int .i64 e1, .int .i64 e2, .int .i64 e3, .int .i64 e4, .int .i64 e5, .int .i64 e6]) (by kernel_rfl) (KP.out _ (Below.refl _ _).drew) (fun hHeld => ?_)
  have BD := Lib.hid (show Below V.heap.size V V.drew from (Below.refl _ _).drew)
  generalize V.drew = W1 at BD hHeld ⊢
  refine wpTill_take (i := 0) (v := ?_) rfl (by kernel_rfl) (by kernel_rfl) (by kernel_rfl) (by kernel_rfl) (fun _ _ _ h => h) (Or.inl ⟨by rfl, ?_⟩) (by assumption) ?_
  rotate_left
  · (intro w0 hSw; (try dsimp only at hSw); go_simp; try with_reducible rfl)
  try simp only [List.getElem_toArray, List.getElem_cons_succ, List.getElem_cons_zero, Act.put, List.setIfInBounds_toArray, List.set_cons_zero, List.set_cons_succ]
  refine wpTill_take (i := 1) (v := ?_) rfl (by kernel_rfl) (by kernel_rfl) (by kernel_rfl) (by kernel_rfl) (fun _ _ _ h => h) (Or.inl ⟨by rfl, ?_⟩) (by assumption) ?_
  rotate_left
  · (intro w0 hSw; (try dsimp only at hSw); go_simp; try with_reducible rfl)
  try simp only [List.getElem_toArray, List.getElem_cons_succ, List.getElem_cons_zero, Act.put, List.setIfInBounds_toArray, List.set_cons_zero, List.set_cons_succ]
  refine wpTill_take (i := 2) (v := ?_) rfl (by kernel_rfl) (by kernel_rfl) (by kernel_rfl) (by kernel_rfl) (fun _ _ _ h => h) (Or.inl ⟨by rfl, ?_⟩) (by assumption) ?_
  rotate_left
  · (intro w0 hSw; (try dsimp only at hSw); go_simp; try with_reducible rfl)
  try simp only [List.getElem_toArray, List.getElem_cons_succ, List.getElem_cons_zero, Act.put, List.setIfInBounds_toArray, List.set_cons_zero, List.set_cons_succ]
  refine wpTill_take (i := 3) (v := ?_) rfl (by kernel_rfl) (by kernel_rfl) (by kernel_rfl) (by kernel_rfl) (fun _ _ _ h => h) (Or.inl ⟨by rfl, ?_⟩) (by assumption) ?_
  rotate_left
  · (intro w0 hSw; (try dsimp only at hSw); go_simp; try with_reducible rfl)
  try simp only [List.getElem_toArray, List.getElem_cons_succ, List.getElem_cons_zero, Act.put, List.setIfInBounds_toArray, List.set_cons_zero, List.set_cons_succ]
  refine wpTill_take (i := 4) (v := ?_) rfl (by kernel_rfl) (by kernel_rfl) (by kernel_rfl) (by kernel_rfl) (fun _ _ _ h => h) (Or.inl ⟨by rfl, ?_⟩) (by assumption) ?_
  rotate_left
  · (intro w0 hSw; (try dsimp only at hSw); go_simp; try with_reducible rfl)
  try simp only [List.getElem_toArray, List.getElem_cons_succ, List.getElem_cons_zero, Act.put, List.setIfInBounds_toArray, List.set_cons_zero, List.set_cons_succ]
  refine wpTill_take (i := 5) (v := .agg #[.int .i64 e0, .int .i64 e1, .int .i64 e2, .int .i64 e3, .int .i64 e4, .int .i64 e5, .int .i64 e6]) rfl (by kernel_rfl) (by kernel_rfl) (by kernel_rfl) (by kernel_rfl) (fun _ _ _ h => h) (Or.inl ⟨by rfl, fun w0 hSw => exec_load (x := .tmp 3) rfl rfl (ev_load hSw.2)⟩) (by assumption) ?_
  try simp only [List.getElem_toArray, List.getElem_cons_succ, List.getElem_cons_zero, Act.put, List.setIfInBounds_toArray, List.set_cons_zero, List.set_cons_succ]
  refine wpTill_ready (rs := [6]) (by kernel_rfl) (by simp) ?_
  refine AllTill.cons rfl (fun K hK => ?_) AllTill.nil
  go_simp
  have NB := Lib.hid (show Blk (W1.alloc (.cells #[.int .i64 e0, .int .i64 e1, .int .i64 e2, .int .i64 e3, .int .i64 e4, .int .i64 e5, .int .i64 e6] 65)) W1.heap.size 65 (ints [e0, e1, e2, e3, e4, e5, e6]).toArray from Blk.new _ _ _)
  have B2 := Lib.hid (BD.out.alloc BD.out.size (.cells #[.int .i64 e0, .int .i64 e1, .int .i64 e2, .int .i64 e3, .int .i64 e4, .int .i64 e5, .int .i64 e6] 65))
  refine hK.out _ _ (KP.out _ B2.out) (fun hHeld => ?_)
  clear hK K
  generalize W1.heap.size = nb at NB ⊢
  generalize W1.alloc (.cells #[.int .i64 e0, .int .i64 e1, .int .i64 e2, .int .i64 e3, .int .i64 e4, .int .i64 e5, .int .i64 e6] 65) = W2 at NB B2 hHeld ⊢
  have H2 := Lib.hid (H1.out.step B2.out)
  have RV := Lib.hid (show W2.ownsRow 0 65 7 (.slice A c.ev.length ca) c.ev.length (ints c.ev.flatten) from by rw [← EV.out]; exact H2.out.r.evr)
  refine wpTill_ready (rs := [7]) (by kernel_rfl) (by simp) ?_
  refine AllTill.cons rfl (fun K hK => ?_) AllTill.nil
  refine step_append_any _ rfl (.tmp 8) (.tmp 10) _ rfl 0 65 i0 _ 7 56 Tryz.underlying54 hi0 hz0 hz1 hz2 rfl (by omega) (.slice A c.ev.length ca) c.ev.length (ints c.ev.flatten) rfl RV.out _ _ 1 1 (ints [e0, e1, e2, e3, e4, e5, e6]) rfl (readsE_blk NB.out rfl) (ints_one _) (by have := HL.out; simp only [maxLen]; omega) (by have := HL.out; omega) (Nat.zero_le _) ?_
  intro v9 W9 hown hgr h3
  obtain ⟨A9, c9, rfl⟩ := own_len hown
  have T9 := Lib.hid (show Turn (fun k => P.ve.ownBlock = some k) W2 W9 from (Turn.refl _ _).grown hgr (fun k hk _ => by rw [EV.out]; exact hk))
  have R9 := Lib.hid (show EvR W9 (.slice A9 (c.ev.length + 1) c9) (c.ev ++ [[e0, e1, e2, e3, e4, e5, e6]]) from by
    rw [show ints c.ev.flatten ++ ints [e0, e1, e2, e3, e4, e5, e6] = ints (c.ev ++ [[e0, e1, e2, e3, e4, e5, e6]]).flatten from by simp [ints]] at hown
    unfold EvR
    rw [show (c.ev ++ [[e0, e1, e2, e3, e4, e5, e6]]).length = c.ev.length + 1 from by simp]
    exact hown)
  have Q9 := Lib.hid (show ∀ k, (Value.slice A9 (c.ev.length + 1) c9).ownBlock = some k → P.ve.ownBlock = some k ∨ w.heap.size ≤ k from fun k hk => by
    rcases h3 with e | e
    · left; rw [EV.out, ← e]; exact hk
    · right; rw [e] at hk; cases hk; exact Nat.le_trans B1.out.size (B2.out.size))
  have hgb : ¬ (P.ve.ownBlock = some g) := fun e => by
    obtain ⟨cur, hh, _⟩ := own_heap H2.out.r.evr g e
    exact heap_ne H2.out.box hh (by decide) rfl
  have X9 := Lib.hid (H2.out.box.turn T9.out hgb)
  have C9 := Lib.hid (H2.out.r.chE T9.out R9.out)
  clear hown hgr h3 hgb
  have k12 : W9.cell? ⟨g, 12, none⟩ = some (.slice A c.ev.length ca) := by rw [← EV.out]; exact X9.out.cell 12
  have f12 := X9.out.frozen 12
  have hs9 : W9.cell? ⟨g, 12, none⟩ = some (.slice A c.ev.length ca) ∧ Blk W9 be 65 #[.int .i64 e0, .int .i64 e1, .int .i64 e2, .int .i64 e3, .int .i64 e4, .int .i64 e5, .int .i64 e6] := ⟨k12, hHeld.2.turn T9.out (fun e => by
    have h1 := HVE.out _ e
    have h2 := HB.out
    omega)⟩
  refine hK.out _ _ hs9 (fun hHeld => ?_)
  clear hK K
  refine wpTill_pure (i := 8) (v := ?_) rfl (by kernel_rfl) (by kernel_rfl) (by kernel_rfl) (by kernel_rfl) (fun _ _ _ h => h) (Or.inl ⟨by rfl, ?_⟩) (by first | (exact fun _ => by assumption) | (exact fun hf => by cases hf)) ?_
  rotate_left
  · (intro w0 hSw; clear hSw; go_simp; try with_reducible rfl)
  try simp only [List.getElem_toArray, List.getElem_cons_succ, List.getElem_cons_zero, Act.put, List.setIfInBounds_toArray, List.set_cons_zero, List.set_cons_succ]
  refine wpTill_take (i := 9) (v := ?_) rfl (by kernel_rfl) (by kernel_rfl) (by kernel_rfl) (by kernel_rfl) (fun _ _ _ h => h) (Or.inl ⟨by rfl, ?_⟩) (by assumption) ?_
  rotate_left
  · (intro w0 hSw; (try dsimp only at hSw); go_simp; try with_reducible rfl)
  try simp only [List.getElem_toArray, List.getElem_cons_succ, List.getElem_cons_zero, Act.put, List.setIfInBounds_toArray, List.set_cons_zero, List.set_cons_succ]
  refine wpTill_ready (rs := [10]) (by kernel_rfl) (by simp) ?_
  refine AllTill.last rfl (of_decide_eq_true (by kernel_rfl)) (fun K hK => ?_)
  go_simp
  refine hK.out _ _ ?_
  clear hK K
  refine wpTill_done (by kernel_rfl) ?_ _
  have RV2 := Lib.hid (show Turn (fun k => k = g) W9 (W9.setCell ⟨g, 12, none⟩ (.slice A9 (c.ev.length + 1) c9)) from (Turn.refl (fun k => k = g) W9).setCell (p := ⟨g, 12, none⟩) (fun _ => rfl) _)
  have CF := Lib.hid (show CoS w (W9.setCell ⟨g, 12, none⟩ (.slice A9 (c.ev.length + 1) c9)) g n P (fun _ => False) c' { P with ve := .slice A9 (c.ev.length + 1) c9 } from
    { m := by rw [HC'.out]; exact ⟨X9.out.set_ 12 _, C9.out.turn RV2.out (fun k hk => C9.out.offB (X9.out) (by decide) (by decide) (by decide) (by decide) (by decide) hk)⟩
      turn := ((Turn.of_below (stepB B1.out B2.out)).trans (S := P.tur g) T9.out (fun k _ e => .inr (.inr (.inr (.inr e))))).trans RV2.out (fun k _ e => .inl e)
      tur := fun k hk => by
        rcases hk with hk | hk | hk | hk | hk
        · exact .inl (.inl hk)
        · exact .inl (.inr (.inl hk))
        · exact .inl (.inr (.inr (.inl hk)))
        · exact .inl (.inr (.inr (.inr (.inl hk))))
        · exact (Q9.out k hk).imp (fun e => .inr (.inr (.inr (.inr e)))) id
      own := fun k hk => by
        rcases hk with (hk | hk | hk | hk | hk) | hk
        · exact .inl (.inl (.inl hk))
        · exact .inl (.inl (.inr (.inl hk)))
        · exact .inl (.inl (.inr (.inr (.inl hk))))
        · exact .inl (.inl (.inr (.inr (.inr (.inl hk)))))
        · exact (Q9.out k hk).elim (fun e => .inl (.inl (.inr (.inr (.inr (.inr e)))))) (fun e => .inr (.inl e))
        · exact .inl (.inr hk) })
  clear k12 f12 hHeld hs9
  go_wp2_with fail
  first | go_end0 | refine bodyPost_ret (results_none rfl _ _ _) rfl ?_
  exact ⟨rfl, _, CF.out⟩
end
end Go.Proofs.YtmfoffigmojdcaaGreat
