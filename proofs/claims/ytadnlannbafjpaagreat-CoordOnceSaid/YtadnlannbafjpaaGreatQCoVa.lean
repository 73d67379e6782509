/- A coordinator's own: a transaction with lists of its own. -/
import Derived.Test.YtadnlannbafjpaaGreatQCoTh
namespace Go.Proofs.YtadnlannbafjpaaGreat
open Go.RowKit
set_option linter.unusedVariables false
set_option linter.unusedSimpArgs false
set_option maxRecDepth 100000 in
set_option maxHeartbeats 8000000 in
theorem coOwn_any {B : Nat} (x : Tr) (s : Sl) (w : World) (h : Tm w B x s) (hs : Short x) :
   Calls Tryz.prog 39 #[.agg (trc x s)] w fun e w' => ∃ s', e = .returned (.agg (trc x s')) ∧ Tm w' w.heap.size x s' ∧ Apart s' ∧ Below w.heap.size w w' := by
 have HS := Lib.hid hs
 have X1 := Lib.hid ((Blk.new w 62 (trc x s)).alloc (.cells zTr 62))
 have Z1 := Lib.hid (Blk.new_at (w := w.alloc (.cells (trc x s) 62)) (n := w.heap.size + 1) (by simp) 62 zTr)
 have B1 := Lib.hid ((Joins.below_alloc1 w (.cells (trc x s) 62)).alloc (by simp) (.cells zTr 62))
 have H1 := Lib.hid (h.step B1.out)
 have H0 := Lib.hid h
 clear h hs
 go_enter Tryz.func39, Tryz.ntmps39
 go_upto_region 1 with fail
 obtain ⟨g, hg⟩ : ∃ g, g = w.heap.size := ⟨_, rfl⟩
 have HG := Lib.hid hg
 rw [← hg] at X1 Z1 ⊢
 clear hg
 generalize (w.alloc (.cells (trc x s) 62)).alloc (.cells zTr 62) = V at X1 Z1 B1 H1 ⊢
 have hgl := X1.out.lt
 have hzl := Z1.out.lt
 have KP := Lib.hid (show ∀ Y, Below V.heap.size V Y → (Y.cell? ⟨g, 9, none⟩ = some s.t ∧ Y.cell? ⟨g, 10, none⟩ = some s.v ∧ Y.cell? ⟨g, 11, none⟩ = some s.k) from fun Y hy =>
   ⟨(X1.out.below hy hgl).cell 9, (X1.out.below hy hgl).cell 10, (X1.out.below hy hgl).cell 11⟩)
 refine wp_region_till 10 (fun w' => w'.cell? ⟨g, 9, none⟩ = some s.t ∧ w'.cell? ⟨g, 10, none⟩ = some s.v ∧ w'.cell? ⟨g, 11, none⟩ = some s.k) (by kernel_rfl) (KP.out _ (Below.refl _ _).drew) (fun hHeld => ?_)
 have BD := Lib.hid (show Below V.heap.size V V.drew from (Below.refl _ _).drew)
 generalize V.drew = V1 at BD hHeld ⊢
 refine wpTill_take (i := 0) (v := ?_) rfl (by kernel_rfl) (by kernel_rfl) (by kernel_rfl) (by kernel_rfl) (fun _ _ _ h => h) (Or.inl ⟨by rfl, ?_⟩) (by assumption) ?_
 rotate_left
 · (intro w0 hSw; (try dsimp only at hSw); go_simp; try with_reducible rfl)
 try simp only [List.getElem_toArray, List.getElem_cons_succ, List.getElem_cons_zero, Act.put, List.setIfInBounds_toArray, List.set_cons_zero, List.set_cons_succ]
 refine wpTill_take (i := 1) (v := ?_) rfl (by kernel_rfl) (by kernel_rfl) (by kernel_rfl) (by kernel_rfl) (fun _ _ _ h => h) (Or.inl ⟨by rfl, ?_⟩) (by assumption) ?_
 rotate_left
 · (intro w0 hSw; (try dsimp only at hSw); go_simp; try with_reducible rfl)
 try simp only [List.getElem_toArray, List.getElem_cons_succ, List.getElem_cons_zero, Act.put, List.setIfInBounds_toArray, List.set_cons_zero, List.set_cons_succ]
 refine wpTill_take (i := 3) (v := ?_) rfl (by kernel_rfl) (by kernel_rfl) (by kernel_rfl) (by kernel_rfl) (fun _ _ _ h => h) (Or.inl ⟨by rfl, ?_⟩) (by assumption) ?_
 rotate_left
 · (intro w0 hSw; (try dsimp only at hSw); go_simp; try with_reducible rfl)
 try simp only [List.getElem_toArray, List.getElem_cons_succ, List.getElem_cons_zero, Act.put, List.setIfInBounds_toArray, List.set_cons_zero, List.set_cons_succ]
 refine wpTill_take (i := 4) (v := ?_) rfl (by kernel_rfl) (by kernel_rfl) (by kernel_rfl) (by kernel_rfl) (fun _ _ _ h => h) (Or.inl ⟨by rfl, ?_⟩) (by assumption) ?_
 rotate_left
 · (intro w0 hSw; (try dsimp only at hSw); go_simp; try with_reducible rfl)
 try simp only [List.getElem_toArray, List.getElem_cons_succ, List.getElem_cons_zero, Act.put, List.setIfInBounds_toArray, List.set_cons_zero, List.set_cons_succ]
 refine wpTill_take (i := 6) (v := ?_) rfl (by kernel_rfl) (by kernel_rfl) (by kernel_rfl) (by kernel_rfl) (fun _ _ _ h => h) (Or.inl ⟨by rfl, ?_⟩) (by assumption) ?_
 rotate_left
 · (intro w0 hSw; (try dsimp only at hSw); go_simp; try with_reducible rfl)
 try simp only [List.getElem_toArray, List.getElem_cons_succ, List.getElem_cons_zero, Act.put, List.setIfInBounds_toArray, List.set_cons_zero, List.set_cons_succ]
 refine wpTill_take (i := 7) (v := ?_) rfl (by kernel_rfl) (by kernel_rfl) (by kernel_rfl) (by kernel_rfl) (fun _ _ _ h => h) (Or.inl ⟨by rfl, ?_⟩) (by assumption) ?_
 rotate_left
 · (intro w0 hSw; (try dsimp only at hSw); go_simp; try with_reducible rfl)
 try simp only [List.getElem_toArray, List.getElem_cons_succ, List.getElem_cons_zero, Act.put, List.setIfInBounds_toArray, List.set_cons_zero, List.set_cons_succ]
 refine wpTill_ready (rs := [2]) (by kernel_rfl) (by simp) ?_
 refine AllTill.cons rfl (fun K hK => ?_) AllTill.nil
 go_simp
 refine (clone_int _ (own_step H1.out.t BD.out) HS.out.t).mono ?_
 rintro e V2 ⟨t', rfl, ht, hb⟩
 try go_simp
 have B2 := Lib.hid (BD.out.trans (hb.mono BD.out.size))
 have T2 := Lib.hid (own_less ht BD.out.size)
 clear hb ht
 refine hK.out _ _ (KP.out _ B2.out) (fun hHeld => ?_)
 clear hK K
 refine wpTill_take (i := 9) (v := ?_) rfl (by kernel_rfl) (by kernel_rfl) (by kernel_rfl) (by kernel_rfl) (fun _ _ _ h => h) (Or.inl ⟨by rfl, ?_⟩) (by assumption) ?_
 rotate_left
 · (intro w0 hSw; (try dsimp only at hSw); go_simp; try with_reducible rfl)
 try simp only [List.getElem_toArray, List.getElem_cons_succ, List.getElem_cons_zero, Act.put, List.setIfInBounds_toArray, List.set_cons_zero, List.set_cons_succ]
 refine wpTill_ready (rs := [5]) (by kernel_rfl) (by simp) ?_
 refine AllTill.cons rfl (fun K hK => ?_) AllTill.nil
 go_simp
 refine (clone_int _ (own_step H1.out.v B2.out) HS.out.v).mono ?_
 rintro e V3 ⟨v', rfl, ht, hb⟩
 try go_simp
 have B3 := Lib.hid (B2.out.trans (hb.mono B2.out.size))
 have T3 := Lib.hid (own_step T2.out hb)
 have U3 := Lib.hid ht
 clear hb ht
 refine hK.out _ _ (KP.out _ B3.out) (fun hHeld => ?_)
 clear hK K
 refine wpTill_ready (rs := [8]) (by kernel_rfl) (by simp) ?_
 refine AllTill.cons rfl (fun K hK => ?_) AllTill.nil
 go_simp
 refine (clone_int _ (own_step H1.out.k B3.out) HS.out.k).mono ?_
 rintro e V4 ⟨k', rfl, ht, hb⟩
 try go_simp
 have B4 := Lib.hid (B3.out.trans (hb.mono B3.out.size))
 have T4 := Lib.hid (own_step T3.out hb)
 have U4 := Lib.hid (own_step U3.out hb)
 have W4 := Lib.hid ht
 have N4 := Lib.hid (show Apart ⟨t', v', k', s.g⟩ from
   ⟨fun b h1 h2 => by have := own_ge T2.out h1; have := own_ge U3.out h2; omega,
    fun b h1 h2 => by have := own_ge T3.out h1; have := own_ge ht h2; omega,
    fun b h1 h2 => by have := own_ge U3.out h1; have := own_ge ht h2; omega⟩)
 have Q4 := Lib.hid (And.intro B2.out.size B3.out.size)
 clear hb ht
 refine hK.out _ _ (KP.out _ B4.out) (fun hHeld => ?_)
 clear hK K hHeld T2 T3 U3 B2 B3 KP
 have X4 := Lib.hid (X1.out.below B4.out hgl)
 have Z4 := Lib.hid (Z1.out.below B4.out hzl)
 obtain ⟨At, ct, et⟩ := own_len T4.out
 obtain ⟨Av, cv, ev⟩ := own_len U4.out
 obtain ⟨Ak, ck, ek⟩ := own_len W4.out
 subst et ev ek
 have c9 : V4.cell? ⟨g, 9, none⟩ = some s.t := X4.out.cell 9
 have f9 := X4.out.frozen 9
 have c10 : V4.cell? ⟨g, 10, none⟩ = some s.v := X4.out.cell 10
 have f10 := X4.out.frozen 10
 have c11 : V4.cell? ⟨g, 11, none⟩ = some s.k := X4.out.cell 11
 have f11 := X4.out.frozen 11
 have X5 := Lib.hid (show Blk (((V4.setCell ⟨g, 9, none⟩ (.slice At x.tch.length ct)).setCell ⟨g, 10, none⟩ (.slice Av x.vts.length cv)).setCell ⟨g, 11, none⟩ (.slice Ak x.acks.length ck)) g 62 (trc x ⟨.slice At x.tch.length ct, .slice Av x.vts.length cv, .slice Ak x.acks.length ck, s.g⟩) from ((X4.out.set_ 9 _).set_ 10 _).set_ 11 _)
 have B5 := Lib.hid (show Below w.heap.size w (((V4.setCell ⟨g, 9, none⟩ (.slice At x.tch.length ct)).setCell ⟨g, 10, none⟩ (.slice Av x.vts.length cv)).setCell ⟨g, 11, none⟩ (.slice Ak x.acks.length ck)) from
   (((B1.out.trans (B4.out.mono B1.out.size)).setCell (p := ⟨g, 9, none⟩) (by have := HG.out; simp only; omega) _).setCell (p := ⟨g, 10, none⟩) (by have := HG.out; simp only; omega) _).setCell (p := ⟨g, 11, none⟩) (by have := HG.out; simp only; omega) _)
 have SZ5 := Lib.hid (show V.heap.size ≤ (((V4.setCell ⟨g, 9, none⟩ (.slice At x.tch.length ct)).setCell ⟨g, 10, none⟩ (.slice Av x.vts.length cv)).setCell ⟨g, 11, none⟩ (.slice Ak x.acks.length ck)).heap.size from by have := B4.out.size; simpa [World.setCell] using this)
 have R5 := Lib.hid (show Turn (fun k => k = g) V4 (((V4.setCell ⟨g, 9, none⟩ (.slice At x.tch.length ct)).setCell ⟨g, 10, none⟩ (.slice Av x.vts.length cv)).setCell ⟨g, 11, none⟩ (.slice Ak x.acks.length ck)) from
   (((Turn.refl (fun k => k = g) V4).setCell (p := ⟨g, 9, none⟩) (fun _ => rfl) _).setCell (p := ⟨g, 10, none⟩) (fun _ => rfl) _).setCell (p := ⟨g, 11, none⟩) (fun _ => rfl) _)
 refine wpTill_ready (rs := [10]) (by kernel_rfl) (by simp) ?_
 refine AllTill.last rfl (of_decide_eq_true (by kernel_rfl)) (fun K hK => ?_)
 go_simp
 refine hK.out _ _ ?_
 clear hK K
 refine wpTill_ready (rs := [11]) (by kernel_rfl) (by simp) ?_
 refine AllTill.past rfl (by kernel_rfl) (fun K hK => ?_)
 go_simp
 refine hK.out _ _ ?_
 clear hK K
 refine wpTill_ready (rs := [12]) (by kernel_rfl) (by simp) ?_
 refine AllTill.past rfl (by kernel_rfl) (fun K hK => ?_)
 go_simp
 refine hK.out _ _ ?_
 clear hK K
 refine wpTill_ready (rs := [13]) (by kernel_rfl) (by simp) ?_
 refine AllTill.past rfl (by kernel_rfl) (fun K hK => ?_)
 go_simp
 refine hK.out _ _ ?_
 clear hK K
 refine wpTill_ready (rs := [14]) (by kernel_rfl) (by simp) ?_
 refine AllTill.past rfl (by kernel_rfl) (fun K hK => ?_)
 go_simp
 refine hK.out _ _ ?_
 clear hK K
 refine wpTill_done (by kernel_rfl) ?_ _
 generalize ((V4.setCell ⟨g, 9, none⟩ (.slice At x.tch.length ct)).setCell ⟨g, 10, none⟩ (.slice Av x.vts.length cv)).setCell ⟨g, 11, none⟩ (.slice Ak x.acks.length ck) = V5 at X5 B5 R5 SZ5 ⊢
 have hoff : ∀ {v : Value} {n size : Nat} {e : TypeId} {xs : List Value}, V4.ownsRow V.heap.size e size v n xs → ∀ k, v.ownBlock = some k → ¬ k = g := fun h k hk e => by have := own_ge h hk; omega
 have T5 := Lib.hid (own_turn T4.out R5.out (hoff T4.out))
 have hU : V4.ownsRow V.heap.size 3 1 (.slice Av x.vts.length cv) x.vts.length (i64s x.vts) := own_less U4.out (by have := Q4.out; omega)
 have U5 := Lib.hid (own_turn hU R5.out (hoff hU))
 have hW : V4.ownsRow V.heap.size 3 1 (.slice Ak x.acks.length ck) x.acks.length (i64s x.acks) := own_less W4.out (by have := Q4.out; omega)
 have W5 := Lib.hid (own_turn hW R5.out (hoff hW))
 have G5 := Lib.hid (own_step H0.out.g B5.out)
 have Z5 := Lib.hid (Z4.out.turn R5.out (by omega))
 have c12 : V5.cell? ⟨g, 12, none⟩ = some s.g := X5.out.cell 12
 clear T4 U4 W4 H1 hU hW hoff R5 X4 Z4 B4 X1 Z1 B1 BD c9 f9 c10 f10 c11 f11 H0
 generalize hst : (.slice At x.tch.length ct : Value) = t' at X5 T5 N4 c12
 generalize hsv : (.slice Av x.vts.length cv : Value) = v' at X5 U5 N4 c12
 generalize hsk : (.slice Ak x.acks.length ck : Value) = k' at X5 W5 N4 c12
 go_upto_region 3 with (go_at_call 84; refine (clone_gra _ G5.out HS.out.g HS.out.g5).mono ?_; rintro e V6 ⟨g', rfl, hg, hb⟩; obtain ⟨Ag, cg, rfl⟩ := own_len hg; have BB6 := Lib.hid hb; have G6 := Lib.hid hg; have k12 : V6.cell? ⟨g, 12, none⟩ = some s.g := (X5.out.here hb).cell 12; have e12 := (X5.out.here hb).frozen 12; clear hg hb c12)
 have X6 := Lib.hid (show Blk (V6.setCell ⟨g, 12, none⟩ (.slice Ag x.got.length cg)) g 62 (trc x ⟨t', v', k', .slice Ag x.got.length cg⟩) from (X5.out.here BB6.out).set_ 12 _)
 have B6 := Lib.hid (show Below w.heap.size w (V6.setCell ⟨g, 12, none⟩ (.slice Ag x.got.length cg)) from (B5.out.trans (BB6.out.mono B5.out.size)).setCell (p := ⟨g, 12, none⟩) (by have := HG.out; simp only; omega) _)
 have R6 := Lib.hid (show Turn (fun k => k = g) V6 (V6.setCell ⟨g, 12, none⟩ (.slice Ag x.got.length cg)) from (Turn.refl (fun k => k = g) V6).setCell (p := ⟨g, 12, none⟩) (fun _ => rfl) _)
 have Z6 := Lib.hid ((Z5.out.here BB6.out).turn R6.out (by omega))
 have B5s := B5.out.size
 have hV5 : V.heap.size ≤ V5.heap.size := SZ5.out
 have TT := Lib.hid (show Tm (V6.setCell ⟨g, 12, none⟩ (.slice Ag x.got.length cg)) V.heap.size x ⟨t', v', k', .slice Ag x.got.length cg⟩ from
   Tm.turn (w := V6) ⟨own_step T5.out BB6.out, own_step U5.out BB6.out, own_step W5.out BB6.out, own_less G6.out hV5⟩ R6.out (fun k hk _ e => by omega))
 have N6 := Lib.hid (show Apart ⟨t', v', k', .slice Ag x.got.length cg⟩ from ⟨N4.out.tv, N4.out.tk, N4.out.vk⟩)
 generalize hsg : (.slice Ag x.got.length cg : Value) = g' at X6 B6 R6 Z6 TT N6 ⊢
 generalize V6.setCell ⟨g, 12, none⟩ g' = V7 at X6 B6 R6 Z6 TT ⊢
 go_wp2_with (first
   | (refine wpList_load_row rfl 62 (.tmp 1) rfl g rfl 62 (trc x ⟨t', v', k', g'⟩) (0, 0) _ X6.out Tryz.underlying62 rfl (tr_info _ _) ?_)
   | (refine wpList_store_mid (by rfl) 62 (.tmp 2) (.tmp 19) (by rfl) (g + 1) 0 (trc x ⟨t', v', k', g'⟩) (by rfl) (by rfl) (Z6.out.there (Nat.le_refl 13)) (tr_info _ _) TT.out.one ?_))
 have E7 : Below w.heap.size V7 (V7.setCells (g + 1) 0 (trc x ⟨t', v', k', g'⟩).toList) := Below.setCells (by have := HG.out; omega) _ _ _ (Below.refl _ _)
 have E8 : Turn (fun k => k = g + 1) V7 (V7.setCells (g + 1) 0 (trc x ⟨t', v', k', g'⟩).toList) := Turn.setCells (S := fun k => k = g + 1) (fun _ => rfl) _ _ _ (Turn.refl _ _)
 exact bodyPost_ret (v := .agg (trc x ⟨t', v', k', g'⟩)) (results_one rfl rfl (tr_load (Z6.out.put (trc x ⟨t', v', k', g'⟩) rfl))) rfl ⟨_, rfl, (TT.out.turn E8 (fun k hk _ e => by omega)).less (by have := HG.out; omega), N6.out, B6.out.trans (E7.mono (Nat.le_refl _))⟩
end Go.Proofs.YtadnlannbafjpaaGreat
