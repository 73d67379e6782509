/- A transaction: what is sent again, and whether it is over. -/
import Derived.Test.YtadnlannbafjpaaGreatQTxN
import Derived.Test.YtadnlannbafjpaaGreatQTxI
namespace Go.Proofs.YtadnlannbafjpaaGreat
open Go.RowKit
set_option linter.unusedVariables false
set_option linter.unusedSimpArgs false
theorem ownBlock_geT {w : World} {B n size : Nat} {e : TypeId} {v : Value} {xs : List Value} (h : w.ownsRow B e size v n xs) : ∀ k, v.ownBlock = some k → B ≤ k := fun k hk => (own_ge h hk).1
theorem without_l {B B' : Nat} {v u : Value} (l o : List Int) (w : World) (h : NumR w B v l) (h' : NumR w B' u o) (hl : Shs l) (ho : Shs o) (r : List Int) (hr : withoutL l o = r) :
   Calls Tryz.prog 130 #[v, u] w fun e w' => ∃ z, e = .returned z ∧ NumR w' w.heap.size z r ∧ Below w.heap.size w w' := by rw [← hr]; exact without_any l o w h h' hl.all ho.all (by have := hl.len; omega) (by have := ho.len; omega)
set_option maxRecDepth 100000 in
set_option maxHeartbeats 16000000 in
theorem again_oa {B : Nat} (x : Tr) (s : Sl) (al : Bool) (w : World) (h : Tm w B x s) (ht : Shs x.tch) (h1 : x.st = 1) (ho : x.op = true) (ha : al = true) :
   Calls Tryz.prog 112 #[.agg (trc x s), .bool al] w fun e w' => ∃ u, e = .returned u ∧ MsgR w' w.heap.size u (againL x al) ∧ Below w.heap.size w w' := by
 obtain ⟨i0, hi0, hz0, hz1, hz2⟩ := info_parts info_msg
 have XV := Lib.hid (Blk.new w 62 (trc x s))
 have BV := Lib.hid (Joins.below_alloc1 w (.cells (trc x s) 62))
 have TV := Lib.hid (h.step BV.out)
 have HT := Lib.hid ht
 have HST := Lib.hid (show x.tch.length ≤ 1000 from by have := ht.len; omega)
 obtain ⟨q, hq⟩ : ∃ q, lockL x 0 = q := ⟨_, rfl⟩
 obtain ⟨qn, hqn⟩ : ∃ q, newsL x 0 = q := ⟨_, rfl⟩
 have HQ := Lib.hid hq
 have HQN := Lib.hid hqn
 have LQ := Lib.hid (show q.length = 28 from by rw [← hq]; rfl)
 have LQN := Lib.hid (show qn.length = 28 from by rw [← hqn]; rfl)
 have e1 : (x.st == 1) = true := by simpa using h1
 have HO := Lib.hid ho
 subst ha
 have AG := Lib.hid (show againL x true = [lockL x x.sh] ++ x.tch.map (newsL x) from by unfold againL; rw [if_pos h1, if_pos ho, if_pos rfl])
 clear h1 ho
 clear h ht hq hqn
 go_enter Tryz.func112, Tryz.ntmps112
 go_upto_region 1 with fail
 obtain ⟨g, hg⟩ : ∃ g, g = w.heap.size := ⟨_, rfl⟩
 have HG := Lib.hid hg
 rw [← hg] at XV ⊢
 clear hg
 have SZ := Lib.hid (show (w.alloc (.cells (trc x s) 62)).heap.size = g + 1 from by rw [HG.out]; simp)
 generalize w.alloc (.cells (trc x s) 62) = WV at XV BV TV SZ ⊢
 have c1 : WV.cell? ⟨g, 1, none⟩ = some (.int .i64 x.st) := XV.out.cell 1
 have c4 : WV.cell? ⟨g, 4, none⟩ = some (.bool true) := by rw [← HO.out]; exact XV.out.cell 4
 go_upto_region 5 with fail
 refine wp_region_held_drew (S := fun w' => Blk w' g 62 (trc x s) ∧ w'.cell? ⟨g, 5, none⟩ = some (.int .i64 x.sh)) (by kernel_rfl) ⟨XV.out.drew, XV.out.drew.cell 5⟩ (fun hHeld => ?_)
 have BD := Lib.hid (show Below WV.heap.size WV WV.drew from (Below.refl _ _).drew)
 generalize WV.drew = W1 at BD hHeld ⊢
 refine wpAnyH_take (i := 0) (v := .agg (trc x s)) rfl (by kernel_rfl) (by kernel_rfl) (by kernel_rfl) (fun _ _ _ h => h) (Or.inl ⟨by rfl, fun w0 hSw => exec_load (x := .tmp 2) rfl rfl (tr_load hSw.1)⟩) (by assumption) ?_
 try simp only [List.getElem_toArray, List.getElem_cons_succ, List.getElem_cons_zero, Act.put, List.setIfInBounds_toArray, List.set_cons_zero, List.set_cons_succ]
 refine wpAnyH_take (i := 2) (v := ?_) rfl (by kernel_rfl) (by kernel_rfl) (by kernel_rfl) (fun _ _ _ h => h) (Or.inl ⟨by rfl, ?_⟩) (by assumption) ?_
 rotate_left
 · (intro w0 hSw; (try dsimp only at hSw); go_simp; try with_reducible rfl)
 try simp only [List.getElem_toArray, List.getElem_cons_succ, List.getElem_cons_zero, Act.put, List.setIfInBounds_toArray, List.set_cons_zero, List.set_cons_succ]
 refine wpAnyH_take (i := 3) (v := ?_) rfl (by kernel_rfl) (by kernel_rfl) (by kernel_rfl) (fun _ _ _ h => h) (Or.inl ⟨by rfl, ?_⟩) (by assumption) ?_
 rotate_left
 · (intro w0 hSw; (try dsimp only at hSw); go_simp; try with_reducible rfl)
 try simp only [List.getElem_toArray, List.getElem_cons_succ, List.getElem_cons_zero, Act.put, List.setIfInBounds_toArray, List.set_cons_zero, List.set_cons_succ]
 refine wpAnyH_ready (rs := [1, 4]) (by kernel_rfl) (by simp) ?_
 refine AllReadyH.cons rfl (fun K hK => ?_) (AllReadyH.cons rfl (fun K hK => ?_) AllReadyH.nil)
 · go_simp
   refine (request_q x s q HQ.out _).mono ?_
   rintro e W2 ⟨rfl, hb⟩
   try go_simp
   have B2 := Lib.hid (BD.out.trans (hb.mono BD.out.size))
   clear hb
   refine hK.out _ _ ⟨XV.out.here B2.out, (XV.out.here B2.out).cell 5⟩ (fun hHeld => ?_)
   clear hK K
   refine wpAnyH_ready (rs := [4]) (by kernel_rfl) (by simp) ?_
   refine AllReadyH.cons rfl (fun K hK => ?_) AllReadyH.nil
   go_simp
   have O3 := Lib.hid (own_ints W2 3 [x.sh] (B := WV.heap.size) (n := 1) B2.out.size rfl (by simp))
   have B3 := Lib.hid (B2.out.alloc B2.out.size (.cells (i64s [x.sh]).toArray 3))
   refine hK.out _ _ ⟨XV.out.here B3.out, (XV.out.here B3.out).cell 5⟩ (fun hHeld => ?_)
   clear hK K
   generalize W2.heap.size = rb at O3 ⊢
   simp only [i64s, List.map_cons, List.map_nil] at O3 B3
   generalize W2.alloc (.cells #[.int .i64 x.sh] 3) = W3 at O3 B3 hHeld ⊢
   refine wpAnyH_ready (rs := [5]) (by kernel_rfl) (by simp) ?_
   refine AllReadyH.cons rfl (fun K hK => ?_) AllReadyH.nil
   go_simp
   refine (send_any q [x.sh] LQ.out _ O3.out (by simp)).mono ?_
   rintro e W4 ⟨u, rfl, hu, hb⟩
   try go_simp
   have B4 := Lib.hid (B3.out.trans (hb.mono B3.out.size))
   have U4 := Lib.hid (own_less hu B3.out.size)
   clear hu
   clear hb
   refine hK.out _ _ ⟨XV.out.here B4.out, (XV.out.here B4.out).cell 5⟩ (fun hHeld => ?_)
   clear hK K
   refine wpAnyH_take (i := 6) (v := ?_) rfl (by kernel_rfl) (by kernel_rfl) (by kernel_rfl) (fun _ _ _ h => h) (Or.inl ⟨by rfl, ?_⟩) (by assumption) ?_
   rotate_left
   · (intro w0 hSw; (try dsimp only at hSw); go_simp; try with_reducible rfl)
   try simp only [List.getElem_toArray, List.getElem_cons_succ, List.getElem_cons_zero, Act.put, List.setIfInBounds_toArray, List.set_cons_zero, List.set_cons_succ]
   refine wpAnyH_done (by kernel_rfl) ?_ _
   clear hHeld
   have UL := Lib.hid (show MsgR W4 WV.heap.size u [lockL x x.sh] from by have h := U4.out; rw [← HQ.out] at h; exact h)
   have XL := Lib.hid (XV.out.here B4.out)
   have BL := Lib.hid (stepB BV.out B4.out)
   have TL := Lib.hid (TV.out.step B4.out)
   have GL := Lib.hid B4.out.size
   have b1e : ∃ b1, b1 = WV.heap.size := ⟨_, rfl⟩
   obtain ⟨b1, hb1⟩ := b1e
   have UU := Lib.hid (show MsgR W4 b1 u [lockL x x.sh] from by rw [hb1]; exact UL.out)
   have HB1 := Lib.hid (show b1 ≤ W4.heap.size from by rw [hb1]; exact GL.out)
   have HB2 := Lib.hid (show g < b1 from by rw [hb1]; exact XV.out.lt)
   have HB3 := Lib.hid (show w.heap.size ≤ b1 from by rw [hb1]; exact BV.out.size)
   clear hb1 c1 c4 XV BV TV BD B2 B3 B4 U4 UL GL SZ
   have XV := XL
   have BV := BL
   have TV := TL
   clear XL BL TL
   generalize W4 = WV at XV BV TV UU HB1 ⊢
   go_upto_region 7 with fail
   refine wp_region_held_drew (S := fun w' => Blk w' g 62 (trc x s) ∧ w'.cell? ⟨g, 9, none⟩ = some s.t) (by kernel_rfl) ⟨XV.out.drew, XV.out.drew.cell 9⟩ (fun hHeld => ?_)
   have BD := Lib.hid (show Below WV.heap.size WV WV.drew from (Below.refl _ _).drew)
   generalize WV.drew = V1 at BD hHeld ⊢
   refine wpAnyH_take (i := 0) (v := ?_) rfl (by kernel_rfl) (by kernel_rfl) (by kernel_rfl) (fun _ _ _ h => h) (Or.inl ⟨by rfl, ?_⟩) (by assumption) ?_
   rotate_left
   · (intro w0 hSw; (try dsimp only at hSw); go_simp; try with_reducible rfl)
   try simp only [List.getElem_toArray, List.getElem_cons_succ, List.getElem_cons_zero, Act.put, List.setIfInBounds_toArray, List.set_cons_zero, List.set_cons_succ]
   refine wpAnyH_take (i := 1) (v := .agg (trc x s)) rfl (by kernel_rfl) (by kernel_rfl) (by kernel_rfl) (fun _ _ _ h => h) (Or.inl ⟨by rfl, fun w0 hSw => exec_load (x := .tmp 2) rfl rfl (tr_load hSw.1)⟩) (by assumption) ?_
   try simp only [List.getElem_toArray, List.getElem_cons_succ, List.getElem_cons_zero, Act.put, List.setIfInBounds_toArray, List.set_cons_zero, List.set_cons_succ]
   refine wpAnyH_take (i := 3) (v := ?_) rfl (by kernel_rfl) (by kernel_rfl) (by kernel_rfl) (fun _ _ _ h => h) (Or.inl ⟨by rfl, ?_⟩) (by assumption) ?_
   rotate_left
   · (intro w0 hSw; (try dsimp only at hSw); go_simp; try with_reducible rfl)
   try simp only [List.getElem_toArray, List.getElem_cons_succ, List.getElem_cons_zero, Act.put, List.setIfInBounds_toArray, List.set_cons_zero, List.set_cons_succ]
   refine wpAnyH_take (i := 4) (v := ?_) rfl (by kernel_rfl) (by kernel_rfl) (by kernel_rfl) (fun _ _ _ h => h) (Or.inl ⟨by rfl, ?_⟩) (by assumption) ?_
   rotate_left
   · (intro w0 hSw; (try dsimp only at hSw); go_simp; try with_reducible rfl)
   try simp only [List.getElem_toArray, List.getElem_cons_succ, List.getElem_cons_zero, Act.put, List.setIfInBounds_toArray, List.set_cons_zero, List.set_cons_succ]
   refine wpAnyH_ready (rs := [2]) (by kernel_rfl) (by simp) ?_
   refine AllReadyH.cons rfl (fun K hK => ?_) AllReadyH.nil
   go_simp
   refine (news_q x s qn HQN.out _).mono ?_
   rintro e V2 ⟨rfl, hb⟩
   try go_simp
   have C2 := Lib.hid (BD.out.trans (hb.mono BD.out.size))
   clear hb
   refine hK.out _ _ ⟨XV.out.here C2.out, (XV.out.here C2.out).cell 9⟩ (fun hHeld => ?_)
   clear hK K
   refine wpAnyH_ready (rs := [5]) (by kernel_rfl) (by simp) ?_
   refine AllReadyH.cons rfl (fun K hK => ?_) AllReadyH.nil
   go_simp
   refine (send_any qn x.tch LQN.out _ (own_step TV.out.t C2.out) HST.out).mono ?_
   rintro e V3 ⟨u2, rfl, hu, hb⟩
   try go_simp
   have C3 := Lib.hid (C2.out.trans (hb.mono C2.out.size))
   have U3 := Lib.hid (own_less hu C2.out.size)
   clear hu
   clear hb
   refine hK.out _ _ ⟨XV.out.here C3.out, (XV.out.here C3.out).cell 9⟩ (fun hHeld => ?_)
   clear hK K
   obtain ⟨A2, c2, e2, RD2, _, _⟩ := own_rd U3.out
   subst e2
   have OU := Lib.hid (own_step UU.out C3.out)
   refine wpAnyH_ready (rs := [6]) (by kernel_rfl) (by simp) ?_
   refine AllReadyH.cons rfl (fun K hK => ?_) AllReadyH.nil
   refine step_append_any _ rfl (.tmp 19) (.tmp 24) _ rfl b1 45 i0 _ 28 224 Tryz.underlying35 hi0 hz0 hz1 hz2 (mc_size zM_length) (by omega) u 1 (ints [lockL x x.sh].flatten) rfl
     OU.out _ A2 (sendL qn x.tch).length c2 (ints (sendL qn x.tch).flatten) rfl RD2 (ints_one _) (by have := HST.out; simp only [maxLen, sendL_len]; omega) (by have := HST.out; rw [sendL_len]; omega) (Nat.le_trans HB1.out C3.out.size) ?_
   intro v9 W9 hown hg _
   have G9 := Lib.hid (show Turn (fun k => b1 ≤ k) V3 W9 from (Turn.refl _ _).grown hg (fun k hk _ => ownBlock_geT OU.out k hk))
   have O9 := Lib.hid hown
   clear hown hg
   have X9 := Lib.hid ((XV.out.here C3.out).turn G9.out (by have := HB2.out; omega))
   refine hK.out _ _ ⟨X9.out, X9.out.cell 9⟩ (fun hHeld => ?_)
   clear hK K
   refine wpAnyH_take (i := 7) (v := ?_) rfl (by kernel_rfl) (by kernel_rfl) (by kernel_rfl) (fun _ _ _ h => h) (Or.inl ⟨by rfl, ?_⟩) (by assumption) ?_
   rotate_left
   · (intro w0 hSw; (try dsimp only at hSw); go_simp; try with_reducible rfl)
   try simp only [List.getElem_toArray, List.getElem_cons_succ, List.getElem_cons_zero, Act.put, List.setIfInBounds_toArray, List.set_cons_zero, List.set_cons_succ]
   refine wpAnyH_done (by kernel_rfl) ?_ _
   clear hHeld
   have F9 := Lib.hid ((stepB BV.out C3.out).trans (G9.out.below (B := w.heap.size) (fun k hk e => by have := HB3.out; omega) (Nat.le_trans BV.out.size C3.out.size)))
   go_wp2_with fail
   go_ret
   refine ⟨_, rfl, ?_, F9.out⟩
   have h := own_less O9.out HB3.out
   rw [← ints_append, ← List.flatten_append, ← HQN.out, sendL_len] at h
   have e : ([lockL x x.sh] ++ x.tch.map (newsL x)).length = 1 + x.tch.length := by simp [Nat.add_comm]
   unfold MsgR
   rw [AG.out, e]
   exact h
 · go_simp
   have O2 := Lib.hid (own_ints W1 3 [x.sh] (B := WV.heap.size) (n := 1) BD.out.size rfl (by simp))
   have B2 := Lib.hid (BD.out.alloc BD.out.size (.cells (i64s [x.sh]).toArray 3))
   refine hK.out _ _ ⟨XV.out.here B2.out, (XV.out.here B2.out).cell 5⟩ (fun hHeld => ?_)
   clear hK K
   generalize W1.heap.size = rb at O2 ⊢
   simp only [i64s, List.map_cons, List.map_nil] at O2 B2
   generalize W1.alloc (.cells #[.int .i64 x.sh] 3) = W2 at O2 B2 hHeld ⊢
   refine wpAnyH_ready (rs := [1]) (by kernel_rfl) (by simp) ?_
   refine AllReadyH.cons rfl (fun K hK => ?_) AllReadyH.nil
   go_simp
   refine (request_q x s q HQ.out _).mono ?_
   rintro e W3 ⟨rfl, hb⟩
   try go_simp
   have B3 := Lib.hid (B2.out.trans (hb.mono B2.out.size))
   have O3 := Lib.hid (own_step O2.out hb)
   clear hb
   refine hK.out _ _ ⟨XV.out.here B3.out, (XV.out.here B3.out).cell 5⟩ (fun hHeld => ?_)
   clear hK K
   refine wpAnyH_ready (rs := [5]) (by kernel_rfl) (by simp) ?_
   refine AllReadyH.cons rfl (fun K hK => ?_) AllReadyH.nil
   go_simp
   refine (send_any q [x.sh] LQ.out _ O3.out (by simp)).mono ?_
   rintro e W4 ⟨u, rfl, hu, hb⟩
   try go_simp
   have B4 := Lib.hid (B3.out.trans (hb.mono B3.out.size))
   have U4 := Lib.hid (own_less hu B3.out.size)
   clear hu
   clear hb
   refine hK.out _ _ ⟨XV.out.here B4.out, (XV.out.here B4.out).cell 5⟩ (fun hHeld => ?_)
   clear hK K
   refine wpAnyH_take (i := 6) (v := ?_) rfl (by kernel_rfl) (by kernel_rfl) (by kernel_rfl) (fun _ _ _ h => h) (Or.inl ⟨by rfl, ?_⟩) (by assumption) ?_
   rotate_left
   · (intro w0 hSw; (try dsimp only at hSw); go_simp; try with_reducible rfl)
   try simp only [List.getElem_toArray, List.getElem_cons_succ, List.getElem_cons_zero, Act.put, List.setIfInBounds_toArray, List.set_cons_zero, List.set_cons_succ]
   refine wpAnyH_done (by kernel_rfl) ?_ _
   clear hHeld
   have UL := Lib.hid (show MsgR W4 WV.heap.size u [lockL x x.sh] from by have h := U4.out; rw [← HQ.out] at h; exact h)
   have XL := Lib.hid (XV.out.here B4.out)
   have BL := Lib.hid (stepB BV.out B4.out)
   have TL := Lib.hid (TV.out.step B4.out)
   have GL := Lib.hid B4.out.size
   have b1e : ∃ b1, b1 = WV.heap.size := ⟨_, rfl⟩
   obtain ⟨b1, hb1⟩ := b1e
   have UU := Lib.hid (show MsgR W4 b1 u [lockL x x.sh] from by rw [hb1]; exact UL.out)
   have HB1 := Lib.hid (show b1 ≤ W4.heap.size from by rw [hb1]; exact GL.out)
   have HB2 := Lib.hid (show g < b1 from by rw [hb1]; exact XV.out.lt)
   have HB3 := Lib.hid (show w.heap.size ≤ b1 from by rw [hb1]; exact BV.out.size)
   clear hb1 c1 c4 XV BV TV BD B2 B3 B4 U4 UL GL SZ
   have XV := XL
   have BV := BL
   have TV := TL
   clear XL BL TL
   generalize W4 = WV at XV BV TV UU HB1 ⊢
   go_upto_region 7 with fail
   refine wp_region_held_drew (S := fun w' => Blk w' g 62 (trc x s) ∧ w'.cell? ⟨g, 9, none⟩ = some s.t) (by kernel_rfl) ⟨XV.out.drew, XV.out.drew.cell 9⟩ (fun hHeld => ?_)
   have BD := Lib.hid (show Below WV.heap.size WV WV.drew from (Below.refl _ _).drew)
   generalize WV.drew = V1 at BD hHeld ⊢
   refine wpAnyH_take (i := 0) (v := ?_) rfl (by kernel_rfl) (by kernel_rfl) (by kernel_rfl) (fun _ _ _ h => h) (Or.inl ⟨by rfl, ?_⟩) (by assumption) ?_
   rotate_left
   · (intro w0 hSw; (try dsimp only at hSw); go_simp; try with_reducible rfl)
   try simp only [List.getElem_toArray, List.getElem_cons_succ, List.getElem_cons_zero, Act.put, List.setIfInBounds_toArray, List.set_cons_zero, List.set_cons_succ]
   refine wpAnyH_take (i := 1) (v := .agg (trc x s)) rfl (by kernel_rfl) (by kernel_rfl) (by kernel_rfl) (fun _ _ _ h => h) (Or.inl ⟨by rfl, fun w0 hSw => exec_load (x := .tmp 2) rfl rfl (tr_load hSw.1)⟩) (by assumption) ?_
   try simp only [List.getElem_toArray, List.getElem_cons_succ, List.getElem_cons_zero, Act.put, List.setIfInBounds_toArray, List.set_cons_zero, List.set_cons_succ]
   refine wpAnyH_take (i := 3) (v := ?_) rfl (by kernel_rfl) (by kernel_rfl) (by kernel_rfl) (fun _ _ _ h => h) (Or.inl ⟨by rfl, ?_⟩) (by assumption) ?_
   rotate_left
   · (intro w0 hSw; (try dsimp only at hSw); go_simp; try with_reducible rfl)
   try simp only [List.getElem_toArray, List.getElem_cons_succ, List.getElem_cons_zero, Act.put, List.setIfInBounds_toArray, List.set_cons_zero, List.set_cons_succ]
   refine wpAnyH_take (i := 4) (v := ?_) rfl (by kernel_rfl) (by kernel_rfl) (by kernel_rfl) (fun _ _ _ h => h) (Or.inl ⟨by rfl, ?_⟩) (by assumption) ?_
   rotate_left
   · (intro w0 hSw; (try dsimp only at hSw); go_simp; try with_reducible rfl)
   try simp only [List.getElem_toArray, List.getElem_cons_succ, List.getElem_cons_zero, Act.put, List.setIfInBounds_toArray, List.set_cons_zero, List.set_cons_succ]
   refine wpAnyH_ready (rs := [2]) (by kernel_rfl) (by simp) ?_
   refine AllReadyH.cons rfl (fun K hK => ?_) AllReadyH.nil
   go_simp
   refine (news_q x s qn HQN.out _).mono ?_
   rintro e V2 ⟨rfl, hb⟩
   try go_simp
   have C2 := Lib.hid (BD.out.trans (hb.mono BD.out.size))
   clear hb
   refine hK.out _ _ ⟨XV.out.here C2.out, (XV.out.here C2.out).cell 9⟩ (fun hHeld => ?_)
   clear hK K
   refine wpAnyH_ready (rs := [5]) (by kernel_rfl) (by simp) ?_
   refine AllReadyH.cons rfl (fun K hK => ?_) AllReadyH.nil
   go_simp
   refine (send_any qn x.tch LQN.out _ (own_step TV.out.t C2.out) HST.out).mono ?_
   rintro e V3 ⟨u2, rfl, hu, hb⟩
   try go_simp
   have C3 := Lib.hid (C2.out.trans (hb.mono C2.out.size))
   have U3 := Lib.hid (own_less hu C2.out.size)
   clear hu
   clear hb
   refine hK.out _ _ ⟨XV.out.here C3.out, (XV.out.here C3.out).cell 9⟩ (fun hHeld => ?_)
   clear hK K
   obtain ⟨A2, c2, e2, RD2, _, _⟩ := own_rd U3.out
   subst e2
   have OU := Lib.hid (own_step UU.out C3.out)
   refine wpAnyH_ready (rs := [6]) (by kernel_rfl) (by simp) ?_
   refine AllReadyH.cons rfl (fun K hK => ?_) AllReadyH.nil
   refine step_append_any _ rfl (.tmp 19) (.tmp 24) _ rfl b1 45 i0 _ 28 224 Tryz.underlying35 hi0 hz0 hz1 hz2 (mc_size zM_length) (by omega) u 1 (ints [lockL x x.sh].flatten) rfl
     OU.out _ A2 (sendL qn x.tch).length c2 (ints (sendL qn x.tch).flatten) rfl RD2 (ints_one _) (by have := HST.out; simp only [maxLen, sendL_len]; omega) (by have := HST.out; rw [sendL_len]; omega) (Nat.le_trans HB1.out C3.out.size) ?_
   intro v9 W9 hown hg _
   have G9 := Lib.hid (show Turn (fun k => b1 ≤ k) V3 W9 from (Turn.refl _ _).grown hg (fun k hk _ => ownBlock_geT OU.out k hk))
   have O9 := Lib.hid hown
   clear hown hg
   have X9 := Lib.hid ((XV.out.here C3.out).turn G9.out (by have := HB2.out; omega))
   refine hK.out _ _ ⟨X9.out, X9.out.cell 9⟩ (fun hHeld => ?_)
   clear hK K
   refine wpAnyH_take (i := 7) (v := ?_) rfl (by kernel_rfl) (by kernel_rfl) (by kernel_rfl) (fun _ _ _ h => h) (Or.inl ⟨by rfl, ?_⟩) (by assumption) ?_
   rotate_left
   · (intro w0 hSw; (try dsimp only at hSw); go_simp; try with_reducible rfl)
   try simp only [List.getElem_toArray, List.getElem_cons_succ, List.getElem_cons_zero, Act.put, List.setIfInBounds_toArray, List.set_cons_zero, List.set_cons_succ]
   refine wpAnyH_done (by kernel_rfl) ?_ _
   clear hHeld
   have F9 := Lib.hid ((stepB BV.out C3.out).trans (G9.out.below (B := w.heap.size) (fun k hk e => by have := HB3.out; omega) (Nat.le_trans BV.out.size C3.out.size)))
   go_wp2_with fail
   go_ret
   refine ⟨_, rfl, ?_, F9.out⟩
   have h := own_less O9.out HB3.out
   rw [← ints_append, ← List.flatten_append, ← HQN.out, sendL_len] at h
   have e : ([lockL x x.sh] ++ x.tch.map (newsL x)).length = 1 + x.tch.length := by simp [Nat.add_comm]
   unfold MsgR
   rw [AG.out, e]
   exact h
set_option maxRecDepth 100000 in
set_option maxHeartbeats 16000000 in
theorem again_on {B : Nat} (x : Tr) (s : Sl) (al : Bool) (w : World) (h : Tm w B x s) (ht : Shs x.tch) (h1 : x.st = 1) (ho : x.op = true) (ha : al = false) :
   Calls Tryz.prog 112 #[.agg (trc x s), .bool al] w fun e w' => ∃ u, e = .returned u ∧ MsgR w' w.heap.size u (againL x al) ∧ Below w.heap.size w w' := by
 obtain ⟨i0, hi0, hz0, hz1, hz2⟩ := info_parts info_msg
 have XV := Lib.hid (Blk.new w 62 (trc x s))
 have BV := Lib.hid (Joins.below_alloc1 w (.cells (trc x s) 62))
 have TV := Lib.hid (h.step BV.out)
 have HT := Lib.hid ht
 have HST := Lib.hid (show x.tch.length ≤ 1000 from by have := ht.len; omega)
 obtain ⟨q, hq⟩ : ∃ q, lockL x 0 = q := ⟨_, rfl⟩
 obtain ⟨qn, hqn⟩ : ∃ q, newsL x 0 = q := ⟨_, rfl⟩
 have HQ := Lib.hid hq
 have HQN := Lib.hid hqn
 have LQ := Lib.hid (show q.length = 28 from by rw [← hq]; rfl)
 have LQN := Lib.hid (show qn.length = 28 from by rw [← hqn]; rfl)
 have e1 : (x.st == 1) = true := by simpa using h1
 have HO := Lib.hid ho
 subst ha
 have AG := Lib.hid (show againL x false = [lockL x x.sh] from by unfold againL; rw [if_pos h1, if_pos ho, if_neg (by simp)]; rfl)
 clear h1 ho
 clear h ht hq hqn
 go_enter Tryz.func112, Tryz.ntmps112
 go_upto_region 1 with fail
 obtain ⟨g, hg⟩ : ∃ g, g = w.heap.size := ⟨_, rfl⟩
 have HG := Lib.hid hg
 rw [← hg] at XV ⊢
 clear hg
 have SZ := Lib.hid (show (w.alloc (.cells (trc x s) 62)).heap.size = g + 1 from by rw [HG.out]; simp)
 generalize w.alloc (.cells (trc x s) 62) = WV at XV BV TV SZ ⊢
 have c1 : WV.cell? ⟨g, 1, none⟩ = some (.int .i64 x.st) := XV.out.cell 1
 have c4 : WV.cell? ⟨g, 4, none⟩ = some (.bool true) := by rw [← HO.out]; exact XV.out.cell 4
 go_upto_region 5 with fail
 refine wp_region_held_drew (S := fun w' => Blk w' g 62 (trc x s) ∧ w'.cell? ⟨g, 5, none⟩ = some (.int .i64 x.sh)) (by kernel_rfl) ⟨XV.out.drew, XV.out.drew.cell 5⟩ (fun hHeld => ?_)
 have BD := Lib.hid (show Below WV.heap.size WV WV.drew from (Below.refl _ _).drew)
 generalize WV.drew = W1 at BD hHeld ⊢
 refine wpAnyH_take (i := 0) (v := .agg (trc x s)) rfl (by kernel_rfl) (by kernel_rfl) (by kernel_rfl) (fun _ _ _ h => h) (Or.inl ⟨by rfl, fun w0 hSw => exec_load (x := .tmp 2) rfl rfl (tr_load hSw.1)⟩) (by assumption) ?_
 try simp only [List.getElem_toArray, List.getElem_cons_succ, List.getElem_cons_zero, Act.put, List.setIfInBounds_toArray, List.set_cons_zero, List.set_cons_succ]
 refine wpAnyH_take (i := 2) (v := ?_) rfl (by kernel_rfl) (by kernel_rfl) (by kernel_rfl) (fun _ _ _ h => h) (Or.inl ⟨by rfl, ?_⟩) (by assumption) ?_
 rotate_left
 · (intro w0 hSw; (try dsimp only at hSw); go_simp; try with_reducible rfl)
 try simp only [List.getElem_toArray, List.getElem_cons_succ, List.getElem_cons_zero, Act.put, List.setIfInBounds_toArray, List.set_cons_zero, List.set_cons_succ]
 refine wpAnyH_take (i := 3) (v := ?_) rfl (by kernel_rfl) (by kernel_rfl) (by kernel_rfl) (fun _ _ _ h => h) (Or.inl ⟨by rfl, ?_⟩) (by assumption) ?_
 rotate_left
 · (intro w0 hSw; (try dsimp only at hSw); go_simp; try with_reducible rfl)
 try simp only [List.getElem_toArray, List.getElem_cons_succ, List.getElem_cons_zero, Act.put, List.setIfInBounds_toArray, List.set_cons_zero, List.set_cons_succ]
 refine wpAnyH_ready (rs := [1, 4]) (by kernel_rfl) (by simp) ?_
 refine AllReadyH.cons rfl (fun K hK => ?_) (AllReadyH.cons rfl (fun K hK => ?_) AllReadyH.nil)
 · go_simp
   refine (request_q x s q HQ.out _).mono ?_
   rintro e W2 ⟨rfl, hb⟩
   try go_simp
   have B2 := Lib.hid (BD.out.trans (hb.mono BD.out.size))
   clear hb
   refine hK.out _ _ ⟨XV.out.here B2.out, (XV.out.here B2.out).cell 5⟩ (fun hHeld => ?_)
   clear hK K
   refine wpAnyH_ready (rs := [4]) (by kernel_rfl) (by simp) ?_
   refine AllReadyH.cons rfl (fun K hK => ?_) AllReadyH.nil
   go_simp
   have O3 := Lib.hid (own_ints W2 3 [x.sh] (B := WV.heap.size) (n := 1) B2.out.size rfl (by simp))
   have B3 := Lib.hid (B2.out.alloc B2.out.size (.cells (i64s [x.sh]).toArray 3))
   refine hK.out _ _ ⟨XV.out.here B3.out, (XV.out.here B3.out).cell 5⟩ (fun hHeld => ?_)
   clear hK K
   generalize W2.heap.size = rb at O3 ⊢
   simp only [i64s, List.map_cons, List.map_nil] at O3 B3
   generalize W2.alloc (.cells #[.int .i64 x.sh] 3) = W3 at O3 B3 hHeld ⊢
   refine wpAnyH_ready (rs := [5]) (by kernel_rfl) (by simp) ?_
   refine AllReadyH.cons rfl (fun K hK => ?_) AllReadyH.nil
   go_simp
   refine (send_any q [x.sh] LQ.out _ O3.out (by simp)).mono ?_
   rintro e W4 ⟨u, rfl, hu, hb⟩
   try go_simp
   have B4 := Lib.hid (B3.out.trans (hb.mono B3.out.size))
   have U4 := Lib.hid (own_less hu B3.out.size)
   clear hu
   clear hb
   refine hK.out _ _ ⟨XV.out.here B4.out, (XV.out.here B4.out).cell 5⟩ (fun hHeld => ?_)
   clear hK K
   refine wpAnyH_take (i := 6) (v := ?_) rfl (by kernel_rfl) (by kernel_rfl) (by kernel_rfl) (fun _ _ _ h => h) (Or.inl ⟨by rfl, ?_⟩) (by assumption) ?_
   rotate_left
   · (intro w0 hSw; (try dsimp only at hSw); go_simp; try with_reducible rfl)
   try simp only [List.getElem_toArray, List.getElem_cons_succ, List.getElem_cons_zero, Act.put, List.setIfInBounds_toArray, List.set_cons_zero, List.set_cons_succ]
   refine wpAnyH_done (by kernel_rfl) ?_ _
   clear hHeld
   have UL := Lib.hid (show MsgR W4 WV.heap.size u [lockL x x.sh] from by have h := U4.out; rw [← HQ.out] at h; exact h)
   have XL := Lib.hid (XV.out.here B4.out)
   have BL := Lib.hid (stepB BV.out B4.out)
   have TL := Lib.hid (TV.out.step B4.out)
   have GL := Lib.hid B4.out.size
   go_wp2_with fail
   go_ret
   exact ⟨_, rfl, by rw [AG.out]; exact own_less UL.out BV.out.size, BL.out⟩
 · go_simp
   have O2 := Lib.hid (own_ints W1 3 [x.sh] (B := WV.heap.size) (n := 1) BD.out.size rfl (by simp))
   have B2 := Lib.hid (BD.out.alloc BD.out.size (.cells (i64s [x.sh]).toArray 3))
   refine hK.out _ _ ⟨XV.out.here B2.out, (XV.out.here B2.out).cell 5⟩ (fun hHeld => ?_)
   clear hK K
   generalize W1.heap.size = rb at O2 ⊢
   simp only [i64s, List.map_cons, List.map_nil] at O2 B2
   generalize W1.alloc (.cells #[.int .i64 x.sh] 3) = W2 at O2 B2 hHeld ⊢
   refine wpAnyH_ready (rs := [1]) (by kernel_rfl) (by simp) ?_
   refine AllReadyH.cons rfl (fun K hK => ?_) AllReadyH.nil
   go_simp
   refine (request_q x s q HQ.out _).mono ?_
   rintro e W3 ⟨rfl, hb⟩
   try go_simp
   have B3 := Lib.hid (B2.out.trans (hb.mono B2.out.size))
   have O3 := Lib.hid (own_step O2.out hb)
   clear hb
   refine hK.out _ _ ⟨XV.out.here B3.out, (XV.out.here B3.out).cell 5⟩ (fun hHeld => ?_)
   clear hK K
   refine wpAnyH_ready (rs := [5]) (by kernel_rfl) (by simp) ?_
   refine AllReadyH.cons rfl (fun K hK => ?_) AllReadyH.nil
   go_simp
   refine (send_any q [x.sh] LQ.out _ O3.out (by simp)).mono ?_
   rintro e W4 ⟨u, rfl, hu, hb⟩
   try go_simp
   have B4 := Lib.hid (B3.out.trans (hb.mono B3.out.size))
   have U4 := Lib.hid (own_less hu B3.out.size)
   clear hu
   clear hb
   refine hK.out _ _ ⟨XV.out.here B4.out, (XV.out.here B4.out).cell 5⟩ (fun hHeld => ?_)
   clear hK K
   refine wpAnyH_take (i := 6) (v := ?_) rfl (by kernel_rfl) (by kernel_rfl) (by kernel_rfl) (fun _ _ _ h => h) (Or.inl ⟨by rfl, ?_⟩) (by assumption) ?_
   rotate_left
   · (intro w0 hSw; (try dsimp only at hSw); go_simp; try with_reducible rfl)
   try simp only [List.getElem_toArray, List.getElem_cons_succ, List.getElem_cons_zero, Act.put, List.setIfInBounds_toArray, List.set_cons_zero, List.set_cons_succ]
   refine wpAnyH_done (by kernel_rfl) ?_ _
   clear hHeld
   have UL := Lib.hid (show MsgR W4 WV.heap.size u [lockL x x.sh] from by have h := U4.out; rw [← HQ.out] at h; exact h)
   have XL := Lib.hid (XV.out.here B4.out)
   have BL := Lib.hid (stepB BV.out B4.out)
   have TL := Lib.hid (TV.out.step B4.out)
   have GL := Lib.hid B4.out.size
   go_wp2_with fail
   go_ret
   exact ⟨_, rfl, by rw [AG.out]; exact own_less UL.out BV.out.size, BL.out⟩
set_option maxRecDepth 100000 in
set_option maxHeartbeats 16000000 in
theorem again_na {B : Nat} (x : Tr) (s : Sl) (al : Bool) (w : World) (h : Tm w B x s) (ht : Shs x.tch) (h1 : x.st = 1) (ho : x.op = false) (ha : al = true) :
   Calls Tryz.prog 112 #[.agg (trc x s), .bool al] w fun e w' => ∃ u, e = .returned u ∧ MsgR w' w.heap.size u (againL x al) ∧ Below w.heap.size w w' := by
 obtain ⟨i0, hi0, hz0, hz1, hz2⟩ := info_parts info_msg
 have XV := Lib.hid (Blk.new w 62 (trc x s))
 have BV := Lib.hid (Joins.below_alloc1 w (.cells (trc x s) 62))
 have TV := Lib.hid (h.step BV.out)
 have HT := Lib.hid ht
 have HST := Lib.hid (show x.tch.length ≤ 1000 from by have := ht.len; omega)
 obtain ⟨q, hq⟩ : ∃ q, lockL x 0 = q := ⟨_, rfl⟩
 obtain ⟨qn, hqn⟩ : ∃ q, newsL x 0 = q := ⟨_, rfl⟩
 have HQ := Lib.hid hq
 have HQN := Lib.hid hqn
 have LQ := Lib.hid (show q.length = 28 from by rw [← hq]; rfl)
 have LQN := Lib.hid (show qn.length = 28 from by rw [← hqn]; rfl)
 have e1 : (x.st == 1) = true := by simpa using h1
 have HO := Lib.hid ho
 subst ha
 have AG := Lib.hid (show againL x true = [] ++ x.tch.map (newsL x) from by unfold againL; rw [if_pos h1, if_neg (by simp [ho]), if_pos rfl])
 clear h1 ho
 clear h ht hq hqn
 go_enter Tryz.func112, Tryz.ntmps112
 go_upto_region 1 with fail
 obtain ⟨g, hg⟩ : ∃ g, g = w.heap.size := ⟨_, rfl⟩
 have HG := Lib.hid hg
 rw [← hg] at XV ⊢
 clear hg
 have SZ := Lib.hid (show (w.alloc (.cells (trc x s) 62)).heap.size = g + 1 from by rw [HG.out]; simp)
 generalize w.alloc (.cells (trc x s) 62) = WV at XV BV TV SZ ⊢
 have c1 : WV.cell? ⟨g, 1, none⟩ = some (.int .i64 x.st) := XV.out.cell 1
 have c4 : WV.cell? ⟨g, 4, none⟩ = some (.bool false) := by rw [← HO.out]; exact XV.out.cell 4
 obtain ⟨b1, hb1⟩ : ∃ b1, b1 = WV.heap.size := ⟨_, rfl⟩
 have UU := Lib.hid (show MsgR WV b1 (.slice none 0 0) [] from World.ownsRow_nil _ _ _ _)
 have HB1 := Lib.hid (show b1 ≤ WV.heap.size from by rw [hb1]; exact Nat.le_refl _)
 have HB2 := Lib.hid (show g < b1 from by rw [hb1]; exact XV.out.lt)
 have HB3 := Lib.hid (show w.heap.size ≤ b1 from by rw [hb1]; exact BV.out.size)
 clear hb1 SZ
 go_upto_region 7 with fail
 clear c1 c4
 refine wp_region_held_drew (S := fun w' => Blk w' g 62 (trc x s) ∧ w'.cell? ⟨g, 9, none⟩ = some s.t) (by kernel_rfl) ⟨XV.out.drew, XV.out.drew.cell 9⟩ (fun hHeld => ?_)
 have BD := Lib.hid (show Below WV.heap.size WV WV.drew from (Below.refl _ _).drew)
 generalize WV.drew = V1 at BD hHeld ⊢
 refine wpAnyH_take (i := 0) (v := ?_) rfl (by kernel_rfl) (by kernel_rfl) (by kernel_rfl) (fun _ _ _ h => h) (Or.inl ⟨by rfl, ?_⟩) (by assumption) ?_
 rotate_left
 · (intro w0 hSw; (try dsimp only at hSw); go_simp; try with_reducible rfl)
 try simp only [List.getElem_toArray, List.getElem_cons_succ, List.getElem_cons_zero, Act.put, List.setIfInBounds_toArray, List.set_cons_zero, List.set_cons_succ]
 refine wpAnyH_take (i := 1) (v := .agg (trc x s)) rfl (by kernel_rfl) (by kernel_rfl) (by kernel_rfl) (fun _ _ _ h => h) (Or.inl ⟨by rfl, fun w0 hSw => exec_load (x := .tmp 2) rfl rfl (tr_load hSw.1)⟩) (by assumption) ?_
 try simp only [List.getElem_toArray, List.getElem_cons_succ, List.getElem_cons_zero, Act.put, List.setIfInBounds_toArray, List.set_cons_zero, List.set_cons_succ]
 refine wpAnyH_take (i := 3) (v := ?_) rfl (by kernel_rfl) (by kernel_rfl) (by kernel_rfl) (fun _ _ _ h => h) (Or.inl ⟨by rfl, ?_⟩) (by assumption) ?_
 rotate_left
 · (intro w0 hSw; (try dsimp only at hSw); go_simp; try with_reducible rfl)
 try simp only [List.getElem_toArray, List.getElem_cons_succ, List.getElem_cons_zero, Act.put, List.setIfInBounds_toArray, List.set_cons_zero, List.set_cons_succ]
 refine wpAnyH_take (i := 4) (v := ?_) rfl (by kernel_rfl) (by kernel_rfl) (by kernel_rfl) (fun _ _ _ h => h) (Or.inl ⟨by rfl, ?_⟩) (by assumption) ?_
 rotate_left
 · (intro w0 hSw; (try dsimp only at hSw); go_simp; try with_reducible rfl)
 try simp only [List.getElem_toArray, List.getElem_cons_succ, List.getElem_cons_zero, Act.put, List.setIfInBounds_toArray, List.set_cons_zero, List.set_cons_succ]
 refine wpAnyH_ready (rs := [2]) (by kernel_rfl) (by simp) ?_
 refine AllReadyH.cons rfl (fun K hK => ?_) AllReadyH.nil
 go_simp
 refine (news_q x s qn HQN.out _).mono ?_
 rintro e V2 ⟨rfl, hb⟩
 try go_simp
 have C2 := Lib.hid (BD.out.trans (hb.mono BD.out.size))
 clear hb
 refine hK.out _ _ ⟨XV.out.here C2.out, (XV.out.here C2.out).cell 9⟩ (fun hHeld => ?_)
 clear hK K
 refine wpAnyH_ready (rs := [5]) (by kernel_rfl) (by simp) ?_
 refine AllReadyH.cons rfl (fun K hK => ?_) AllReadyH.nil
 go_simp
 refine (send_any qn x.tch LQN.out _ (own_step TV.out.t C2.out) HST.out).mono ?_
 rintro e V3 ⟨u2, rfl, hu, hb⟩
 try go_simp
 have C3 := Lib.hid (C2.out.trans (hb.mono C2.out.size))
 have U3 := Lib.hid (own_less hu C2.out.size)
 clear hu
 clear hb
 refine hK.out _ _ ⟨XV.out.here C3.out, (XV.out.here C3.out).cell 9⟩ (fun hHeld => ?_)
 clear hK K
 obtain ⟨A2, c2, e2, RD2, _, _⟩ := own_rd U3.out
 subst e2
 have OU := Lib.hid (own_step UU.out C3.out)
 refine wpAnyH_ready (rs := [6]) (by kernel_rfl) (by simp) ?_
 refine AllReadyH.cons rfl (fun K hK => ?_) AllReadyH.nil
 refine step_append_any _ rfl (.tmp 19) (.tmp 24) _ rfl b1 45 i0 _ 28 224 Tryz.underlying35 hi0 hz0 hz1 hz2 (mc_size zM_length) (by omega) (.slice none 0 0) 0 (ints ([] : List (List Int)).flatten) rfl
   OU.out _ A2 (sendL qn x.tch).length c2 (ints (sendL qn x.tch).flatten) rfl RD2 (ints_one _) (by have := HST.out; simp only [maxLen, sendL_len]; omega) (by have := HST.out; rw [sendL_len]; omega) (Nat.le_trans HB1.out C3.out.size) ?_
 intro v9 W9 hown hg _
 have G9 := Lib.hid (show Turn (fun k => b1 ≤ k) V3 W9 from (Turn.refl _ _).grown hg (fun k hk _ => ownBlock_geT OU.out k hk))
 have O9 := Lib.hid hown
 clear hown hg
 have X9 := Lib.hid ((XV.out.here C3.out).turn G9.out (by have := HB2.out; omega))
 refine hK.out _ _ ⟨X9.out, X9.out.cell 9⟩ (fun hHeld => ?_)
 clear hK K
 refine wpAnyH_take (i := 7) (v := ?_) rfl (by kernel_rfl) (by kernel_rfl) (by kernel_rfl) (fun _ _ _ h => h) (Or.inl ⟨by rfl, ?_⟩) (by assumption) ?_
 rotate_left
 · (intro w0 hSw; (try dsimp only at hSw); go_simp; try with_reducible rfl)
 try simp only [List.getElem_toArray, List.getElem_cons_succ, List.getElem_cons_zero, Act.put, List.setIfInBounds_toArray, List.set_cons_zero, List.set_cons_succ]
 refine wpAnyH_done (by kernel_rfl) ?_ _
 clear hHeld
 have F9 := Lib.hid ((stepB BV.out C3.out).trans (G9.out.below (B := w.heap.size) (fun k hk e => by have := HB3.out; omega) (Nat.le_trans BV.out.size C3.out.size)))
 go_wp2_with fail
 go_ret
 refine ⟨_, rfl, ?_, F9.out⟩
 have h := own_less O9.out HB3.out
 rw [← ints_append, ← List.flatten_append, ← HQN.out, sendL_len] at h
 have e : (([] : List (List Int)) ++ x.tch.map (newsL x)).length = 0 + x.tch.length := by simp [Nat.add_comm]
 unfold MsgR
 rw [AG.out, e]
 exact h
set_option maxRecDepth 100000 in
set_option maxHeartbeats 16000000 in
theorem again_nn {B : Nat} (x : Tr) (s : Sl) (al : Bool) (w : World) (h : Tm w B x s) (ht : Shs x.tch) (h1 : x.st = 1) (ho : x.op = false) (ha : al = false) :
   Calls Tryz.prog 112 #[.agg (trc x s), .bool al] w fun e w' => ∃ u, e = .returned u ∧ MsgR w' w.heap.size u (againL x al) ∧ Below w.heap.size w w' := by
 obtain ⟨i0, hi0, hz0, hz1, hz2⟩ := info_parts info_msg
 have XV := Lib.hid (Blk.new w 62 (trc x s))
 have BV := Lib.hid (Joins.below_alloc1 w (.cells (trc x s) 62))
 have TV := Lib.hid (h.step BV.out)
 have HT := Lib.hid ht
 have HST := Lib.hid (show x.tch.length ≤ 1000 from by have := ht.len; omega)
 obtain ⟨q, hq⟩ : ∃ q, lockL x 0 = q := ⟨_, rfl⟩
 obtain ⟨qn, hqn⟩ : ∃ q, newsL x 0 = q := ⟨_, rfl⟩
 have HQ := Lib.hid hq
 have HQN := Lib.hid hqn
 have LQ := Lib.hid (show q.length = 28 from by rw [← hq]; rfl)
 have LQN := Lib.hid (show qn.length = 28 from by rw [← hqn]; rfl)
 have e1 : (x.st == 1) = true := by simpa using h1
 have HO := Lib.hid ho
 subst ha
 have AG := Lib.hid (show againL x false = [] from by unfold againL; rw [if_pos h1, if_neg (by simp [ho]), if_neg (by simp)]; rfl)
 clear h1 ho
 clear h ht hq hqn
 go_enter Tryz.func112, Tryz.ntmps112
 go_upto_region 1 with fail
 obtain ⟨g, hg⟩ : ∃ g, g = w.heap.size := ⟨_, rfl⟩
 have HG := Lib.hid hg
 rw [← hg] at XV ⊢
 clear hg
 have SZ := Lib.hid (show (w.alloc (.cells (trc x s) 62)).heap.size = g + 1 from by rw [HG.out]; simp)
 generalize w.alloc (.cells (trc x s) 62) = WV at XV BV TV SZ ⊢
 have c1 : WV.cell? ⟨g, 1, none⟩ = some (.int .i64 x.st) := XV.out.cell 1
 have c4 : WV.cell? ⟨g, 4, none⟩ = some (.bool false) := by rw [← HO.out]; exact XV.out.cell 4
 go_wp2_with fail
 go_ret
 exact ⟨_, rfl, by rw [AG.out]; exact World.ownsRow_nil _ _ _ _, BV.out⟩
set_option maxRecDepth 100000 in
set_option maxHeartbeats 16000000 in
theorem again_2 {B : Nat} (x : Tr) (s : Sl) (al : Bool) (w : World) (h : Tm w B x s) (ht : Shs x.tch) (h2 : x.st = 2) (hv : Shs x.vts) (lw : List Int) (hlw : withoutL x.tch x.vts = lw) :
   Calls Tryz.prog 112 #[.agg (trc x s), .bool al] w fun e w' => ∃ u, e = .returned u ∧ MsgR w' w.heap.size u (againL x al) ∧ Below w.heap.size w w' := by
 obtain ⟨i0, hi0, hz0, hz1, hz2⟩ := info_parts info_msg
 have XV := Lib.hid (Blk.new w 62 (trc x s))
 have BV := Lib.hid (Joins.below_alloc1 w (.cells (trc x s) 62))
 have TV := Lib.hid (h.step BV.out)
 have HT := Lib.hid ht
 have HST := Lib.hid (show x.tch.length ≤ 1000 from by have := ht.len; omega)
 obtain ⟨q, hq⟩ : ∃ q, lockL x 0 = q := ⟨_, rfl⟩
 obtain ⟨qn, hqn⟩ : ∃ q, newsL x 0 = q := ⟨_, rfl⟩
 have HQ := Lib.hid hq
 have HQN := Lib.hid hqn
 have LQ := Lib.hid (show q.length = 28 from by rw [← hq]; rfl)
 have LQN := Lib.hid (show qn.length = 28 from by rw [← hqn]; rfl)
 have e1 : (x.st == 1) = false := by simp; omega
 have e2 : (x.st == 2) = true := by simpa using h2
 have HVS := Lib.hid hv
 have HLW := Lib.hid hlw
 have HLL := Lib.hid (show lw.length ≤ 1000 from by rw [← hlw]; have h1 : (withoutL x.tch x.vts).length ≤ x.tch.length := List.length_filter_le _ _; have := ht.len; omega)
 have AG := Lib.hid (show againL x al = lw.map (newsL x) from by unfold againL; rw [if_neg (by omega), if_pos h2, hlw])
 clear h2 hv hlw
 clear h ht hq hqn
 go_enter Tryz.func112, Tryz.ntmps112
 go_upto_region 1 with fail
 obtain ⟨g, hg⟩ : ∃ g, g = w.heap.size := ⟨_, rfl⟩
 have HG := Lib.hid hg
 rw [← hg] at XV ⊢
 clear hg
 have SZ := Lib.hid (show (w.alloc (.cells (trc x s) 62)).heap.size = g + 1 from by rw [HG.out]; simp)
 generalize w.alloc (.cells (trc x s) 62) = WV at XV BV TV SZ ⊢
 have c1 : WV.cell? ⟨g, 1, none⟩ = some (.int .i64 x.st) := XV.out.cell 1
 go_upto_region 9 with fail
 clear c1
 refine wp_region_held_drew (S := fun w' => Blk w' g 62 (trc x s) ∧ w'.cell? ⟨g, 9, none⟩ = some s.t ∧ w'.cell? ⟨g, 10, none⟩ = some s.v) (by kernel_rfl) ⟨XV.out.drew, XV.out.drew.cell 9, XV.out.drew.cell 10⟩ (fun hHeld => ?_)
 have BD := Lib.hid (show Below WV.heap.size WV WV.drew from (Below.refl _ _).drew)
 generalize WV.drew = V1 at BD hHeld ⊢
 refine wpAnyH_take (i := 0) (v := .agg (trc x s)) rfl (by kernel_rfl) (by kernel_rfl) (by kernel_rfl) (fun _ _ _ h => h) (Or.inl ⟨by rfl, fun w0 hSw => exec_load (x := .tmp 2) rfl rfl (tr_load hSw.1)⟩) (by assumption) ?_
 try simp only [List.getElem_toArray, List.getElem_cons_succ, List.getElem_cons_zero, Act.put, List.setIfInBounds_toArray, List.set_cons_zero, List.set_cons_succ]
 refine wpAnyH_take (i := 2) (v := ?_) rfl (by kernel_rfl) (by kernel_rfl) (by kernel_rfl) (fun _ _ _ h => h) (Or.inl ⟨by rfl, ?_⟩) (by assumption) ?_
 rotate_left
 · (intro w0 hSw; (try dsimp only at hSw); go_simp; try with_reducible rfl)
 try simp only [List.getElem_toArray, List.getElem_cons_succ, List.getElem_cons_zero, Act.put, List.setIfInBounds_toArray, List.set_cons_zero, List.set_cons_succ]
 refine wpAnyH_take (i := 3) (v := ?_) rfl (by kernel_rfl) (by kernel_rfl) (by kernel_rfl) (fun _ _ _ h => h) (Or.inl ⟨by rfl, ?_⟩) (by assumption) ?_
 rotate_left
 · (intro w0 hSw; (try dsimp only at hSw); go_simp; try with_reducible rfl)
 try simp only [List.getElem_toArray, List.getElem_cons_succ, List.getElem_cons_zero, Act.put, List.setIfInBounds_toArray, List.set_cons_zero, List.set_cons_succ]
 refine wpAnyH_take (i := 4) (v := ?_) rfl (by kernel_rfl) (by kernel_rfl) (by kernel_rfl) (fun _ _ _ h => h) (Or.inl ⟨by rfl, ?_⟩) (by assumption) ?_
 rotate_left
 · (intro w0 hSw; (try dsimp only at hSw); go_simp; try with_reducible rfl)
 try simp only [List.getElem_toArray, List.getElem_cons_succ, List.getElem_cons_zero, Act.put, List.setIfInBounds_toArray, List.set_cons_zero, List.set_cons_succ]
 refine wpAnyH_take (i := 5) (v := ?_) rfl (by kernel_rfl) (by kernel_rfl) (by kernel_rfl) (fun _ _ _ h => h) (Or.inl ⟨by rfl, ?_⟩) (by assumption) ?_
 rotate_left
 · (intro w0 hSw; (try dsimp only at hSw); go_simp; try with_reducible rfl)
 try simp only [List.getElem_toArray, List.getElem_cons_succ, List.getElem_cons_zero, Act.put, List.setIfInBounds_toArray, List.set_cons_zero, List.set_cons_succ]
 refine wpAnyH_ready (rs := [1]) (by kernel_rfl) (by simp) ?_
 refine AllReadyH.cons rfl (fun K hK => ?_) AllReadyH.nil
 go_simp
 refine (news_q x s qn HQN.out _).mono ?_
 rintro e V2 ⟨rfl, hb⟩
 try go_simp
 have C2 := Lib.hid (BD.out.trans (hb.mono BD.out.size))
 clear hb
 refine hK.out _ _ ⟨XV.out.here C2.out, (XV.out.here C2.out).cell 9, (XV.out.here C2.out).cell 10⟩ (fun hHeld => ?_)
 clear hK K
 refine wpAnyH_ready (rs := [6]) (by kernel_rfl) (by simp) ?_
 refine AllReadyH.cons rfl (fun K hK => ?_) AllReadyH.nil
 go_simp
 refine (without_l _ _ _ (own_step TV.out.t C2.out) (own_step TV.out.v C2.out) HT.out HVS.out lw HLW.out).mono ?_
 rintro e V3 ⟨z, rfl, hz, hb⟩
 try go_simp
 have C3 := Lib.hid (C2.out.trans (hb.mono C2.out.size))
 have Z3 := Lib.hid hz
 clear hz
 clear hb
 refine hK.out _ _ ⟨XV.out.here C3.out, (XV.out.here C3.out).cell 9, (XV.out.here C3.out).cell 10⟩ (fun hHeld => ?_)
 clear hK K
 refine wpAnyH_ready (rs := [7]) (by kernel_rfl) (by simp) ?_
 refine AllReadyH.cons rfl (fun K hK => ?_) AllReadyH.nil
 go_simp
 refine (send_any qn lw LQN.out _ Z3.out HLL.out).mono ?_
 rintro e V4 ⟨u, rfl, hu, hb⟩
 try go_simp
 have C4 := Lib.hid (C3.out.trans (hb.mono C3.out.size))
 have U4 := Lib.hid (own_less hu C3.out.size)
 clear hu
 clear hb
 refine hK.out _ _ ⟨XV.out.here C4.out, (XV.out.here C4.out).cell 9, (XV.out.here C4.out).cell 10⟩ (fun hHeld => ?_)
 clear hK K
 refine wpAnyH_take (i := 8) (v := ?_) rfl (by kernel_rfl) (by kernel_rfl) (by kernel_rfl) (fun _ _ _ h => h) (Or.inl ⟨by rfl, ?_⟩) (by assumption) ?_
 rotate_left
 · (intro w0 hSw; (try dsimp only at hSw); go_simp; try with_reducible rfl)
 try simp only [List.getElem_toArray, List.getElem_cons_succ, List.getElem_cons_zero, Act.put, List.setIfInBounds_toArray, List.set_cons_zero, List.set_cons_succ]
 refine wpAnyH_done (by kernel_rfl) ?_ _
 clear hHeld
 have F4 := Lib.hid (stepB BV.out C4.out)
 go_wp2_with fail
 go_ret
 exact ⟨_, rfl, by rw [AG.out]; have h := own_less U4.out BV.out.size; rw [← HQN.out] at h; exact h, F4.out⟩
set_option maxRecDepth 100000 in
set_option maxHeartbeats 16000000 in
theorem again_3 {B : Nat} (x : Tr) (s : Sl) (al : Bool) (w : World) (h : Tm w B x s) (ht : Shs x.tch) (h3 : x.st = 3) (hv : Shs x.acks) (lw : List Int) (hlw : withoutL x.tch x.acks = lw) :
   Calls Tryz.prog 112 #[.agg (trc x s), .bool al] w fun e w' => ∃ u, e = .returned u ∧ MsgR w' w.heap.size u (againL x al) ∧ Below w.heap.size w w' := by
 obtain ⟨i0, hi0, hz0, hz1, hz2⟩ := info_parts info_msg
 have XV := Lib.hid (Blk.new w 62 (trc x s))
 have BV := Lib.hid (Joins.below_alloc1 w (.cells (trc x s) 62))
 have TV := Lib.hid (h.step BV.out)
 have HT := Lib.hid ht
 have HST := Lib.hid (show x.tch.length ≤ 1000 from by have := ht.len; omega)
 obtain ⟨q, hq⟩ : ∃ q, lockL x 0 = q := ⟨_, rfl⟩
 obtain ⟨qn, hqn⟩ : ∃ q, newsL x 0 = q := ⟨_, rfl⟩
 have HQ := Lib.hid hq
 have HQN := Lib.hid hqn
 have LQ := Lib.hid (show q.length = 28 from by rw [← hq]; rfl)
 have LQN := Lib.hid (show qn.length = 28 from by rw [← hqn]; rfl)
 have e1 : (x.st == 1) = false := by simp; omega
 have e2 : (x.st == 2) = false := by simp; omega
 have e3 : (x.st == 3) = true := by simpa using h3
 have HVS := Lib.hid hv
 have HLW := Lib.hid hlw
 have HLL := Lib.hid (show lw.length ≤ 1000 from by rw [← hlw]; have h1 : (withoutL x.tch x.acks).length ≤ x.tch.length := List.length_filter_le _ _; have := ht.len; omega)
 have AG := Lib.hid (show againL x al = lw.map (newsL x) from by unfold againL; rw [if_neg (by omega), if_neg (by omega), if_pos (by omega), hlw])
 clear h3 hv hlw
 clear h ht hq hqn
 go_enter Tryz.func112, Tryz.ntmps112
 go_upto_region 1 with fail
 obtain ⟨g, hg⟩ : ∃ g, g = w.heap.size := ⟨_, rfl⟩
 have HG := Lib.hid hg
 rw [← hg] at XV ⊢
 clear hg
 have SZ := Lib.hid (show (w.alloc (.cells (trc x s) 62)).heap.size = g + 1 from by rw [HG.out]; simp)
 generalize w.alloc (.cells (trc x s) 62) = WV at XV BV TV SZ ⊢
 have c1 : WV.cell? ⟨g, 1, none⟩ = some (.int .i64 x.st) := XV.out.cell 1
 go_upto_region 12 with fail
 clear c1
 refine wp_region_held_drew (S := fun w' => Blk w' g 62 (trc x s) ∧ w'.cell? ⟨g, 9, none⟩ = some s.t ∧ w'.cell? ⟨g, 11, none⟩ = some s.k) (by kernel_rfl) ⟨XV.out.drew, XV.out.drew.cell 9, XV.out.drew.cell 11⟩ (fun hHeld => ?_)
 have BD := Lib.hid (show Below WV.heap.size WV WV.drew from (Below.refl _ _).drew)
 generalize WV.drew = V1 at BD hHeld ⊢
 refine wpAnyH_take (i := 0) (v := .agg (trc x s)) rfl (by kernel_rfl) (by kernel_rfl) (by kernel_rfl) (fun _ _ _ h => h) (Or.inl ⟨by rfl, fun w0 hSw => exec_load (x := .tmp 2) rfl rfl (tr_load hSw.1)⟩) (by assumption) ?_
 try simp only [List.getElem_toArray, List.getElem_cons_succ, List.getElem_cons_zero, Act.put, List.setIfInBounds_toArray, List.set_cons_zero, List.set_cons_succ]
 refine wpAnyH_take (i := 2) (v := ?_) rfl (by kernel_rfl) (by kernel_rfl) (by kernel_rfl) (fun _ _ _ h => h) (Or.inl ⟨by rfl, ?_⟩) (by assumption) ?_
 rotate_left
 · (intro w0 hSw; (try dsimp only at hSw); go_simp; try with_reducible rfl)
 try simp only [List.getElem_toArray, List.getElem_cons_succ, List.getElem_cons_zero, Act.put, List.setIfInBounds_toArray, List.set_cons_zero, List.set_cons_succ]
 refine wpAnyH_take (i := 3) (v := ?_) rfl (by kernel_rfl) (by kernel_rfl) (by kernel_rfl) (fun _ _ _ h => h) (Or.inl ⟨by rfl, ?_⟩) (by assumption) ?_
 rotate_left
 · (intro w0 hSw; (try dsimp only at hSw); go_simp; try with_reducible rfl)
 try simp only [List.getElem_toArray, List.getElem_cons_succ, List.getElem_cons_zero, Act.put, List.setIfInBounds_toArray, List.set_cons_zero, List.set_cons_succ]
 refine wpAnyH_take (i := 4) (v := ?_) rfl (by kernel_rfl) (by kernel_rfl) (by kernel_rfl) (fun _ _ _ h => h) (Or.inl ⟨by rfl, ?_⟩) (by assumption) ?_
 rotate_left
 · (intro w0 hSw; (try dsimp only at hSw); go_simp; try with_reducible rfl)
 try simp only [List.getElem_toArray, List.getElem_cons_succ, List.getElem_cons_zero, Act.put, List.setIfInBounds_toArray, List.set_cons_zero, List.set_cons_succ]
 refine wpAnyH_take (i := 5) (v := ?_) rfl (by kernel_rfl) (by kernel_rfl) (by kernel_rfl) (fun _ _ _ h => h) (Or.inl ⟨by rfl, ?_⟩) (by assumption) ?_
 rotate_left
 · (intro w0 hSw; (try dsimp only at hSw); go_simp; try with_reducible rfl)
 try simp only [List.getElem_toArray, List.getElem_cons_succ, List.getElem_cons_zero, Act.put, List.setIfInBounds_toArray, List.set_cons_zero, List.set_cons_succ]
 refine wpAnyH_ready (rs := [1]) (by kernel_rfl) (by simp) ?_
 refine AllReadyH.cons rfl (fun K hK => ?_) AllReadyH.nil
 go_simp
 refine (news_q x s qn HQN.out _).mono ?_
 rintro e V2 ⟨rfl, hb⟩
 try go_simp
 have C2 := Lib.hid (BD.out.trans (hb.mono BD.out.size))
 clear hb
 refine hK.out _ _ ⟨XV.out.here C2.out, (XV.out.here C2.out).cell 9, (XV.out.here C2.out).cell 11⟩ (fun hHeld => ?_)
 clear hK K
 refine wpAnyH_ready (rs := [6]) (by kernel_rfl) (by simp) ?_
 refine AllReadyH.cons rfl (fun K hK => ?_) AllReadyH.nil
 go_simp
 refine (without_l _ _ _ (own_step TV.out.t C2.out) (own_step TV.out.k C2.out) HT.out HVS.out lw HLW.out).mono ?_
 rintro e V3 ⟨z, rfl, hz, hb⟩
 try go_simp
 have C3 := Lib.hid (C2.out.trans (hb.mono C2.out.size))
 have Z3 := Lib.hid hz
 clear hz
 clear hb
 refine hK.out _ _ ⟨XV.out.here C3.out, (XV.out.here C3.out).cell 9, (XV.out.here C3.out).cell 11⟩ (fun hHeld => ?_)
 clear hK K
 refine wpAnyH_ready (rs := [7]) (by kernel_rfl) (by simp) ?_
 refine AllReadyH.cons rfl (fun K hK => ?_) AllReadyH.nil
 go_simp
 refine (send_any qn lw LQN.out _ Z3.out HLL.out).mono ?_
 rintro e V4 ⟨u, rfl, hu, hb⟩
 try go_simp
 have C4 := Lib.hid (C3.out.trans (hb.mono C3.out.size))
 have U4 := Lib.hid (own_less hu C3.out.size)
 clear hu
 clear hb
 refine hK.out _ _ ⟨XV.out.here C4.out, (XV.out.here C4.out).cell 9, (XV.out.here C4.out).cell 11⟩ (fun hHeld => ?_)
 clear hK K
 refine wpAnyH_take (i := 8) (v := ?_) rfl (by kernel_rfl) (by kernel_rfl) (by kernel_rfl) (fun _ _ _ h => h) (Or.inl ⟨by rfl, ?_⟩) (by assumption) ?_
 rotate_left
 · (intro w0 hSw; (try dsimp only at hSw); go_simp; try with_reducible rfl)
 try simp only [List.getElem_toArray, List.getElem_cons_succ, List.getElem_cons_zero, Act.put, List.setIfInBounds_toArray, List.set_cons_zero, List.set_cons_succ]
 refine wpAnyH_done (by kernel_rfl) ?_ _
 clear hHeld
 have F4 := Lib.hid (stepB BV.out C4.out)
 go_wp2_with fail
 go_ret
 exact ⟨_, rfl, by rw [AG.out]; have h := own_less U4.out BV.out.size; rw [← HQN.out] at h; exact h, F4.out⟩
set_option maxRecDepth 100000 in
set_option maxHeartbeats 16000000 in
theorem again_4 {B : Nat} (x : Tr) (s : Sl) (al : Bool) (w : World) (h : Tm w B x s) (ht : Shs x.tch) (h3 : x.st = 4) (hv : Shs x.acks) (lw : List Int) (hlw : withoutL x.tch x.acks = lw) :
   Calls Tryz.prog 112 #[.agg (trc x s), .bool al] w fun e w' => ∃ u, e = .returned u ∧ MsgR w' w.heap.size u (againL x al) ∧ Below w.heap.size w w' := by
 obtain ⟨i0, hi0, hz0, hz1, hz2⟩ := info_parts info_msg
 have XV := Lib.hid (Blk.new w 62 (trc x s))
 have BV := Lib.hid (Joins.below_alloc1 w (.cells (trc x s) 62))
 have TV := Lib.hid (h.step BV.out)
 have HT := Lib.hid ht
 have HST := Lib.hid (show x.tch.length ≤ 1000 from by have := ht.len; omega)
 obtain ⟨q, hq⟩ : ∃ q, lockL x 0 = q := ⟨_, rfl⟩
 obtain ⟨qn, hqn⟩ : ∃ q, newsL x 0 = q := ⟨_, rfl⟩
 have HQ := Lib.hid hq
 have HQN := Lib.hid hqn
 have LQ := Lib.hid (show q.length = 28 from by rw [← hq]; rfl)
 have LQN := Lib.hid (show qn.length = 28 from by rw [← hqn]; rfl)
 have e1 : (x.st == 1) = false := by simp; omega
 have e2 : (x.st == 2) = false := by simp; omega
 have e3 : (x.st == 3) = false := by simp; omega
 have e4 : (x.st == 4) = true := by simpa using h3
 have HVS := Lib.hid hv
 have HLW := Lib.hid hlw
 have HLL := Lib.hid (show lw.length ≤ 1000 from by rw [← hlw]; have h1 : (withoutL x.tch x.acks).length ≤ x.tch.length := List.length_filter_le _ _; have := ht.len; omega)
 have AG := Lib.hid (show againL x al = lw.map (newsL x) from by unfold againL; rw [if_neg (by omega), if_neg (by omega), if_pos (by omega), hlw])
 clear h3 hv hlw
 clear h ht hq hqn
 go_enter Tryz.func112, Tryz.ntmps112
 go_upto_region 1 with fail
 obtain ⟨g, hg⟩ : ∃ g, g = w.heap.size := ⟨_, rfl⟩
 have HG := Lib.hid hg
 rw [← hg] at XV ⊢
 clear hg
 have SZ := Lib.hid (show (w.alloc (.cells (trc x s) 62)).heap.size = g + 1 from by rw [HG.out]; simp)
 generalize w.alloc (.cells (trc x s) 62) = WV at XV BV TV SZ ⊢
 have c1 : WV.cell? ⟨g, 1, none⟩ = some (.int .i64 x.st) := XV.out.cell 1
 go_upto_region 12 with fail
 clear c1
 refine wp_region_held_drew (S := fun w' => Blk w' g 62 (trc x s) ∧ w'.cell? ⟨g, 9, none⟩ = some s.t ∧ w'.cell? ⟨g, 11, none⟩ = some s.k) (by kernel_rfl) ⟨XV.out.drew, XV.out.drew.cell 9, XV.out.drew.cell 11⟩ (fun hHeld => ?_)
 have BD := Lib.hid (show Below WV.heap.size WV WV.drew from (Below.refl _ _).drew)
 generalize WV.drew = V1 at BD hHeld ⊢
 refine wpAnyH_take (i := 0) (v := .agg (trc x s)) rfl (by kernel_rfl) (by kernel_rfl) (by kernel_rfl) (fun _ _ _ h => h) (Or.inl ⟨by rfl, fun w0 hSw => exec_load (x := .tmp 2) rfl rfl (tr_load hSw.1)⟩) (by assumption) ?_
 try simp only [List.getElem_toArray, List.getElem_cons_succ, List.getElem_cons_zero, Act.put, List.setIfInBounds_toArray, List.set_cons_zero, List.set_cons_succ]
 refine wpAnyH_take (i := 2) (v := ?_) rfl (by kernel_rfl) (by kernel_rfl) (by kernel_rfl) (fun _ _ _ h => h) (Or.inl ⟨by rfl, ?_⟩) (by assumption) ?_
 rotate_left
 · (intro w0 hSw; (try dsimp only at hSw); go_simp; try with_reducible rfl)
 try simp only [List.getElem_toArray, List.getElem_cons_succ, List.getElem_cons_zero, Act.put, List.setIfInBounds_toArray, List.set_cons_zero, List.set_cons_succ]
 refine wpAnyH_take (i := 3) (v := ?_) rfl (by kernel_rfl) (by kernel_rfl) (by kernel_rfl) (fun _ _ _ h => h) (Or.inl ⟨by rfl, ?_⟩) (by assumption) ?_
 rotate_left
 · (intro w0 hSw; (try dsimp only at hSw); go_simp; try with_reducible rfl)
 try simp only [List.getElem_toArray, List.getElem_cons_succ, List.getElem_cons_zero, Act.put, List.setIfInBounds_toArray, List.set_cons_zero, List.set_cons_succ]
 refine wpAnyH_take (i := 4) (v := ?_) rfl (by kernel_rfl) (by kernel_rfl) (by kernel_rfl) (fun _ _ _ h => h) (Or.inl ⟨by rfl, ?_⟩) (by assumption) ?_
 rotate_left
 · (intro w0 hSw; (try dsimp only at hSw); go_simp; try with_reducible rfl)
 try simp only [List.getElem_toArray, List.getElem_cons_succ, List.getElem_cons_zero, Act.put, List.setIfInBounds_toArray, List.set_cons_zero, List.set_cons_succ]
 refine wpAnyH_take (i := 5) (v := ?_) rfl (by kernel_rfl) (by kernel_rfl) (by kernel_rfl) (fun _ _ _ h => h) (Or.inl ⟨by rfl, ?_⟩) (by assumption) ?_
 rotate_left
 · (intro w0 hSw; (try dsimp only at hSw); go_simp; try with_reducible rfl)
 try simp only [List.getElem_toArray, List.getElem_cons_succ, List.getElem_cons_zero, Act.put, List.setIfInBounds_toArray, List.set_cons_zero, List.set_cons_succ]
 refine wpAnyH_ready (rs := [1]) (by kernel_rfl) (by simp) ?_
 refine AllReadyH.cons rfl (fun K hK => ?_) AllReadyH.nil
 go_simp
 refine (news_q x s qn HQN.out _).mono ?_
 rintro e V2 ⟨rfl, hb⟩
 try go_simp
 have C2 := Lib.hid (BD.out.trans (hb.mono BD.out.size))
 clear hb
 refine hK.out _ _ ⟨XV.out.here C2.out, (XV.out.here C2.out).cell 9, (XV.out.here C2.out).cell 11⟩ (fun hHeld => ?_)
 clear hK K
 refine wpAnyH_ready (rs := [6]) (by kernel_rfl) (by simp) ?_
 refine AllReadyH.cons rfl (fun K hK => ?_) AllReadyH.nil
 go_simp
 refine (without_l _ _ _ (own_step TV.out.t C2.out) (own_step TV.out.k C2.out) HT.out HVS.out lw HLW.out).mono ?_
 rintro e V3 ⟨z, rfl, hz, hb⟩
 try go_simp
 have C3 := Lib.hid (C2.out.trans (hb.mono C2.out.size))
 have Z3 := Lib.hid hz
 clear hz
 clear hb
 refine hK.out _ _ ⟨XV.out.here C3.out, (XV.out.here C3.out).cell 9, (XV.out.here C3.out).cell 11⟩ (fun hHeld => ?_)
 clear hK K
 refine wpAnyH_ready (rs := [7]) (by kernel_rfl) (by simp) ?_
 refine AllReadyH.cons rfl (fun K hK => ?_) AllReadyH.nil
 go_simp
 refine (send_any qn lw LQN.out _ Z3.out HLL.out).mono ?_
 rintro e V4 ⟨u, rfl, hu, hb⟩
 try go_simp
 have C4 := Lib.hid (C3.out.trans (hb.mono C3.out.size))
 have U4 := Lib.hid (own_less hu C3.out.size)
 clear hu
 clear hb
 refine hK.out _ _ ⟨XV.out.here C4.out, (XV.out.here C4.out).cell 9, (XV.out.here C4.out).cell 11⟩ (fun hHeld => ?_)
 clear hK K
 refine wpAnyH_take (i := 8) (v := ?_) rfl (by kernel_rfl) (by kernel_rfl) (by kernel_rfl) (fun _ _ _ h => h) (Or.inl ⟨by rfl, ?_⟩) (by assumption) ?_
 rotate_left
 · (intro w0 hSw; (try dsimp only at hSw); go_simp; try with_reducible rfl)
 try simp only [List.getElem_toArray, List.getElem_cons_succ, List.getElem_cons_zero, Act.put, List.setIfInBounds_toArray, List.set_cons_zero, List.set_cons_succ]
 refine wpAnyH_done (by kernel_rfl) ?_ _
 clear hHeld
 have F4 := Lib.hid (stepB BV.out C4.out)
 go_wp2_with fail
 go_ret
 exact ⟨_, rfl, by rw [AG.out]; have h := own_less U4.out BV.out.size; rw [← HQN.out] at h; exact h, F4.out⟩
theorem again_any {B : Nat} (x : Tr) (s : Sl) (al : Bool) (w : World) (h : Tm w B x s) (ht : Shs x.tch) (hv : Shs x.vts) (hk : Shs x.acks) (hst : 1 ≤ x.st ∧ x.st ≤ 4) :
   Calls Tryz.prog 112 #[.agg (trc x s), .bool al] w fun e w' => ∃ u, e = .returned u ∧ MsgR w' w.heap.size u (againL x al) ∧ Below w.heap.size w w' := by
 by_cases h1 : x.st = 1
 · cases ho : x.op <;> cases ha : al
   · exact again_nn x s _ w h ht h1 ho rfl
   · exact again_na x s _ w h ht h1 ho rfl
   · exact again_on x s _ w h ht h1 ho rfl
   · exact again_oa x s _ w h ht h1 ho rfl
 · by_cases h2 : x.st = 2
   · exact again_2 x s al w h ht h2 hv _ rfl
   · by_cases h3 : x.st = 3
     · exact again_3 x s al w h ht h3 hk _ rfl
     · exact again_4 x s al w h ht (by omega) hk _ rfl
end Go.Proofs.YtadnlannbafjpaaGreat
/- A transaction: New, and whether it is over. -/
namespace Go.Proofs.YtadnlannbafjpaaGreat
open Go.RowKit
set_option linter.unusedVariables false
set_option linter.unusedSimpArgs false
set_option maxRecDepth 100000 in
set_option maxHeartbeats 4000000 in
theorem new_ok (tx : Int) (h1 : 1 ≤ tx) (h2 : tx ≤ 1048576) (w : World) :
   Calls Tryz.prog 45 #[.int .i64 tx] w fun e w' => e = .returned (.tuple #[.agg (trc (newL tx) noSl), .nilIface]) ∧ Below w.heap.size w w' := by
 have d1 : decide (tx < 1) = false := by simp; omega
 have d2 : decide (1048576 < tx) = false := by simp; omega
 have Z1 := Lib.hid (show Blk (w.alloc (.cells zTr 62)) w.heap.size 62 (trc noTr noSl) from Blk.new w _ _)
 have B1 := Lib.hid (Joins.below_alloc1 w (.cells zTr 62))
 go_enter Tryz.func45, Tryz.ntmps45
 go_wp2_with (refine wpList_store_mid (by rfl) 62 (.tmp 2) (.tmp 13) (by rfl) w.heap.size 0 (trc (newL tx) noSl) (by rfl) (by rfl) (Z1.out.there (Nat.le_refl 13)) (tr_info _ _) (tr_one _ _ rfl rfl rfl rfl) ?_
              have Z2 := Lib.hid (Z1.out.put (trc (newL tx) noSl) rfl)
              have E2 := Lib.hid (Below.setCells (b := w.heap.size) (Nat.le_refl _) (trc (newL tx) noSl).toList 0 _ B1.out)
              generalize (w.alloc (.cells zTr 62)).setCells w.heap.size 0 (trc (newL tx) noSl).toList = W2 at Z2 E2 ⊢)
 exact bodyPost_ret (v := .tuple #[.agg (trc (newL tx) noSl), .nilIface]) (results_cell_and rfl rfl rfl (tr_load Z2.out)) rfl ⟨rfl, E2.out⟩
set_option maxRecDepth 100000 in
set_option maxHeartbeats 4000000 in
theorem over_any {B : Nat} (x : Tr) (s : Sl) (w : World) (h : Tm w B x s) (ht : Shs x.tch) (hk : Shs x.acks) :
   Calls Tryz.prog 110 #[.agg (trc x s)] w fun e w' => e = .returned (.bool (overB x)) ∧ Below w.heap.size w w' := by
 have XV := Lib.hid (Blk.new w 62 (trc x s))
 have BV := Lib.hid (Joins.below_alloc1 w (.cells (trc x s) 62))
 have TV := Lib.hid (h.step BV.out)
 have HT := Lib.hid ht
 have HK := Lib.hid hk
 obtain ⟨r, hr⟩ : ∃ r, overB x = r := ⟨_, rfl⟩
 rw [hr]
 unfold overB at hr
 obtain ⟨lw, hlw⟩ : ∃ lw, withoutL x.tch x.acks = lw := ⟨_, rfl⟩
 rw [hlw] at hr
 have HLW := Lib.hid hlw
 clear h ht hk hlw
 go_enter Tryz.func110, Tryz.ntmps110
 go_upto_region 1 with fail
 obtain ⟨g, hg⟩ : ∃ g, g = w.heap.size := ⟨_, rfl⟩
 rw [← hg] at XV ⊢
 clear hg
 generalize w.alloc (.cells (trc x s) 62) = WV at XV BV TV ⊢
 have c9 : WV.cell? ⟨g, 9, none⟩ = some s.t := XV.out.cell 9
 have c11 : WV.cell? ⟨g, 11, none⟩ = some s.k := XV.out.cell 11
 cases hd : decided x with
 | false =>
   have HD := Lib.hid hd
   obtain rfl : r = false := by rw [← hr, hd]; rfl
   clear hr hd
   go_wp2_with (first
     | (refine wpList_load_row rfl 62 (.tmp 1) rfl g rfl 62 (trc x s) (0, 0) _ XV.out Tryz.underlying62 rfl (tr_info _ _) ?_)
     | (go_at_call 20; refine (decided_b x s _ false HD.out).mono ?_; rintro e W2 ⟨rfl, hb2⟩; have B2 := Lib.hid (stepB BV.out hb2); clear hb2))
   go_ret
   exact ⟨rfl, B2.out⟩
 | true =>
   have HD := Lib.hid hd
   rw [hd, Bool.true_and] at hr
   clear hd
   have hr' : ((lw.length : Int) == 0) = r := by rw [← hr]; cases lw <;> simp <;> omega
   have hr2 : (lw.length == 0) = r := by rw [← hr]; cases lw <;> simp
   clear hr
   go_wp2_with (first
     | (refine wpList_load_row rfl 62 (.tmp 1) rfl g rfl 62 (trc x s) (0, 0) _ XV.out Tryz.underlying62 rfl (tr_info _ _) ?_)
     | (go_at_call 20; refine (decided_b x s _ true HD.out).mono ?_; rintro e W2 ⟨rfl, hb2⟩; have B2 := Lib.hid (stepB BV.out hb2); have T2 := Lib.hid (TV.out.step hb2); have k9 : W2.cell? ⟨g, 9, none⟩ = some s.t := (XV.out.here hb2).cell 9; have k11 : W2.cell? ⟨g, 11, none⟩ = some s.k := (XV.out.here hb2).cell 11; clear hb2 c9 c11)
     | (go_at_call 130; refine (without_l _ _ _ T2.out.t T2.out.k HT.out HK.out lw HLW.out).mono ?_; rintro e W3 ⟨z, rfl, hz, hb3⟩; obtain ⟨Az, cz, rfl⟩ := own_len hz; have B3 := Lib.hid (stepB B2.out hb3); clear hz hb3))
   go_ret
   exact ⟨rfl, B3.out⟩
end Go.Proofs.YtadnlannbafjpaaGreat
/- The law's act: something that happens to a transaction. -/
namespace Go.Proofs.YtadnlannbafjpaaGreat
open Go.RowKit
set_option linter.unusedVariables false
set_option linter.unusedSimpArgs false
theorem act_cell {w : World} {g : Nat} {t : TypeId} {a : List Int} (hl : a.length = 33) (h : Blk w g t (mc a)) {i : Nat} (hi : i < 33) : w.cell? ⟨g, i, none⟩ = some (.int .i64 (fld a i)) := by
 rw [h.cell i]; simp [mc, ints, fld_get (show i < a.length by omega)]
theorem act_msg {w : World} {g : Nat} {t : TypeId} {a : List Int} (hl : a.length = 33) (h : Blk w g t (mc a)) : ∀ j v, (ints (a.drop 5))[j]? = some v → w.cell? ((⟨g, 5, none⟩ : Addr).add j) = some v := by
 have := Blk.cells_at (l := ints a) h 5 28 (by rw [ints_length]; omega)
 intro j v hj
 refine this j v ?_
 rw [← hj]
 have e : (ints a).drop 5 = ints (a.drop 5) := by simp [ints, List.map_drop]
 rw [e, List.take_of_length_le (by rw [ints_length, List.length_drop]; omega)]
theorem act_drop {a : List Int} (hl : a.length = 33) : (a.drop 5).length = 28 := by rw [List.length_drop]; omega
end Go.Proofs.YtadnlannbafjpaaGreat
/- The document's example of a transaction. -/
namespace Go.Proofs.YtadnlannbafjpaaGreat
open Go.RowKit
set_option linter.unusedVariables false
set_option linter.unusedSimpArgs false
theorem two_ok : Shs [2] := ⟨by simp [Ris], fun n hn => by rw [List.mem_singleton.1 hn]; omega⟩
end Go.Proofs.YtadnlannbafjpaaGreat
