/- A transaction: what is sent again, and whether it is over. -/
import Derived.Test.YtopjkidekbfalaaTxP
import Derived.Test.YtopjkidekbfalaaTxL
import Derived.Test.YtopjkidekbfalaaHeld
import Derived.Test.YtopjkidekbfalaaRefK
import Derived.Test.YtopjkidekbfalaaRefKAS
import Derived.Test.YtopjkidekbfalaaRefKA1P
import Derived.Test.YtopjkidekbfalaaRefKA1M
import Derived.Test.YtopjkidekbfalaaRefKA1Y
import Derived.Test.YtopjkidekbfalaaRefKA2P
import Derived.Test.YtopjkidekbfalaaRefKA2M
import Derived.Test.YtopjkidekbfalaaRefKA2Y
import Derived.Test.YtopjkidekbfalaaRefKB
import Derived.Test.YtopjkidekbfalaaRefKC
import Derived.Test.YtopjkidekbfalaaRefKD1
import Derived.Test.YtopjkidekbfalaaRefKD2
import Derived.Test.YtopjkidekbfalaaRefKE
import Derived.Test.YtopjkidekbfalaaRefKF
import Derived.Test.YtopjkidekbfalaaRefKG
namespace Go.Proofs.Ytopjkidekbfalaa
open Go.RowKit
set_option linter.unusedVariables false
set_option linter.unusedSimpArgs false

theorem ownBlock_geT {w : World} {B n size : Nat} {e : TypeId} {v : Value} {xs : List Value} (h : w.ownsRow B e size v n xs) : ∀ k, v.ownBlock = some k → B ≤ k := fun k hk => (own_ge h hk).1
theorem without_l {B B' : Nat} {v u : Value} (l o : List Int) (w : World) (h : NumR w B v l) (h' : NumR w B' u o) (hl : Shs l) (ho : Shs o) (r : List Int) (hr : withoutL l o = r) :
    Calls Try.prog 26 #[v, u] w fun e w' => ∃ z, e = .returned z ∧ NumR w' w.heap.size z r ∧ Below w.heap.size w w' := by rw [← hr]; exact without_any l o w h h' hl.all ho.all (by have := hl.len; omega) (by have := ho.len; omega)
set_option maxRecDepth 100000 in
set_option maxHeartbeats 16000000 in
theorem again_oa {B : Nat} (x : Tr) (s : Sl) (al : Bool) (w : World) (h : Tm w B x s) (ht : Shs x.tch) (h1 : x.st = 1) (ho : x.op = true) (ha : al = true) :
    Calls Try.prog 11 #[.agg (trc x s), .bool al] w fun e w' => ∃ u, e = .returned u ∧ MsgR w' w.heap.size u (againL x al) ∧ Below w.heap.size w w' := by
  obtain ⟨i0, hi0, hz0, hz1, hz2⟩ := info_parts info_msg
  have XV := Lib.hid (Blk.new w 30 (trc x s))
  have BV := Lib.hid (Joins.below_alloc1 w (.cells (trc x s) 30))
  have TV := Lib.hid (h.step BV.out)
  have HT := Lib.hid ht
  have HST := Lib.hid (show x.tch.length ≤ 1000 from by have := ht.len; omega)
  obtain ⟨q, hq⟩ : ∃ q, lockL x 0 = q := ⟨_, rfl⟩
  obtain ⟨qn, hqn⟩ : ∃ q, newsL x 0 = q := ⟨_, rfl⟩
  have HQ := Lib.hid hq
  have HQN := Lib.hid hqn
  have LQ := Lib.hid (show q.length = 28 from by rw [← hq]; rfl)
  have LQN := Lib.hid (show qn.length = 28 from by rw [← hqn]; rfl)
  have e1 : (x.st == 1) = true := by simpa using h1
  have HO := Lib.hid ho
  subst ha
  have AG := Lib.hid (show againL x true = [lockL x x.sh] ++ x.tch.map (newsL x) from by unfold againL; rw [if_pos h1, if_pos ho, if_pos rfl])
  clear h1 ho
  clear h ht hq hqn
  go_enter Try.func11, Try.ntmps11
  go_upto_region 1 with fail
  obtain ⟨g, hg⟩ : ∃ g, g = w.heap.size := ⟨_, rfl⟩
  have HG := Lib.hid hg
  rw [← hg] at XV ⊢
  clear hg
  have SZ := Lib.hid (show (w.alloc (.cells (trc x s) 30)).heap.size = g + 1 from by rw [HG.out]; simp)
  generalize w.alloc (.cells (trc x s) 30) = WV at XV BV TV SZ ⊢
  have c1 : WV.cell? ⟨g, 1, none⟩ = some (.int .i64 x.st) := XV.out.cell 1
  have c4 : WV.cell? ⟨g, 4, none⟩ = some (.bool true) := by rw [← HO.out]; exact XV.out.cell 4
  go_upto_region 5 with fail
  refine wp_region_held_drew (S := fun w' => Blk w' g 30 (trc x s) ∧ w'.cell? ⟨g, 5, none⟩ = some (.int .i64 x.sh)) (by kernel_rfl) ⟨XV.out.drew, XV.out.drew.cell 5⟩ (fun hHeld => ?_)
  have BD := Lib.hid (show Below WV.heap.size WV WV.drew from (Below.refl _ _).drew)
  generalize WV.drew = W1 at BD hHeld ⊢
  refine wpAnyH_take (i := 0) (v := .agg (trc x s)) rfl (by kernel_rfl) (by kernel_rfl) (by kernel_rfl) (fun _ _ _ h => h) (Or.inl ⟨by rfl, fun w0 hSw => exec_load (x := .tmp 2) rfl rfl (tr_load hSw.1)⟩) (by assumption) ?_
  try simp only [List.getElem_toArray, List.getElem_cons_succ, List.getElem_cons_zero, Act.put, List.setIfInBounds_toArray, List.set_cons_zero, List.set_cons_succ]
  refine wpAnyH_take (i := 2) (v := ?_) rfl (by kernel_rfl) (by kernel_rfl) (by kernel_rfl) (fun _ _ _ h => h) (Or.inl ⟨by rfl, ?_⟩) (by assumption) ?_
  rotate_left
  · (intro w0 hSw; (try dsimp only at hSw); go_simp; try with_reducible rfl)
  try simp only [List.getElem_toArray, List.getElem_cons_succ, List.getElem_cons_zero, Act.put, List.setIfInBounds_toArray, List.set_cons_zero, List.set_cons_succ]
  refine wpAnyH_take (i := 3) (v := ?_) rfl (by kernel_rfl) (by kernel_rfl) (by kernel_rfl) (fun _ _ _ h => h) (Or.inl ⟨by rfl, ?_⟩) (by assumption) ?_
  rotate_left
  · (intro w0 hSw; (try dsimp only at hSw); go_simp; try with_reducible rfl)
  try simp only [List.getElem_toArray, List.getElem_cons_succ, List.getElem_cons_zero, Act.put, List.setIfInBounds_toArray, List.set_cons_zero, List.set_cons_succ]
  refine wpAnyH_ready (rs := [1, 4]) (by kernel_rfl) (by simp) ?_
  refine AllReadyH.cons rfl (fun K hK => ?_) (AllReadyH.cons rfl (fun K hK => ?_) AllReadyH.nil)
  · go_simp
    refine (request_q x s q HQ.out _).mono ?_
    rintro e W2 ⟨rfl, hb⟩
    try go_simp
    have B2 := Lib.hid (BD.out.trans (hb.mono BD.out.size))
    clear hb
    refine hK.out _ _ ⟨XV.out.here B2.out, (XV.out.here B2.out).cell 5⟩ (fun hHeld => ?_)
    clear hK K
    refine wpAnyH_ready (rs := [4]) (by kernel_rfl) (by simp) ?_
    refine AllReadyH.cons rfl (fun K hK => ?_) AllReadyH.nil
    go_simp
    have O3 := Lib.hid (own_ints W2 3 [x.sh] (B := WV.heap.size) (n := 1) B2.out.size rfl (by simp))
    have B3 := Lib.hid (B2.out.alloc B2.out.size (.cells (i64s [x.sh]).toArray 3))
    refine hK.out _ _ ⟨XV.out.here B3.out, (XV.out.here B3.out).cell 5⟩ (fun hHeld => ?_)
    clear hK K
    generalize W2.heap.size = rb at O3 ⊢
    simp only [i64s, List.map_cons, List.map_nil] at O3 B3
    generalize W2.alloc (.cells #[.int .i64 x.sh] 3) = W3 at O3 B3 hHeld ⊢
    refine wpAnyH_ready (rs := [5]) (by kernel_rfl) (by simp) ?_
    refine AllReadyH.cons rfl (fun K hK => ?_) AllReadyH.nil
    go_simp
    refine (send_any q [x.sh] LQ.out _ O3.out (by simp)).mono ?_
    rintro e W4 ⟨u, rfl, hu, hb⟩
    try go_simp
    have B4 := Lib.hid (B3.out.trans (hb.mono B3.out.size))
    have U4 := Lib.hid (own_less hu B3.out.size)
    clear hu
    clear hb
    refine hK.out _ _ ⟨XV.out.here B4.out, (XV.out.here B4.out).cell 5⟩ (fun hHeld => ?_)
    clear hK K
    refine wpAnyH_take (i := 6) (v := ?_) rfl (by kernel_rfl) (by kernel_rfl) (by kernel_rfl) (fun _ _ _ h => h) (Or.inl ⟨by rfl, ?_⟩) (by assumption) ?_
    rotate_left
    · (intro w0 hSw; (try dsimp only at hSw); go_simp; try with_reducible rfl)
    try simp only [List.getElem_toArray, List.getElem_cons_succ, List.getElem_cons_zero, Act.put, List.setIfInBounds_toArray, List.set_cons_zero, List.set_cons_succ]
    refine wpAnyH_done (by kernel_rfl) ?_ _
    clear hHeld
    have UL := Lib.hid (show MsgR W4 WV.heap.size u [lockL x x.sh] from by have h := U4.out; rw [← HQ.out] at h; exact h)
    have XL := Lib.hid (XV.out.here B4.out)
    have BL := Lib.hid (stepB BV.out B4.out)
    have TL := Lib.hid (TV.out.step B4.out)
    have GL := Lib.hid B4.out.size
    have b1e : ∃ b1, b1 = WV.heap.size := ⟨_, rfl⟩
    obtain ⟨b1, hb1⟩ := b1e
    have UU := Lib.hid (show MsgR W4 b1 u [lockL x x.sh] from by rw [hb1]; exact UL.out)
    have HB1 := Lib.hid (show b1 ≤ W4.heap.size from by rw [hb1]; exact GL.out)
    have HB2 := Lib.hid (show g < b1 from by rw [hb1]; exact XV.out.lt)
    have HB3 := Lib.hid (show w.heap.size ≤ b1 from by rw [hb1]; exact BV.out.size)
    clear hb1 c1 c4 XV BV TV BD B2 B3 B4 U4 UL GL SZ
    have XV := XL
    have BV := BL
    have TV := TL
    clear XL BL TL
    generalize W4 = WV at XV BV TV UU HB1 ⊢
    go_upto_region 7 with fail
    refine wp_region_held_drew (S := fun w' => Blk w' g 30 (trc x s) ∧ w'.cell? ⟨g, 9, none⟩ = some s.t) (by kernel_rfl) ⟨XV.out.drew, XV.out.drew.cell 9⟩ (fun hHeld => ?_)
    have BD := Lib.hid (show Below WV.heap.size WV WV.drew from (Below.refl _ _).drew)
    generalize WV.drew = V1 at BD hHeld ⊢
    refine wpAnyH_take (i := 0) (v := ?_) rfl (by kernel_rfl) (by kernel_rfl) (by kernel_rfl) (fun _ _ _ h => h) (Or.inl ⟨by rfl, ?_⟩) (by assumption) ?_
    rotate_left
    · (intro w0 hSw; (try dsimp only at hSw); go_simp; try with_reducible rfl)
    try simp only [List.getElem_toArray, List.getElem_cons_succ, List.getElem_cons_zero, Act.put, List.setIfInBounds_toArray, List.set_cons_zero, List.set_cons_succ]
    refine wpAnyH_take (i := 1) (v := .agg (trc x s)) rfl (by kernel_rfl) (by kernel_rfl) (by kernel_rfl) (fun _ _ _ h => h) (Or.inl ⟨by rfl, fun w0 hSw => exec_load (x := .tmp 2) rfl rfl (tr_load hSw.1)⟩) (by assumption) ?_
    try simp only [List.getElem_toArray, List.getElem_cons_succ, List.getElem_cons_zero, Act.put, List.setIfInBounds_toArray, List.set_cons_zero, List.set_cons_succ]
    refine wpAnyH_take (i := 3) (v := ?_) rfl (by kernel_rfl) (by kernel_rfl) (by kernel_rfl) (fun _ _ _ h => h) (Or.inl ⟨by rfl, ?_⟩) (by assumption) ?_
    rotate_left
    · (intro w0 hSw; (try dsimp only at hSw); go_simp; try with_reducible rfl)
    try simp only [List.getElem_toArray, List.getElem_cons_succ, List.getElem_cons_zero, Act.put, List.setIfInBounds_toArray, List.set_cons_zero, List.set_cons_succ]
    refine wpAnyH_take (i := 4) (v := ?_) rfl (by kernel_rfl) (by kernel_rfl) (by kernel_rfl) (fun _ _ _ h => h) (Or.inl ⟨by rfl, ?_⟩) (by assumption) ?_
    rotate_left
    · (intro w0 hSw; (try dsimp only at hSw); go_simp; try with_reducible rfl)
    try simp only [List.getElem_toArray, List.getElem_cons_succ, List.getElem_cons_zero, Act.put, List.setIfInBounds_toArray, List.set_cons_zero, List.set_cons_succ]
    refine wpAnyH_ready (rs := [2]) (by kernel_rfl) (by simp) ?_
    refine AllReadyH.cons rfl (fun K hK => ?_) AllReadyH.nil
    go_simp
    refine (news_q x s qn HQN.out _).mono ?_
    rintro e V2 ⟨rfl, hb⟩
    try go_simp
    have C2 := Lib.hid (BD.out.trans (hb.mono BD.out.size))
    clear hb
    refine hK.out _ _ ⟨XV.out.here C2.out, (XV.out.here C2.out).cell 9⟩ (fun hHeld => ?_)
    clear hK K
    refine wpAnyH_ready (rs := [5]) (by kernel_rfl) (by simp) ?_
    refine AllReadyH.cons rfl (fun K hK => ?_) AllReadyH.nil
    go_simp
    refine (send_any qn x.tch LQN.out _ (own_step TV.out.t C2.out) HST.out).mono ?_
    rintro e V3 ⟨u2, rfl, hu, hb⟩
    try go_simp
    have C3 := Lib.hid (C2.out.trans (hb.mono C2.out.size))
    have U3 := Lib.hid (own_less hu C2.out.size)
    clear hu
    clear hb
    refine hK.out _ _ ⟨XV.out.here C3.out, (XV.out.here C3.out).cell 9⟩ (fun hHeld => ?_)
    clear hK K
    obtain ⟨A2, c2, e2, RD2, _, _⟩ := own_rd U3.out
    subst e2
    have OU := Lib.hid (own_step UU.out C3.out)
    refine wpAnyH_ready (rs := [6]) (by kernel_rfl) (by simp) ?_
    refine AllReadyH.cons rfl (fun K hK => ?_) AllReadyH.nil
    refine step_append_any _ rfl (.tmp 19) (.tmp 24) _ rfl b1 42 i0 _ 28 224 Try.underlying35 hi0 hz0 hz1 hz2 (mc_size zM_length) (by omega) u 1 (ints [lockL x x.sh].flatten) rfl
      OU.out _ A2 (sendL qn x.tch).length c2 (ints (sendL qn x.tch).flatten) rfl RD2 (ints_one _) (by have := HST.out; simp only [maxLen, sendL_len]; omega) (by have := HST.out; rw [sendL_len]; omega) (Nat.le_trans HB1.out C3.out.size) ?_
    intro v9 W9 hown hg _
    have G9 := Lib.hid (show Turn (fun k => b1 ≤ k) V3 W9 from (Turn.refl _ _).grown hg (fun k hk _ => ownBlock_geT OU.out k hk))
    have O9 := Lib.hid hown
    clear hown hg
    have X9 := Lib.hid ((XV.out.here C3.out).turn G9.out (by have := HB2.out; omega))
    refine hK.out _ _ ⟨X9.out, X9.out.cell 9⟩ (fun hHeld => ?_)
    clear hK K
    refine wpAnyH_take (i := 7) (v := ?_) rfl (by kernel_rfl) (by kernel_rfl) (by kernel_rfl) (fun _ _ _ h => h) (Or.inl ⟨by rfl, ?_⟩) (by assumption) ?_
    rotate_left
    · (intro w0 hSw; (try dsimp only at hSw); go_simp; try with_reducible rfl)
    try simp only [List.getElem_toArray, List.getElem_cons_succ, List.getElem_cons_zero, Act.put, List.setIfInBounds_toArray, List.set_cons_zero, List.set_cons_succ]
    refine wpAnyH_done (by kernel_rfl) ?_ _
    clear hHeld
    have F9 := Lib.hid ((stepB BV.out C3.out).trans (G9.out.below (B := w.heap.size) (fun k hk e => by have := HB3.out; omega) (Nat.le_trans BV.out.size C3.out.size)))
    go_wp2_with fail
    go_ret
    refine ⟨_, rfl, ?_, F9.out⟩
    have h := own_less O9.out HB3.out
    rw [← ints_append, ← List.flatten_append, ← HQN.out, sendL_len] at h
    have e : ([lockL x x.sh] ++ x.tch.map (newsL x)).length = 1 + x.tch.length := by simp [Nat.add_comm]
    unfold MsgR
    rw [AG.out, e]
    exact h
  · go_simp
    have O2 := Lib.hid (own_ints W1 3 [x.sh] (B := WV.heap.size) (n := 1) BD.out.size rfl (by simp))
    have B2 := Lib.hid (BD.out.alloc BD.out.size (.cells (i64s [x.sh]).toArray 3))
    refine hK.out _ _ ⟨XV.out.here B2.out, (XV.out.here B2.out).cell 5⟩ (fun hHeld => ?_)
    clear hK K
    generalize W1.heap.size = rb at O2 ⊢
    simp only [i64s, List.map_cons, List.map_nil] at O2 B2
    generalize W1.alloc (.cells #[.int .i64 x.sh] 3) = W2 at O2 B2 hHeld ⊢
    refine wpAnyH_ready (rs := [1]) (by kernel_rfl) (by simp) ?_
    refine AllReadyH.cons rfl (fun K hK => ?_) AllReadyH.nil
    go_simp
    refine (request_q x s q HQ.out _).mono ?_
    rintro e W3 ⟨rfl, hb⟩
    try go_simp
    have B3 := Lib.hid (B2.out.trans (hb.mono B2.out.size))
    have O3 := Lib.hid (own_step O2.out hb)
    clear hb
    refine hK.out _ _ ⟨XV.out.here B3.out, (XV.out.here B3.out).cell 5⟩ (fun hHeld => ?_)
    clear hK K
    refine wpAnyH_ready (rs := [5]) (by kernel_rfl) (by simp) ?_
    refine AllReadyH.cons rfl (fun K hK => ?_) AllReadyH.nil
    go_simp
    refine (send_any q [x.sh] LQ.out _ O3.out (by simp)).mono ?_
    rintro e W4 ⟨u, rfl, hu, hb⟩
    try go_simp
    have B4 := Lib.hid (B3.out.trans (hb.mono B3.out.size))
    have U4 := Lib.hid (own_less hu B3.out.size)
    clear hu
    clear hb
    refine hK.out _ _ ⟨XV.out.here B4.out, (XV.out.here B4.out).cell 5⟩ (fun hHeld => ?_)
    clear hK K
    refine wpAnyH_take (i := 6) (v := ?_) rfl (by kernel_rfl) (by kernel_rfl) (by kernel_rfl) (fun _ _ _ h => h) (Or.inl ⟨by rfl, ?_⟩) (by assumption) ?_
    rotate_left
    · (intro w0 hSw; (try dsimp only at hSw); go_simp; try with_reducible rfl)
    try simp only [List.getElem_toArray, List.getElem_cons_succ, List.getElem_cons_zero, Act.put, List.setIfInBounds_toArray, List.set_cons_zero, List.set_cons_succ]
    refine wpAnyH_done (by kernel_rfl) ?_ _
    clear hHeld
    have UL := Lib.hid (show MsgR W4 WV.heap.size u [lockL x x.sh] from by have h := U4.out; rw [← HQ.out] at h; exact h)
    have XL := Lib.hid (XV.out.here B4.out)
    have BL := Lib.hid (stepB BV.out B4.out)
    have TL := Lib.hid (TV.out.step B4.out)
    have GL := Lib.hid B4.out.size
    have b1e : ∃ b1, b1 = WV.heap.size := ⟨_, rfl⟩
    obtain ⟨b1, hb1⟩ := b1e
    have UU := Lib.hid (show MsgR W4 b1 u [lockL x x.sh] from by rw [hb1]; exact UL.out)
    have HB1 := Lib.hid (show b1 ≤ W4.heap.size from by rw [hb1]; exact GL.out)
    have HB2 := Lib.hid (show g < b1 from by rw [hb1]; exact XV.out.lt)
    have HB3 := Lib.hid (show w.heap.size ≤ b1 from by rw [hb1]; exact BV.out.size)
    clear hb1 c1 c4 XV BV TV BD B2 B3 B4 U4 UL GL SZ
    have XV := XL
    have BV := BL
    have TV := TL
    clear XL BL TL
    generalize W4 = WV at XV BV TV UU HB1 ⊢
    go_upto_region 7 with fail
    refine wp_region_held_drew (S := fun w' => Blk w' g 30 (trc x s) ∧ w'.cell? ⟨g, 9, none⟩ = some s.t) (by kernel_rfl) ⟨XV.out.drew, XV.out.drew.cell 9⟩ (fun hHeld => ?_)
    have BD := Lib.hid (show Below WV.heap.size WV WV.drew from (Below.refl _ _).drew)
    generalize WV.drew = V1 at BD hHeld ⊢
    refine wpAnyH_take (i := 0) (v := ?_) rfl (by kernel_rfl) (by kernel_rfl) (by kernel_rfl) (fun _ _ _ h => h) (Or.inl ⟨by rfl, ?_⟩) (by assumption) ?_
    rotate_left
    · (intro w0 hSw; (try dsimp only at hSw); go_simp; try with_reducible rfl)
    try simp only [List.getElem_toArray, List.getElem_cons_succ, List.getElem_cons_zero, Act.put, List.setIfInBounds_toArray, List.set_cons_zero, List.set_cons_succ]
    refine wpAnyH_take (i := 1) (v := .agg (trc x s)) rfl (by kernel_rfl) (by kernel_rfl) (by kernel_rfl) (fun _ _ _ h => h) (Or.inl ⟨by rfl, fun w0 hSw => exec_load (x := .tmp 2) rfl rfl (tr_load hSw.1)⟩) (by assumption) ?_
    try simp only [List.getElem_toArray, List.getElem_cons_succ, List.getElem_cons_zero, Act.put, List.setIfInBounds_toArray, List.set_cons_zero, List.set_cons_succ]
    refine wpAnyH_take (i := 3) (v := ?_) rfl (by kernel_rfl) (by kernel_rfl) (by kernel_rfl) (fun _ _ _ h => h) (Or.inl ⟨by rfl, ?_⟩) (by assumption) ?_
    rotate_left
    · (intro w0 hSw; (try dsimp only at hSw); go_simp; try with_reducible rfl)
    try simp only [List.getElem_toArray, List.getElem_cons_succ, List.getElem_cons_zero, Act.put, List.setIfInBounds_toArray, List.set_cons_zero, List.set_cons_succ]
    refine wpAnyH_take (i := 4) (v := ?_) rfl (by kernel_rfl) (by kernel_rfl) (by kernel_rfl) (fun _ _ _ h => h) (Or.inl ⟨by rfl, ?_⟩) (by assumption) ?_
    rotate_left
    · (intro w0 hSw; (try dsimp only at hSw); go_simp; try with_reducible rfl)
    try simp only [List.getElem_toArray, List.getElem_cons_succ, List.getElem_cons_zero, Act.put, List.setIfInBounds_toArray, List.set_cons_zero, List.set_cons_succ]
    refine wpAnyH_ready (rs := [2]) (by kernel_rfl) (by simp) ?_
    refine AllReadyH.cons rfl (fun K hK => ?_) AllReadyH.nil
    go_simp
    refine (news_q x s qn HQN.out _).mono ?_
    rintro e V2 ⟨rfl, hb⟩
    try go_simp
    have C2 := Lib.hid (BD.out.trans (hb.mono BD.out.size))
    clear hb
    refine hK.out _ _ ⟨XV.out.here C2.out, (XV.out.here C2.out).cell 9⟩ (fun hHeld => ?_)
    clear hK K
    refine wpAnyH_ready (rs := [5]) (by kernel_rfl) (by simp) ?_
    refine AllReadyH.cons rfl (fun K hK => ?_) AllReadyH.nil
    go_simp
    refine (send_any qn x.tch LQN.out _ (own_step TV.out.t C2.out) HST.out).mono ?_
    rintro e V3 ⟨u2, rfl, hu, hb⟩
    try go_simp
    have C3 := Lib.hid (C2.out.trans (hb.mono C2.out.size))
    have U3 := Lib.hid (own_less hu C2.out.size)
    clear hu
    clear hb
    refine hK.out _ _ ⟨XV.out.here C3.out, (XV.out.here C3.out).cell 9⟩ (fun hHeld => ?_)
    clear hK K
    obtain ⟨A2, c2, e2, RD2, _, _⟩ := own_rd U3.out
    subst e2
    have OU := Lib.hid (own_step UU.out C3.out)
    refine wpAnyH_ready (rs := [6]) (by kernel_rfl) (by simp) ?_
    refine AllReadyH.cons rfl (fun K hK => ?_) AllReadyH.nil
    refine step_append_any _ rfl (.tmp 19) (.tmp 24) _ rfl b1 42 i0 _ 28 224 Try.underlying35 hi0 hz0 hz1 hz2 (mc_size zM_length) (by omega) u 1 (ints [lockL x x.sh].flatten) rfl
      OU.out _ A2 (sendL qn x.tch).length c2 (ints (sendL qn x.tch).flatten) rfl RD2 (ints_one _) (by have := HST.out; simp only [maxLen, sendL_len]; omega) (by have := HST.out; rw [sendL_len]; omega) (Nat.le_trans HB1.out C3.out.size) ?_
    intro v9 W9 hown hg _
    have G9 := Lib.hid (show Turn (fun k => b1 ≤ k) V3 W9 from (Turn.refl _ _).grown hg (fun k hk _ => ownBlock_geT OU.out k hk))
    have O9 := Lib.hid hown
    clear hown hg
    have X9 := Lib.hid ((XV.out.here C3.out).turn G9.out (by have := HB2.out; omega))
    refine hK.out _ _ ⟨X9.out, X9.out.cell 9⟩ (fun hHeld => ?_)
    clear hK K
    refine wpAnyH_take (i := 7) (v := ?_) rfl (by kernel_rfl) (by kernel_rfl) (by kernel_rfl) (fun _ _ _ h => h) (Or.inl ⟨by rfl, ?_⟩) (by assumption) ?_
    rotate_left
    · (intro w0 hSw; (try dsimp only at hSw); go_simp; try with_reducible rfl)
    try simp only [List.getElem_toArray, List.getElem_cons_succ, List.getElem_cons_zero, Act.put, List.setIfInBounds_toArray, List.set_cons_zero, List.set_cons_succ]
    refine wpAnyH_done (by kernel_rfl) ?_ _
    clear hHeld
    have F9 := Lib.hid ((stepB BV.out C3.out).trans (G9.out.below (B := w.heap.size) (fun k hk e => by have := HB3.out; omega) (Nat.le_trans BV.out.size C3.out.size)))
    go_wp2_with fail
    go_ret
    refine ⟨_, rfl, ?_, F9.out⟩
    have h := own_less O9.out HB3.out
    rw [← ints_append, ← List.flatten_append, ← HQN.out, sendL_len] at h
    have e : ([lockL x x.sh] ++ x.tch.map (newsL x)).length = 1 + x.tch.length := by simp [Nat.add_comm]
    unfold MsgR
    rw [AG.out, e]
    exact h
set_option maxRecDepth 100000 in
set_option maxHeartbeats 16000000 in
theorem again_on {B : Nat} (x : Tr) (s : Sl) (al : Bool) (w : World) (h : Tm w B x s) (ht : Shs x.tch) (h1 : x.st = 1) (ho : x.op = true) (ha : al = false) :
    Calls Try.prog 11 #[.agg (trc x s), .bool al] w fun e w' => ∃ u, e = .returned u ∧ MsgR w' w.heap.size u (againL x al) ∧ Below w.heap.size w w' := by
  obtain ⟨i0, hi0, hz0, hz1, hz2⟩ := info_parts info_msg
  have XV := Lib.hid (Blk.new w 30 (trc x s))
  have BV := Lib.hid (Joins.below_alloc1 w (.cells (trc x s) 30))
  have TV := Lib.hid (h.step BV.out)
  have HT := Lib.hid ht
  have HST := Lib.hid (show x.tch.length ≤ 1000 from by have := ht.len; omega)
  obtain ⟨q, hq⟩ : ∃ q, lockL x 0 = q := ⟨_, rfl⟩
  obtain ⟨qn, hqn⟩ : ∃ q, newsL x 0 = q := ⟨_, rfl⟩
  have HQ := Lib.hid hq
  have HQN := Lib.hid hqn
  have LQ := Lib.hid (show q.length = 28 from by rw [← hq]; rfl)
  have LQN := Lib.hid (show qn.length = 28 from by rw [← hqn]; rfl)
  have e1 : (x.st == 1) = true := by simpa using h1
  have HO := Lib.hid ho
  subst ha
  have AG := Lib.hid (show againL x false = [lockL x x.sh] from by unfold againL; rw [if_pos h1, if_pos ho, if_neg (by simp)]; rfl)
  clear h1 ho
  clear h ht hq hqn
  go_enter Try.func11, Try.ntmps11
  go_upto_region 1 with fail
  obtain ⟨g, hg⟩ : ∃ g, g = w.heap.size := ⟨_, rfl⟩
  have HG := Lib.hid hg
  rw [← hg] at XV ⊢
  clear hg
  have SZ := Lib.hid (show (w.alloc (.cells (trc x s) 30)).heap.size = g + 1 from by rw [HG.out]; simp)
  generalize w.alloc (.cells (trc x s) 30) = WV at XV BV TV SZ ⊢
  have c1 : WV.cell? ⟨g, 1, none⟩ = some (.int .i64 x.st) := XV.out.cell 1
  have c4 : WV.cell? ⟨g, 4, none⟩ = some (.bool true) := by rw [← HO.out]; exact XV.out.cell 4
  go_upto_region 5 with fail
  refine wp_region_held_drew (S := fun w' => Blk w' g 30 (trc x s) ∧ w'.cell? ⟨g, 5, none⟩ = some (.int .i64 x.sh)) (by kernel_rfl) ⟨XV.out.drew, XV.out.drew.cell 5⟩ (fun hHeld => ?_)
  have BD := Lib.hid (show Below WV.heap.size WV WV.drew from (Below.refl _ _).drew)
  generalize WV.drew = W1 at BD hHeld ⊢
  refine wpAnyH_take (i := 0) (v := .agg (trc x s)) rfl (by kernel_rfl) (by kernel_rfl) (by kernel_rfl) (fun _ _ _ h => h) (Or.inl ⟨by rfl, fun w0 hSw => exec_load (x := .tmp 2) rfl rfl (tr_load hSw.1)⟩) (by assumption) ?_
  try simp only [List.getElem_toArray, List.getElem_cons_succ, List.getElem_cons_zero, Act.put, List.setIfInBounds_toArray, List.set_cons_zero, List.set_cons_succ]
  refine wpAnyH_take (i := 2) (v := ?_) rfl (by kernel_rfl) (by kernel_rfl) (by kernel_rfl) (fun _ _ _ h => h) (Or.inl ⟨by rfl, ?_⟩) (by assumption) ?_
  rotate_left
  · (intro w0 hSw; (try dsimp only at hSw); go_simp; try with_reducible rfl)
  try simp only [List.getElem_toArray, List.getElem_cons_succ, List.getElem_cons_zero, Act.put, List.setIfInBounds_toArray, List.set_cons_zero, List.set_cons_succ]
  refine wpAnyH_take (i := 3) (v := ?_) rfl (by kernel_rfl) (by kernel_rfl) (by kernel_rfl) (fun _ _ _ h => h) (Or.inl ⟨by rfl, ?_⟩) (by assumption) ?_
  rotate_left
  · (intro w0 hSw; (try dsimp only at hSw); go_simp; try with_reducible rfl)
  try simp only [List.getElem_toArray, List.getElem_cons_succ, List.getElem_cons_zero, Act.put, List.setIfInBounds_toArray, List.set_cons_zero, List.set_cons_succ]
  refine wpAnyH_ready (rs := [1, 4]) (by kernel_rfl) (by simp) ?_
  refine AllReadyH.cons rfl (fun K hK => ?_) (AllReadyH.cons rfl (fun K hK => ?_) AllReadyH.nil)
  · go_simp
    refine (request_q x s q HQ.out _).mono ?_
    rintro e W2 ⟨rfl, hb⟩
    try go_simp
    have B2 := Lib.hid (BD.out.trans (hb.mono BD.out.size))
    clear hb
    refine hK.out _ _ ⟨XV.out.here B2.out, (XV.out.here B2.out).cell 5⟩ (fun hHeld => ?_)
    clear hK K
    refine wpAnyH_ready (rs := [4]) (by kernel_rfl) (by simp) ?_
    refine AllReadyH.cons rfl (fun K hK => ?_) AllReadyH.nil
    go_simp
    have O3 := Lib.hid (own_ints W2 3 [x.sh] (B := WV.heap.size) (n := 1) B2.out.size rfl (by simp))
    have B3 := Lib.hid (B2.out.alloc B2.out.size (.cells (i64s [x.sh]).toArray 3))
    refine hK.out _ _ ⟨XV.out.here B3.out, (XV.out.here B3.out).cell 5⟩ (fun hHeld => ?_)
    clear hK K
    generalize W2.heap.size = rb at O3 ⊢
    simp only [i64s, List.map_cons, List.map_nil] at O3 B3
    generalize W2.alloc (.cells #[.int .i64 x.sh] 3) = W3 at O3 B3 hHeld ⊢
    refine wpAnyH_ready (rs := [5]) (by kernel_rfl) (by simp) ?_
    refine AllReadyH.cons rfl (fun K hK => ?_) AllReadyH.nil
    go_simp
    refine (send_any q [x.sh] LQ.out _ O3.out (by simp)).mono ?_
    rintro e W4 ⟨u, rfl, hu, hb⟩
    try go_simp
    have B4 := Lib.hid (B3.out.trans (hb.mono B3.out.size))
    have U4 := Lib.hid (own_less hu B3.out.size)
    clear hu
    clear hb
    refine hK.out _ _ ⟨XV.out.here B4.out, (XV.out.here B4.out).cell 5⟩ (fun hHeld => ?_)
    clear hK K
    refine wpAnyH_take (i := 6) (v := ?_) rfl (by kernel_rfl) (by kernel_rfl) (by kernel_rfl) (fun _ _ _ h => h) (Or.inl ⟨by rfl, ?_⟩) (by assumption) ?_
    rotate_left
    · (intro w0 hSw; (try dsimp only at hSw); go_simp; try with_reducible rfl)
    try simp only [List.getElem_toArray, List.getElem_cons_succ, List.getElem_cons_zero, Act.put, List.setIfInBounds_toArray, List.set_cons_zero, List.set_cons_succ]
    refine wpAnyH_done (by kernel_rfl) ?_ _
    clear hHeld
    have UL := Lib.hid (show MsgR W4 WV.heap.size u [lockL x x.sh] from by have h := U4.out; rw [← HQ.out] at h; exact h)
    have XL := Lib.hid (XV.out.here B4.out)
    have BL := Lib.hid (stepB BV.out B4.out)
    have TL := Lib.hid (TV.out.step B4.out)
    have GL := Lib.hid B4.out.size
    go_wp2_with fail
    go_ret
    exact ⟨_, rfl, by rw [AG.out]; exact own_less UL.out BV.out.size, BL.out⟩
  · go_simp
    have O2 := Lib.hid (own_ints W1 3 [x.sh] (B := WV.heap.size) (n := 1) BD.out.size rfl (by simp))
    have B2 := Lib.hid (BD.out.alloc BD.out.size (.cells (i64s [x.sh]).toArray 3))
    refine hK.out _ _ ⟨XV.out.here B2.out, (XV.out.here B2.out).cell 5⟩ (fun hHeld => ?_)
    clear hK K
    generalize W1.heap.size = rb at O2 ⊢
    simp only [i64s, List.map_cons, List.map_nil] at O2 B2
    generalize W1.alloc (.cells #[.int .i64 x.sh] 3) = W2 at O2 B2 hHeld ⊢
    refine wpAnyH_ready (rs := [1]) (by kernel_rfl) (by simp) ?_
    refine AllReadyH.cons rfl (fun K hK => ?_) AllReadyH.nil
    go_simp
    refine (request_q x s q HQ.out _).mono ?_
    rintro e W3 ⟨rfl, hb⟩
    try go_simp
    have B3 := Lib.hid (B2.out.trans (hb.mono B2.out.size))
    have O3 := Lib.hid (own_step O2.out hb)
    clear hb
    refine hK.out _ _ ⟨XV.out.here B3.out, (XV.out.here B3.out).cell 5⟩ (fun hHeld => ?_)
    clear hK K
    refine wpAnyH_ready (rs := [5]) (by kernel_rfl) (by simp) ?_
    refine AllReadyH.cons rfl (fun K hK => ?_) AllReadyH.nil
    go_simp
    refine (send_any q [x.sh] LQ.out _ O3.out (by simp)).mono ?_
    rintro e W4 ⟨u, rfl, hu, hb⟩
    try go_simp
    have B4 := Lib.hid (B3.out.trans (hb.mono B3.out.size))
    have U4 := Lib.hid (own_less hu B3.out.size)
    clear hu
    clear hb
    refine hK.out _ _ ⟨XV.out.here B4.out, (XV.out.here B4.out).cell 5⟩ (fun hHeld => ?_)
    clear hK K
    refine wpAnyH_take (i := 6) (v := ?_) rfl (by kernel_rfl) (by kernel_rfl) (by kernel_rfl) (fun _ _ _ h => h) (Or.inl ⟨by rfl, ?_⟩) (by assumption) ?_
    rotate_left
    · (intro w0 hSw; (try dsimp only at hSw); go_simp; try with_reducible rfl)
    try simp only [List.getElem_toArray, List.getElem_cons_succ, List.getElem_cons_zero, Act.put, List.setIfInBounds_toArray, List.set_cons_zero, List.set_cons_succ]
    refine wpAnyH_done (by kernel_rfl) ?_ _
    clear hHeld
    have UL := Lib.hid (show MsgR W4 WV.heap.size u [lockL x x.sh] from by have h := U4.out; rw [← HQ.out] at h; exact h)
    have XL := Lib.hid (XV.out.here B4.out)
    have BL := Lib.hid (stepB BV.out B4.out)
    have TL := Lib.hid (TV.out.step B4.out)
    have GL := Lib.hid B4.out.size
    go_wp2_with fail
    go_ret
    exact ⟨_, rfl, by rw [AG.out]; exact own_less UL.out BV.out.size, BL.out⟩
set_option maxRecDepth 100000 in
set_option maxHeartbeats 16000000 in
theorem again_na {B : Nat} (x : Tr) (s : Sl) (al : Bool) (w : World) (h : Tm w B x s) (ht : Shs x.tch) (h1 : x.st = 1) (ho : x.op = false) (ha : al = true) :
    Calls Try.prog 11 #[.agg (trc x s), .bool al] w fun e w' => ∃ u, e = .returned u ∧ MsgR w' w.heap.size u (againL x al) ∧ Below w.heap.size w w' := by
  obtain ⟨i0, hi0, hz0, hz1, hz2⟩ := info_parts info_msg
  have XV := Lib.hid (Blk.new w 30 (trc x s))
  have BV := Lib.hid (Joins.below_alloc1 w (.cells (trc x s) 30))
  have TV := Lib.hid (h.step BV.out)
  have HT := Lib.hid ht
  have HST := Lib.hid (show x.tch.length ≤ 1000 from by have := ht.len; omega)
  obtain ⟨q, hq⟩ : ∃ q, lockL x 0 = q := ⟨_, rfl⟩
  obtain ⟨qn, hqn⟩ : ∃ q, newsL x 0 = q := ⟨_, rfl⟩
  have HQ := Lib.hid hq
  have HQN := Lib.hid hqn
  have LQ := Lib.hid (show q.length = 28 from by rw [← hq]; rfl)
  have LQN := Lib.hid (show qn.length = 28 from by rw [← hqn]; rfl)
  have e1 : (x.st == 1) = true := by simpa using h1
  have HO := Lib.hid ho
  subst ha
  have AG := Lib.hid (show againL x true = [] ++ x.tch.map (newsL x) from by unfold againL; rw [if_pos h1, if_neg (by simp [ho]), if_pos rfl])
  clear h1 ho
  clear h ht hq hqn
  go_enter Try.func11, Try.ntmps11
  go_upto_region 1 with fail
  obtain ⟨g, hg⟩ : ∃ g, g = w.heap.size := ⟨_, rfl⟩
  have HG := Lib.hid hg
  rw [← hg] at XV ⊢
  clear hg
  have SZ := Lib.hid (show (w.alloc (.cells (trc x s) 30)).heap.size = g + 1 from by rw [HG.out]; simp)
  generalize w.alloc (.cells (trc x s) 30) = WV at XV BV TV SZ ⊢
  have c1 : WV.cell? ⟨g, 1, none⟩ = some (.int .i64 x.st) := XV.out.cell 1
  have c4 : WV.cell? ⟨g, 4, none⟩ = some (.bool false) := by rw [← HO.out]; exact XV.out.cell 4
  obtain ⟨b1, hb1⟩ : ∃ b1, b1 = WV.heap.size := ⟨_, rfl⟩
  have UU := Lib.hid (show MsgR WV b1 (.slice none 0 0) [] from World.ownsRow_nil _ _ _ _)
  have HB1 := Lib.hid (show b1 ≤ WV.heap.size from by rw [hb1]; exact Nat.le_refl _)
  have HB2 := Lib.hid (show g < b1 from by rw [hb1]; exact XV.out.lt)
  have HB3 := Lib.hid (show w.heap.size ≤ b1 from by rw [hb1]; exact BV.out.size)
  clear hb1 SZ
  go_upto_region 7 with fail
  clear c1 c4
  refine wp_region_held_drew (S := fun w' => Blk w' g 30 (trc x s) ∧ w'.cell? ⟨g, 9, none⟩ = some s.t) (by kernel_rfl) ⟨XV.out.drew, XV.out.drew.cell 9⟩ (fun hHeld => ?_)
  have BD := Lib.hid (show Below WV.heap.size WV WV.drew from (Below.refl _ _).drew)
  generalize WV.drew = V1 at BD hHeld ⊢
  refine wpAnyH_take (i := 0) (v := ?_) rfl (by kernel_rfl) (by kernel_rfl) (by kernel_rfl) (fun _ _ _ h => h) (Or.inl ⟨by rfl, ?_⟩) (by assumption) ?_
  rotate_left
  · (intro w0 hSw; (try dsimp only at hSw); go_simp; try with_reducible rfl)
  try simp only [List.getElem_toArray, List.getElem_cons_succ, List.getElem_cons_zero, Act.put, List.setIfInBounds_toArray, List.set_cons_zero, List.set_cons_succ]
  refine wpAnyH_take (i := 1) (v := .agg (trc x s)) rfl (by kernel_rfl) (by kernel_rfl) (by kernel_rfl) (fun _ _ _ h => h) (Or.inl ⟨by rfl, fun w0 hSw => exec_load (x := .tmp 2) rfl rfl (tr_load hSw.1)⟩) (by assumption) ?_
  try simp only [List.getElem_toArray, List.getElem_cons_succ, List.getElem_cons_zero, Act.put, List.setIfInBounds_toArray, List.set_cons_zero, List.set_cons_succ]
  refine wpAnyH_take (i := 3) (v := ?_) rfl (by kernel_rfl) (by kernel_rfl) (by kernel_rfl) (fun _ _ _ h => h) (Or.inl ⟨by rfl, ?_⟩) (by assumption) ?_
  rotate_left
  · (intro w0 hSw; (try dsimp only at hSw); go_simp; try with_reducible rfl)
  try simp only [List.getElem_toArray, List.getElem_cons_succ, List.getElem_cons_zero, Act.put, List.setIfInBounds_toArray, List.set_cons_zero, List.set_cons_succ]
  refine wpAnyH_take (i := 4) (v := ?_) rfl (by kernel_rfl) (by kernel_rfl) (by kernel_rfl) (fun _ _ _ h => h) (Or.inl ⟨by rfl, ?_⟩) (by assumption) ?_
  rotate_left
  · (intro w0 hSw; (try dsimp only at hSw); go_simp; try with_reducible rfl)
  try simp only [List.getElem_toArray, List.getElem_cons_succ, List.getElem_cons_zero, Act.put, List.setIfInBounds_toArray, List.set_cons_zero, List.set_cons_succ]
  refine wpAnyH_ready (rs := [2]) (by kernel_rfl) (by simp) ?_
  refine AllReadyH.cons rfl (fun K hK => ?_) AllReadyH.nil
  go_simp
  refine (news_q x s qn HQN.out _).mono ?_
  rintro e V2 ⟨rfl, hb⟩
  try go_simp
  have C2 := Lib.hid (BD.out.trans (hb.mono BD.out.size))
  clear hb
  refine hK.out _ _ ⟨XV.out.here C2.out, (XV.out.here C2.out).cell 9⟩ (fun hHeld => ?_)
  clear hK K
  refine wpAnyH_ready (rs := [5]) (by kernel_rfl) (by simp) ?_
  refine AllReadyH.cons rfl (fun K hK => ?_) AllReadyH.nil
  go_simp
  refine (send_any qn x.tch LQN.out _ (own_step TV.out.t C2.out) HST.out).mono ?_
  rintro e V3 ⟨u2, rfl, hu, hb⟩
  try go_simp
  have C3 := Lib.hid (C2.out.trans (hb.mono C2.out.size))
  have U3 := Lib.hid (own_less hu C2.out.size)
  clear hu
  clear hb
  refine hK.out _ _ ⟨XV.out.here C3.out, (XV.out.here C3.out).cell 9⟩ (fun hHeld => ?_)
  clear hK K
  obtain ⟨A2, c2, e2, RD2, _, _⟩ := own_rd U3.out
  subst e2
  have OU := Lib.hid (own_step UU.out C3.out)
  refine wpAnyH_ready (rs := [6]) (by kernel_rfl) (by simp) ?_
  refine AllReadyH.cons rfl (fun K hK => ?_) AllReadyH.nil
  refine step_append_any _ rfl (.tmp 19) (.tmp 24) _ rfl b1 42 i0 _ 28 224 Try.underlying35 hi0 hz0 hz1 hz2 (mc_size zM_length) (by omega) (.slice none 0 0) 0 (ints ([] : List (List Int)).flatten) rfl
    OU.out _ A2 (sendL qn x.tch).length c2 (ints (sendL qn x.tch).flatten) rfl RD2 (ints_one _) (by have := HST.out; simp only [maxLen, sendL_len]; omega) (by have := HST.out; rw [sendL_len]; omega) (Nat.le_trans HB1.out C3.out.size) ?_
  intro v9 W9 hown hg _
  have G9 := Lib.hid (show Turn (fun k => b1 ≤ k) V3 W9 from (Turn.refl _ _).grown hg (fun k hk _ => ownBlock_geT OU.out k hk))
  have O9 := Lib.hid hown
  clear hown hg
  have X9 := Lib.hid ((XV.out.here C3.out).turn G9.out (by have := HB2.out; omega))
  refine hK.out _ _ ⟨X9.out, X9.out.cell 9⟩ (fun hHeld => ?_)
  clear hK K
  refine wpAnyH_take (i := 7) (v := ?_) rfl (by kernel_rfl) (by kernel_rfl) (by kernel_rfl) (fun _ _ _ h => h) (Or.inl ⟨by rfl, ?_⟩) (by assumption) ?_
  rotate_left
  · (intro w0 hSw; (try dsimp only at hSw); go_simp; try with_reducible rfl)
  try simp only [List.getElem_toArray, List.getElem_cons_succ, List.getElem_cons_zero, Act.put, List.setIfInBounds_toArray, List.set_cons_zero, List.set_cons_succ]
  refine wpAnyH_done (by kernel_rfl) ?_ _
  clear hHeld
  have F9 := Lib.hid ((stepB BV.out C3.out).trans (G9.out.below (B := w.heap.size) (fun k hk e => by have := HB3.out; omega) (Nat.le_trans BV.out.size C3.out.size)))
  go_wp2_with fail
  go_ret
  refine ⟨_, rfl, ?_, F9.out⟩
  have h := own_less O9.out HB3.out
  rw [← ints_append, ← List.flatten_append, ← HQN.out, sendL_len] at h
  have e : (([] : List (List Int)) ++ x.tch.map (newsL x)).length = 0 + x.tch.length := by simp [Nat.add_comm]
  unfold MsgR
  rw [AG.out, e]
  exact h
set_option maxRecDepth 100000 in
set_option maxHeartbeats 16000000 in
theorem again_nn {B : Nat} (x : Tr) (s : Sl) (al : Bool) (w : World) (h : Tm w B x s) (ht : Shs x.tch) (h1 : x.st = 1) (ho : x.op = false) (ha : al = false) :
    Calls Try.prog 11 #[.agg (trc x s), .bool al] w fun e w' => ∃ u, e = .returned u ∧ MsgR w' w.heap.size u (againL x al) ∧ Below w.heap.size w w' := by
  obtain ⟨i0, hi0, hz0, hz1, hz2⟩ := info_parts info_msg
  have XV := Lib.hid (Blk.new w 30 (trc x s))
  have BV := Lib.hid (Joins.below_alloc1 w (.cells (trc x s) 30))
  have TV := Lib.hid (h.step BV.out)
  have HT := Lib.hid ht
  have HST := Lib.hid (show x.tch.length ≤ 1000 from by have := ht.len; omega)
  obtain ⟨q, hq⟩ : ∃ q, lockL x 0 = q := ⟨_, rfl⟩
  obtain ⟨qn, hqn⟩ : ∃ q, newsL x 0 = q := ⟨_, rfl⟩
  have HQ := Lib.hid hq
  have HQN := Lib.hid hqn
  have LQ := Lib.hid (show q.length = 28 from by rw [← hq]; rfl)
  have LQN := Lib.hid (show qn.length = 28 from by rw [← hqn]; rfl)
  have e1 : (x.st == 1) = true := by simpa using h1
  have HO := Lib.hid ho
  subst ha
  have AG := Lib.hid (show againL x false = [] from by unfold againL; rw [if_pos h1, if_neg (by simp [ho]), if_neg (by simp)]; rfl)
  clear h1 ho
  clear h ht hq hqn
  go_enter Try.func11, Try.ntmps11
  go_upto_region 1 with fail
  obtain ⟨g, hg⟩ : ∃ g, g = w.heap.size := ⟨_, rfl⟩
  have HG := Lib.hid hg
  rw [← hg] at XV ⊢
  clear hg
  have SZ := Lib.hid (show (w.alloc (.cells (trc x s) 30)).heap.size = g + 1 from by rw [HG.out]; simp)
  generalize w.alloc (.cells (trc x s) 30) = WV at XV BV TV SZ ⊢
  have c1 : WV.cell? ⟨g, 1, none⟩ = some (.int .i64 x.st) := XV.out.cell 1
  have c4 : WV.cell? ⟨g, 4, none⟩ = some (.bool false) := by rw [← HO.out]; exact XV.out.cell 4
  go_wp2_with fail
  go_ret
  exact ⟨_, rfl, by rw [AG.out]; exact World.ownsRow_nil _ _ _ _, BV.out⟩
set_option maxRecDepth 100000 in
set_option maxHeartbeats 16000000 in
theorem again_2 {B : Nat} (x : Tr) (s : Sl) (al : Bool) (w : World) (h : Tm w B x s) (ht : Shs x.tch) (h2 : x.st = 2) (hv : Shs x.vts) (lw : List Int) (hlw : withoutL x.tch x.vts = lw) :
    Calls Try.prog 11 #[.agg (trc x s), .bool al] w fun e w' => ∃ u, e = .returned u ∧ MsgR w' w.heap.size u (againL x al) ∧ Below w.heap.size w w' := by
  obtain ⟨i0, hi0, hz0, hz1, hz2⟩ := info_parts info_msg
  have XV := Lib.hid (Blk.new w 30 (trc x s))
  have BV := Lib.hid (Joins.below_alloc1 w (.cells (trc x s) 30))
  have TV := Lib.hid (h.step BV.out)
  have HT := Lib.hid ht
  have HST := Lib.hid (show x.tch.length ≤ 1000 from by have := ht.len; omega)
  obtain ⟨q, hq⟩ : ∃ q, lockL x 0 = q := ⟨_, rfl⟩
  obtain ⟨qn, hqn⟩ : ∃ q, newsL x 0 = q := ⟨_, rfl⟩
  have HQ := Lib.hid hq
  have HQN := Lib.hid hqn
  have LQ := Lib.hid (show q.length = 28 from by rw [← hq]; rfl)
  have LQN := Lib.hid (show qn.length = 28 from by rw [← hqn]; rfl)
  have e1 : (x.st == 1) = false := by simp; omega
  have e2 : (x.st == 2) = true := by simpa using h2
  have HVS := Lib.hid hv
  have HLW := Lib.hid hlw
  have HLL := Lib.hid (show lw.length ≤ 1000 from by rw [← hlw]; have h1 : (withoutL x.tch x.vts).length ≤ x.tch.length := List.length_filter_le _ _; have := ht.len; omega)
  have AG := Lib.hid (show againL x al = lw.map (newsL x) from by unfold againL; rw [if_neg (by omega), if_pos h2, hlw])
  clear h2 hv hlw
  clear h ht hq hqn
  go_enter Try.func11, Try.ntmps11
  go_upto_region 1 with fail
  obtain ⟨g, hg⟩ : ∃ g, g = w.heap.size := ⟨_, rfl⟩
  have HG := Lib.hid hg
  rw [← hg] at XV ⊢
  clear hg
  have SZ := Lib.hid (show (w.alloc (.cells (trc x s) 30)).heap.size = g + 1 from by rw [HG.out]; simp)
  generalize w.alloc (.cells (trc x s) 30) = WV at XV BV TV SZ ⊢
  have c1 : WV.cell? ⟨g, 1, none⟩ = some (.int .i64 x.st) := XV.out.cell 1
  go_upto_region 9 with fail
  clear c1
  refine wp_region_held_drew (S := fun w' => Blk w' g 30 (trc x s) ∧ w'.cell? ⟨g, 9, none⟩ = some s.t ∧ w'.cell? ⟨g, 10, none⟩ = some s.v) (by kernel_rfl) ⟨XV.out.drew, XV.out.drew.cell 9, XV.out.drew.cell 10⟩ (fun hHeld => ?_)
  have BD := Lib.hid (show Below WV.heap.size WV WV.drew from (Below.refl _ _).drew)
  generalize WV.drew = V1 at BD hHeld ⊢
  refine wpAnyH_take (i := 0) (v := .agg (trc x s)) rfl (by kernel_rfl) (by kernel_rfl) (by kernel_rfl) (fun _ _ _ h => h) (Or.inl ⟨by rfl, fun w0 hSw => exec_load (x := .tmp 2) rfl rfl (tr_load hSw.1)⟩) (by assumption) ?_
  try simp only [List.getElem_toArray, List.getElem_cons_succ, List.getElem_cons_zero, Act.put, List.setIfInBounds_toArray, List.set_cons_zero, List.set_cons_succ]
  refine wpAnyH_take (i := 2) (v := ?_) rfl (by kernel_rfl) (by kernel_rfl) (by kernel_rfl) (fun _ _ _ h => h) (Or.inl ⟨by rfl, ?_⟩) (by assumption) ?_
  rotate_left
  · (intro w0 hSw; (try dsimp only at hSw); go_simp; try with_reducible rfl)
  try simp only [List.getElem_toArray, List.getElem_cons_succ, List.getElem_cons_zero, Act.put, List.setIfInBounds_toArray, List.set_cons_zero, List.set_cons_succ]
  refine wpAnyH_take (i := 3) (v := ?_) rfl (by kernel_rfl) (by kernel_rfl) (by kernel_rfl) (fun _ _ _ h => h) (Or.inl ⟨by rfl, ?_⟩) (by assumption) ?_
  rotate_left
  · (intro w0 hSw; (try dsimp only at hSw); go_simp; try with_reducible rfl)
  try simp only [List.getElem_toArray, List.getElem_cons_succ, List.getElem_cons_zero, Act.put, List.setIfInBounds_toArray, List.set_cons_zero, List.set_cons_succ]
  refine wpAnyH_take (i := 4) (v := ?_) rfl (by kernel_rfl) (by kernel_rfl) (by kernel_rfl) (fun _ _ _ h => h) (Or.inl ⟨by rfl, ?_⟩) (by assumption) ?_
  rotate_left
  · (intro w0 hSw; (try dsimp only at hSw); go_simp; try with_reducible rfl)
  try simp only [List.getElem_toArray, List.getElem_cons_succ, List.getElem_cons_zero, Act.put, List.setIfInBounds_toArray, List.set_cons_zero, List.set_cons_succ]
  refine wpAnyH_take (i := 5) (v := ?_) rfl (by kernel_rfl) (by kernel_rfl) (by kernel_rfl) (fun _ _ _ h => h) (Or.inl ⟨by rfl, ?_⟩) (by assumption) ?_
  rotate_left
  · (intro w0 hSw; (try dsimp only at hSw); go_simp; try with_reducible rfl)
  try simp only [List.getElem_toArray, List.getElem_cons_succ, List.getElem_cons_zero, Act.put, List.setIfInBounds_toArray, List.set_cons_zero, List.set_cons_succ]
  refine wpAnyH_ready (rs := [1]) (by kernel_rfl) (by simp) ?_
  refine AllReadyH.cons rfl (fun K hK => ?_) AllReadyH.nil
  go_simp
  refine (news_q x s qn HQN.out _).mono ?_
  rintro e V2 ⟨rfl, hb⟩
  try go_simp
  have C2 := Lib.hid (BD.out.trans (hb.mono BD.out.size))
  clear hb
  refine hK.out _ _ ⟨XV.out.here C2.out, (XV.out.here C2.out).cell 9, (XV.out.here C2.out).cell 10⟩ (fun hHeld => ?_)
  clear hK K
  refine wpAnyH_ready (rs := [6]) (by kernel_rfl) (by simp) ?_
  refine AllReadyH.cons rfl (fun K hK => ?_) AllReadyH.nil
  go_simp
  refine (without_l _ _ _ (own_step TV.out.t C2.out) (own_step TV.out.v C2.out) HT.out HVS.out lw HLW.out).mono ?_
  rintro e V3 ⟨z, rfl, hz, hb⟩
  try go_simp
  have C3 := Lib.hid (C2.out.trans (hb.mono C2.out.size))
  have Z3 := Lib.hid hz
  clear hz
  clear hb
  refine hK.out _ _ ⟨XV.out.here C3.out, (XV.out.here C3.out).cell 9, (XV.out.here C3.out).cell 10⟩ (fun hHeld => ?_)
  clear hK K
  refine wpAnyH_ready (rs := [7]) (by kernel_rfl) (by simp) ?_
  refine AllReadyH.cons rfl (fun K hK => ?_) AllReadyH.nil
  go_simp
  refine (send_any qn lw LQN.out _ Z3.out HLL.out).mono ?_
  rintro e V4 ⟨u, rfl, hu, hb⟩
  try go_simp
  have C4 := Lib.hid (C3.out.trans (hb.mono C3.out.size))
  have U4 := Lib.hid (own_less hu C3.out.size)
  clear hu
  clear hb
  refine hK.out _ _ ⟨XV.out.here C4.out, (XV.out.here C4.out).cell 9, (XV.out.here C4.out).cell 10⟩ (fun hHeld => ?_)
  clear hK K
  refine wpAnyH_take (i := 8) (v := ?_) rfl (by kernel_rfl) (by kernel_rfl) (by kernel_rfl) (fun _ _ _ h => h) (Or.inl ⟨by rfl, ?_⟩) (by assumption) ?_
  rotate_left
  · (intro w0 hSw; (try dsimp only at hSw); go_simp; try with_reducible rfl)
  try simp only [List.getElem_toArray, List.getElem_cons_succ, List.getElem_cons_zero, Act.put, List.setIfInBounds_toArray, List.set_cons_zero, List.set_cons_succ]
  refine wpAnyH_done (by kernel_rfl) ?_ _
  clear hHeld
  have F4 := Lib.hid (stepB BV.out C4.out)
  go_wp2_with fail
  go_ret
  exact ⟨_, rfl, by rw [AG.out]; have h := own_less U4.out BV.out.size; rw [← HQN.out] at h; exact h, F4.out⟩
set_option maxRecDepth 100000 in
set_option maxHeartbeats 16000000 in
theorem again_3 {B : Nat} (x : Tr) (s : Sl) (al : Bool) (w : World) (h : Tm w B x s) (ht : Shs x.tch) (h3 : x.st = 3) (hv : Shs x.acks) (lw : List Int) (hlw : withoutL x.tch x.acks = lw) :
    Calls Try.prog 11 #[.agg (trc x s), .bool al] w fun e w' => ∃ u, e = .returned u ∧ MsgR w' w.heap.size u (againL x al) ∧ Below w.heap.size w w' := by
  obtain ⟨i0, hi0, hz0, hz1, hz2⟩ := info_parts info_msg
  have XV := Lib.hid (Blk.new w 30 (trc x s))
  have BV := Lib.hid (Joins.below_alloc1 w (.cells (trc x s) 30))
  have TV := Lib.hid (h.step BV.out)
  have HT := Lib.hid ht
  have HST := Lib.hid (show x.tch.length ≤ 1000 from by have := ht.len; omega)
  obtain ⟨q, hq⟩ : ∃ q, lockL x 0 = q := ⟨_, rfl⟩
  obtain ⟨qn, hqn⟩ : ∃ q, newsL x 0 = q := ⟨_, rfl⟩
  have HQ := Lib.hid hq
  have HQN := Lib.hid hqn
  have LQ := Lib.hid (show q.length = 28 from by rw [← hq]; rfl)
  have LQN := Lib.hid (show qn.length = 28 from by rw [← hqn]; rfl)
  have e1 : (x.st == 1) = false := by simp; omega
  have e2 : (x.st == 2) = false := by simp; omega
  have e3 : (x.st == 3) = true := by simpa using h3
  have HVS := Lib.hid hv
  have HLW := Lib.hid hlw
  have HLL := Lib.hid (show lw.length ≤ 1000 from by rw [← hlw]; have h1 : (withoutL x.tch x.acks).length ≤ x.tch.length := List.length_filter_le _ _; have := ht.len; omega)
  have AG := Lib.hid (show againL x al = lw.map (newsL x) from by unfold againL; rw [if_neg (by omega), if_neg (by omega), if_pos (by omega), hlw])
  clear h3 hv hlw
  clear h ht hq hqn
  go_enter Try.func11, Try.ntmps11
  go_upto_region 1 with fail
  obtain ⟨g, hg⟩ : ∃ g, g = w.heap.size := ⟨_, rfl⟩
  have HG := Lib.hid hg
  rw [← hg] at XV ⊢
  clear hg
  have SZ := Lib.hid (show (w.alloc (.cells (trc x s) 30)).heap.size = g + 1 from by rw [HG.out]; simp)
  generalize w.alloc (.cells (trc x s) 30) = WV at XV BV TV SZ ⊢
  have c1 : WV.cell? ⟨g, 1, none⟩ = some (.int .i64 x.st) := XV.out.cell 1
  go_upto_region 12 with fail
  clear c1
  refine wp_region_held_drew (S := fun w' => Blk w' g 30 (trc x s) ∧ w'.cell? ⟨g, 9, none⟩ = some s.t ∧ w'.cell? ⟨g, 11, none⟩ = some s.k) (by kernel_rfl) ⟨XV.out.drew, XV.out.drew.cell 9, XV.out.drew.cell 11⟩ (fun hHeld => ?_)
  have BD := Lib.hid (show Below WV.heap.size WV WV.drew from (Below.refl _ _).drew)
  generalize WV.drew = V1 at BD hHeld ⊢
  refine wpAnyH_take (i := 0) (v := .agg (trc x s)) rfl (by kernel_rfl) (by kernel_rfl) (by kernel_rfl) (fun _ _ _ h => h) (Or.inl ⟨by rfl, fun w0 hSw => exec_load (x := .tmp 2) rfl rfl (tr_load hSw.1)⟩) (by assumption) ?_
  try simp only [List.getElem_toArray, List.getElem_cons_succ, List.getElem_cons_zero, Act.put, List.setIfInBounds_toArray, List.set_cons_zero, List.set_cons_succ]
  refine wpAnyH_take (i := 2) (v := ?_) rfl (by kernel_rfl) (by kernel_rfl) (by kernel_rfl) (fun _ _ _ h => h) (Or.inl ⟨by rfl, ?_⟩) (by assumption) ?_
  rotate_left
  · (intro w0 hSw; (try dsimp only at hSw); go_simp; try with_reducible rfl)
  try simp only [List.getElem_toArray, List.getElem_cons_succ, List.getElem_cons_zero, Act.put, List.setIfInBounds_toArray, List.set_cons_zero, List.set_cons_succ]
  refine wpAnyH_take (i := 3) (v := ?_) rfl (by kernel_rfl) (by kernel_rfl) (by kernel_rfl) (fun _ _ _ h => h) (Or.inl ⟨by rfl, ?_⟩) (by assumption) ?_
  rotate_left
  · (intro w0 hSw; (try dsimp only at hSw); go_simp; try with_reducible rfl)
  try simp only [List.getElem_toArray, List.getElem_cons_succ, List.getElem_cons_zero, Act.put, List.setIfInBounds_toArray, List.set_cons_zero, List.set_cons_succ]
  refine wpAnyH_take (i := 4) (v := ?_) rfl (by kernel_rfl) (by kernel_rfl) (by kernel_rfl) (fun _ _ _ h => h) (Or.inl ⟨by rfl, ?_⟩) (by assumption) ?_
  rotate_left
  · (intro w0 hSw; (try dsimp only at hSw); go_simp; try with_reducible rfl)
  try simp only [List.getElem_toArray, List.getElem_cons_succ, List.getElem_cons_zero, Act.put, List.setIfInBounds_toArray, List.set_cons_zero, List.set_cons_succ]
  refine wpAnyH_take (i := 5) (v := ?_) rfl (by kernel_rfl) (by kernel_rfl) (by kernel_rfl) (fun _ _ _ h => h) (Or.inl ⟨by rfl, ?_⟩) (by assumption) ?_
  rotate_left
  · (intro w0 hSw; (try dsimp only at hSw); go_simp; try with_reducible rfl)
  try simp only [List.getElem_toArray, List.getElem_cons_succ, List.getElem_cons_zero, Act.put, List.setIfInBounds_toArray, List.set_cons_zero, List.set_cons_succ]
  refine wpAnyH_ready (rs := [1]) (by kernel_rfl) (by simp) ?_
  refine AllReadyH.cons rfl (fun K hK => ?_) AllReadyH.nil
  go_simp
  refine (news_q x s qn HQN.out _).mono ?_
  rintro e V2 ⟨rfl, hb⟩
  try go_simp
  have C2 := Lib.hid (BD.out.trans (hb.mono BD.out.size))
  clear hb
  refine hK.out _ _ ⟨XV.out.here C2.out, (XV.out.here C2.out).cell 9, (XV.out.here C2.out).cell 11⟩ (fun hHeld => ?_)
  clear hK K
  refine wpAnyH_ready (rs := [6]) (by kernel_rfl) (by simp) ?_
  refine AllReadyH.cons rfl (fun K hK => ?_) AllReadyH.nil
  go_simp
  refine (without_l _ _ _ (own_step TV.out.t C2.out) (own_step TV.out.k C2.out) HT.out HVS.out lw HLW.out).mono ?_
  rintro e V3 ⟨z, rfl, hz, hb⟩
  try go_simp
  have C3 := Lib.hid (C2.out.trans (hb.mono C2.out.size))
  have Z3 := Lib.hid hz
  clear hz
  clear hb
  refine hK.out _ _ ⟨XV.out.here C3.out, (XV.out.here C3.out).cell 9, (XV.out.here C3.out).cell 11⟩ (fun hHeld => ?_)
  clear hK K
  refine wpAnyH_ready (rs := [7]) (by kernel_rfl) (by simp) ?_
  refine AllReadyH.cons rfl (fun K hK => ?_) AllReadyH.nil
  go_simp
  refine (send_any qn lw LQN.out _ Z3.out HLL.out).mono ?_
  rintro e V4 ⟨u, rfl, hu, hb⟩
  try go_simp
  have C4 := Lib.hid (C3.out.trans (hb.mono C3.out.size))
  have U4 := Lib.hid (own_less hu C3.out.size)
  clear hu
  clear hb
  refine hK.out _ _ ⟨XV.out.here C4.out, (XV.out.here C4.out).cell 9, (XV.out.here C4.out).cell 11⟩ (fun hHeld => ?_)
  clear hK K
  refine wpAnyH_take (i := 8) (v := ?_) rfl (by kernel_rfl) (by kernel_rfl) (by kernel_rfl) (fun _ _ _ h => h) (Or.inl ⟨by rfl, ?_⟩) (by assumption) ?_
  rotate_left
  · (intro w0 hSw; (try dsimp only at hSw); go_simp; try with_reducible rfl)
  try simp only [List.getElem_toArray, List.getElem_cons_succ, List.getElem_cons_zero, Act.put, List.setIfInBounds_toArray, List.set_cons_zero, List.set_cons_succ]
  refine wpAnyH_done (by kernel_rfl) ?_ _
  clear hHeld
  have F4 := Lib.hid (stepB BV.out C4.out)
  go_wp2_with fail
  go_ret
  exact ⟨_, rfl, by rw [AG.out]; have h := own_less U4.out BV.out.size; rw [← HQN.out] at h; exact h, F4.out⟩
set_option maxRecDepth 100000 in
set_option maxHeartbeats 16000000 in
theorem again_4 {B : Nat} (x : Tr) (s : Sl) (al : Bool) (w : World) (h : Tm w B x s) (ht : Shs x.tch) (h3 : x.st = 4) (hv : Shs x.acks) (lw : List Int) (hlw : withoutL x.tch x.acks = lw) :
    Calls Try.prog 11 #[.agg (trc x s), .bool al] w fun e w' => ∃ u, e = .returned u ∧ MsgR w' w.heap.size u (againL x al) ∧ Below w.heap.size w w' := by
  obtain ⟨i0, hi0, hz0, hz1, hz2⟩ := info_parts info_msg
  have XV := Lib.hid (Blk.new w 30 (trc x s))
  have BV := Lib.hid (Joins.below_alloc1 w (.cells (trc x s) 30))
  have TV := Lib.hid (h.step BV.out)
  have HT := Lib.hid ht
  have HST := Lib.hid (show x.tch.length ≤ 1000 from by have := ht.len; omega)
  obtain ⟨q, hq⟩ : ∃ q, lockL x 0 = q := ⟨_, rfl⟩
  obtain ⟨qn, hqn⟩ : ∃ q, newsL x 0 = q := ⟨_, rfl⟩
  have HQ := Lib.hid hq
  have HQN := Lib.hid hqn
  have LQ := Lib.hid (show q.length = 28 from by rw [← hq]; rfl)
  have LQN := Lib.hid (show qn.length = 28 from by rw [← hqn]; rfl)
  have e1 : (x.st == 1) = false := by simp; omega
  have e2 : (x.st == 2) = false := by simp; omega
  have e3 : (x.st == 3) = false := by simp; omega
  have e4 : (x.st == 4) = true := by simpa using h3
  have HVS := Lib.hid hv
  have HLW := Lib.hid hlw
  have HLL := Lib.hid (show lw.length ≤ 1000 from by rw [← hlw]; have h1 : (withoutL x.tch x.acks).length ≤ x.tch.length := List.length_filter_le _ _; have := ht.len; omega)
  have AG := Lib.hid (show againL x al = lw.map (newsL x) from by unfold againL; rw [if_neg (by omega), if_neg (by omega), if_pos (by omega), hlw])
  clear h3 hv hlw
  clear h ht hq hqn
  go_enter Try.func11, Try.ntmps11
  go_upto_region 1 with fail
  obtain ⟨g, hg⟩ : ∃ g, g = w.heap.size := ⟨_, rfl⟩
  have HG := Lib.hid hg
  rw [← hg] at XV ⊢
  clear hg
  have SZ := Lib.hid (show (w.alloc (.cells (trc x s) 30)).heap.size = g + 1 from by rw [HG.out]; simp)
  generalize w.alloc (.cells (trc x s) 30) = WV at XV BV TV SZ ⊢
  have c1 : WV.cell? ⟨g, 1, none⟩ = some (.int .i64 x.st) := XV.out.cell 1
  go_upto_region 12 with fail
  clear c1
  refine wp_region_held_drew (S := fun w' => Blk w' g 30 (trc x s) ∧ w'.cell? ⟨g, 9, none⟩ = some s.t ∧ w'.cell? ⟨g, 11, none⟩ = some s.k) (by kernel_rfl) ⟨XV.out.drew, XV.out.drew.cell 9, XV.out.drew.cell 11⟩ (fun hHeld => ?_)
  have BD := Lib.hid (show Below WV.heap.size WV WV.drew from (Below.refl _ _).drew)
  generalize WV.drew = V1 at BD hHeld ⊢
  refine wpAnyH_take (i := 0) (v := .agg (trc x s)) rfl (by kernel_rfl) (by kernel_rfl) (by kernel_rfl) (fun _ _ _ h => h) (Or.inl ⟨by rfl, fun w0 hSw => exec_load (x := .tmp 2) rfl rfl (tr_load hSw.1)⟩) (by assumption) ?_
  try simp only [List.getElem_toArray, List.getElem_cons_succ, List.getElem_cons_zero, Act.put, List.setIfInBounds_toArray, List.set_cons_zero, List.set_cons_succ]
  refine wpAnyH_take (i := 2) (v := ?_) rfl (by kernel_rfl) (by kernel_rfl) (by kernel_rfl) (fun _ _ _ h => h) (Or.inl ⟨by rfl, ?_⟩) (by assumption) ?_
  rotate_left
  · (intro w0 hSw; (try dsimp only at hSw); go_simp; try with_reducible rfl)
  try simp only [List.getElem_toArray, List.getElem_cons_succ, List.getElem_cons_zero, Act.put, List.setIfInBounds_toArray, List.set_cons_zero, List.set_cons_succ]
  refine wpAnyH_take (i := 3) (v := ?_) rfl (by kernel_rfl) (by kernel_rfl) (by kernel_rfl) (fun _ _ _ h => h) (Or.inl ⟨by rfl, ?_⟩) (by assumption) ?_
  rotate_left
  · (intro w0 hSw; (try dsimp only at hSw); go_simp; try with_reducible rfl)
  try simp only [List.getElem_toArray, List.getElem_cons_succ, List.getElem_cons_zero, Act.put, List.setIfInBounds_toArray, List.set_cons_zero, List.set_cons_succ]
  refine wpAnyH_take (i := 4) (v := ?_) rfl (by kernel_rfl) (by kernel_rfl) (by kernel_rfl) (fun _ _ _ h => h) (Or.inl ⟨by rfl, ?_⟩) (by assumption) ?_
  rotate_left
  · (intro w0 hSw; (try dsimp only at hSw); go_simp; try with_reducible rfl)
  try simp only [List.getElem_toArray, List.getElem_cons_succ, List.getElem_cons_zero, Act.put, List.setIfInBounds_toArray, List.set_cons_zero, List.set_cons_succ]
  refine wpAnyH_take (i := 5) (v := ?_) rfl (by kernel_rfl) (by kernel_rfl) (by kernel_rfl) (fun _ _ _ h => h) (Or.inl ⟨by rfl, ?_⟩) (by assumption) ?_
  rotate_left
  · (intro w0 hSw; (try dsimp only at hSw); go_simp; try with_reducible rfl)
  try simp only [List.getElem_toArray, List.getElem_cons_succ, List.getElem_cons_zero, Act.put, List.setIfInBounds_toArray, List.set_cons_zero, List.set_cons_succ]
  refine wpAnyH_ready (rs := [1]) (by kernel_rfl) (by simp) ?_
  refine AllReadyH.cons rfl (fun K hK => ?_) AllReadyH.nil
  go_simp
  refine (news_q x s qn HQN.out _).mono ?_
  rintro e V2 ⟨rfl, hb⟩
  try go_simp
  have C2 := Lib.hid (BD.out.trans (hb.mono BD.out.size))
  clear hb
  refine hK.out _ _ ⟨XV.out.here C2.out, (XV.out.here C2.out).cell 9, (XV.out.here C2.out).cell 11⟩ (fun hHeld => ?_)
  clear hK K
  refine wpAnyH_ready (rs := [6]) (by kernel_rfl) (by simp) ?_
  refine AllReadyH.cons rfl (fun K hK => ?_) AllReadyH.nil
  go_simp
  refine (without_l _ _ _ (own_step TV.out.t C2.out) (own_step TV.out.k C2.out) HT.out HVS.out lw HLW.out).mono ?_
  rintro e V3 ⟨z, rfl, hz, hb⟩
  try go_simp
  have C3 := Lib.hid (C2.out.trans (hb.mono C2.out.size))
  have Z3 := Lib.hid hz
  clear hz
  clear hb
  refine hK.out _ _ ⟨XV.out.here C3.out, (XV.out.here C3.out).cell 9, (XV.out.here C3.out).cell 11⟩ (fun hHeld => ?_)
  clear hK K
  refine wpAnyH_ready (rs := [7]) (by kernel_rfl) (by simp) ?_
  refine AllReadyH.cons rfl (fun K hK => ?_) AllReadyH.nil
  go_simp
  refine (send_any qn lw LQN.out _ Z3.out HLL.out).mono ?_
  rintro e V4 ⟨u, rfl, hu, hb⟩
  try go_simp
  have C4 := Lib.hid (C3.out.trans (hb.mono C3.out.size))
  have U4 := Lib.hid (own_less hu C3.out.size)
  clear hu
  clear hb
  refine hK.out _ _ ⟨XV.out.here C4.out, (XV.out.here C4.out).cell 9, (XV.out.here C4.out).cell 11⟩ (fun hHeld => ?_)
  clear hK K
  refine wpAnyH_take (i := 8) (v := ?_) rfl (by kernel_rfl) (by kernel_rfl) (by kernel_rfl) (fun _ _ _ h => h) (Or.inl ⟨by rfl, ?_⟩) (by assumption) ?_
  rotate_left
  · (intro w0 hSw; (try dsimp only at hSw); go_simp; try with_reducible rfl)
  try simp only [List.getElem_toArray, List.getElem_cons_succ, List.getElem_cons_zero, Act.put, List.setIfInBounds_toArray, List.set_cons_zero, List.set_cons_succ]
  refine wpAnyH_done (by kernel_rfl) ?_ _
  clear hHeld
  have F4 := Lib.hid (stepB BV.out C4.out)
  go_wp2_with fail
  go_ret
  exact ⟨_, rfl, by rw [AG.out]; have h := own_less U4.out BV.out.size; rw [← HQN.out] at h; exact h, F4.out⟩
theorem again_any {B : Nat} (x : Tr) (s : Sl) (al : Bool) (w : World) (h : Tm w B x s) (ht : Shs x.tch) (hv : Shs x.vts) (hk : Shs x.acks) (hst : 1 ≤ x.st ∧ x.st ≤ 4) :
    Calls Try.prog 11 #[.agg (trc x s), .bool al] w fun e w' => ∃ u, e = .returned u ∧ MsgR w' w.heap.size u (againL x al) ∧ Below w.heap.size w w' := by
  by_cases h1 : x.st = 1
  · cases ho : x.op <;> cases ha : al
    · exact again_nn x s _ w h ht h1 ho rfl
    · exact again_na x s _ w h ht h1 ho rfl
    · exact again_on x s _ w h ht h1 ho rfl
    · exact again_oa x s _ w h ht h1 ho rfl
  · by_cases h2 : x.st = 2
    · exact again_2 x s al w h ht h2 hv _ rfl
    · by_cases h3 : x.st = 3
      · exact again_3 x s al w h ht h3 hk _ rfl
      · exact again_4 x s al w h ht (by omega) hk _ rfl
end Go.Proofs.Ytopjkidekbfalaa
/- A transaction: New, and whether it is over. -/
namespace Go.Proofs.Ytopjkidekbfalaa
open Go.RowKit
set_option linter.unusedVariables false
set_option linter.unusedSimpArgs false

set_option maxRecDepth 100000 in
set_option maxHeartbeats 4000000 in
theorem new_ok (tx : Int) (h1 : 1 ≤ tx) (h2 : tx ≤ 1048576) (w : World) :
    Calls Try.prog 8 #[.int .i64 tx] w fun e w' => e = .returned (.tuple #[.agg (trc (newL tx) noSl), .nilIface]) ∧ Below w.heap.size w w' := by
  have d1 : decide (tx < 1) = false := by simp; omega
  have d2 : decide (1048576 < tx) = false := by simp; omega
  have Z1 := Lib.hid (show Blk (w.alloc (.cells zTr 30)) w.heap.size 30 (trc noTr noSl) from Blk.new w _ _)
  have B1 := Lib.hid (Joins.below_alloc1 w (.cells zTr 30))
  go_enter Try.func8, Try.ntmps8
  go_wp2_with (refine wpList_store_mid (by rfl) 30 (.tmp 2) (.tmp 13) (by rfl) w.heap.size 0 (trc (newL tx) noSl) (by rfl) (by rfl) (Z1.out.there (Nat.le_refl 13)) (tr_info _ _) (tr_one _ _ rfl rfl rfl rfl) ?_
               have Z2 := Lib.hid (Z1.out.put (trc (newL tx) noSl) rfl)
               have E2 := Lib.hid (Below.setCells (b := w.heap.size) (Nat.le_refl _) (trc (newL tx) noSl).toList 0 _ B1.out)
               generalize (w.alloc (.cells zTr 30)).setCells w.heap.size 0 (trc (newL tx) noSl).toList = W2 at Z2 E2 ⊢)
  exact bodyPost_ret (v := .tuple #[.agg (trc (newL tx) noSl), .nilIface]) (results_cell_and rfl rfl rfl (tr_load Z2.out)) rfl ⟨rfl, E2.out⟩
set_option maxRecDepth 100000 in
set_option maxHeartbeats 4000000 in
theorem new_bad (tx : Int) (h : tx < 1 ∨ 1048576 < tx) (w : World) :
    Calls Try.prog 8 #[.int .i64 tx] w fun e w' => e = .returned (.tuple #[.agg (trc noTr noSl), errno 1]) ∧ Below w.heap.size w w' := by
  have Z1 := Lib.hid (show Blk (w.alloc (.cells zTr 30)) w.heap.size 30 (trc noTr noSl) from Blk.new w _ _)
  have B1 := Lib.hid (Joins.below_alloc1 w (.cells zTr 30))
  by_cases h1 : tx < 1
  · have d1 : decide (tx < 1) = true := by simpa using h1
    clear h h1
    go_enter Try.func8, Try.ntmps8
    go_wp2_with (refine wpList_store_mid (by rfl) 30 (.tmp 2) (.tmp 10) (by rfl) w.heap.size 0 (trc noTr noSl) (by rfl) (by rfl) (Z1.out.there (Nat.le_refl 13)) (tr_info _ _) (tr_one _ _ rfl rfl rfl rfl) ?_
                 have Z2 := Lib.hid (Z1.out.put (trc noTr noSl) rfl)
                 have E2 := Lib.hid (Below.setCells (b := w.heap.size) (Nat.le_refl _) (trc noTr noSl).toList 0 _ B1.out)
                 generalize (w.alloc (.cells zTr 30)).setCells w.heap.size 0 (trc noTr noSl).toList = W2 at Z2 E2 ⊢)
    exact bodyPost_ret (v := .tuple #[.agg (trc noTr noSl), errno 1]) (results_cell_and rfl rfl rfl (tr_load Z2.out)) rfl ⟨rfl, E2.out⟩
  · have d1 : decide (tx < 1) = false := by simpa using h1
    have d2 : decide (1048576 < tx) = true := by simp; omega
    clear h h1
    go_enter Try.func8, Try.ntmps8
    go_wp2_with (refine wpList_store_mid (by rfl) 30 (.tmp 2) (.tmp 10) (by rfl) w.heap.size 0 (trc noTr noSl) (by rfl) (by rfl) (Z1.out.there (Nat.le_refl 13)) (tr_info _ _) (tr_one _ _ rfl rfl rfl rfl) ?_
                 have Z2 := Lib.hid (Z1.out.put (trc noTr noSl) rfl)
                 have E2 := Lib.hid (Below.setCells (b := w.heap.size) (Nat.le_refl _) (trc noTr noSl).toList 0 _ B1.out)
                 generalize (w.alloc (.cells zTr 30)).setCells w.heap.size 0 (trc noTr noSl).toList = W2 at Z2 E2 ⊢)
    exact bodyPost_ret (v := .tuple #[.agg (trc noTr noSl), errno 1]) (results_cell_and rfl rfl rfl (tr_load Z2.out)) rfl ⟨rfl, E2.out⟩

set_option maxRecDepth 100000 in
set_option maxHeartbeats 4000000 in
theorem over_any {B : Nat} (x : Tr) (s : Sl) (w : World) (h : Tm w B x s) (ht : Shs x.tch) (hk : Shs x.acks) :
    Calls Try.prog 13 #[.agg (trc x s)] w fun e w' => e = .returned (.bool (overB x)) ∧ Below w.heap.size w w' := by
  have XV := Lib.hid (Blk.new w 30 (trc x s))
  have BV := Lib.hid (Joins.below_alloc1 w (.cells (trc x s) 30))
  have TV := Lib.hid (h.step BV.out)
  have HT := Lib.hid ht
  have HK := Lib.hid hk
  obtain ⟨r, hr⟩ : ∃ r, overB x = r := ⟨_, rfl⟩
  rw [hr]
  unfold overB at hr
  obtain ⟨lw, hlw⟩ : ∃ lw, withoutL x.tch x.acks = lw := ⟨_, rfl⟩
  rw [hlw] at hr
  have HLW := Lib.hid hlw
  clear h ht hk hlw
  go_enter Try.func13, Try.ntmps13
  go_upto_region 1 with fail
  obtain ⟨g, hg⟩ : ∃ g, g = w.heap.size := ⟨_, rfl⟩
  rw [← hg] at XV ⊢
  clear hg
  generalize w.alloc (.cells (trc x s) 30) = WV at XV BV TV ⊢
  have c9 : WV.cell? ⟨g, 9, none⟩ = some s.t := XV.out.cell 9
  have c11 : WV.cell? ⟨g, 11, none⟩ = some s.k := XV.out.cell 11
  cases hd : decided x with
  | false =>
    have HD := Lib.hid hd
    obtain rfl : r = false := by rw [← hr, hd]; rfl
    clear hr hd
    go_wp2_with (first
      | (refine wpList_load_row rfl 30 (.tmp 1) rfl g rfl 30 (trc x s) (0, 0) _ XV.out Try.underlying30 rfl (tr_info _ _) ?_)
      | (go_at_call 10; refine (decided_b x s _ false HD.out).mono ?_; rintro e W2 ⟨rfl, hb2⟩; have B2 := Lib.hid (stepB BV.out hb2); clear hb2))
    go_ret
    exact ⟨rfl, B2.out⟩
  | true =>
    have HD := Lib.hid hd
    rw [hd, Bool.true_and] at hr
    clear hd
    have hr' : ((lw.length : Int) == 0) = r := by rw [← hr]; cases lw <;> simp <;> omega
    have hr2 : (lw.length == 0) = r := by rw [← hr]; cases lw <;> simp
    clear hr
    go_wp2_with (first
      | (refine wpList_load_row rfl 30 (.tmp 1) rfl g rfl 30 (trc x s) (0, 0) _ XV.out Try.underlying30 rfl (tr_info _ _) ?_)
      | (go_at_call 10; refine (decided_b x s _ true HD.out).mono ?_; rintro e W2 ⟨rfl, hb2⟩; have B2 := Lib.hid (stepB BV.out hb2); have T2 := Lib.hid (TV.out.step hb2); have k9 : W2.cell? ⟨g, 9, none⟩ = some s.t := (XV.out.here hb2).cell 9; have k11 : W2.cell? ⟨g, 11, none⟩ = some s.k := (XV.out.here hb2).cell 11; clear hb2 c9 c11)
      | (go_at_call 26; refine (without_l _ _ _ T2.out.t T2.out.k HT.out HK.out lw HLW.out).mono ?_; rintro e W3 ⟨z, rfl, hz, hb3⟩; obtain ⟨Az, cz, rfl⟩ := own_len hz; have B3 := Lib.hid (stepB B2.out hb3); clear hz hb3))
    go_ret
    exact ⟨rfl, B3.out⟩
end Go.Proofs.Ytopjkidekbfalaa
/- The law's act: something that happens to a transaction. -/
namespace Go.Proofs.Ytopjkidekbfalaa
open Go.RowKit
set_option linter.unusedVariables false
set_option linter.unusedSimpArgs false

theorem act_cell {w : World} {g : Nat} {t : TypeId} {a : List Int} (hl : a.length = 33) (h : Blk w g t (mc a)) {i : Nat} (hi : i < 33) : w.cell? ⟨g, i, none⟩ = some (.int .i64 (fld a i)) := by
  rw [h.cell i]; simp [mc, ints, fld_get (show i < a.length by omega)]
theorem act_msg {w : World} {g : Nat} {t : TypeId} {a : List Int} (hl : a.length = 33) (h : Blk w g t (mc a)) : ∀ j v, (ints (a.drop 5))[j]? = some v → w.cell? ((⟨g, 5, none⟩ : Addr).add j) = some v := by
  have := Blk.cells_at (l := ints a) h 5 28 (by rw [ints_length]; omega)
  intro j v hj
  refine this j v ?_
  rw [← hj]
  have e : (ints a).drop 5 = ints (a.drop 5) := by simp [ints, List.map_drop]
  rw [e, List.take_of_length_le (by rw [ints_length, List.length_drop]; omega)]
theorem act_drop {a : List Int} (hl : a.length = 33) : (a.drop 5).length = 28 := by rw [List.length_drop]; omega
def ActP (w : World) (y : Res3) (e : Ending) (w' : World) : Prop := ∃ s' u, e = .returned (.tuple #[.agg (trc y.1 s'), u, .int .i64 y.2.2]) ∧ Tm w' 0 y.1 s' ∧ MsgR w' w.heap.size u y.2.1 ∧ Below w.heap.size w w'
set_option maxRecDepth 100000 in
set_option maxHeartbeats 8000000 in
theorem act_0 {B k : Nat} (x : Tr) (s : Sl) (a : List Int) (ha : a.length = 33) (w : World) (h : Tm w B x s) (ok : TrOk x k) (hkk : k ≤ 900) (hk : fld a 0 = 0) (y : Tr) (ms : List (List Int)) (c : Int) (hy : askL x (fld a 1) (fld a 2) (fld a 3) (fld a 4) = (y, ms, c)) (hc : codOk c) :
    Calls Try.prog 9 #[.agg (trc x s), .agg (mc a)] w (ActP w (y, ms, c)) := by
  have X1 := Lib.hid (((Blk.new w 30 (trc x s)).alloc (.cells (mc a) 44)).alloc (.cells zTr 30))
  have A1 := Lib.hid ((Blk.new_at (w := w.alloc (.cells (trc x s) 30)) (n := w.heap.size + 1) (by simp) 44 (mc a)).alloc (.cells zTr 30))
  have Z1 := Lib.hid (Blk.new_at (w := (w.alloc (.cells (trc x s) 30)).alloc (.cells (mc a) 44)) (n := w.heap.size + 2) (by simp) 30 zTr)
  have B1 := Lib.hid (((Joins.below_alloc1 w (.cells (trc x s) 30)).alloc (by simp <;> omega) (.cells (mc a) 44)).alloc (by simp <;> omega) (.cells zTr 30))
  have SZ := Lib.hid (show (((w.alloc (.cells (trc x s) 30)).alloc (.cells (mc a) 44)).alloc (.cells zTr 30)).heap.size = w.heap.size + 3 from by simp)
  have TV := Lib.hid (h.step B1.out)
  have OK := Lib.hid ok
  have HS := Lib.hid (ok.short (by omega))
  have HY := Lib.hid hy
  have HC := Lib.hid hc
  have HA := Lib.hid ha
  have HD := Lib.hid (act_drop ha)
  have HMI := Lib.hid (show (Try.prog.info? 42).map (·.size) = some (ints (a.drop 5)).length from by have := mc_info (act_drop ha); simpa [mc] using this)
  have e0 : (fld a 0 == 0) = true := by simp; omega
  clear h ok hkk hy hc ha hk
  go_enter Try.func9, Try.ntmps9
  go_upto_region 1 with fail
  obtain ⟨g, hg⟩ : ∃ g, g = w.heap.size := ⟨_, rfl⟩
  have HG := Lib.hid hg
  rw [← hg] at X1 A1 Z1 SZ ⊢
  clear hg
  generalize ((w.alloc (.cells (trc x s) 30)).alloc (.cells (mc a) 44)).alloc (.cells zTr 30) = WV at X1 A1 Z1 B1 TV SZ ⊢
  have a0 := act_cell HA.out A1.out (i := 0) (by omega)
  have a1 := act_cell HA.out A1.out (i := 1) (by omega)
  have a2 := act_cell HA.out A1.out (i := 2) (by omega)
  have a3 := act_cell HA.out A1.out (i := 3) (by omega)
  have a4 := act_cell HA.out A1.out (i := 4) (by omega)
  have AM := Lib.hid (act_msg HA.out A1.out)
  have CO := Lib.hid (ask_any x s (fld a 2) (fld a 3) (fld a 1) (fld a 4) WV TV.out HS.out OK.out.tch OK.out.sq.1)
  rw [HY.out] at CO
  clear HY
  go_upto_region 16 with (first
    | (refine wpList_load_row rfl 30 (.tmp 2) rfl g rfl 30 (trc x s) (0, 0) _ X1.out Try.underlying30 rfl (tr_info _ _) ?_)
    | (go_at_call 18; refine CO.out.mono ?_; rintro e W2 ⟨s2, u, rfl, ht2, hu2, hb2⟩; obtain ⟨Au, cu, rfl⟩ := own_len hu2; have T2 := Lib.hid ht2; have U2 := Lib.hid hu2; have E2 := Lib.hid hb2; clear ht2 hu2 hb2)
    | (refine wpList_store_mid (by rfl) 30 (.tmp 2) (.tmp 22) (by rfl) g 0 (trc y s2) (by rfl) (by rfl) ((X1.out.here E2.out).there (Nat.le_refl 13)) (tr_info _ _) T2.out.one ?_
       have E3 := Lib.hid (show Turn (fun k => k = g) W2 (W2.setCells g 0 (trc y s2).toList) from Turn.setCells (S := fun k => k = g) (fun _ => rfl) _ _ _ (Turn.refl _ _))
       have XQ := Lib.hid ((X1.out.here E2.out).put (trc y s2) rfl)
       have hzl := Z1.out.lt
       have ZQ := Lib.hid ((Z1.out.here E2.out).turn E3.out (by omega))
       have BQ := Lib.hid ((stepB B1.out E2.out).trans (E3.out.below (B := w.heap.size) (fun k hk e => by have := HG.out; omega) (Nat.le_trans B1.out.size E2.out.size)))
       have TQ := Lib.hid (T2.out.offB (X1.out.here E2.out) E3.out)
       have UQ := Lib.hid (own_off U2.out E3.out (fun k hk _ e => by have := SZ.out; omega))
       clear E3 hzl
       generalize W2.setCells g 0 (trc y s2).toList = W3 at XQ ZQ BQ TQ UQ ⊢))
  have hxq := XQ.out.lt
  have hzq := ZQ.out.lt
  refine wp_region_held_drew (S := fun w' => Blk w' g 30 (trc y s2)) (by kernel_rfl) XQ.out.drew (fun hHeld => ?_)
  have BD := Lib.hid (show Below W3.heap.size W3 W3.drew from (Below.refl _ _).drew)
  generalize W3.drew = V1 at BD hHeld ⊢
  refine wpAnyH_take (i := 0) (v := .agg (trc y s2)) rfl (by kernel_rfl) (by kernel_rfl) (by kernel_rfl) (fun _ _ _ h => h) (Or.inl ⟨by rfl, fun w0 hSw => exec_load (x := .tmp 2) rfl rfl (tr_load hSw)⟩) (by assumption) ?_
  try simp only [List.getElem_toArray, List.getElem_cons_succ, List.getElem_cons_zero, Act.put, List.setIfInBounds_toArray, List.set_cons_zero, List.set_cons_succ]
  refine wpAnyH_take (i := 1) (v := ?_) rfl (by kernel_rfl) (by kernel_rfl) (by kernel_rfl) (fun _ _ _ h => h) (Or.inl ⟨by rfl, ?_⟩) (by assumption) ?_
  rotate_left
  · (intro w0 hSw; (try dsimp only at hSw); go_simp; try with_reducible rfl)
  try simp only [List.getElem_toArray, List.getElem_cons_succ, List.getElem_cons_zero, Act.put, List.setIfInBounds_toArray, List.set_cons_zero, List.set_cons_succ]
  refine wpAnyH_take (i := 2) (v := ?_) rfl (by kernel_rfl) (by kernel_rfl) (by kernel_rfl) (fun _ _ _ h => h) (Or.inl ⟨by rfl, ?_⟩) (by assumption) ?_
  rotate_left
  · (intro w0 hSw; (try dsimp only at hSw); go_simp; try with_reducible rfl)
  try simp only [List.getElem_toArray, List.getElem_cons_succ, List.getElem_cons_zero, Act.put, List.setIfInBounds_toArray, List.set_cons_zero, List.set_cons_succ]
  refine wpAnyH_ready (rs := [3]) (by kernel_rfl) (by simp) ?_
  refine AllReadyH.cons rfl (fun K hK => ?_) AllReadyH.nil
  go_simp
  refine (code_errV c HC.out _).mono ?_
  rintro e w5 ⟨rfl, rfl⟩
  try go_simp
  refine hK.out _ _ hHeld (fun hHeld => ?_)
  clear hK K
  have Z3 := Lib.hid (ZQ.out.here BD.out)
  refine wpAnyH_ready (rs := [4]) (by kernel_rfl) (by simp) ?_
  refine AllReadyH.cons rfl (fun K hK => ?_) AllReadyH.nil
  refine step_store_mid (by rfl) 30 (.tmp 4) (.tmp 71) rfl (g + 2) 0 (trc y s2) rfl rfl (Z3.out.there (Nat.le_refl 13)) (tr_info _ _) TQ.out.one ?_
  have X4 := Lib.hid (show Blk (V1.setCells (g + 2) 0 (trc y s2).toList) g 30 (trc y s2) from hHeld.farCells (by omega) _ _ _)
  have E4 := Lib.hid (show Turn (fun k => k = g + 2) V1 (V1.setCells (g + 2) 0 (trc y s2).toList) from Turn.setCells (S := fun k => k = g + 2) (fun _ => rfl) _ _ _ (Turn.refl _ _))
  have Z4 := Lib.hid (Z3.out.put (trc y s2) rfl)
  refine hK.out _ _ X4.out (fun hHeld => ?_)
  clear hK K
  generalize V1.setCells (g + 2) 0 (trc y s2).toList = V4 at X4 E4 Z4 hHeld ⊢
  refine wpAnyH_take (i := 5) (v := ?_) rfl (by kernel_rfl) (by kernel_rfl) (by kernel_rfl) (fun _ _ _ h => h) (Or.inl ⟨by rfl, ?_⟩) (by assumption) ?_
  rotate_left
  · (intro w0 hSw; (try dsimp only at hSw); go_simp; try with_reducible rfl)
  try simp only [List.getElem_toArray, List.getElem_cons_succ, List.getElem_cons_zero, Act.put, List.setIfInBounds_toArray, List.set_cons_zero, List.set_cons_succ]
  refine wpAnyH_take (i := 6) (v := ?_) rfl (by kernel_rfl) (by kernel_rfl) (by kernel_rfl) (fun _ _ _ h => h) (Or.inl ⟨by rfl, ?_⟩) (by assumption) ?_
  rotate_left
  · (intro w0 hSw; (try dsimp only at hSw); go_simp; try with_reducible rfl)
  try simp only [List.getElem_toArray, List.getElem_cons_succ, List.getElem_cons_zero, Act.put, List.setIfInBounds_toArray, List.set_cons_zero, List.set_cons_succ]
  refine wpAnyH_done (by kernel_rfl) ?_ _
  clear hHeld
  have T4 := Lib.hid ((TQ.out.step BD.out).offB Z3.out E4.out)
  have U4 := Lib.hid (own_off (own_step UQ.out BD.out) E4.out (fun k hk _ e => by have := SZ.out; omega))
  have F4 := Lib.hid ((stepB BQ.out BD.out).trans (E4.out.below (B := w.heap.size) (fun k hk e => by have := HG.out; omega) (Nat.le_trans BQ.out.size BD.out.size)))
  go_wp2_with fail
  exact bodyPost_ret (v := .tuple #[.agg (trc y s2), (.slice Au ms.length cu), .int .i64 c]) (results_and2 rfl rfl rfl rfl (tr_load Z4.out)) rfl ⟨s2, _, rfl, T4.out, own_less U4.out B1.out.size, F4.out⟩
set_option maxRecDepth 100000 in
set_option maxHeartbeats 8000000 in
theorem act_1 {B k : Nat} (x : Tr) (s : Sl) (a : List Int) (ha : a.length = 33) (w : World) (h : Tm w B x s) (ok : TrOk x k) (hkk : k ≤ 900) (hk : fld a 0 = 1) (y : Tr) (c : Int) (hy : ansL x (a.drop 5) = (y, [], c)) (hc : codOk c) :
    Calls Try.prog 9 #[.agg (trc x s), .agg (mc a)] w (ActP w (y, [], c)) := by
  have X1 := Lib.hid (((Blk.new w 30 (trc x s)).alloc (.cells (mc a) 44)).alloc (.cells zTr 30))
  have A1 := Lib.hid ((Blk.new_at (w := w.alloc (.cells (trc x s) 30)) (n := w.heap.size + 1) (by simp) 44 (mc a)).alloc (.cells zTr 30))
  have Z1 := Lib.hid (Blk.new_at (w := (w.alloc (.cells (trc x s) 30)).alloc (.cells (mc a) 44)) (n := w.heap.size + 2) (by simp) 30 zTr)
  have B1 := Lib.hid (((Joins.below_alloc1 w (.cells (trc x s) 30)).alloc (by simp <;> omega) (.cells (mc a) 44)).alloc (by simp <;> omega) (.cells zTr 30))
  have SZ := Lib.hid (show (((w.alloc (.cells (trc x s) 30)).alloc (.cells (mc a) 44)).alloc (.cells zTr 30)).heap.size = w.heap.size + 3 from by simp)
  have TV := Lib.hid (h.step B1.out)
  have OK := Lib.hid ok
  have HS := Lib.hid (ok.short (by omega))
  have HY := Lib.hid hy
  have HC := Lib.hid hc
  have HA := Lib.hid ha
  have HD := Lib.hid (act_drop ha)
  have HMI := Lib.hid (show (Try.prog.info? 42).map (·.size) = some (ints (a.drop 5)).length from by have := mc_info (act_drop ha); simpa [mc] using this)
  have e0 : (fld a 0 == 0) = false := by simp; omega
  have e1 : (fld a 0 == 1) = true := by simp; omega
  clear h ok hkk hy hc ha hk
  go_enter Try.func9, Try.ntmps9
  go_upto_region 1 with fail
  obtain ⟨g, hg⟩ : ∃ g, g = w.heap.size := ⟨_, rfl⟩
  have HG := Lib.hid hg
  rw [← hg] at X1 A1 Z1 SZ ⊢
  clear hg
  generalize ((w.alloc (.cells (trc x s) 30)).alloc (.cells (mc a) 44)).alloc (.cells zTr 30) = WV at X1 A1 Z1 B1 TV SZ ⊢
  have a0 := act_cell HA.out A1.out (i := 0) (by omega)
  have a1 := act_cell HA.out A1.out (i := 1) (by omega)
  have a2 := act_cell HA.out A1.out (i := 2) (by omega)
  have a3 := act_cell HA.out A1.out (i := 3) (by omega)
  have a4 := act_cell HA.out A1.out (i := 4) (by omega)
  have AM := Lib.hid (act_msg HA.out A1.out)
  have CO := Lib.hid (answered_any x s (a.drop 5) WV TV.out HS.out HD.out)
  rw [HY.out] at CO
  clear HY
  go_upto_region 16 with (first
    | (refine wpList_load_row rfl 30 (.tmp 2) rfl g rfl 30 (trc x s) (0, 0) _ X1.out Try.underlying30 rfl (tr_info _ _) ?_)
    | (refine wpList_load_cells rfl 42 (.tmp 29) rfl ⟨g + 1, 5, none⟩ rfl (ints (a.drop 5)) _ AM.out Try.underlying42 rfl HMI.out ?_)
    | (go_at_call 19; refine CO.out.mono ?_; rintro e W2 ⟨s2, rfl, ht2, hb2⟩; have T2 := Lib.hid ht2; have E2 := Lib.hid hb2; clear ht2 hb2)
    | (refine wpList_store_mid (by rfl) 30 (.tmp 2) (.tmp 32) (by rfl) g 0 (trc y s2) (by rfl) (by rfl) ((X1.out.here E2.out).there (Nat.le_refl 13)) (tr_info _ _) T2.out.one ?_
       have E3 := Lib.hid (show Turn (fun k => k = g) W2 (W2.setCells g 0 (trc y s2).toList) from Turn.setCells (S := fun k => k = g) (fun _ => rfl) _ _ _ (Turn.refl _ _))
       have XQ := Lib.hid ((X1.out.here E2.out).put (trc y s2) rfl)
       have hzl := Z1.out.lt
       have ZQ := Lib.hid ((Z1.out.here E2.out).turn E3.out (by omega))
       have BQ := Lib.hid ((stepB B1.out E2.out).trans (E3.out.below (B := w.heap.size) (fun k hk e => by have := HG.out; omega) (Nat.le_trans B1.out.size E2.out.size)))
       have TQ := Lib.hid (T2.out.offB (X1.out.here E2.out) E3.out)
       clear E3 hzl
       generalize W2.setCells g 0 (trc y s2).toList = W3 at XQ ZQ BQ TQ ⊢))
  have hxq := XQ.out.lt
  have hzq := ZQ.out.lt
  refine wp_region_held_drew (S := fun w' => Blk w' g 30 (trc y s2)) (by kernel_rfl) XQ.out.drew (fun hHeld => ?_)
  have BD := Lib.hid (show Below W3.heap.size W3 W3.drew from (Below.refl _ _).drew)
  generalize W3.drew = V1 at BD hHeld ⊢
  refine wpAnyH_take (i := 0) (v := .agg (trc y s2)) rfl (by kernel_rfl) (by kernel_rfl) (by kernel_rfl) (fun _ _ _ h => h) (Or.inl ⟨by rfl, fun w0 hSw => exec_load (x := .tmp 2) rfl rfl (tr_load hSw)⟩) (by assumption) ?_
  try simp only [List.getElem_toArray, List.getElem_cons_succ, List.getElem_cons_zero, Act.put, List.setIfInBounds_toArray, List.set_cons_zero, List.set_cons_succ]
  refine wpAnyH_take (i := 1) (v := ?_) rfl (by kernel_rfl) (by kernel_rfl) (by kernel_rfl) (fun _ _ _ h => h) (Or.inl ⟨by rfl, ?_⟩) (by assumption) ?_
  rotate_left
  · (intro w0 hSw; (try dsimp only at hSw); go_simp; try with_reducible rfl)
  try simp only [List.getElem_toArray, List.getElem_cons_succ, List.getElem_cons_zero, Act.put, List.setIfInBounds_toArray, List.set_cons_zero, List.set_cons_succ]
  refine wpAnyH_take (i := 2) (v := ?_) rfl (by kernel_rfl) (by kernel_rfl) (by kernel_rfl) (fun _ _ _ h => h) (Or.inl ⟨by rfl, ?_⟩) (by assumption) ?_
  rotate_left
  · (intro w0 hSw; (try dsimp only at hSw); go_simp; try with_reducible rfl)
  try simp only [List.getElem_toArray, List.getElem_cons_succ, List.getElem_cons_zero, Act.put, List.setIfInBounds_toArray, List.set_cons_zero, List.set_cons_succ]
  refine wpAnyH_ready (rs := [3]) (by kernel_rfl) (by simp) ?_
  refine AllReadyH.cons rfl (fun K hK => ?_) AllReadyH.nil
  go_simp
  refine (code_errV c HC.out _).mono ?_
  rintro e w5 ⟨rfl, rfl⟩
  try go_simp
  refine hK.out _ _ hHeld (fun hHeld => ?_)
  clear hK K
  have Z3 := Lib.hid (ZQ.out.here BD.out)
  refine wpAnyH_ready (rs := [4]) (by kernel_rfl) (by simp) ?_
  refine AllReadyH.cons rfl (fun K hK => ?_) AllReadyH.nil
  refine step_store_mid (by rfl) 30 (.tmp 4) (.tmp 71) rfl (g + 2) 0 (trc y s2) rfl rfl (Z3.out.there (Nat.le_refl 13)) (tr_info _ _) TQ.out.one ?_
  have X4 := Lib.hid (show Blk (V1.setCells (g + 2) 0 (trc y s2).toList) g 30 (trc y s2) from hHeld.farCells (by omega) _ _ _)
  have E4 := Lib.hid (show Turn (fun k => k = g + 2) V1 (V1.setCells (g + 2) 0 (trc y s2).toList) from Turn.setCells (S := fun k => k = g + 2) (fun _ => rfl) _ _ _ (Turn.refl _ _))
  have Z4 := Lib.hid (Z3.out.put (trc y s2) rfl)
  refine hK.out _ _ X4.out (fun hHeld => ?_)
  clear hK K
  generalize V1.setCells (g + 2) 0 (trc y s2).toList = V4 at X4 E4 Z4 hHeld ⊢
  refine wpAnyH_take (i := 5) (v := ?_) rfl (by kernel_rfl) (by kernel_rfl) (by kernel_rfl) (fun _ _ _ h => h) (Or.inl ⟨by rfl, ?_⟩) (by assumption) ?_
  rotate_left
  · (intro w0 hSw; (try dsimp only at hSw); go_simp; try with_reducible rfl)
  try simp only [List.getElem_toArray, List.getElem_cons_succ, List.getElem_cons_zero, Act.put, List.setIfInBounds_toArray, List.set_cons_zero, List.set_cons_succ]
  refine wpAnyH_take (i := 6) (v := ?_) rfl (by kernel_rfl) (by kernel_rfl) (by kernel_rfl) (fun _ _ _ h => h) (Or.inl ⟨by rfl, ?_⟩) (by assumption) ?_
  rotate_left
  · (intro w0 hSw; (try dsimp only at hSw); go_simp; try with_reducible rfl)
  try simp only [List.getElem_toArray, List.getElem_cons_succ, List.getElem_cons_zero, Act.put, List.setIfInBounds_toArray, List.set_cons_zero, List.set_cons_succ]
  refine wpAnyH_done (by kernel_rfl) ?_ _
  clear hHeld
  have T4 := Lib.hid ((TQ.out.step BD.out).offB Z3.out E4.out)
  have F4 := Lib.hid ((stepB BQ.out BD.out).trans (E4.out.below (B := w.heap.size) (fun k hk e => by have := HG.out; omega) (Nat.le_trans BQ.out.size BD.out.size)))
  go_wp2_with fail
  exact bodyPost_ret (v := .tuple #[.agg (trc y s2), (.slice none 0 0), .int .i64 c]) (results_and2 rfl rfl rfl rfl (tr_load Z4.out)) rfl ⟨s2, _, rfl, T4.out, World.ownsRow_nil _ _ _ _, F4.out⟩
set_option maxRecDepth 100000 in
set_option maxHeartbeats 8000000 in
theorem act_2 {B k : Nat} (x : Tr) (s : Sl) (a : List Int) (ha : a.length = 33) (w : World) (h : Tm w B x s) (ok : TrOk x k) (hkk : k ≤ 900) (hk : fld a 0 = 2) (y : Tr) (ms : List (List Int)) (c : Int) (hy : finL x = (y, ms, c)) (hc : codOk c) :
    Calls Try.prog 9 #[.agg (trc x s), .agg (mc a)] w (ActP w (y, ms, c)) := by
  have X1 := Lib.hid (((Blk.new w 30 (trc x s)).alloc (.cells (mc a) 44)).alloc (.cells zTr 30))
  have A1 := Lib.hid ((Blk.new_at (w := w.alloc (.cells (trc x s) 30)) (n := w.heap.size + 1) (by simp) 44 (mc a)).alloc (.cells zTr 30))
  have Z1 := Lib.hid (Blk.new_at (w := (w.alloc (.cells (trc x s) 30)).alloc (.cells (mc a) 44)) (n := w.heap.size + 2) (by simp) 30 zTr)
  have B1 := Lib.hid (((Joins.below_alloc1 w (.cells (trc x s) 30)).alloc (by simp <;> omega) (.cells (mc a) 44)).alloc (by simp <;> omega) (.cells zTr 30))
  have SZ := Lib.hid (show (((w.alloc (.cells (trc x s) 30)).alloc (.cells (mc a) 44)).alloc (.cells zTr 30)).heap.size = w.heap.size + 3 from by simp)
  have TV := Lib.hid (h.step B1.out)
  have OK := Lib.hid ok
  have HS := Lib.hid (ok.short (by omega))
  have HY := Lib.hid hy
  have HC := Lib.hid hc
  have HA := Lib.hid ha
  have HD := Lib.hid (act_drop ha)
  have HMI := Lib.hid (show (Try.prog.info? 42).map (·.size) = some (ints (a.drop 5)).length from by have := mc_info (act_drop ha); simpa [mc] using this)
  have e0 : (fld a 0 == 0) = false := by simp; omega
  have e1 : (fld a 0 == 1) = false := by simp; omega
  have e2 : (fld a 0 == 2) = true := by simp; omega
  clear h ok hkk hy hc ha hk
  go_enter Try.func9, Try.ntmps9
  go_upto_region 1 with fail
  obtain ⟨g, hg⟩ : ∃ g, g = w.heap.size := ⟨_, rfl⟩
  have HG := Lib.hid hg
  rw [← hg] at X1 A1 Z1 SZ ⊢
  clear hg
  generalize ((w.alloc (.cells (trc x s) 30)).alloc (.cells (mc a) 44)).alloc (.cells zTr 30) = WV at X1 A1 Z1 B1 TV SZ ⊢
  have a0 := act_cell HA.out A1.out (i := 0) (by omega)
  have a1 := act_cell HA.out A1.out (i := 1) (by omega)
  have a2 := act_cell HA.out A1.out (i := 2) (by omega)
  have a3 := act_cell HA.out A1.out (i := 3) (by omega)
  have a4 := act_cell HA.out A1.out (i := 4) (by omega)
  have AM := Lib.hid (act_msg HA.out A1.out)
  have CO := Lib.hid (finish_any x s WV TV.out HS.out OK.out.tch OK.out.vts)
  rw [HY.out] at CO
  clear HY
  go_upto_region 16 with (first
    | (refine wpList_load_row rfl 30 (.tmp 2) rfl g rfl 30 (trc x s) (0, 0) _ X1.out Try.underlying30 rfl (tr_info _ _) ?_)
    | (go_at_call 20; refine CO.out.mono ?_; rintro e W2 ⟨s2, u, rfl, ht2, hu2, hb2⟩; obtain ⟨Au, cu, rfl⟩ := own_len hu2; have T2 := Lib.hid ht2; have U2 := Lib.hid hu2; have E2 := Lib.hid hb2; clear ht2 hu2 hb2)
    | (refine wpList_store_mid (by rfl) 30 (.tmp 2) (.tmp 39) (by rfl) g 0 (trc y s2) (by rfl) (by rfl) ((X1.out.here E2.out).there (Nat.le_refl 13)) (tr_info _ _) T2.out.one ?_
       have E3 := Lib.hid (show Turn (fun k => k = g) W2 (W2.setCells g 0 (trc y s2).toList) from Turn.setCells (S := fun k => k = g) (fun _ => rfl) _ _ _ (Turn.refl _ _))
       have XQ := Lib.hid ((X1.out.here E2.out).put (trc y s2) rfl)
       have hzl := Z1.out.lt
       have ZQ := Lib.hid ((Z1.out.here E2.out).turn E3.out (by omega))
       have BQ := Lib.hid ((stepB B1.out E2.out).trans (E3.out.below (B := w.heap.size) (fun k hk e => by have := HG.out; omega) (Nat.le_trans B1.out.size E2.out.size)))
       have TQ := Lib.hid (T2.out.offB (X1.out.here E2.out) E3.out)
       have UQ := Lib.hid (own_off U2.out E3.out (fun k hk _ e => by have := SZ.out; omega))
       clear E3 hzl
       generalize W2.setCells g 0 (trc y s2).toList = W3 at XQ ZQ BQ TQ UQ ⊢))
  have hxq := XQ.out.lt
  have hzq := ZQ.out.lt
  refine wp_region_held_drew (S := fun w' => Blk w' g 30 (trc y s2)) (by kernel_rfl) XQ.out.drew (fun hHeld => ?_)
  have BD := Lib.hid (show Below W3.heap.size W3 W3.drew from (Below.refl _ _).drew)
  generalize W3.drew = V1 at BD hHeld ⊢
  refine wpAnyH_take (i := 0) (v := .agg (trc y s2)) rfl (by kernel_rfl) (by kernel_rfl) (by kernel_rfl) (fun _ _ _ h => h) (Or.inl ⟨by rfl, fun w0 hSw => exec_load (x := .tmp 2) rfl rfl (tr_load hSw)⟩) (by assumption) ?_
  try simp only [List.getElem_toArray, List.getElem_cons_succ, List.getElem_cons_zero, Act.put, List.setIfInBounds_toArray, List.set_cons_zero, List.set_cons_succ]
  refine wpAnyH_take (i := 1) (v := ?_) rfl (by kernel_rfl) (by kernel_rfl) (by kernel_rfl) (fun _ _ _ h => h) (Or.inl ⟨by rfl, ?_⟩) (by assumption) ?_
  rotate_left
  · (intro w0 hSw; (try dsimp only at hSw); go_simp; try with_reducible rfl)
  try simp only [List.getElem_toArray, List.getElem_cons_succ, List.getElem_cons_zero, Act.put, List.setIfInBounds_toArray, List.set_cons_zero, List.set_cons_succ]
  refine wpAnyH_take (i := 2) (v := ?_) rfl (by kernel_rfl) (by kernel_rfl) (by kernel_rfl) (fun _ _ _ h => h) (Or.inl ⟨by rfl, ?_⟩) (by assumption) ?_
  rotate_left
  · (intro w0 hSw; (try dsimp only at hSw); go_simp; try with_reducible rfl)
  try simp only [List.getElem_toArray, List.getElem_cons_succ, List.getElem_cons_zero, Act.put, List.setIfInBounds_toArray, List.set_cons_zero, List.set_cons_succ]
  refine wpAnyH_ready (rs := [3]) (by kernel_rfl) (by simp) ?_
  refine AllReadyH.cons rfl (fun K hK => ?_) AllReadyH.nil
  go_simp
  refine (code_errV c HC.out _).mono ?_
  rintro e w5 ⟨rfl, rfl⟩
  try go_simp
  refine hK.out _ _ hHeld (fun hHeld => ?_)
  clear hK K
  have Z3 := Lib.hid (ZQ.out.here BD.out)
  refine wpAnyH_ready (rs := [4]) (by kernel_rfl) (by simp) ?_
  refine AllReadyH.cons rfl (fun K hK => ?_) AllReadyH.nil
  refine step_store_mid (by rfl) 30 (.tmp 4) (.tmp 71) rfl (g + 2) 0 (trc y s2) rfl rfl (Z3.out.there (Nat.le_refl 13)) (tr_info _ _) TQ.out.one ?_
  have X4 := Lib.hid (show Blk (V1.setCells (g + 2) 0 (trc y s2).toList) g 30 (trc y s2) from hHeld.farCells (by omega) _ _ _)
  have E4 := Lib.hid (show Turn (fun k => k = g + 2) V1 (V1.setCells (g + 2) 0 (trc y s2).toList) from Turn.setCells (S := fun k => k = g + 2) (fun _ => rfl) _ _ _ (Turn.refl _ _))
  have Z4 := Lib.hid (Z3.out.put (trc y s2) rfl)
  refine hK.out _ _ X4.out (fun hHeld => ?_)
  clear hK K
  generalize V1.setCells (g + 2) 0 (trc y s2).toList = V4 at X4 E4 Z4 hHeld ⊢
  refine wpAnyH_take (i := 5) (v := ?_) rfl (by kernel_rfl) (by kernel_rfl) (by kernel_rfl) (fun _ _ _ h => h) (Or.inl ⟨by rfl, ?_⟩) (by assumption) ?_
  rotate_left
  · (intro w0 hSw; (try dsimp only at hSw); go_simp; try with_reducible rfl)
  try simp only [List.getElem_toArray, List.getElem_cons_succ, List.getElem_cons_zero, Act.put, List.setIfInBounds_toArray, List.set_cons_zero, List.set_cons_succ]
  refine wpAnyH_take (i := 6) (v := ?_) rfl (by kernel_rfl) (by kernel_rfl) (by kernel_rfl) (fun _ _ _ h => h) (Or.inl ⟨by rfl, ?_⟩) (by assumption) ?_
  rotate_left
  · (intro w0 hSw; (try dsimp only at hSw); go_simp; try with_reducible rfl)
  try simp only [List.getElem_toArray, List.getElem_cons_succ, List.getElem_cons_zero, Act.put, List.setIfInBounds_toArray, List.set_cons_zero, List.set_cons_succ]
  refine wpAnyH_done (by kernel_rfl) ?_ _
  clear hHeld
  have T4 := Lib.hid ((TQ.out.step BD.out).offB Z3.out E4.out)
  have U4 := Lib.hid (own_off (own_step UQ.out BD.out) E4.out (fun k hk _ e => by have := SZ.out; omega))
  have F4 := Lib.hid ((stepB BQ.out BD.out).trans (E4.out.below (B := w.heap.size) (fun k hk e => by have := HG.out; omega) (Nat.le_trans BQ.out.size BD.out.size)))
  go_wp2_with fail
  exact bodyPost_ret (v := .tuple #[.agg (trc y s2), (.slice Au ms.length cu), .int .i64 c]) (results_and2 rfl rfl rfl rfl (tr_load Z4.out)) rfl ⟨s2, _, rfl, T4.out, own_less U4.out B1.out.size, F4.out⟩
set_option maxRecDepth 100000 in
set_option maxHeartbeats 8000000 in
theorem act_3 {B k : Nat} (x : Tr) (s : Sl) (a : List Int) (ha : a.length = 33) (w : World) (h : Tm w B x s) (ok : TrOk x k) (hkk : k ≤ 900) (hk : fld a 0 = 3) (y : Tr) (ms : List (List Int)) (c : Int) (hy : votL x (a.drop 5) = (y, ms, c)) (hc : codOk c) :
    Calls Try.prog 9 #[.agg (trc x s), .agg (mc a)] w (ActP w (y, ms, c)) := by
  have X1 := Lib.hid (((Blk.new w 30 (trc x s)).alloc (.cells (mc a) 44)).alloc (.cells zTr 30))
  have A1 := Lib.hid ((Blk.new_at (w := w.alloc (.cells (trc x s) 30)) (n := w.heap.size + 1) (by simp) 44 (mc a)).alloc (.cells zTr 30))
  have Z1 := Lib.hid (Blk.new_at (w := (w.alloc (.cells (trc x s) 30)).alloc (.cells (mc a) 44)) (n := w.heap.size + 2) (by simp) 30 zTr)
  have B1 := Lib.hid (((Joins.below_alloc1 w (.cells (trc x s) 30)).alloc (by simp <;> omega) (.cells (mc a) 44)).alloc (by simp <;> omega) (.cells zTr 30))
  have SZ := Lib.hid (show (((w.alloc (.cells (trc x s) 30)).alloc (.cells (mc a) 44)).alloc (.cells zTr 30)).heap.size = w.heap.size + 3 from by simp)
  have TV := Lib.hid (h.step B1.out)
  have OK := Lib.hid ok
  have HS := Lib.hid (ok.short (by omega))
  have HY := Lib.hid hy
  have HC := Lib.hid hc
  have HA := Lib.hid ha
  have HD := Lib.hid (act_drop ha)
  have HMI := Lib.hid (show (Try.prog.info? 42).map (·.size) = some (ints (a.drop 5)).length from by have := mc_info (act_drop ha); simpa [mc] using this)
  have e0 : (fld a 0 == 0) = false := by simp; omega
  have e1 : (fld a 0 == 1) = false := by simp; omega
  have e2 : (fld a 0 == 2) = false := by simp; omega
  have e3 : (fld a 0 == 3) = true := by simp; omega
  clear h ok hkk hy hc ha hk
  go_enter Try.func9, Try.ntmps9
  go_upto_region 1 with fail
  obtain ⟨g, hg⟩ : ∃ g, g = w.heap.size := ⟨_, rfl⟩
  have HG := Lib.hid hg
  rw [← hg] at X1 A1 Z1 SZ ⊢
  clear hg
  generalize ((w.alloc (.cells (trc x s) 30)).alloc (.cells (mc a) 44)).alloc (.cells zTr 30) = WV at X1 A1 Z1 B1 TV SZ ⊢
  have a0 := act_cell HA.out A1.out (i := 0) (by omega)
  have a1 := act_cell HA.out A1.out (i := 1) (by omega)
  have a2 := act_cell HA.out A1.out (i := 2) (by omega)
  have a3 := act_cell HA.out A1.out (i := 3) (by omega)
  have a4 := act_cell HA.out A1.out (i := 4) (by omega)
  have AM := Lib.hid (act_msg HA.out A1.out)
  have CO := Lib.hid (vote_any x s (a.drop 5) WV TV.out HS.out HD.out OK.out.tch OK.out.vts)
  rw [HY.out] at CO
  clear HY
  go_upto_region 16 with (first
    | (refine wpList_load_row rfl 30 (.tmp 2) rfl g rfl 30 (trc x s) (0, 0) _ X1.out Try.underlying30 rfl (tr_info _ _) ?_)
    | (refine wpList_load_cells rfl 42 (.tmp 46) rfl ⟨g + 1, 5, none⟩ rfl (ints (a.drop 5)) _ AM.out Try.underlying42 rfl HMI.out ?_)
    | (go_at_call 21; refine CO.out.mono ?_; rintro e W2 ⟨s2, u, rfl, ht2, hu2, hb2⟩; obtain ⟨Au, cu, rfl⟩ := own_len hu2; have T2 := Lib.hid ht2; have U2 := Lib.hid hu2; have E2 := Lib.hid hb2; clear ht2 hu2 hb2)
    | (refine wpList_store_mid (by rfl) 30 (.tmp 2) (.tmp 49) (by rfl) g 0 (trc y s2) (by rfl) (by rfl) ((X1.out.here E2.out).there (Nat.le_refl 13)) (tr_info _ _) T2.out.one ?_
       have E3 := Lib.hid (show Turn (fun k => k = g) W2 (W2.setCells g 0 (trc y s2).toList) from Turn.setCells (S := fun k => k = g) (fun _ => rfl) _ _ _ (Turn.refl _ _))
       have XQ := Lib.hid ((X1.out.here E2.out).put (trc y s2) rfl)
       have hzl := Z1.out.lt
       have ZQ := Lib.hid ((Z1.out.here E2.out).turn E3.out (by omega))
       have BQ := Lib.hid ((stepB B1.out E2.out).trans (E3.out.below (B := w.heap.size) (fun k hk e => by have := HG.out; omega) (Nat.le_trans B1.out.size E2.out.size)))
       have TQ := Lib.hid (T2.out.offB (X1.out.here E2.out) E3.out)
       have UQ := Lib.hid (own_off U2.out E3.out (fun k hk _ e => by have := SZ.out; omega))
       clear E3 hzl
       generalize W2.setCells g 0 (trc y s2).toList = W3 at XQ ZQ BQ TQ UQ ⊢))
  have hxq := XQ.out.lt
  have hzq := ZQ.out.lt
  refine wp_region_held_drew (S := fun w' => Blk w' g 30 (trc y s2)) (by kernel_rfl) XQ.out.drew (fun hHeld => ?_)
  have BD := Lib.hid (show Below W3.heap.size W3 W3.drew from (Below.refl _ _).drew)
  generalize W3.drew = V1 at BD hHeld ⊢
  refine wpAnyH_take (i := 0) (v := .agg (trc y s2)) rfl (by kernel_rfl) (by kernel_rfl) (by kernel_rfl) (fun _ _ _ h => h) (Or.inl ⟨by rfl, fun w0 hSw => exec_load (x := .tmp 2) rfl rfl (tr_load hSw)⟩) (by assumption) ?_
  try simp only [List.getElem_toArray, List.getElem_cons_succ, List.getElem_cons_zero, Act.put, List.setIfInBounds_toArray, List.set_cons_zero, List.set_cons_succ]
  refine wpAnyH_take (i := 1) (v := ?_) rfl (by kernel_rfl) (by kernel_rfl) (by kernel_rfl) (fun _ _ _ h => h) (Or.inl ⟨by rfl, ?_⟩) (by assumption) ?_
  rotate_left
  · (intro w0 hSw; (try dsimp only at hSw); go_simp; try with_reducible rfl)
  try simp only [List.getElem_toArray, List.getElem_cons_succ, List.getElem_cons_zero, Act.put, List.setIfInBounds_toArray, List.set_cons_zero, List.set_cons_succ]
  refine wpAnyH_take (i := 2) (v := ?_) rfl (by kernel_rfl) (by kernel_rfl) (by kernel_rfl) (fun _ _ _ h => h) (Or.inl ⟨by rfl, ?_⟩) (by assumption) ?_
  rotate_left
  · (intro w0 hSw; (try dsimp only at hSw); go_simp; try with_reducible rfl)
  try simp only [List.getElem_toArray, List.getElem_cons_succ, List.getElem_cons_zero, Act.put, List.setIfInBounds_toArray, List.set_cons_zero, List.set_cons_succ]
  refine wpAnyH_ready (rs := [3]) (by kernel_rfl) (by simp) ?_
  refine AllReadyH.cons rfl (fun K hK => ?_) AllReadyH.nil
  go_simp
  refine (code_errV c HC.out _).mono ?_
  rintro e w5 ⟨rfl, rfl⟩
  try go_simp
  refine hK.out _ _ hHeld (fun hHeld => ?_)
  clear hK K
  have Z3 := Lib.hid (ZQ.out.here BD.out)
  refine wpAnyH_ready (rs := [4]) (by kernel_rfl) (by simp) ?_
  refine AllReadyH.cons rfl (fun K hK => ?_) AllReadyH.nil
  refine step_store_mid (by rfl) 30 (.tmp 4) (.tmp 71) rfl (g + 2) 0 (trc y s2) rfl rfl (Z3.out.there (Nat.le_refl 13)) (tr_info _ _) TQ.out.one ?_
  have X4 := Lib.hid (show Blk (V1.setCells (g + 2) 0 (trc y s2).toList) g 30 (trc y s2) from hHeld.farCells (by omega) _ _ _)
  have E4 := Lib.hid (show Turn (fun k => k = g + 2) V1 (V1.setCells (g + 2) 0 (trc y s2).toList) from Turn.setCells (S := fun k => k = g + 2) (fun _ => rfl) _ _ _ (Turn.refl _ _))
  have Z4 := Lib.hid (Z3.out.put (trc y s2) rfl)
  refine hK.out _ _ X4.out (fun hHeld => ?_)
  clear hK K
  generalize V1.setCells (g + 2) 0 (trc y s2).toList = V4 at X4 E4 Z4 hHeld ⊢
  refine wpAnyH_take (i := 5) (v := ?_) rfl (by kernel_rfl) (by kernel_rfl) (by kernel_rfl) (fun _ _ _ h => h) (Or.inl ⟨by rfl, ?_⟩) (by assumption) ?_
  rotate_left
  · (intro w0 hSw; (try dsimp only at hSw); go_simp; try with_reducible rfl)
  try simp only [List.getElem_toArray, List.getElem_cons_succ, List.getElem_cons_zero, Act.put, List.setIfInBounds_toArray, List.set_cons_zero, List.set_cons_succ]
  refine wpAnyH_take (i := 6) (v := ?_) rfl (by kernel_rfl) (by kernel_rfl) (by kernel_rfl) (fun _ _ _ h => h) (Or.inl ⟨by rfl, ?_⟩) (by assumption) ?_
  rotate_left
  · (intro w0 hSw; (try dsimp only at hSw); go_simp; try with_reducible rfl)
  try simp only [List.getElem_toArray, List.getElem_cons_succ, List.getElem_cons_zero, Act.put, List.setIfInBounds_toArray, List.set_cons_zero, List.set_cons_succ]
  refine wpAnyH_done (by kernel_rfl) ?_ _
  clear hHeld
  have T4 := Lib.hid ((TQ.out.step BD.out).offB Z3.out E4.out)
  have U4 := Lib.hid (own_off (own_step UQ.out BD.out) E4.out (fun k hk _ e => by have := SZ.out; omega))
  have F4 := Lib.hid ((stepB BQ.out BD.out).trans (E4.out.below (B := w.heap.size) (fun k hk e => by have := HG.out; omega) (Nat.le_trans BQ.out.size BD.out.size)))
  go_wp2_with fail
  exact bodyPost_ret (v := .tuple #[.agg (trc y s2), (.slice Au ms.length cu), .int .i64 c]) (results_and2 rfl rfl rfl rfl (tr_load Z4.out)) rfl ⟨s2, _, rfl, T4.out, own_less U4.out B1.out.size, F4.out⟩
set_option maxRecDepth 100000 in
set_option maxHeartbeats 8000000 in
theorem act_4 {B k : Nat} (x : Tr) (s : Sl) (a : List Int) (ha : a.length = 33) (w : World) (h : Tm w B x s) (ok : TrOk x k) (hkk : k ≤ 900) (hk : fld a 0 = 4) (y : Tr) (ms : List (List Int)) (c : Int) (hy : abtL x (fld a 1) = (y, ms, c)) (hc : codOk c) :
    Calls Try.prog 9 #[.agg (trc x s), .agg (mc a)] w (ActP w (y, ms, c)) := by
  have X1 := Lib.hid (((Blk.new w 30 (trc x s)).alloc (.cells (mc a) 44)).alloc (.cells zTr 30))
  have A1 := Lib.hid ((Blk.new_at (w := w.alloc (.cells (trc x s) 30)) (n := w.heap.size + 1) (by simp) 44 (mc a)).alloc (.cells zTr 30))
  have Z1 := Lib.hid (Blk.new_at (w := (w.alloc (.cells (trc x s) 30)).alloc (.cells (mc a) 44)) (n := w.heap.size + 2) (by simp) 30 zTr)
  have B1 := Lib.hid (((Joins.below_alloc1 w (.cells (trc x s) 30)).alloc (by simp <;> omega) (.cells (mc a) 44)).alloc (by simp <;> omega) (.cells zTr 30))
  have SZ := Lib.hid (show (((w.alloc (.cells (trc x s) 30)).alloc (.cells (mc a) 44)).alloc (.cells zTr 30)).heap.size = w.heap.size + 3 from by simp)
  have TV := Lib.hid (h.step B1.out)
  have OK := Lib.hid ok
  have HS := Lib.hid (ok.short (by omega))
  have HY := Lib.hid hy
  have HC := Lib.hid hc
  have HA := Lib.hid ha
  have HD := Lib.hid (act_drop ha)
  have HMI := Lib.hid (show (Try.prog.info? 42).map (·.size) = some (ints (a.drop 5)).length from by have := mc_info (act_drop ha); simpa [mc] using this)
  have e0 : (fld a 0 == 0) = false := by simp; omega
  have e1 : (fld a 0 == 1) = false := by simp; omega
  have e2 : (fld a 0 == 2) = false := by simp; omega
  have e3 : (fld a 0 == 3) = false := by simp; omega
  have e4 : (fld a 0 == 4) = true := by simp; omega
  clear h ok hkk hy hc ha hk
  go_enter Try.func9, Try.ntmps9
  go_upto_region 1 with fail
  obtain ⟨g, hg⟩ : ∃ g, g = w.heap.size := ⟨_, rfl⟩
  have HG := Lib.hid hg
  rw [← hg] at X1 A1 Z1 SZ ⊢
  clear hg
  generalize ((w.alloc (.cells (trc x s) 30)).alloc (.cells (mc a) 44)).alloc (.cells zTr 30) = WV at X1 A1 Z1 B1 TV SZ ⊢
  have a0 := act_cell HA.out A1.out (i := 0) (by omega)
  have a1 := act_cell HA.out A1.out (i := 1) (by omega)
  have a2 := act_cell HA.out A1.out (i := 2) (by omega)
  have a3 := act_cell HA.out A1.out (i := 3) (by omega)
  have a4 := act_cell HA.out A1.out (i := 4) (by omega)
  have AM := Lib.hid (act_msg HA.out A1.out)
  have CO := Lib.hid (abort_any x s (fld a 1) WV TV.out HS.out)
  rw [HY.out] at CO
  clear HY
  go_upto_region 16 with (first
    | (refine wpList_load_row rfl 30 (.tmp 2) rfl g rfl 30 (trc x s) (0, 0) _ X1.out Try.underlying30 rfl (tr_info _ _) ?_)
    | (go_at_call 16; refine CO.out.mono ?_; rintro e W2 ⟨s2, u, rfl, ht2, hu2, hb2⟩; obtain ⟨Au, cu, rfl⟩ := own_len hu2; have T2 := Lib.hid ht2; have U2 := Lib.hid hu2; have E2 := Lib.hid hb2; clear ht2 hu2 hb2)
    | (refine wpList_store_mid (by rfl) 30 (.tmp 2) (.tmp 59) (by rfl) g 0 (trc y s2) (by rfl) (by rfl) ((X1.out.here E2.out).there (Nat.le_refl 13)) (tr_info _ _) T2.out.one ?_
       have E3 := Lib.hid (show Turn (fun k => k = g) W2 (W2.setCells g 0 (trc y s2).toList) from Turn.setCells (S := fun k => k = g) (fun _ => rfl) _ _ _ (Turn.refl _ _))
       have XQ := Lib.hid ((X1.out.here E2.out).put (trc y s2) rfl)
       have hzl := Z1.out.lt
       have ZQ := Lib.hid ((Z1.out.here E2.out).turn E3.out (by omega))
       have BQ := Lib.hid ((stepB B1.out E2.out).trans (E3.out.below (B := w.heap.size) (fun k hk e => by have := HG.out; omega) (Nat.le_trans B1.out.size E2.out.size)))
       have TQ := Lib.hid (T2.out.offB (X1.out.here E2.out) E3.out)
       have UQ := Lib.hid (own_off U2.out E3.out (fun k hk _ e => by have := SZ.out; omega))
       clear E3 hzl
       generalize W2.setCells g 0 (trc y s2).toList = W3 at XQ ZQ BQ TQ UQ ⊢))
  have hxq := XQ.out.lt
  have hzq := ZQ.out.lt
  refine wp_region_held_drew (S := fun w' => Blk w' g 30 (trc y s2)) (by kernel_rfl) XQ.out.drew (fun hHeld => ?_)
  have BD := Lib.hid (show Below W3.heap.size W3 W3.drew from (Below.refl _ _).drew)
  generalize W3.drew = V1 at BD hHeld ⊢
  refine wpAnyH_take (i := 0) (v := .agg (trc y s2)) rfl (by kernel_rfl) (by kernel_rfl) (by kernel_rfl) (fun _ _ _ h => h) (Or.inl ⟨by rfl, fun w0 hSw => exec_load (x := .tmp 2) rfl rfl (tr_load hSw)⟩) (by assumption) ?_
  try simp only [List.getElem_toArray, List.getElem_cons_succ, List.getElem_cons_zero, Act.put, List.setIfInBounds_toArray, List.set_cons_zero, List.set_cons_succ]
  refine wpAnyH_take (i := 1) (v := ?_) rfl (by kernel_rfl) (by kernel_rfl) (by kernel_rfl) (fun _ _ _ h => h) (Or.inl ⟨by rfl, ?_⟩) (by assumption) ?_
  rotate_left
  · (intro w0 hSw; (try dsimp only at hSw); go_simp; try with_reducible rfl)
  try simp only [List.getElem_toArray, List.getElem_cons_succ, List.getElem_cons_zero, Act.put, List.setIfInBounds_toArray, List.set_cons_zero, List.set_cons_succ]
  refine wpAnyH_take (i := 2) (v := ?_) rfl (by kernel_rfl) (by kernel_rfl) (by kernel_rfl) (fun _ _ _ h => h) (Or.inl ⟨by rfl, ?_⟩) (by assumption) ?_
  rotate_left
  · (intro w0 hSw; (try dsimp only at hSw); go_simp; try with_reducible rfl)
  try simp only [List.getElem_toArray, List.getElem_cons_succ, List.getElem_cons_zero, Act.put, List.setIfInBounds_toArray, List.set_cons_zero, List.set_cons_succ]
  refine wpAnyH_ready (rs := [3]) (by kernel_rfl) (by simp) ?_
  refine AllReadyH.cons rfl (fun K hK => ?_) AllReadyH.nil
  go_simp
  refine (code_errV c HC.out _).mono ?_
  rintro e w5 ⟨rfl, rfl⟩
  try go_simp
  refine hK.out _ _ hHeld (fun hHeld => ?_)
  clear hK K
  have Z3 := Lib.hid (ZQ.out.here BD.out)
  refine wpAnyH_ready (rs := [4]) (by kernel_rfl) (by simp) ?_
  refine AllReadyH.cons rfl (fun K hK => ?_) AllReadyH.nil
  refine step_store_mid (by rfl) 30 (.tmp 4) (.tmp 71) rfl (g + 2) 0 (trc y s2) rfl rfl (Z3.out.there (Nat.le_refl 13)) (tr_info _ _) TQ.out.one ?_
  have X4 := Lib.hid (show Blk (V1.setCells (g + 2) 0 (trc y s2).toList) g 30 (trc y s2) from hHeld.farCells (by omega) _ _ _)
  have E4 := Lib.hid (show Turn (fun k => k = g + 2) V1 (V1.setCells (g + 2) 0 (trc y s2).toList) from Turn.setCells (S := fun k => k = g + 2) (fun _ => rfl) _ _ _ (Turn.refl _ _))
  have Z4 := Lib.hid (Z3.out.put (trc y s2) rfl)
  refine hK.out _ _ X4.out (fun hHeld => ?_)
  clear hK K
  generalize V1.setCells (g + 2) 0 (trc y s2).toList = V4 at X4 E4 Z4 hHeld ⊢
  refine wpAnyH_take (i := 5) (v := ?_) rfl (by kernel_rfl) (by kernel_rfl) (by kernel_rfl) (fun _ _ _ h => h) (Or.inl ⟨by rfl, ?_⟩) (by assumption) ?_
  rotate_left
  · (intro w0 hSw; (try dsimp only at hSw); go_simp; try with_reducible rfl)
  try simp only [List.getElem_toArray, List.getElem_cons_succ, List.getElem_cons_zero, Act.put, List.setIfInBounds_toArray, List.set_cons_zero, List.set_cons_succ]
  refine wpAnyH_take (i := 6) (v := ?_) rfl (by kernel_rfl) (by kernel_rfl) (by kernel_rfl) (fun _ _ _ h => h) (Or.inl ⟨by rfl, ?_⟩) (by assumption) ?_
  rotate_left
  · (intro w0 hSw; (try dsimp only at hSw); go_simp; try with_reducible rfl)
  try simp only [List.getElem_toArray, List.getElem_cons_succ, List.getElem_cons_zero, Act.put, List.setIfInBounds_toArray, List.set_cons_zero, List.set_cons_succ]
  refine wpAnyH_done (by kernel_rfl) ?_ _
  clear hHeld
  have T4 := Lib.hid ((TQ.out.step BD.out).offB Z3.out E4.out)
  have U4 := Lib.hid (own_off (own_step UQ.out BD.out) E4.out (fun k hk _ e => by have := SZ.out; omega))
  have F4 := Lib.hid ((stepB BQ.out BD.out).trans (E4.out.below (B := w.heap.size) (fun k hk e => by have := HG.out; omega) (Nat.le_trans BQ.out.size BD.out.size)))
  go_wp2_with fail
  exact bodyPost_ret (v := .tuple #[.agg (trc y s2), (.slice Au ms.length cu), .int .i64 c]) (results_and2 rfl rfl rfl rfl (tr_load Z4.out)) rfl ⟨s2, _, rfl, T4.out, own_less U4.out B1.out.size, F4.out⟩
set_option maxRecDepth 100000 in
set_option maxHeartbeats 8000000 in
theorem act_5 {B k : Nat} (x : Tr) (s : Sl) (a : List Int) (ha : a.length = 33) (w : World) (h : Tm w B x s) (ok : TrOk x k) (hkk : k ≤ 900) (hk : fld a 0 = 5) (y : Tr) (c : Int) (hy : ackL x (a.drop 5) = (y, [], c)) (hc : codOk c) :
    Calls Try.prog 9 #[.agg (trc x s), .agg (mc a)] w (ActP w (y, [], c)) := by
  have X1 := Lib.hid (((Blk.new w 30 (trc x s)).alloc (.cells (mc a) 44)).alloc (.cells zTr 30))
  have A1 := Lib.hid ((Blk.new_at (w := w.alloc (.cells (trc x s) 30)) (n := w.heap.size + 1) (by simp) 44 (mc a)).alloc (.cells zTr 30))
  have Z1 := Lib.hid (Blk.new_at (w := (w.alloc (.cells (trc x s) 30)).alloc (.cells (mc a) 44)) (n := w.heap.size + 2) (by simp) 30 zTr)
  have B1 := Lib.hid (((Joins.below_alloc1 w (.cells (trc x s) 30)).alloc (by simp <;> omega) (.cells (mc a) 44)).alloc (by simp <;> omega) (.cells zTr 30))
  have SZ := Lib.hid (show (((w.alloc (.cells (trc x s) 30)).alloc (.cells (mc a) 44)).alloc (.cells zTr 30)).heap.size = w.heap.size + 3 from by simp)
  have TV := Lib.hid (h.step B1.out)
  have OK := Lib.hid ok
  have HS := Lib.hid (ok.short (by omega))
  have HY := Lib.hid hy
  have HC := Lib.hid hc
  have HA := Lib.hid ha
  have HD := Lib.hid (act_drop ha)
  have HMI := Lib.hid (show (Try.prog.info? 42).map (·.size) = some (ints (a.drop 5)).length from by have := mc_info (act_drop ha); simpa [mc] using this)
  have e0 : (fld a 0 == 0) = false := by simp; omega
  have e1 : (fld a 0 == 1) = false := by simp; omega
  have e2 : (fld a 0 == 2) = false := by simp; omega
  have e3 : (fld a 0 == 3) = false := by simp; omega
  have e4 : (fld a 0 == 4) = false := by simp; omega
  have e5 : (fld a 0 == 5) = true := by simp; omega
  clear h ok hkk hy hc ha hk
  go_enter Try.func9, Try.ntmps9
  go_upto_region 1 with fail
  obtain ⟨g, hg⟩ : ∃ g, g = w.heap.size := ⟨_, rfl⟩
  have HG := Lib.hid hg
  rw [← hg] at X1 A1 Z1 SZ ⊢
  clear hg
  generalize ((w.alloc (.cells (trc x s) 30)).alloc (.cells (mc a) 44)).alloc (.cells zTr 30) = WV at X1 A1 Z1 B1 TV SZ ⊢
  have a0 := act_cell HA.out A1.out (i := 0) (by omega)
  have a1 := act_cell HA.out A1.out (i := 1) (by omega)
  have a2 := act_cell HA.out A1.out (i := 2) (by omega)
  have a3 := act_cell HA.out A1.out (i := 3) (by omega)
  have a4 := act_cell HA.out A1.out (i := 4) (by omega)
  have AM := Lib.hid (act_msg HA.out A1.out)
  have CO := Lib.hid (ack_any x s (a.drop 5) WV TV.out HS.out HD.out OK.out.acks)
  rw [HY.out] at CO
  clear HY
  go_upto_region 16 with (first
    | (refine wpList_load_row rfl 30 (.tmp 2) rfl g rfl 30 (trc x s) (0, 0) _ X1.out Try.underlying30 rfl (tr_info _ _) ?_)
    | (refine wpList_load_cells rfl 42 (.tmp 66) rfl ⟨g + 1, 5, none⟩ rfl (ints (a.drop 5)) _ AM.out Try.underlying42 rfl HMI.out ?_)
    | (go_at_call 22; refine CO.out.mono ?_; rintro e W2 ⟨s2, rfl, ht2, hb2⟩; have T2 := Lib.hid ht2; have E2 := Lib.hid hb2; clear ht2 hb2)
    | (refine wpList_store_mid (by rfl) 30 (.tmp 2) (.tmp 69) (by rfl) g 0 (trc y s2) (by rfl) (by rfl) ((X1.out.here E2.out).there (Nat.le_refl 13)) (tr_info _ _) T2.out.one ?_
       have E3 := Lib.hid (show Turn (fun k => k = g) W2 (W2.setCells g 0 (trc y s2).toList) from Turn.setCells (S := fun k => k = g) (fun _ => rfl) _ _ _ (Turn.refl _ _))
       have XQ := Lib.hid ((X1.out.here E2.out).put (trc y s2) rfl)
       have hzl := Z1.out.lt
       have ZQ := Lib.hid ((Z1.out.here E2.out).turn E3.out (by omega))
       have BQ := Lib.hid ((stepB B1.out E2.out).trans (E3.out.below (B := w.heap.size) (fun k hk e => by have := HG.out; omega) (Nat.le_trans B1.out.size E2.out.size)))
       have TQ := Lib.hid (T2.out.offB (X1.out.here E2.out) E3.out)
       clear E3 hzl
       generalize W2.setCells g 0 (trc y s2).toList = W3 at XQ ZQ BQ TQ ⊢))
  have hxq := XQ.out.lt
  have hzq := ZQ.out.lt
  refine wp_region_held_drew (S := fun w' => Blk w' g 30 (trc y s2)) (by kernel_rfl) XQ.out.drew (fun hHeld => ?_)
  have BD := Lib.hid (show Below W3.heap.size W3 W3.drew from (Below.refl _ _).drew)
  generalize W3.drew = V1 at BD hHeld ⊢
  refine wpAnyH_take (i := 0) (v := .agg (trc y s2)) rfl (by kernel_rfl) (by kernel_rfl) (by kernel_rfl) (fun _ _ _ h => h) (Or.inl ⟨by rfl, fun w0 hSw => exec_load (x := .tmp 2) rfl rfl (tr_load hSw)⟩) (by assumption) ?_
  try simp only [List.getElem_toArray, List.getElem_cons_succ, List.getElem_cons_zero, Act.put, List.setIfInBounds_toArray, List.set_cons_zero, List.set_cons_succ]
  refine wpAnyH_take (i := 1) (v := ?_) rfl (by kernel_rfl) (by kernel_rfl) (by kernel_rfl) (fun _ _ _ h => h) (Or.inl ⟨by rfl, ?_⟩) (by assumption) ?_
  rotate_left
  · (intro w0 hSw; (try dsimp only at hSw); go_simp; try with_reducible rfl)
  try simp only [List.getElem_toArray, List.getElem_cons_succ, List.getElem_cons_zero, Act.put, List.setIfInBounds_toArray, List.set_cons_zero, List.set_cons_succ]
  refine wpAnyH_take (i := 2) (v := ?_) rfl (by kernel_rfl) (by kernel_rfl) (by kernel_rfl) (fun _ _ _ h => h) (Or.inl ⟨by rfl, ?_⟩) (by assumption) ?_
  rotate_left
  · (intro w0 hSw; (try dsimp only at hSw); go_simp; try with_reducible rfl)
  try simp only [List.getElem_toArray, List.getElem_cons_succ, List.getElem_cons_zero, Act.put, List.setIfInBounds_toArray, List.set_cons_zero, List.set_cons_succ]
  refine wpAnyH_ready (rs := [3]) (by kernel_rfl) (by simp) ?_
  refine AllReadyH.cons rfl (fun K hK => ?_) AllReadyH.nil
  go_simp
  refine (code_errV c HC.out _).mono ?_
  rintro e w5 ⟨rfl, rfl⟩
  try go_simp
  refine hK.out _ _ hHeld (fun hHeld => ?_)
  clear hK K
  have Z3 := Lib.hid (ZQ.out.here BD.out)
  refine wpAnyH_ready (rs := [4]) (by kernel_rfl) (by simp) ?_
  refine AllReadyH.cons rfl (fun K hK => ?_) AllReadyH.nil
  refine step_store_mid (by rfl) 30 (.tmp 4) (.tmp 71) rfl (g + 2) 0 (trc y s2) rfl rfl (Z3.out.there (Nat.le_refl 13)) (tr_info _ _) TQ.out.one ?_
  have X4 := Lib.hid (show Blk (V1.setCells (g + 2) 0 (trc y s2).toList) g 30 (trc y s2) from hHeld.farCells (by omega) _ _ _)
  have E4 := Lib.hid (show Turn (fun k => k = g + 2) V1 (V1.setCells (g + 2) 0 (trc y s2).toList) from Turn.setCells (S := fun k => k = g + 2) (fun _ => rfl) _ _ _ (Turn.refl _ _))
  have Z4 := Lib.hid (Z3.out.put (trc y s2) rfl)
  refine hK.out _ _ X4.out (fun hHeld => ?_)
  clear hK K
  generalize V1.setCells (g + 2) 0 (trc y s2).toList = V4 at X4 E4 Z4 hHeld ⊢
  refine wpAnyH_take (i := 5) (v := ?_) rfl (by kernel_rfl) (by kernel_rfl) (by kernel_rfl) (fun _ _ _ h => h) (Or.inl ⟨by rfl, ?_⟩) (by assumption) ?_
  rotate_left
  · (intro w0 hSw; (try dsimp only at hSw); go_simp; try with_reducible rfl)
  try simp only [List.getElem_toArray, List.getElem_cons_succ, List.getElem_cons_zero, Act.put, List.setIfInBounds_toArray, List.set_cons_zero, List.set_cons_succ]
  refine wpAnyH_take (i := 6) (v := ?_) rfl (by kernel_rfl) (by kernel_rfl) (by kernel_rfl) (fun _ _ _ h => h) (Or.inl ⟨by rfl, ?_⟩) (by assumption) ?_
  rotate_left
  · (intro w0 hSw; (try dsimp only at hSw); go_simp; try with_reducible rfl)
  try simp only [List.getElem_toArray, List.getElem_cons_succ, List.getElem_cons_zero, Act.put, List.setIfInBounds_toArray, List.set_cons_zero, List.set_cons_succ]
  refine wpAnyH_done (by kernel_rfl) ?_ _
  clear hHeld
  have T4 := Lib.hid ((TQ.out.step BD.out).offB Z3.out E4.out)
  have F4 := Lib.hid ((stepB BQ.out BD.out).trans (E4.out.below (B := w.heap.size) (fun k hk e => by have := HG.out; omega) (Nat.le_trans BQ.out.size BD.out.size)))
  go_wp2_with fail
  exact bodyPost_ret (v := .tuple #[.agg (trc y s2), (.slice none 0 0), .int .i64 c]) (results_and2 rfl rfl rfl rfl (tr_load Z4.out)) rfl ⟨s2, _, rfl, T4.out, World.ownsRow_nil _ _ _ _, F4.out⟩
set_option maxRecDepth 100000 in
set_option maxHeartbeats 8000000 in
theorem act_6 {B k : Nat} (x : Tr) (s : Sl) (a : List Int) (ha : a.length = 33) (w : World) (h : Tm w B x s) (ok : TrOk x k) (hkk : k ≤ 900) (hk : fld a 0 < 0 ∨ 5 < fld a 0) (y : Tr) (ms : List (List Int)) (c : Int) (hy : (x, [], 0) = (y, ms, c)) (hc : codOk c) :
    Calls Try.prog 9 #[.agg (trc x s), .agg (mc a)] w (ActP w (y, ms, c)) := by
  have X1 := Lib.hid (((Blk.new w 30 (trc x s)).alloc (.cells (mc a) 44)).alloc (.cells zTr 30))
  have A1 := Lib.hid ((Blk.new_at (w := w.alloc (.cells (trc x s) 30)) (n := w.heap.size + 1) (by simp) 44 (mc a)).alloc (.cells zTr 30))
  have Z1 := Lib.hid (Blk.new_at (w := (w.alloc (.cells (trc x s) 30)).alloc (.cells (mc a) 44)) (n := w.heap.size + 2) (by simp) 30 zTr)
  have B1 := Lib.hid (((Joins.below_alloc1 w (.cells (trc x s) 30)).alloc (by simp <;> omega) (.cells (mc a) 44)).alloc (by simp <;> omega) (.cells zTr 30))
  have SZ := Lib.hid (show (((w.alloc (.cells (trc x s) 30)).alloc (.cells (mc a) 44)).alloc (.cells zTr 30)).heap.size = w.heap.size + 3 from by simp)
  have TV := Lib.hid (h.step B1.out)
  have OK := Lib.hid ok
  have HS := Lib.hid (ok.short (by omega))
  have HY := Lib.hid hy
  have HC := Lib.hid hc
  have HA := Lib.hid ha
  have HD := Lib.hid (act_drop ha)
  have HMI := Lib.hid (show (Try.prog.info? 42).map (·.size) = some (ints (a.drop 5)).length from by have := mc_info (act_drop ha); simpa [mc] using this)
  have e0 : (fld a 0 == 0) = false := by simp; omega
  have e1 : (fld a 0 == 1) = false := by simp; omega
  have e2 : (fld a 0 == 2) = false := by simp; omega
  have e3 : (fld a 0 == 3) = false := by simp; omega
  have e4 : (fld a 0 == 4) = false := by simp; omega
  have e5 : (fld a 0 == 5) = false := by simp; omega
  clear h ok hkk hy hc ha hk
  go_enter Try.func9, Try.ntmps9
  go_upto_region 1 with fail
  obtain ⟨g, hg⟩ : ∃ g, g = w.heap.size := ⟨_, rfl⟩
  have HG := Lib.hid hg
  rw [← hg] at X1 A1 Z1 SZ ⊢
  clear hg
  generalize ((w.alloc (.cells (trc x s) 30)).alloc (.cells (mc a) 44)).alloc (.cells zTr 30) = WV at X1 A1 Z1 B1 TV SZ ⊢
  have a0 := act_cell HA.out A1.out (i := 0) (by omega)
  have a1 := act_cell HA.out A1.out (i := 1) (by omega)
  have a2 := act_cell HA.out A1.out (i := 2) (by omega)
  have a3 := act_cell HA.out A1.out (i := 3) (by omega)
  have a4 := act_cell HA.out A1.out (i := 4) (by omega)
  have AM := Lib.hid (act_msg HA.out A1.out)
  obtain ⟨rfl, rfl, rfl⟩ : x = y ∧ [] = ms ∧ 0 = c := by have h := HY.out; simpa using h
  go_upto_region 16 with fail
  have XQ := X1
  have ZQ := Z1
  have BQ := B1
  have TQ := Lib.hid (TV.out.less (Nat.zero_le _))
  generalize WV = W3 at XQ ZQ BQ TQ SZ ⊢
  have hxq := XQ.out.lt
  have hzq := ZQ.out.lt
  refine wp_region_held_drew (S := fun w' => Blk w' g 30 (trc x s)) (by kernel_rfl) XQ.out.drew (fun hHeld => ?_)
  have BD := Lib.hid (show Below W3.heap.size W3 W3.drew from (Below.refl _ _).drew)
  generalize W3.drew = V1 at BD hHeld ⊢
  refine wpAnyH_take (i := 0) (v := .agg (trc x s)) rfl (by kernel_rfl) (by kernel_rfl) (by kernel_rfl) (fun _ _ _ h => h) (Or.inl ⟨by rfl, fun w0 hSw => exec_load (x := .tmp 2) rfl rfl (tr_load hSw)⟩) (by assumption) ?_
  try simp only [List.getElem_toArray, List.getElem_cons_succ, List.getElem_cons_zero, Act.put, List.setIfInBounds_toArray, List.set_cons_zero, List.set_cons_succ]
  refine wpAnyH_take (i := 1) (v := ?_) rfl (by kernel_rfl) (by kernel_rfl) (by kernel_rfl) (fun _ _ _ h => h) (Or.inl ⟨by rfl, ?_⟩) (by assumption) ?_
  rotate_left
  · (intro w0 hSw; (try dsimp only at hSw); go_simp; try with_reducible rfl)
  try simp only [List.getElem_toArray, List.getElem_cons_succ, List.getElem_cons_zero, Act.put, List.setIfInBounds_toArray, List.set_cons_zero, List.set_cons_succ]
  refine wpAnyH_take (i := 2) (v := ?_) rfl (by kernel_rfl) (by kernel_rfl) (by kernel_rfl) (fun _ _ _ h => h) (Or.inl ⟨by rfl, ?_⟩) (by assumption) ?_
  rotate_left
  · (intro w0 hSw; (try dsimp only at hSw); go_simp; try with_reducible rfl)
  try simp only [List.getElem_toArray, List.getElem_cons_succ, List.getElem_cons_zero, Act.put, List.setIfInBounds_toArray, List.set_cons_zero, List.set_cons_succ]
  refine wpAnyH_ready (rs := [3]) (by kernel_rfl) (by simp) ?_
  refine AllReadyH.cons rfl (fun K hK => ?_) AllReadyH.nil
  go_simp
  refine (code_nil _).mono ?_
  rintro e w5 ⟨rfl, rfl⟩
  try go_simp
  refine hK.out _ _ hHeld (fun hHeld => ?_)
  clear hK K
  have Z3 := Lib.hid (ZQ.out.here BD.out)
  refine wpAnyH_ready (rs := [4]) (by kernel_rfl) (by simp) ?_
  refine AllReadyH.cons rfl (fun K hK => ?_) AllReadyH.nil
  refine step_store_mid (by rfl) 30 (.tmp 4) (.tmp 71) rfl (g + 2) 0 (trc x s) rfl rfl (Z3.out.there (Nat.le_refl 13)) (tr_info _ _) TQ.out.one ?_
  have X4 := Lib.hid (show Blk (V1.setCells (g + 2) 0 (trc x s).toList) g 30 (trc x s) from hHeld.farCells (by omega) _ _ _)
  have E4 := Lib.hid (show Turn (fun k => k = g + 2) V1 (V1.setCells (g + 2) 0 (trc x s).toList) from Turn.setCells (S := fun k => k = g + 2) (fun _ => rfl) _ _ _ (Turn.refl _ _))
  have Z4 := Lib.hid (Z3.out.put (trc x s) rfl)
  refine hK.out _ _ X4.out (fun hHeld => ?_)
  clear hK K
  generalize V1.setCells (g + 2) 0 (trc x s).toList = V4 at X4 E4 Z4 hHeld ⊢
  refine wpAnyH_take (i := 5) (v := ?_) rfl (by kernel_rfl) (by kernel_rfl) (by kernel_rfl) (fun _ _ _ h => h) (Or.inl ⟨by rfl, ?_⟩) (by assumption) ?_
  rotate_left
  · (intro w0 hSw; (try dsimp only at hSw); go_simp; try with_reducible rfl)
  try simp only [List.getElem_toArray, List.getElem_cons_succ, List.getElem_cons_zero, Act.put, List.setIfInBounds_toArray, List.set_cons_zero, List.set_cons_succ]
  refine wpAnyH_take (i := 6) (v := ?_) rfl (by kernel_rfl) (by kernel_rfl) (by kernel_rfl) (fun _ _ _ h => h) (Or.inl ⟨by rfl, ?_⟩) (by assumption) ?_
  rotate_left
  · (intro w0 hSw; (try dsimp only at hSw); go_simp; try with_reducible rfl)
  try simp only [List.getElem_toArray, List.getElem_cons_succ, List.getElem_cons_zero, Act.put, List.setIfInBounds_toArray, List.set_cons_zero, List.set_cons_succ]
  refine wpAnyH_done (by kernel_rfl) ?_ _
  clear hHeld
  have T4 := Lib.hid ((TQ.out.step BD.out).offB Z3.out E4.out)
  have F4 := Lib.hid ((stepB BQ.out BD.out).trans (E4.out.below (B := w.heap.size) (fun k hk e => by have := HG.out; omega) (Nat.le_trans BQ.out.size BD.out.size)))
  go_wp2_with fail
  exact bodyPost_ret (v := .tuple #[.agg (trc x s), (.slice none 0 0), .int .i64 0]) (results_and2 rfl rfl rfl rfl (tr_load Z4.out)) rfl ⟨s, _, rfl, T4.out, World.ownsRow_nil _ _ _ _, F4.out⟩
theorem ansL_nil (x : Tr) (m : List Int) : (ansL x m).2.1 = [] := by
  unfold ansL
  split; rfl
  split; rfl
  split; rfl
  rfl
theorem ackL_nil (x : Tr) (m : List Int) : (ackL x m).2.1 = [] := by
  unfold ackL
  split; rfl
  split; rfl
  split; rfl
  rfl
theorem act_any {B k : Nat} (x : Tr) (s : Sl) (a : List Int) (ha : a.length = 33) (w : World) (h : Tm w B x s) (ok : TrOk x k) (hkk : k ≤ 900) :
    Calls Try.prog 9 #[.agg (trc x s), .agg (mc a)] w (ActP w (actL x a)) := by
  have hc := actL_code x a
  by_cases h0 : fld a 0 = 0
  · have e : actL x a = askL x (fld a 1) (fld a 2) (fld a 3) (fld a 4) := by unfold actL; rw [if_pos h0]
    rw [e] at hc ⊢
    exact act_0 x s a ha w h ok hkk h0 _ _ _ rfl hc
  by_cases h1 : fld a 0 = 1
  · have e : actL x a = ansL x (a.drop 5) := by unfold actL; rw [if_neg h0, if_pos h1]
    rw [e] at hc ⊢
    have e2 : ansL x (a.drop 5) = ((ansL x (a.drop 5)).1, [], (ansL x (a.drop 5)).2.2) := by rw [← ansL_nil x (a.drop 5)]
    rw [e2] at hc ⊢
    exact act_1 x s a ha w h ok hkk h1 _ _ e2 hc
  by_cases h2 : fld a 0 = 2
  · have e : actL x a = finL x := by unfold actL; rw [if_neg h0, if_neg h1, if_pos h2]
    rw [e] at hc ⊢
    exact act_2 x s a ha w h ok hkk h2 _ _ _ rfl hc
  by_cases h3 : fld a 0 = 3
  · have e : actL x a = votL x (a.drop 5) := by unfold actL; rw [if_neg h0, if_neg h1, if_neg h2, if_pos h3]
    rw [e] at hc ⊢
    exact act_3 x s a ha w h ok hkk h3 _ _ _ rfl hc
  by_cases h4 : fld a 0 = 4
  · have e : actL x a = abtL x (fld a 1) := by unfold actL; rw [if_neg h0, if_neg h1, if_neg h2, if_neg h3, if_pos h4]
    rw [e] at hc ⊢
    exact act_4 x s a ha w h ok hkk h4 _ _ _ rfl hc
  by_cases h5 : fld a 0 = 5
  · have e : actL x a = ackL x (a.drop 5) := by unfold actL; rw [if_neg h0, if_neg h1, if_neg h2, if_neg h3, if_neg h4, if_pos h5]
    rw [e] at hc ⊢
    have e2 : ackL x (a.drop 5) = ((ackL x (a.drop 5)).1, [], (ackL x (a.drop 5)).2.2) := by rw [← ackL_nil x (a.drop 5)]
    rw [e2] at hc ⊢
    exact act_5 x s a ha w h ok hkk h5 _ _ e2 hc
  · have e : actL x a = (x, [], 0) := by unfold actL; rw [if_neg h0, if_neg h1, if_neg h2, if_neg h3, if_neg h4, if_neg h5]
    rw [e] at hc ⊢
    exact act_6 x s a ha w h ok hkk (by omega) _ _ _ rfl hc
end Go.Proofs.Ytopjkidekbfalaa
/- The document's example of a transaction. -/
namespace Go.Proofs.Ytopjkidekbfalaa
open Go.RowKit
set_option linter.unusedVariables false
set_option linter.unusedSimpArgs false

def ax0 : Tr := newL 5
def ax1 : Tr := ⟨5, 1, 0, 1, true, 2, 3, 1, 4, [2], [], [], []⟩
def ax2 : Tr := ⟨5, 1, 0, 1, false, 2, 3, 1, 4, [2], [], [], [[5, 1, 3, 1, 4]]⟩
def ax3 : Tr := ⟨5, 2, 0, 1, false, 2, 3, 1, 4, [2], [], [], [[5, 1, 3, 1, 4]]⟩
def ax4 : Tr := ⟨5, 3, 0, 1, false, 2, 3, 1, 4, [2], [2], [], [[5, 1, 3, 1, 4]]⟩
def ax5 : Tr := ⟨5, 3, 0, 1, false, 2, 3, 1, 4, [2], [2], [2], [[5, 1, 3, 1, 4]]⟩
def am2 : List Int := [2, 2, 0, 5, 1, 3, 1, 4, 0, 0, 0, 0, 0, 0, 0, 0, 0, 0, 0, 0, 0, 0, 0, 0, 0, 0, 0, 0]
def am5 : List Int := [5, 2, 0, 5, 0, 0, 0, 0, 1, 0, 0, 0, 0, 0, 0, 0, 0, 0, 0, 0, 0, 0, 0, 0, 0, 0, 0, 0]
def am7 : List Int := [7, 2, 0, 5, 0, 0, 0, 0, 0, 0, 0, 0, 0, 0, 0, 0, 0, 0, 0, 0, 0, 0, 0, 0, 0, 0, 0, 0]
def apm : List Int := [4, 0, 2, 5, 0, 0, 0, 0, 0, 0, 0, 0, 0, 0, 0, 0, 0, 0, 0, 0, 0, 0, 0, 0, 0, 0, 0, 0]
def adm : List Int := [6, 0, 2, 5, 0, 0, 0, 0, 1, 0, 0, 0, 0, 0, 0, 0, 0, 0, 0, 0, 0, 0, 0, 0, 0, 0, 0, 0]
theorem alock : lockL ax1 2 = [1, 0, 2, 5, 1, 3, 1, 4, 0, 0, 0, 0, 0, 0, 0, 0, 0, 0, 0, 0, 0, 0, 0, 0, 0, 0, 0, 0] := rfl
theorem astep1 : askL ax0 2 3 1 4 = (ax1, [lockL ax1 2], 0) := by kernel_rfl
theorem astep2 : ansL ax1 am2 = (ax2, [], 0) := by kernel_rfl
theorem astep3 : finL ax2 = (ax3, [apm], 0) := by kernel_rfl
theorem astep4 : votL ax3 am5 = (ax4, [adm], 0) := by kernel_rfl
theorem astep5 : ackL ax4 am7 = (ax5, [], 0) := by kernel_rfl
theorem aover : overB ax5 = true := by kernel_rfl
theorem two_ok : Shs [2] := ⟨by simp [Ris], fun n hn => by rw [List.mem_singleton.1 hn]; omega⟩
theorem got_ok : ∀ m ∈ [[(5 : Int), 1, 3, 1, 4]], m.length = 5 := fun m hm => by rw [List.mem_singleton.1 hm]; rfl
theorem as0 : Short ax0 := ⟨by show 0 ≤ 1000; omega, by show 0 ≤ 1000; omega, by show 0 ≤ 1000; omega, by show 0 ≤ 1000; omega, fun _ h => by cases h⟩
theorem as1 : Short ax1 := ⟨by show 1 ≤ 1000; omega, by show 0 ≤ 1000; omega, by show 0 ≤ 1000; omega, by show 0 ≤ 1000; omega, fun _ h => by cases h⟩
theorem as2 : Short ax2 := ⟨by show 1 ≤ 1000; omega, by show 0 ≤ 1000; omega, by show 0 ≤ 1000; omega, by show 1 ≤ 1000; omega, got_ok⟩
theorem as3 : Short ax3 := ⟨by show 1 ≤ 1000; omega, by show 0 ≤ 1000; omega, by show 0 ≤ 1000; omega, by show 1 ≤ 1000; omega, got_ok⟩
theorem as4 : Short ax4 := ⟨by show 1 ≤ 1000; omega, by show 1 ≤ 1000; omega, by show 0 ≤ 1000; omega, by show 1 ≤ 1000; omega, got_ok⟩
/-- A message in a row of one. -/
theorem one_msg {w : World} {B n c : Nat} {A : Option Addr} {m : List Int} (hm : m.length = 28) (h : MsgR w B (.slice A n c) [m]) : n = 1 ∧ ∃ r, A = some ⟨r, 0, none⟩ ∧ ∀ j v, (ints m)[j]? = some v → w.cell? ((⟨r, 0, none⟩ : Addr).add j) = some v := by
  obtain ⟨A', c', e1⟩ := own_len h
  injection e1 with e1 e2 e3
  simp only [List.length_cons, List.length_nil] at e2
  subst e2
  obtain ⟨r, cap, hv, _, _⟩ := World.ownsRow.form h (by simp)
  injection hv with hv _ _
  subst hv
  refine ⟨rfl, r, rfl, fun j v hj => ?_⟩
  rw [show (⟨r, 0, none⟩ : Addr).add j = ⟨r, j, none⟩ by unfold Addr.add; split <;> simp_all]
  exact own_cell h (by simpa using hj)

set_option maxRecDepth 100000 in
set_option maxHeartbeats 16000000 in
theorem txnAlive (w : World) : Calls Try.prog 7 #[] w fun e w' => e = .returned (.bool true) ∧ Below w.heap.size w w' := by
  have hen := fun W => run_eql_nil_nil (P := Try.prog) W 32 Try.underlying32
  have HIM := Lib.hid (fun (q : List Int) (hq : q.length = 28) => show (Try.prog.info? 42).map (·.size) = some (ints q).length from by have := mc_info hq; simpa [mc] using this)
  go_enter Try.func7, Try.ntmps7
  go_upto_region 2 with (first
    | (go_at_call 8; refine (new_ok 5 (by omega) (by omega) _).mono ?_; rintro e W1 ⟨rfl, hb⟩; have B1 := Lib.hid hb; clear hb)
    | (refine wpList_store_mid (by rfl) 30 (.tmp 1) (.tmp 14) (by rfl) W1.heap.size 0 (trc (newL 5) noSl) (by rfl) (by rfl) ((show Blk (W1.alloc (.cells zTr 30)) W1.heap.size 30 (trc noTr noSl) from Blk.new W1 _ _).there (Nat.le_refl 13)) (tr_info _ _) (tr_one _ _ rfl rfl rfl rfl) ?_
       have XV := Lib.hid (show Blk ((W1.alloc (.cells zTr 30)).setCells W1.heap.size 0 (trc (newL 5) noSl).toList) W1.heap.size 30 (trc ax0 noSl) from (show Blk (W1.alloc (.cells zTr 30)) W1.heap.size 30 (trc noTr noSl) from Blk.new W1 _ _).put _ rfl)
       have BV := Lib.hid (Below.setCells (b := W1.heap.size) (show w.heap.size ≤ W1.heap.size from B1.out.size) (trc (newL 5) noSl).toList 0 _ (stepA B1.out (.cells zTr 30)))
       have HG := Lib.hid B1.out.size
       generalize (W1.alloc (.cells zTr 30)).setCells W1.heap.size 0 (trc (newL 5) noSl).toList = WV at XV BV ⊢
       generalize W1.heap.size = g at XV HG ⊢))
  have hgl := XV.out.lt
  have XW := Lib.hid (XV.out.alloc (.cells #[.int .i64 3, .int .i64 1] 25))
  have RW := Lib.hid (Blk.new WV 25 #[.int .i64 3, .int .i64 1])
  have BW := Lib.hid (stepA BV.out (.cells #[.int .i64 3, .int .i64 1] 25))
  go_upto_region 3 with fail
  have HGR := Lib.hid (show g < WV.heap.size from hgl)
  have HGW := Lib.hid (show w.heap.size ≤ WV.heap.size from BV.out.size)
  clear XV BV hgl B1
  generalize WV.heap.size = r at RW HGR HGW ⊢
  generalize WV.alloc (.cells #[.int .i64 3, .int .i64 1] 25) = WV at XW RW BW ⊢
  have XV := XW
  have RV := RW
  have BV := BW
  have TV := Lib.hid (show Tm WV 0 ax0 noSl from Tm.new WV 0 5)
  clear XW RW BW
  have LG := Lib.hid (show g < WV.heap.size from XV.out.lt)
  have r0 : WV.cell? ⟨r, 0, none⟩ = some (.int .i64 3) := RV.out.cell 0
  have r1 : WV.cell? ⟨r, 1, none⟩ = some (.int .i64 1) := RV.out.cell 1
  have CO := Lib.hid (show Calls Try.prog 18 #[.agg (trc ax0 noSl), .int .i64 2, .agg #[.int .i64 3, .int .i64 1], .int .i64 4] WV (Post3 WV (ax1, [lockL ax1 2], 0)) from by rw [← astep1]; exact ask_any ax0 noSl 3 1 2 4 WV TV.out as0 Shs.nil (by show (0 : Int) ≤ 0; omega))
  go_upto_region 4 with (first
    | (refine wpList_load_row rfl 30 (.tmp 1) rfl g rfl 30 (trc ax0 noSl) (0, 0) _ XV.out Try.underlying30 rfl (tr_info _ _) ?_)
    | (go_at_call 18; refine CO.out.mono ?_; rintro e W2 ⟨s1, u0, rfl, ht2, hu2, hb2⟩; obtain ⟨A0, c0, rfl⟩ := own_len hu2; rw [errV_zero]; have T2 := Lib.hid ht2; have U2 := Lib.hid hu2; have E2 := Lib.hid hb2; clear ht2 hu2 hb2)
    | (refine wpList_store_mid (by rfl) 30 (.tmp 1) (.tmp 21) (by rfl) g 0 (trc ax1 s1) (by rfl) (by rfl) ((XV.out.here E2.out).there (Nat.le_refl 13)) (tr_info _ _) T2.out.one ?_
       have E3 := Lib.hid (show Turn (fun k => k = g) W2 (W2.setCells g 0 (trc ax1 s1).toList) from Turn.setCells (S := fun k => k = g) (fun _ => rfl) _ _ _ (Turn.refl _ _))
       have XQ := Lib.hid ((XV.out.here E2.out).put (trc ax1 s1) rfl)
       have hrl := RV.out.lt
       have RQ := Lib.hid ((RV.out.here E2.out).turn E3.out (by have := HGR.out; omega))
       have BQ := Lib.hid ((stepB BV.out E2.out).trans (E3.out.below (B := w.heap.size) (fun k hk e => by have := HG.out; omega) (Nat.le_trans BV.out.size E2.out.size)))
       have TQ := Lib.hid (T2.out.offB (XV.out.here E2.out) E3.out)
       have UA := Lib.hid (own_off U2.out E3.out (fun k hk _ e => by have := LG.out; omega))
       have UAL := Lib.hid LG.out
       clear hrl
       generalize W2.setCells g 0 (trc ax1 s1).toList = W3 at XQ RQ BQ TQ UA ⊢))
  clear XV RV BV TV CO T2 E2 E3 LG U2
  generalize W3 = WV at XQ RQ BQ TQ UA ⊢
  have XV := XQ
  have RV := RQ
  have BV := BQ
  have TV := TQ
  clear XQ RQ BQ TQ
  have LG := Lib.hid (show g < WV.heap.size from XV.out.lt)
  have r0 : WV.cell? ⟨r, 0, none⟩ = some (.int .i64 3) := RV.out.cell 0
  have r1 : WV.cell? ⟨r, 1, none⟩ = some (.int .i64 1) := RV.out.cell 1
  have CO := Lib.hid (show Calls Try.prog 19 #[.agg (trc ax1 s1), .agg #[.int .i64 2, .int .i64 2, .int .i64 0, .int .i64 5, .int .i64 1, .int .i64 3, .int .i64 1, .int .i64 4, .int .i64 0, .int .i64 0, .int .i64 0, .int .i64 0, .int .i64 0, .int .i64 0, .int .i64 0, .int .i64 0, .int .i64 0, .int .i64 0, .int .i64 0, .int .i64 0, .int .i64 0, .int .i64 0, .int .i64 0, .int .i64 0, .int .i64 0, .int .i64 0, .int .i64 0, .int .i64 0]] WV (Post2 WV (ax2, [], 0)) from by rw [← astep2]; exact answered_any ax1 s1 am2 WV TV.out as1 rfl)
  go_upto_region 5 with (first
    | (refine wpList_load_row rfl 30 (.tmp 1) rfl g rfl 30 (trc ax1 s1) (0, 0) _ XV.out Try.underlying30 rfl (tr_info _ _) ?_)
    | (go_at_call 19; refine CO.out.mono ?_; rintro e W2 ⟨s2, rfl, ht2, hb2⟩; rw [errV_zero]; have T2 := Lib.hid ht2; have E2 := Lib.hid hb2; clear ht2 hb2)
    | (refine wpList_store_mid (by rfl) 30 (.tmp 1) (.tmp 29) (by rfl) g 0 (trc ax2 s2) (by rfl) (by rfl) ((XV.out.here E2.out).there (Nat.le_refl 13)) (tr_info _ _) T2.out.one ?_
       have E3 := Lib.hid (show Turn (fun k => k = g) W2 (W2.setCells g 0 (trc ax2 s2).toList) from Turn.setCells (S := fun k => k = g) (fun _ => rfl) _ _ _ (Turn.refl _ _))
       have XQ := Lib.hid ((XV.out.here E2.out).put (trc ax2 s2) rfl)
       have hrl := RV.out.lt
       have RQ := Lib.hid ((RV.out.here E2.out).turn E3.out (by have := HGR.out; omega))
       have BQ := Lib.hid ((stepB BV.out E2.out).trans (E3.out.below (B := w.heap.size) (fun k hk e => by have := HG.out; omega) (Nat.le_trans BV.out.size E2.out.size)))
       have TQ := Lib.hid (T2.out.offB (XV.out.here E2.out) E3.out)
       have UA := Lib.hid (own_off (own_step UA.out E2.out) E3.out (fun k hk _ e => by have := UAL.out; omega))
       clear hrl
       generalize W2.setCells g 0 (trc ax2 s2).toList = W3 at XQ RQ BQ TQ UA ⊢))
  clear XV RV BV TV CO T2 E2 E3 LG
  generalize W3 = WV at XQ RQ BQ TQ UA ⊢
  have XV := XQ
  have RV := RQ
  have BV := BQ
  have TV := TQ
  clear XQ RQ BQ TQ
  have LG := Lib.hid (show g < WV.heap.size from XV.out.lt)
  have CO := Lib.hid (show Calls Try.prog 20 #[.agg (trc ax2 s2)] WV (Post3 WV (ax3, [apm], 0)) from by rw [← astep3]; exact finish_any ax2 s2 WV TV.out as2 two_ok Shs.nil)
  go_upto_region 6 with (first
    | (refine wpList_load_row rfl 30 (.tmp 1) rfl g rfl 30 (trc ax2 s2) (0, 0) _ XV.out Try.underlying30 rfl (tr_info _ _) ?_)
    | (go_at_call 20; refine CO.out.mono ?_; rintro e W2 ⟨s3, u2, rfl, ht2, hu2, hb2⟩; obtain ⟨A2, c2, rfl⟩ := own_len hu2; rw [errV_zero]; have T2 := Lib.hid ht2; have U2 := Lib.hid hu2; have E2 := Lib.hid hb2; clear ht2 hu2 hb2)
    | (refine wpList_store_mid (by rfl) 30 (.tmp 1) (.tmp 34) (by rfl) g 0 (trc ax3 s3) (by rfl) (by rfl) ((XV.out.here E2.out).there (Nat.le_refl 13)) (tr_info _ _) T2.out.one ?_
       have E3 := Lib.hid (show Turn (fun k => k = g) W2 (W2.setCells g 0 (trc ax3 s3).toList) from Turn.setCells (S := fun k => k = g) (fun _ => rfl) _ _ _ (Turn.refl _ _))
       have XQ := Lib.hid ((XV.out.here E2.out).put (trc ax3 s3) rfl)
       have hrl := RV.out.lt
       have RQ := Lib.hid ((RV.out.here E2.out).turn E3.out (by have := HGR.out; omega))
       have BQ := Lib.hid ((stepB BV.out E2.out).trans (E3.out.below (B := w.heap.size) (fun k hk e => by have := HG.out; omega) (Nat.le_trans BV.out.size E2.out.size)))
       have TQ := Lib.hid (T2.out.offB (XV.out.here E2.out) E3.out)
       have UA := Lib.hid (own_off (own_step UA.out E2.out) E3.out (fun k hk _ e => by have := UAL.out; omega))
       have UB := Lib.hid (own_off U2.out E3.out (fun k hk _ e => by have := LG.out; omega))
       have UBL := Lib.hid LG.out
       clear hrl
       generalize W2.setCells g 0 (trc ax3 s3).toList = W3 at XQ RQ BQ TQ UA UB ⊢))
  clear XV RV BV TV CO T2 E2 E3 LG U2
  generalize W3 = WV at XQ RQ BQ TQ UA UB ⊢
  have XV := XQ
  have RV := RQ
  have BV := BQ
  have TV := TQ
  clear XQ RQ BQ TQ
  have LG := Lib.hid (show g < WV.heap.size from XV.out.lt)
  have CO := Lib.hid (show Calls Try.prog 21 #[.agg (trc ax3 s3), .agg #[.int .i64 5, .int .i64 2, .int .i64 0, .int .i64 5, .int .i64 0, .int .i64 0, .int .i64 0, .int .i64 0, .int .i64 1, .int .i64 0, .int .i64 0, .int .i64 0, .int .i64 0, .int .i64 0, .int .i64 0, .int .i64 0, .int .i64 0, .int .i64 0, .int .i64 0, .int .i64 0, .int .i64 0, .int .i64 0, .int .i64 0, .int .i64 0, .int .i64 0, .int .i64 0, .int .i64 0, .int .i64 0]] WV (Post3 WV (ax4, [adm], 0)) from by rw [← astep4]; exact vote_any ax3 s3 am5 WV TV.out as3 rfl two_ok Shs.nil)
  go_upto_region 7 with (first
    | (refine wpList_load_row rfl 30 (.tmp 1) rfl g rfl 30 (trc ax3 s3) (0, 0) _ XV.out Try.underlying30 rfl (tr_info _ _) ?_)
    | (go_at_call 21; refine CO.out.mono ?_; rintro e W2 ⟨s4, u3, rfl, ht2, hu2, hb2⟩; obtain ⟨A3, c3, rfl⟩ := own_len hu2; rw [errV_zero]; have T2 := Lib.hid ht2; have U2 := Lib.hid hu2; have E2 := Lib.hid hb2; clear ht2 hu2 hb2)
    | (refine wpList_store_mid (by rfl) 30 (.tmp 1) (.tmp 41) (by rfl) g 0 (trc ax4 s4) (by rfl) (by rfl) ((XV.out.here E2.out).there (Nat.le_refl 13)) (tr_info _ _) T2.out.one ?_
       have E3 := Lib.hid (show Turn (fun k => k = g) W2 (W2.setCells g 0 (trc ax4 s4).toList) from Turn.setCells (S := fun k => k = g) (fun _ => rfl) _ _ _ (Turn.refl _ _))
       have XQ := Lib.hid ((XV.out.here E2.out).put (trc ax4 s4) rfl)
       have hrl := RV.out.lt
       have RQ := Lib.hid ((RV.out.here E2.out).turn E3.out (by have := HGR.out; omega))
       have BQ := Lib.hid ((stepB BV.out E2.out).trans (E3.out.below (B := w.heap.size) (fun k hk e => by have := HG.out; omega) (Nat.le_trans BV.out.size E2.out.size)))
       have TQ := Lib.hid (T2.out.offB (XV.out.here E2.out) E3.out)
       have UA := Lib.hid (own_off (own_step UA.out E2.out) E3.out (fun k hk _ e => by have := UAL.out; omega))
       have UB := Lib.hid (own_off (own_step UB.out E2.out) E3.out (fun k hk _ e => by have := UBL.out; omega))
       have UC := Lib.hid (own_off U2.out E3.out (fun k hk _ e => by have := LG.out; omega))
       have UCL := Lib.hid LG.out
       clear hrl
       generalize W2.setCells g 0 (trc ax4 s4).toList = W3 at XQ RQ BQ TQ UA UB UC ⊢))
  clear XV RV BV TV CO T2 E2 E3 LG U2
  generalize W3 = WV at XQ RQ BQ TQ UA UB UC ⊢
  have XV := XQ
  have RV := RQ
  have BV := BQ
  have TV := TQ
  clear XQ RQ BQ TQ
  have LG := Lib.hid (show g < WV.heap.size from XV.out.lt)
  have CO := Lib.hid (show Calls Try.prog 22 #[.agg (trc ax4 s4), .agg #[.int .i64 7, .int .i64 2, .int .i64 0, .int .i64 5, .int .i64 0, .int .i64 0, .int .i64 0, .int .i64 0, .int .i64 0, .int .i64 0, .int .i64 0, .int .i64 0, .int .i64 0, .int .i64 0, .int .i64 0, .int .i64 0, .int .i64 0, .int .i64 0, .int .i64 0, .int .i64 0, .int .i64 0, .int .i64 0, .int .i64 0, .int .i64 0, .int .i64 0, .int .i64 0, .int .i64 0, .int .i64 0]] WV (Post2 WV (ax5, [], 0)) from by rw [← astep5]; exact ack_any ax4 s4 am7 WV TV.out as4 rfl Shs.nil)
  go_upto_region 8 with (first
    | (refine wpList_load_row rfl 30 (.tmp 1) rfl g rfl 30 (trc ax4 s4) (0, 0) _ XV.out Try.underlying30 rfl (tr_info _ _) ?_)
    | (go_at_call 22; refine CO.out.mono ?_; rintro e W2 ⟨s5, rfl, ht2, hb2⟩; rw [errV_zero]; have T2 := Lib.hid ht2; have E2 := Lib.hid hb2; clear ht2 hb2)
    | (refine wpList_store_mid (by rfl) 30 (.tmp 1) (.tmp 48) (by rfl) g 0 (trc ax5 s5) (by rfl) (by rfl) ((XV.out.here E2.out).there (Nat.le_refl 13)) (tr_info _ _) T2.out.one ?_
       have E3 := Lib.hid (show Turn (fun k => k = g) W2 (W2.setCells g 0 (trc ax5 s5).toList) from Turn.setCells (S := fun k => k = g) (fun _ => rfl) _ _ _ (Turn.refl _ _))
       have XQ := Lib.hid ((XV.out.here E2.out).put (trc ax5 s5) rfl)
       have hrl := RV.out.lt
       have RQ := Lib.hid ((RV.out.here E2.out).turn E3.out (by have := HGR.out; omega))
       have BQ := Lib.hid ((stepB BV.out E2.out).trans (E3.out.below (B := w.heap.size) (fun k hk e => by have := HG.out; omega) (Nat.le_trans BV.out.size E2.out.size)))
       have TQ := Lib.hid (T2.out.offB (XV.out.here E2.out) E3.out)
       have UA := Lib.hid (own_off (own_step UA.out E2.out) E3.out (fun k hk _ e => by have := UAL.out; omega))
       have UB := Lib.hid (own_off (own_step UB.out E2.out) E3.out (fun k hk _ e => by have := UBL.out; omega))
       have UC := Lib.hid (own_off (own_step UC.out E2.out) E3.out (fun k hk _ e => by have := UCL.out; omega))
       clear hrl
       generalize W2.setCells g 0 (trc ax5 s5).toList = W3 at XQ RQ BQ TQ UA UB UC ⊢))
  clear XV RV BV TV CO T2 E2 E3 LG
  generalize W3 = WV at XQ RQ BQ TQ UA UB UC ⊢
  have XV := XQ
  have RV := RQ
  have BV := BQ
  have TV := TQ
  clear XQ RQ BQ TQ
  obtain ⟨eA, rA, rfl, CA⟩ := one_msg rfl UA.out
  obtain ⟨eB, rB, rfl, CB⟩ := one_msg (show apm.length = 28 from rfl) UB.out
  obtain ⟨eC, rC, rfl, CC⟩ := one_msg (show adm.length = 28 from rfl) UC.out

  clear eA eB eC UA UB UC UAL UBL UCL
  have HCB := Lib.hid CB
  have HCC := Lib.hid CC
  have EB := fun W => eql_msg (a := apm) (b := apm) rfl rfl W
  have EC := fun W => eql_msg (a := adm) (b := adm) rfl rfl W
  rw [decide_eq_true rfl] at EB EC
  have EB : ∀ W, (binOp .eql 42 (.agg (ints apm).toArray) (.agg #[.int .i64 4, .int .i64 0, .int .i64 2, .int .i64 5, .int .i64 0, .int .i64 0, .int .i64 0, .int .i64 0, .int .i64 0, .int .i64 0, .int .i64 0, .int .i64 0, .int .i64 0, .int .i64 0, .int .i64 0, .int .i64 0, .int .i64 0, .int .i64 0, .int .i64 0, .int .i64 0, .int .i64 0, .int .i64 0, .int .i64 0, .int .i64 0, .int .i64 0, .int .i64 0, .int .i64 0, .int .i64 0])).run Try.prog W = .ok (.bool true) W := EB
  have EC : ∀ W, (binOp .eql 42 (.agg (ints adm).toArray) (.agg #[.int .i64 6, .int .i64 0, .int .i64 2, .int .i64 5, .int .i64 0, .int .i64 0, .int .i64 0, .int .i64 0, .int .i64 1, .int .i64 0, .int .i64 0, .int .i64 0, .int .i64 0, .int .i64 0, .int .i64 0, .int .i64 0, .int .i64 0, .int .i64 0, .int .i64 0, .int .i64 0, .int .i64 0, .int .i64 0, .int .i64 0, .int .i64 0, .int .i64 0, .int .i64 0, .int .i64 0, .int .i64 0])).run Try.prog W = .ok (.bool true) W := EC
  clear CA CB CC
  have c1 : WV.cell? ⟨g, 1, none⟩ = some (.int .i64 3) := XV.out.cell 1
  have TKB := Lib.hid True.intro
  have TKC := Lib.hid True.intro
  go_wp2_with (first
    | (have _t := TKB; refine wpList_load_cells_g (by rfl) 42 (.tmp 84) rfl ⟨rB, 0, none⟩ rfl (ints apm) _ HCB.out Try.underlying42 rfl (HIM.out apm rfl) ?_; clear _t TKB)
    | (have _t := TKC; refine wpList_load_cells_g (by rfl) 42 (.tmp 96) rfl ⟨rC, 0, none⟩ rfl (ints adm) _ HCC.out Try.underlying42 rfl (HIM.out adm rfl) ?_; clear _t TKC)
    | (refine wpList_load_row_g (by rfl) 30 (.tmp 1) rfl g rfl 30 (trc ax5 s5) (0, 0) _ XV.out Try.underlying30 rfl (tr_info _ _) ?_)
    | (go_at_call 13; refine (over_any ax5 s5 _ TV.out two_ok two_ok).mono ?_; rintro e W9 ⟨rfl, hb9⟩; rw [aover]; have B9 := Lib.hid (stepB BV.out hb9); clear hb9))
  go_ret
  exact ⟨rfl, B9.out⟩
end Go.Proofs.Ytopjkidekbfalaa
/- A region whose last operation writes what others load: operations that read no memory. -/
namespace Go.Proofs.Ytopjkidekbfalaa
open Go.RowKit

section
variable {P : Program} {ops : Array Oper} {Q : Exit → Act → World → Prop} {md : Region.Mode} {S : World → Prop} {late : Nat}
/-- An operation that reads no memory may be taken first, whether 'late' waits for it or not, and behind it, too. -/
theorem wpTill_pure_first {i : Nat} {o : Oper} {v : Value} (hi : ops[i]? = some o) (hne : late ≠ i)
    (hsel : ∀ (j : Nat) (o : Oper) cs b, ops[j]? = some o → o.op ≠ .select cs b) (hQ : ∀ c a w, Q (.panic c) (a.put o.dst v) w → Q (.panic c) a w) :
    ∀ (n : Nat) (done : Array Bool) (a : Act) (w : World), (done.getD late true = false → S w) →
      (∀ j oj, ops[j]? = some oj → j ≠ i → done.getD j true = false → (∀ e ∈ oj.after, Region.binds md e = true → e.on ≠ i) → o.apart ops oj = true) →
      i ∈ Region.ready md ops done → YieldsIf P ops (fun _ => True) o v a → wpTill P md ops Q S late n (done.setIfInBounds i true) (a.put o.dst v) w → wpTill P md ops Q S late (n + 1) done a w := by
  intro n
  induction n with
  | zero =>
    intro done a w hS _ hr hy H
    refine ⟨fun h => (by rw [h] at hr; cases hr), fun j hj => ?_⟩
    by_cases hji : j = i
    · subst hji; exact hy.wpOp hi trivial ⟨fun hf => hS (by rwa [getD_set_ne true (Ne.symm hne)] at hf), H⟩
    · have := ready_mono hj hji
      rw [H.1] at this
      cases this
  | succ n ih =>
    intro done a w hS hfree hr hy H
    refine ⟨fun h => (by rw [h] at hr; cases hr), fun j hj => ?_⟩
    by_cases hji : j = i
    · subst hji; exact hy.wpOp hi trivial ⟨fun hf => hS (by rwa [getD_set_ne true (Ne.symm hne)] at hf), H⟩
    · have h1 := H.2 j (ready_mono hj hji)
      obtain ⟨hjun, oj, hoj, hall⟩ := mem_ready.1 hj
      have hnot : ∀ e ∈ oj.after, Region.binds md e = true → e.on ≠ i := fun e he hb heq => by
        have h1 := hall e he hb
        have h0 := (mem_ready.1 hr).1
        rw [heq] at h1
        rcases Nat.lt_or_ge i done.size with h' | h'
        · simp [h'] at h0 h1; rw [h0] at h1; cases h1
        · simp [Array.getElem?_eq_none h'] at h1
      have hSS : ∀ {b : Bool}, (done.setIfInBounds j true).getD late true = b → ((done.setIfInBounds i true).setIfInBounds j true).getD late true = b := fun h => by
        rw [Array.setIfInBounds_comm _ _ (Ne.symm hji), getD_set_ne true (Ne.symm hne)]; exact h
      have h2 := wpOp_putIf hoj (hfree j oj hoj hji hjun hnot) (fun cs b => hsel i o cs b hi) (fun cs b => hsel j oj cs b hoj) hQ hy h1
      refine wpOp_mono (fun b u h3 => ⟨fun hf => h3.2.1 (hSS hf), ih (done.setIfInBounds j true) b u (fun hf => h3.2.1 (hSS hf)) (fun k ok hk hki hun hno => ?_) (ready_mono hr (Ne.symm hji)) h3.1 ?_⟩) h2
      · refine hfree k ok hk hki ?_ hno
        by_cases hjk : j = k
        · subst hjk; exact hjun
        · rw [getD_set_ne true hjk] at hun; exact hun
      · rw [Array.setIfInBounds_comm _ _ hji]
        exact h3.2.2
theorem wpTill_pure {i : Nat} {o : Oper} {v : Value} {n : Nat} {done : Array Bool} {a : Act} {w : World} (hi : ops[i]? = some o)
    (hs : Region.noSelect ops = true) (hf : Region.free md ops done i = true) (hr : (Region.ready md ops done).contains i = true) (hne : decide (late ≠ i) = true)
    (hQ : ∀ c a w, Q (.panic c) (a.put o.dst v) w → Q (.panic c) a w) (hy : YieldsIf P ops (fun _ => True) o v a) (hS : done.getD late true = false → S w)
    (h : wpTill P md ops Q S late n (done.setIfInBounds i true) (a.put o.dst v) w) : wpTill P md ops Q S late (n + 1) done a w :=
  wpTill_pure_first hi (of_decide_eq_true hne) (Region.noSelect_spec hs) hQ n done a w hS (Region.free_spec hi hf) (by simpa using hr) hy h
end
end Go.Proofs.Ytopjkidekbfalaa
/- The laws' loops: something that happens, one behind the other; the walk of TxnAbort. -/
namespace Go.Proofs.Ytopjkidekbfalaa
open Go.RowKit
set_option linter.unusedVariables false
set_option linter.unusedSimpArgs false

/-- Something that happens, at a place of a slice. -/
theorem Reads.txAct_at {w : World} {B n : Nat} {A : Option Addr} {ls : List (List Int)} (h : Reads w B 33 A n (ints ls.flatten)) (hall : ∀ l ∈ ls, l.length = 33) (hn : ls.length = n) {i : Nat} (hi : i < n) :
    ∃ b off, A = some ⟨b, off, none⟩ ∧ b < B ∧ (ls.getD i []).length = 33 ∧ ∀ j v, (ints (ls.getD i []))[j]? = some v → w.cell? ((⟨b, off + i * 33, none⟩ : Addr).add j) = some v := by
  obtain ⟨b, off, e, hb, hc, h33⟩ := h.flat_at hall hn (by omega) hi
  refine ⟨b, off, e, hb, h33, fun j v hv => ?_⟩
  have hj : j < 33 := by have := (List.getElem?_eq_some_iff.1 hv).1; rwa [ints_length, h33] at this
  rw [show (⟨b, off + i * 33, none⟩ : Addr).add j = ⟨b, off + i * 33 + j, none⟩ by unfold Addr.add; split <;> simp_all]
  rw [hc j hj, ← hv]
  generalize ls.getD i [] = l at h33
  simp [ints, fld_get (show j < l.length by omega)]
theorem act_info {a : List Int} (hl : a.length = 33) : (Try.prog.info? 44).map (·.size) = some (ints a).length := by
  rw [ints_length, hl]; kernel_rfl
theorem goOnL_tx (x : Tr) : (goOnL x).1.tx = x.tx := by unfold goOnL; split; rfl; split <;> rfl
theorem abtL_tx (x : Tr) (r : Int) : (abtL x r).1.tx = x.tx := by unfold abtL; split; rfl; split <;> rfl
theorem actL_tx (x : Tr) (a : List Int) : (actL x a).1.tx = x.tx := by
  unfold actL
  split
  · unfold askL
    split; rfl
    split; rfl
    split; rfl
    split; rfl
    rfl
  split
  · unfold ansL
    split; rfl
    split; rfl
    split; rfl
    rfl
  split
  · unfold finL
    split; rfl
    split; rfl
    exact goOnL_tx x
  split
  · unfold votL
    split; rfl
    split; rfl
    split; rfl
    split; exact abtL_tx x 2
    exact goOnL_tx _
  split
  · exact abtL_tx x _
  split
  · unfold ackL
    split; rfl
    split; rfl
    split; rfl
    rfl
  rfl
theorem news_abt {x : Tr} {r : Int} (h5 : x.tx = 5) (t : Int) : newsL (abtX x r) t = msgL 6 t 5 0 0 0 0 0 := by rw [newsL_4 (show (abtX x r).st = 4 from rfl)]; rw [show (abtX x r).tx = 5 from h5]
set_option maxRecDepth 100000 in
set_option maxHeartbeats 32000000 in
theorem txnAbort_walk (A : Option Addr) (n c : Nat) (l : List (List Int)) (rz : Int) (hz0 : 0 ≤ rz) (hz1 : rz ≤ 255) (w : World) (hl : l.length = n) (ha : ∀ x ∈ l, x.length = 33) (hr : Reads w w.heap.size 33 A n (ints l.flatten)) :
    Calls Try.prog 6 #[.slice A n c, .int .u8 rz] w fun e w' => e = .returned (.bool true) ∧ Below w.heap.size w w' := by
  have hnn := fun W => run_neq_nil_nil (P := Try.prog) W 32 Try.underlying32
  have hen := fun W => run_eql_nil_nil (P := Try.prog) W 32 Try.underlying32
  have H := Lib.hid hr
  have HL := Lib.hid hl
  have HA := Lib.hid ha
  clear hr hl ha
  by_cases hn : 60 < n
  · have d0 : decide ((60 : Int) < (n : Int)) = true := by simp; omega
    go_enter Try.func6, Try.ntmps6
    go_wp2_with (go_at_call 7; refine (txnAlive _).mono ?_; rintro e w0 ⟨rfl, hb0⟩; have B0 := Lib.hid hb0; clear hb0)
    go_ret
    exact ⟨rfl, B0.out⟩
  · have d0 : decide ((60 : Int) < (n : Int)) = false := by simp; omega
    go_enter Try.func6, Try.ntmps6
    go_upto_region 6 with (first
      | (go_at_call 7; refine (txnAlive _).mono ?_; rintro e w0 ⟨rfl, hb0⟩; have B0 := Lib.hid hb0; clear hb0)
      | (go_at_call 8; refine (new_ok 5 (by omega) (by omega) _).mono ?_; rintro e W1 ⟨rfl, hb⟩; have B1 := Lib.hid (stepB B0.out hb); clear hb B0)
      | (refine wpList_store_mid (by rfl) 30 (.tmp 5) (.tmp 20) (by rfl) W1.heap.size 0 (trc (newL 5) noSl) (by rfl) (by rfl) ((show Blk (W1.alloc (.cells zTr 30)) W1.heap.size 30 (trc noTr noSl) from Blk.new W1 _ _).there (Nat.le_refl 13)) (tr_info _ _) (tr_one _ _ rfl rfl rfl rfl) ?_
         have XV := Lib.hid (show Blk ((W1.alloc (.cells zTr 30)).setCells W1.heap.size 0 (trc (newL 5) noSl).toList) W1.heap.size 30 (trc (newL 5) noSl) from (show Blk (W1.alloc (.cells zTr 30)) W1.heap.size 30 (trc noTr noSl) from Blk.new W1 _ _).put _ rfl)
         have BV := Lib.hid (Below.setCells (b := W1.heap.size) (show w.heap.size ≤ W1.heap.size from B1.out.size) (trc (newL 5) noSl).toList 0 _ (stepA B1.out (.cells zTr 30)))
         have HG := Lib.hid B1.out.size
         generalize (W1.alloc (.cells zTr 30)).setCells W1.heap.size 0 (trc (newL 5) noSl).toList = WV at XV BV ⊢
         generalize W1.heap.size = g at XV HG ⊢))
    clear B1
    go_wp2_with fail
    go_loopw [7] (fun i wr => ∃ (m : Nat) (x : Tr) (s : Sl), m ≤ n ∧ i = .int .i64 m ∧ TrOk x m ∧ x.tx = 5 ∧ Blk wr g 30 (trc x s) ∧ Tm wr 0 x s ∧ Below w.heap.size w wr) (fun i _ => n - (RowKit.intOf i).toNat)
    case atStart => exact ⟨0, newL 5, noSl, Nat.zero_le _, rfl, TrOk.new (by omega) 0, rfl, XV.out, Tm.new WV 0 5, BV.out⟩
    case round =>
      rename World => X
      obtain ⟨m, x, s, hm, rfl, hok, htx, hblk, htm, hbel⟩ := hrel
      have OKX := Lib.hid hok
      have HTX := Lib.hid htx
      have XX := Lib.hid hblk
      have TX := Lib.hid htm
      have BX := Lib.hid hbel
      clear hok htx hblk htm hbel XV BV
      by_cases hmn : m < n
      · have d3 : decide ((m : Int) < (n : Int)) = true := by simp; omega
        go_upto_region 11 with fail
        obtain ⟨ab, aoff, rfl, hab, ha33, hac⟩ := (H.out.below BX.out).txAct_at HA.out HL.out hmn
        have AC := Lib.hid hac
        have A33 := Lib.hid ha33
        clear hac ha33 hab
        generalize l.getD m [] = a at AC A33
        have HAI := Lib.hid (act_info A33.out)
        have hgl := XX.out.lt
        refine wp_region_till 10 (fun w' => Blk w' g 30 (trc x s) ∧ ∀ j v, (ints a)[j]? = some v → w'.cell? ((⟨ab, aoff + m * 33, none⟩ : Addr).add j) = some v) (by kernel_rfl) ⟨XX.out.drew, fun j v hv => AC.out j v hv⟩ (fun hHeld => ?_)
        have BD := Lib.hid (show Below X.heap.size X X.drew from (Below.refl _ _).drew)
        have HCK := Lib.hid (show ∀ Y, Below X.heap.size X Y → ∀ j v, (ints a)[j]? = some v → Y.cell? ((⟨ab, aoff + m * 33, none⟩ : Addr).add j) = some v from fun Y hy j v hv => (hy.cell (p := (⟨ab, aoff + m * 33, none⟩ : Addr).add j) (by rw [block_of_add]; exact World.block_lt_of_cell? _ _ (AC.out j v hv) |> (by simpa [block_of_add] using ·))).trans (AC.out j v hv))
        generalize X.drew = X1 at BD hHeld ⊢
        refine wpTill_take (i := 0) (v := .agg (trc x s)) rfl (by kernel_rfl) (by kernel_rfl) (by kernel_rfl) (by kernel_rfl) (fun _ _ _ h => h) (Or.inl ⟨by rfl, fun w0 hSw => exec_load (x := .tmp 5) rfl rfl (tr_load hSw.1)⟩) (by assumption) ?_
        try simp only [List.getElem_toArray, List.getElem_cons_succ, List.getElem_cons_zero, Act.put, List.setIfInBounds_toArray, List.set_cons_zero, List.set_cons_succ]
        refine wpTill_take (i := 1) (v := ?_) rfl (by kernel_rfl) (by kernel_rfl) (by kernel_rfl) (by kernel_rfl) (fun _ _ _ h => h) (Or.inl ⟨by rfl, ?_⟩) (by assumption) ?_
        rotate_left
        · (intro w0 hSw; (try dsimp only at hSw); go_simp; try with_reducible rfl)
        try simp only [List.getElem_toArray, List.getElem_cons_succ, List.getElem_cons_zero, Act.put, List.setIfInBounds_toArray, List.set_cons_zero, List.set_cons_succ]
        refine wpTill_take (i := 2) (v := ?_) rfl (by kernel_rfl) (by kernel_rfl) (by kernel_rfl) (by kernel_rfl) (fun _ _ _ h => h) (Or.inl ⟨by rfl, ?_⟩) (by assumption) ?_
        rotate_left
        · (intro w0 hSw; (try dsimp only at hSw); go_simp; try with_reducible rfl)
        try simp only [List.getElem_toArray, List.getElem_cons_succ, List.getElem_cons_zero, Act.put, List.setIfInBounds_toArray, List.set_cons_zero, List.set_cons_succ]
        refine wpTill_take (i := 3) (v := ?_) rfl (by kernel_rfl) (by kernel_rfl) (by kernel_rfl) (by kernel_rfl) (fun _ _ _ h => h) (Or.inl ⟨by rfl, ?_⟩) (by assumption) ?_
        rotate_left
        · (intro w0 hSw; (try dsimp only at hSw); go_simp; try with_reducible rfl)
        try simp only [List.getElem_toArray, List.getElem_cons_succ, List.getElem_cons_zero, Act.put, List.setIfInBounds_toArray, List.set_cons_zero, List.set_cons_succ]
        refine wpTill_take (i := 4) (v := .agg (mc a)) rfl (by kernel_rfl) (by kernel_rfl) (by kernel_rfl) (by kernel_rfl) (fun _ _ _ h => h) (Or.inl ⟨by rfl, fun w0 hSw => exec_load (x := .tmp 34) rfl (ad := ⟨ab, aoff + m * 33, none⟩) rfl (run_loadVar_cells w0 _ _ (ints a) _ hSw.2 Try.underlying44 rfl HAI.out)⟩) (by assumption) ?_
        try simp only [List.getElem_toArray, List.getElem_cons_succ, List.getElem_cons_zero, Act.put, List.setIfInBounds_toArray, List.set_cons_zero, List.set_cons_succ]
        refine wpTill_ready (rs := [5]) (by kernel_rfl) (by simp) ?_
        refine AllTill.cons rfl (fun K hK => ?_) AllTill.nil
        go_simp
        refine (act_any x s a A33.out _ (TX.out.step BD.out) OKX.out (by omega)).mono ?_
        rintro e X2 ⟨s2, u, rfl, ht2, hu2, hb2⟩
        try go_simp
        have OK2 := Lib.hid (OKX.out.act a)
        have TX2 := Lib.hid (actL_tx x a)
        obtain ⟨y, ms, cc, hy⟩ : ∃ y ms cc, actL x a = (y, ms, cc) := ⟨_, _, _, rfl⟩
        rw [hy] at ht2 hu2 OK2 TX2
        simp only [hy]
        have TX2 := Lib.hid (TX2.out.trans HTX.out)
        clear hy
        have T2 := Lib.hid ht2
        have E2 := Lib.hid (BD.out.trans (hb2.mono BD.out.size))
        clear ht2 hu2 hb2
        refine hK.out _ _ ⟨XX.out.here E2.out, HCK.out _ E2.out⟩ (fun hHeld => ?_)
        clear hK K
        refine wpTill_take (i := 6) (v := ?_) rfl (by kernel_rfl) (by kernel_rfl) (by kernel_rfl) (by kernel_rfl) (fun _ _ _ h => h) (Or.inl ⟨by rfl, ?_⟩) (by assumption) ?_
        rotate_left
        · (intro w0 hSw; (try dsimp only at hSw); go_simp; try with_reducible rfl)
        try simp only [List.getElem_toArray, List.getElem_cons_succ, List.getElem_cons_zero, Act.put, List.setIfInBounds_toArray, List.set_cons_zero, List.set_cons_succ]
        refine wpTill_take (i := 7) (v := ?_) rfl (by kernel_rfl) (by kernel_rfl) (by kernel_rfl) (by kernel_rfl) (fun _ _ _ h => h) (Or.inl ⟨by rfl, ?_⟩) (by assumption) ?_
        rotate_left
        · (intro w0 hSw; (try dsimp only at hSw); go_simp; try with_reducible rfl)
        try simp only [List.getElem_toArray, List.getElem_cons_succ, List.getElem_cons_zero, Act.put, List.setIfInBounds_toArray, List.set_cons_zero, List.set_cons_succ]
        refine wpTill_pure (i := 8) (v := ?_) rfl (by kernel_rfl) (by kernel_rfl) (by kernel_rfl) (by kernel_rfl) (fun _ _ _ h => h) (Or.inl ⟨by rfl, ?_⟩) (by first | (exact fun _ => by assumption) | (exact fun hf => by cases hf)) ?_
        rotate_left
        · (intro w0 hSw; clear hSw; go_simp; try with_reducible rfl)
        try simp only [List.getElem_toArray, List.getElem_cons_succ, List.getElem_cons_zero, Act.put, List.setIfInBounds_toArray, List.set_cons_zero, List.set_cons_succ]
        refine wpTill_pure (i := 9) (v := ?_) rfl (by kernel_rfl) (by kernel_rfl) (by kernel_rfl) (by kernel_rfl) (fun _ _ _ h => h) (Or.inl ⟨by rfl, ?_⟩) (by first | (exact fun _ => by assumption) | (exact fun hf => by cases hf)) ?_
        rotate_left
        · (intro w0 hSw; clear hSw; go_simp; try with_reducible rfl)
        try simp only [List.getElem_toArray, List.getElem_cons_succ, List.getElem_cons_zero, Act.put, List.setIfInBounds_toArray, List.set_cons_zero, List.set_cons_succ]
        refine wpTill_ready (rs := [10]) (by kernel_rfl) (by simp) ?_
        refine AllTill.last rfl (of_decide_eq_true (by kernel_rfl)) (fun K hK => ?_)
        refine step_store_mid (by rfl) 30 (.tmp 5) (.tmp 37) rfl g 0 (trc y s2) rfl rfl ((XX.out.here E2.out).there (Nat.le_refl 13)) (tr_info _ _) T2.out.one ?_
        have E3 := Lib.hid (show Turn (fun k => k = g) X2 (X2.setCells g 0 (trc y s2).toList) from Turn.setCells (S := fun k => k = g) (fun _ => rfl) _ _ _ (Turn.refl _ _))
        have XZ := Lib.hid ((XX.out.here E2.out).put (trc y s2) rfl)
        have BZ := Lib.hid ((stepB BX.out E2.out).trans (E3.out.below (B := w.heap.size) (fun k hk e => by have := HG.out; omega) (Nat.le_trans BX.out.size E2.out.size)))
        have TZ := Lib.hid (T2.out.offB (XX.out.here E2.out) E3.out)
        refine hK.out _ _ ?_
        clear hK K
        generalize X2.setCells g 0 (trc y s2).toList = X3 at XZ BZ TZ ⊢
        refine wpTill_done (by kernel_rfl) ?_ _
        go_wp2_with fail
        go_roundw
        case rel => exact ⟨m + 1, y, s2, by omega, by go_num, OK2.out, TX2.out, XZ.out, TZ.out, BZ.out⟩
        case measure => simp [RowKit.intOf]; omega
      · obtain rfl : m = n := by omega
        have d3 : decide ((m : Int) < (m : Int)) = false := by simp
        go_upto_region 13 with fail
        have hr5 : 1 ≤ 1 + rz % 5 ∧ 1 + rz % 5 ≤ 5 := by omega
        generalize 1 + rz % 5 = r at hr5 ⊢
        have HR5 := Lib.hid hr5
        have HTC := Lib.hid OKX.out.tch
        have AB := Lib.hid (abort_any x s r X TX.out (OKX.out.short (by omega)))
        have hgl := XX.out.lt
        clear hr5
        cases hd : decided x with
        | true =>
          have HD := Lib.hid hd
          have e : abtL x r = (x, [], 15) := by unfold abtL; rw [if_neg (by have := HR5.out; omega), if_pos hd]
          rw [e] at AB
          clear e hd
          go_upto_region 14 with (first
            | (refine wpList_load_row rfl 30 (.tmp 5) rfl g rfl 30 (trc x s) (0, 0) _ XX.out Try.underlying30 rfl (tr_info _ _) ?_)
            | (go_at_call 16; refine AB.out.mono ?_; rintro e X2 ⟨s2, u, rfl, ht2, hu2, hb2⟩; obtain ⟨Au, cu, rfl⟩ := own_len hu2; have T2 := Lib.hid ht2; have E2 := Lib.hid hb2; clear ht2 hu2 hb2)
            | (refine wpList_store_mid (by rfl) 30 (.tmp 9) (.tmp 48) (by rfl) X2.heap.size 0 (trc x s2) (by rfl) (by rfl) ((show Blk (X2.alloc (.cells zTr 30)) X2.heap.size 30 (trc noTr noSl) from Blk.new X2 _ _).there (Nat.le_refl 13)) (tr_info _ _) T2.out.one ?_
               have XZ := Lib.hid ((((XX.out.here E2.out).alloc (.cells zTr 30)).farCells (b := X2.heap.size) (by have := E2.out.size; omega) (trc x s2).toList 0))
               have BZ := Lib.hid (Below.setCells (b := X2.heap.size) (Nat.le_trans BX.out.size E2.out.size) (trc x s2).toList 0 _ (stepA (stepB BX.out E2.out) (.cells zTr 30)))
               generalize (X2.alloc (.cells zTr 30)).setCells X2.heap.size 0 (trc x s2).toList = X3 at XZ BZ ⊢
               generalize X2.heap.size = r2))
          go_wp2_with (first
            | (refine wpList_load_row rfl 30 (.tmp 5) rfl g rfl 30 (trc x s) (0, 0) _ XZ.out Try.underlying30 rfl (tr_info _ _) ?_)
            | (go_at_call 10; refine (decided_b x s _ true HD.out).mono ?_; rintro e X4 ⟨rfl, hb4⟩; have B4 := Lib.hid (stepB BZ.out hb4); clear hb4)
            | (go_at_call 17; refine (code_errV 15 (.inr rfl) _).mono ?_; rintro e w' ⟨rfl, rfl⟩))
          go_ret
          exact ⟨rfl, B4.out⟩
        | false =>
          have HD := Lib.hid hd
          obtain ⟨ms, hms⟩ : ∃ ms, x.tch.map (newsL (abtX x r)) = ms := ⟨_, rfl⟩
          have e : abtL x r = (abtX x r, ms, 0) := by unfold abtL; rw [if_neg (by have := HR5.out; omega), if_neg (by rw [hd]; simp), hms]
          rw [e] at AB
          have ML := Lib.hid (show ms.length = x.tch.length from by rw [← hms]; simp)
          have MA := Lib.hid (show ∀ q ∈ ms, q.length = 28 from fun q hq => by rw [← hms] at hq; obtain ⟨t, _, rfl⟩ := List.mem_map.1 hq; rfl)
          have MI := Lib.hid (show ∀ i, i < x.tch.length → ms.getD i zM = msgL 6 (gd x.tch i) 5 0 0 0 0 0 from fun i hi => by
            rw [← hms, List.getD_eq_getElem?_getD, List.getElem?_map, List.getElem?_eq_getElem hi, gd_get hi]
            exact news_abt HTX.out _)
          clear e hd hms
          go_upto_region 14 with (first
            | (refine wpList_load_row rfl 30 (.tmp 5) rfl g rfl 30 (trc x s) (0, 0) _ XX.out Try.underlying30 rfl (tr_info _ _) ?_)
            | (go_at_call 16; refine AB.out.mono ?_; rintro e X2 ⟨s2, u, rfl, ht2, hu2, hb2⟩; obtain ⟨Au, cu, rfl⟩ := own_len hu2; have T2 := Lib.hid ht2; have U2 := Lib.hid hu2; have E2 := Lib.hid hb2; clear ht2 hu2 hb2)
            | (refine wpList_store_mid (by rfl) 30 (.tmp 9) (.tmp 48) (by rfl) X2.heap.size 0 (trc (abtX x r) s2) (by rfl) (by rfl) ((show Blk (X2.alloc (.cells zTr 30)) X2.heap.size 30 (trc noTr noSl) from Blk.new X2 _ _).there (Nat.le_refl 13)) (tr_info _ _) T2.out.one ?_
               have E3 := Lib.hid (show Below X2.heap.size X2 ((X2.alloc (.cells zTr 30)).setCells X2.heap.size 0 (trc (abtX x r) s2).toList) from Below.setCells (b := X2.heap.size) (Nat.le_refl _) _ 0 _ (Joins.below_alloc1 X2 _))
               have YZ := Lib.hid (show Blk ((X2.alloc (.cells zTr 30)).setCells X2.heap.size 0 (trc (abtX x r) s2).toList) X2.heap.size 30 (trc (abtX x r) s2) from (show Blk (X2.alloc (.cells zTr 30)) X2.heap.size 30 (trc noTr noSl) from Blk.new X2 _ _).put _ rfl)
               have XZ := Lib.hid ((XX.out.here E2.out).here E3.out)
               have BZ := Lib.hid (stepB (stepB BX.out E2.out) E3.out)
               have UZ := Lib.hid (own_step U2.out E3.out)
               have TZ := Lib.hid ((TX.out.step E2.out).step E3.out)
               clear E3
               generalize (X2.alloc (.cells zTr 30)).setCells X2.heap.size 0 (trc (abtX x r) s2).toList = X3 at XZ YZ BZ UZ TZ ⊢
               generalize X2.heap.size = r2 at YZ ⊢))
          go_upto_region 16 with (first
            | (refine wpList_load_row rfl 30 (.tmp 5) rfl g rfl 30 (trc x s) (0, 0) _ XZ.out Try.underlying30 rfl (tr_info _ _) ?_)
            | (go_at_call 10; refine (decided_b x s _ false HD.out).mono ?_; rintro e X4 ⟨rfl, hb4⟩; have X5 := Lib.hid (XZ.out.here hb4); have Y5 := Lib.hid (YZ.out.here hb4); have B5 := Lib.hid (stepB BZ.out hb4); have U5 := Lib.hid (own_step UZ.out hb4); have T5 := Lib.hid (TZ.out.step hb4); clear hb4))
          have y1 : X4.cell? ⟨r2, 1, none⟩ = some (.int .i64 4) := Y5.out.cell 1
          have y2 : X4.cell? ⟨r2, 2, none⟩ = some (.int .i64 r) := Y5.out.cell 2
          have y4 : X4.cell? ⟨r2, 4, none⟩ = some (.bool false) := Y5.out.cell 4
          obtain ⟨At, ct, et, RT, _, _⟩ := own_rd T5.out.t
          obtain ⟨Am, cm, em, RM, _, _⟩ := own_rd U5.out
          injection em with em1 em2 em3
          subst em1 em3
          have x9 : X4.cell? ⟨g, 9, none⟩ = some (.slice At x.tch.length ct) := by rw [← et]; exact X5.out.cell 9
          have HRT := Lib.hid RT
          have HRM := Lib.hid RM
          have TL := Lib.hid HTC.out.len
          rw [errV_zero]
          rw [ML.out]
          rw [ML.out] at HRM
          clear et RT RM em2
          generalize hN : x.tch.length = N at x9 HRT HRM ML MI TL ⊢
          have HN := Lib.hid hN
          have hN64 := TL.out
          clear hN
          go_upto_region 18 with fail
          go_wp2_with fail
          go_loopw [12] (fun v wr => ∃ i q : Nat, v = .int .i64 i ∧ i ≤ N ∧ wr = X4.drewN q) (fun v _ => N - (RowKit.intOf v).toNat)
          case atStart => exact ⟨0, 0, rfl, Nat.zero_le _, rfl⟩
          case round =>
            obtain ⟨i, q, rfl, hi, rfl⟩ := hrel
            by_cases hin : i < N
            · obtain ⟨bt, ot, rfl, hbt, hct⟩ := int_cells HRT.out (by omega)
              have k1 := hct i (by rw [HN.out]; exact hin)
              obtain ⟨ad, rfl, had, hcm⟩ := HRM.out.msg_at MA.out ML.out hin
              have EI := MI.out i hin
              rw [EI] at hcm
              clear hct hbt had EI
              generalize gd x.tch i = yy at k1 hcm
              have he : ∀ W, (binOp .neq 42 (.agg (mc (msgL 6 yy 5 0 0 0 0 0))) (.agg #[.int .i64 6, .int .i64 0, .int .i64 yy, .int .i64 5, .int .i64 0, .int .i64 0, .int .i64 0, .int .i64 0, .int .i64 0, .int .i64 0, .int .i64 0, .int .i64 0, .int .i64 0, .int .i64 0, .int .i64 0, .int .i64 0, .int .i64 0, .int .i64 0, .int .i64 0, .int .i64 0, .int .i64 0, .int .i64 0, .int .i64 0, .int .i64 0, .int .i64 0, .int .i64 0, .int .i64 0, .int .i64 0])).run Try.prog W = .ok (.bool false) W := fun W => by
                have := neq_msg (a := msgL 6 yy 5 0 0 0 0 0) (b := msgL 6 yy 5 0 0 0 0 0) rfl rfl W
                rwa [decide_eq_true rfl] at this
              obtain ⟨mm, hmm⟩ : ∃ mm, msgL 6 yy 5 0 0 0 0 0 = mm := ⟨_, rfl⟩
              have HMM := Lib.hid (show mm.length = 28 from by rw [← hmm]; rfl)
              rw [hmm] at hcm he
              have HCM := Lib.hid hcm
              clear hmm hcm
              have d5 : decide ((i : Int) < (N : Int)) = true := by simp; omega
              go_upto_region 21 with fail
              refine wp_region_held_drew (S := fun w' => w'.cell? ⟨g, 9, none⟩ = some (.slice (some ⟨bt, ot, none⟩) N ct) ∧ w'.cell? ⟨bt, ot + i, none⟩ = some (.int .i64 yy) ∧ ∀ j v, (ints mm)[j]? = some v → w'.cell? ((ad.add (i * 28)).add j) = some v) (by kernel_rfl) ⟨x9, k1, HCM.out⟩ (fun hHeld => ?_)
              refine wpAnyH_take (i := 0) (v := ?_) rfl (by kernel_rfl) (by kernel_rfl) (by kernel_rfl) (fun _ _ _ h => h) (Or.inl ⟨by rfl, ?_⟩) (by assumption) ?_
              rotate_left
              · (intro w0 hSw; (try dsimp only at hSw); go_simp; try with_reducible rfl)
              try simp only [List.getElem_toArray, List.getElem_cons_succ, List.getElem_cons_zero, Act.put, List.setIfInBounds_toArray, List.set_cons_zero, List.set_cons_succ]
              refine wpAnyH_take (i := 1) (v := ?_) rfl (by kernel_rfl) (by kernel_rfl) (by kernel_rfl) (fun _ _ _ h => h) (Or.inl ⟨by rfl, ?_⟩) (by assumption) ?_
              rotate_left
              · (intro w0 hSw; (try dsimp only at hSw); go_simp; try with_reducible rfl)
              try simp only [List.getElem_toArray, List.getElem_cons_succ, List.getElem_cons_zero, Act.put, List.setIfInBounds_toArray, List.set_cons_zero, List.set_cons_succ]
              refine wpAnyH_take (i := 2) (v := ?_) rfl (by kernel_rfl) (by kernel_rfl) (by kernel_rfl) (fun _ _ _ h => h) (Or.inl ⟨by rfl, ?_⟩) (by assumption) ?_
              rotate_left
              · (intro w0 hSw; (try dsimp only at hSw); go_simp; try with_reducible rfl)
              try simp only [List.getElem_toArray, List.getElem_cons_succ, List.getElem_cons_zero, Act.put, List.setIfInBounds_toArray, List.set_cons_zero, List.set_cons_succ]
              refine wpAnyH_take (i := 3) (v := .agg (mc mm)) rfl (by kernel_rfl) (by kernel_rfl) (by kernel_rfl) (fun _ _ _ h => h) (Or.inl ⟨by rfl, fun w0 hSw => exec_load (x := .tmp 94) rfl (ad := ad.add (i * 28)) rfl (run_load_msg HMM.out hSw.2.2)⟩) (by assumption) ?_
              try simp only [List.getElem_toArray, List.getElem_cons_succ, List.getElem_cons_zero, Act.put, List.setIfInBounds_toArray, List.set_cons_zero, List.set_cons_succ]
              refine wpAnyH_take (i := 4) (v := ?_) rfl (by kernel_rfl) (by kernel_rfl) (by kernel_rfl) (fun _ _ _ h => h) (Or.inl ⟨by rfl, ?_⟩) (by assumption) ?_
              rotate_left
              · (intro w0 hSw; (try dsimp only at hSw); go_simp; try with_reducible rfl)
              try simp only [List.getElem_toArray, List.getElem_cons_succ, List.getElem_cons_zero, Act.put, List.setIfInBounds_toArray, List.set_cons_zero, List.set_cons_succ]
              refine wpAnyH_take (i := 5) (v := ?_) rfl (by kernel_rfl) (by kernel_rfl) (by kernel_rfl) (fun _ _ _ h => h) (Or.inl ⟨by rfl, ?_⟩) (by assumption) ?_
              rotate_left
              · (intro w0 hSw; (try dsimp only at hSw); go_simp; try with_reducible rfl)
              try simp only [List.getElem_toArray, List.getElem_cons_succ, List.getElem_cons_zero, Act.put, List.setIfInBounds_toArray, List.set_cons_zero, List.set_cons_succ]
              refine wpAnyH_take (i := 6) (v := ?_) rfl (by kernel_rfl) (by kernel_rfl) (by kernel_rfl) (fun _ _ _ h => h) (Or.inl ⟨by rfl, ?_⟩) (by assumption) ?_
              rotate_left
              · (intro w0 hSw; (try dsimp only at hSw); go_simp; try with_reducible rfl)
              try simp only [List.getElem_toArray, List.getElem_cons_succ, List.getElem_cons_zero, Act.put, List.setIfInBounds_toArray, List.set_cons_zero, List.set_cons_succ]
              refine wpAnyH_take (i := 7) (v := ?_) rfl (by kernel_rfl) (by kernel_rfl) (by kernel_rfl) (fun _ _ _ h => h) (Or.inl ⟨by rfl, ?_⟩) (by assumption) ?_
              rotate_left
              · (intro w0 hSw; (try dsimp only at hSw); go_simp; try with_reducible rfl)
              try simp only [List.getElem_toArray, List.getElem_cons_succ, List.getElem_cons_zero, Act.put, List.setIfInBounds_toArray, List.set_cons_zero, List.set_cons_succ]
              refine wpAnyH_take (i := 8) (v := ?_) rfl (by kernel_rfl) (by kernel_rfl) (by kernel_rfl) (fun _ _ _ h => h) (Or.inl ⟨by rfl, ?_⟩) (by assumption) ?_
              rotate_left
              · (intro w0 hSw; (try dsimp only at hSw); go_simp; try with_reducible rfl)
              try simp only [List.getElem_toArray, List.getElem_cons_succ, List.getElem_cons_zero, Act.put, List.setIfInBounds_toArray, List.set_cons_zero, List.set_cons_succ]
              refine wpAnyH_take (i := 9) (v := ?_) rfl (by kernel_rfl) (by kernel_rfl) (by kernel_rfl) (fun _ _ _ h => h) (Or.inl ⟨by rfl, ?_⟩) (by assumption) ?_
              rotate_left
              · (intro w0 hSw; (try dsimp only at hSw); go_simp; try with_reducible rfl)
              try simp only [List.getElem_toArray, List.getElem_cons_succ, List.getElem_cons_zero, Act.put, List.setIfInBounds_toArray, List.set_cons_zero, List.set_cons_succ]
              refine wpAnyH_take (i := 10) (v := ?_) rfl (by kernel_rfl) (by kernel_rfl) (by kernel_rfl) (fun _ _ _ h => h) (Or.inl ⟨by rfl, ?_⟩) (by assumption) ?_
              rotate_left
              · (intro w0 hSw; (try dsimp only at hSw); go_simp; try with_reducible rfl)
              try simp only [List.getElem_toArray, List.getElem_cons_succ, List.getElem_cons_zero, Act.put, List.setIfInBounds_toArray, List.set_cons_zero, List.set_cons_succ]
              refine wpAnyH_done (by kernel_rfl) ?_ _
              clear hHeld
              go_wp2_with fail
              go_roundw
              case rel => exact ⟨i + 1, _, by go_num, by omega, rfl⟩
              case measure => simp [RowKit.intOf]; omega
            · obtain rfl : i = N := by omega
              have d5 : decide ((i : Int) < (i : Int)) = false := by simp
              go_wp2_with fail
              go_ret
              exact ⟨rfl, below_drewN B5.out q⟩
end Go.Proofs.Ytopjkidekbfalaa
/- The document's Ok, of whatever message. -/
namespace Go.Proofs.Ytopjkidekbfalaa
open Go.RowKit
set_option linter.unusedVariables false
set_option linter.unusedSimpArgs false

theorem refOk_1 (m : List Int) (hl : m.length = 28) (hk : fld m 0 = 1) (hg : goesB m = true) (w : World) :
    Calls Try.prog 12 #[.agg (mc m)] w fun e w' => e = .returned (.bool (mayB m)) ∧ Below w.heap.size w w' := by
  cases htx : inS 1 1048576 (fld m 3)
  · exact refOk_1t m hl hk hg htx w
  cases hsq : inS 1 1048576 (fld m 4)
  · exact refOk_1s m hl hk hg htx hsq w
  cases hpl : resB (fld m 5) (fld m 6)
  · exact refOk_1p m hl hk hg htx hsq hpl w
  rcases (show fld m 7 < 1 ∨ 4 < fld m 7 ∨ (1 ≤ fld m 7 ∧ fld m 7 ≤ 4) by omega) with h8 | h8 | h8
  · exact refOk_1l m hl hk hg htx hsq hpl h8 w
  · exact refOk_1h m hl hk hg htx hsq hpl h8 w
  · exact refOk_1y m hl hk hg htx hsq hpl h8 w
theorem refOk_2 (m : List Int) (hl : m.length = 28) (hk : fld m 0 = 2) (hg : goesB m = true) (w : World) :
    Calls Try.prog 12 #[.agg (mc m)] w fun e w' => e = .returned (.bool (mayB m)) ∧ Below w.heap.size w w' := by
  cases htx : inS 1 1048576 (fld m 3)
  · exact refOk_2t m hl hk hg htx w
  cases hsq : inS 1 1048576 (fld m 4)
  · exact refOk_2s m hl hk hg htx hsq w
  cases hpl : resB (fld m 5) (fld m 6)
  · exact refOk_2p m hl hk hg htx hsq hpl w
  rcases (show fld m 7 < 1 ∨ 4 < fld m 7 ∨ (1 ≤ fld m 7 ∧ fld m 7 ≤ 4) by omega) with h8 | h8 | h8
  · exact refOk_2l m hl hk hg htx hsq hpl h8 w
  · exact refOk_2h m hl hk hg htx hsq hpl h8 w
  · exact refOk_2y m hl hk hg htx hsq hpl h8 w
theorem refOk_any (m : List Int) (hl : m.length = 28) (w : World) :
    Calls Try.prog 12 #[.agg (mc m)] w fun e w' => e = .returned (.bool (mayB m)) ∧ Below w.heap.size w w' := by
  cases hg : goesB m
  · by_cases hk : 1 ≤ fld m 0 ∧ fld m 0 ≤ 11
    · exact refOk_stray m hl hg hk w
    · exact refOk_num m hl hg (by omega) w
  · rcases kind_cases (fld m 0) with h | h | h | h | h | h | h | h | h | h | h | h
    · exact refOk_1 m hl h hg w
    · exact refOk_2 m hl h hg w
    · exact refOk_3 m hl h hg w
    · exact refOk_4 m hl h hg w
    · exact refOk_5 m hl h hg w
    · exact refOk_6 m hl h hg w
    · exact refOk_7 m hl h hg w
    · exact refOk_8 m hl h hg w
    · exact refOk_9 m hl h hg w
    · exact refOk_10 m hl h hg w
    · rcases way_both h hg with hw | hw
      · exact refOk_11o m hl h hg hw w
      · exact refOk_11b m hl h hg hw w
    · unfold goesB at hg
      rw [wayB_out h] at hg
      cases hg

end Go.Proofs.Ytopjkidekbfalaa
/- What is sent of a transaction: to shards that are touched, of its number, and such as may be. -/
namespace Go.Proofs.Ytopjkidekbfalaa
open Go.RowKit
set_option linter.unusedVariables false
set_option linter.unusedSimpArgs false

theorem pathB_msg (k t tx sq a0 a1 md cd : Int) : pathB (msgL k t tx sq a0 a1 md cd) = true := pathB_yes fun i hi => by
  rcases (show i = 0 ∨ i = 1 ∨ i = 2 ∨ i = 3 ∨ i = 4 ∨ i = 5 ∨ i = 6 ∨ i = 7 by omega) with rfl | rfl | rfl | rfl | rfl | rfl | rfl | rfl <;> rfl
theorem inS_yes {lo hi x : Int} (h : lo ≤ x ∧ x ≤ hi) : inS lo hi x = true := inS_iff.2 h
theorem may_news {k cd t tx : Int} (hk : k = 4 ∨ k = 6 ∨ k = 8) (hc : cd = 0 ∨ (k = 6 ∧ cd = 1)) (ht : 1 ≤ t ∧ t ≤ 64) (hx : 1 ≤ tx ∧ tx ≤ 1048576) : mayB (msgL k t tx 0 0 0 0 cd) = true := by
  have hp := pathB_msg k t tx 0 0 0 0 cd
  unfold mayB
  rw [hp]
  rw [show fld (msgL k t tx 0 0 0 0 cd) 0 = k from rfl, show fld (msgL k t tx 0 0 0 0 cd) 3 = tx from rfl, show fld (msgL k t tx 0 0 0 0 cd) 4 = 0 from rfl, show fld (msgL k t tx 0 0 0 0 cd) 5 = 0 from rfl, show fld (msgL k t tx 0 0 0 0 cd) 6 = 0 from rfl, show fld (msgL k t tx 0 0 0 0 cd) 7 = 0 from rfl, show fld (msgL k t tx 0 0 0 0 cd) 8 = cd from rfl, show fld (msgL k t tx 0 0 0 0 cd) 9 = 0 from rfl, show fld (msgL k t tx 0 0 0 0 cd) 10 = 0 from rfl, show fld (msgL k t tx 0 0 0 0 cd) 11 = 0 from rfl]
  have hg : goesB (msgL k t tx 0 0 0 0 cd) = true := by
    show wayB k (((0 : Int) == 0) && inS 1 64 t) _ = true
    unfold wayB
    rw [if_pos (by omega), inS_yes ht]; rfl
  rw [hg]
  have h1 : inS (sTx k).1 (sTx k).2 tx = true := by unfold sTx; rw [if_pos (by omega)]; exact inS_yes hx
  have h2 : inS (sSeq k).1 (sSeq k).2 0 = true := by unfold sSeq; rw [if_neg (by omega)]; rfl
  have h3 : placeB (sAt k) 0 0 = true := by unfold sAt; rw [decide_eq_false (by omega)]; rfl
  have h4 : inS (sMode k).1 (sMode k).2 0 = true := by unfold sMode; rw [if_neg (by omega)]; rfl
  have h5 : inS (sCode k).1 (sCode k).2 cd = true := by
    unfold sCode
    rw [if_neg (by omega)]
    split
    · exact inS_yes (by show (0 : Int) ≤ cd ∧ cd ≤ 1; omega)
    · exact inS_yes (by show (0 : Int) ≤ cd ∧ cd ≤ 0; omega)
  have h6 : inS (sNext k tx).1 (sNext k tx).2 0 = true := by unfold sNext; rw [if_neg (by omega), if_neg (by omega)]; rfl
  have h7 : inS (sNseq k).1 (sNseq k).2 0 = true := by unfold sNseq; rw [if_neg (by omega)]; rfl
  have h8 : inS (sN k).1 (sN k).2 0 = true := by unfold sN; rw [if_neg (by omega)]; rfl
  rw [h1, h2, h3, h4, h5, h6, h7, h8]; rfl
theorem may_lock {t tx sq a0 a1 md : Int} (ht : 1 ≤ t ∧ t ≤ 64) (hx : 1 ≤ tx ∧ tx ≤ 1048576) (hq : 1 ≤ sq ∧ sq ≤ 1048576) (hr : resB a0 a1 = true) (hm : 1 ≤ md ∧ md ≤ 4) : mayB (msgL 1 t tx sq a0 a1 md 0) = true := by
  have hp := pathB_msg 1 t tx sq a0 a1 md 0
  unfold mayB
  rw [hp]
  have hg : goesB (msgL 1 t tx sq a0 a1 md 0) = true := by
    show wayB 1 (((0 : Int) == 0) && inS 1 64 t) _ = true
    unfold wayB
    rw [if_pos (by omega), inS_yes ht]; rfl
  rw [hg]
  have h1 : inS (sTx (fld (msgL 1 t tx sq a0 a1 md 0) 0)).1 (sTx (fld (msgL 1 t tx sq a0 a1 md 0) 0)).2 (fld (msgL 1 t tx sq a0 a1 md 0) 3) = true := inS_yes (show (1 : Int) ≤ tx ∧ tx ≤ 1048576 from hx)
  have h2 : inS (sSeq (fld (msgL 1 t tx sq a0 a1 md 0) 0)).1 (sSeq (fld (msgL 1 t tx sq a0 a1 md 0) 0)).2 (fld (msgL 1 t tx sq a0 a1 md 0) 4) = true := inS_yes (show (1 : Int) ≤ sq ∧ sq ≤ 1048576 from hq)
  have h3 : placeB (sAt (fld (msgL 1 t tx sq a0 a1 md 0) 0)) (fld (msgL 1 t tx sq a0 a1 md 0) 5) (fld (msgL 1 t tx sq a0 a1 md 0) 6) = true := (show resB a0 a1 = true from hr)
  have h4 : inS (sMode (fld (msgL 1 t tx sq a0 a1 md 0) 0)).1 (sMode (fld (msgL 1 t tx sq a0 a1 md 0) 0)).2 (fld (msgL 1 t tx sq a0 a1 md 0) 7) = true := inS_yes (show (1 : Int) ≤ md ∧ md ≤ 4 from hm)
  rw [h1, h2, h3, h4]; rfl
/-- A message of transaction 5 to a shard that is touched, which may be. -/
structure Sent (x : Tr) (q : List Int) : Prop where
  len : q.length = 28
  shd : fld q 2 ∈ x.tch
  tx : fld q 3 = 5
  may : mayB q = true
theorem Sent.news {x y : Tr} {k : Nat} (ok : TrOk x k) (h5 : x.tx = 5) {t : Int} (ht : t ∈ x.tch) (hy : y.tch = x.tch) : Sent y (newsL x t) :=
  ⟨rfl, by rw [hy]; exact ht, h5, may_news (by show newsK x.st = 4 ∨ newsK x.st = 6 ∨ newsK x.st = 8; unfold newsK; split; omega; split <;> omega)
    (by show newsC x.st = 0 ∨ (newsK x.st = 6 ∧ newsC x.st = 1); unfold newsC newsK; have := ok.st; split
        · right; rw [if_neg (by omega), if_pos (by omega)]; exact ⟨rfl, rfl⟩
        · left; rfl) (ok.tch.all t ht) ok.tx⟩
theorem sent_goOn {x : Tr} {k : Nat} (ok : TrOk (goOnL x).1 k) (h5 : x.tx = 5) : ∀ q ∈ (goOnL x).2, Sent (goOnL x).1 q := by
  unfold goOnL at ok ⊢
  split
  · rename_i h
    rw [if_pos h] at ok
    intro q hq
    obtain ⟨t, ht, rfl⟩ := List.mem_map.1 hq
    exact Sent.news ok h5 ht rfl
  · rename_i h
    rw [if_neg h] at ok
    split
    · intro q hq; cases hq
    · rename_i h2
      rw [if_neg h2] at ok
      intro q hq
      obtain ⟨t, ht, rfl⟩ := List.mem_map.1 hq
      exact Sent.news ok h5 ht rfl
theorem sent_abt {x : Tr} {k : Nat} {r : Int} (ok : TrOk (abtL x r).1 k) (h5 : x.tx = 5) : ∀ q ∈ (abtL x r).2.1, Sent (abtL x r).1 q := by
  unfold abtL at ok ⊢
  split
  · intro q hq; cases hq
  · rename_i h
    rw [if_neg h] at ok
    split
    · intro q hq; cases hq
    · rename_i h2
      rw [if_neg h2] at ok
      intro q hq
      obtain ⟨t, ht, rfl⟩ := List.mem_map.1 hq
      exact Sent.news ok h5 ht rfl
theorem sent_act {x : Tr} {k : Nat} (ok : TrOk x k) (h5 : x.tx = 5) (a : List Int) : ∀ q ∈ (actL x a).2.1, Sent (actL x a).1 q := by
  have ok' := ok.act a
  unfold actL at ok' ⊢
  split
  · rename_i h0
    rw [if_pos h0] at ok'
    unfold askL at ok' ⊢
    split
    · intro q hq; cases hq
    · rename_i hb
      rw [if_neg hb] at ok'
      split
      · intro q hq; cases hq
      · rename_i hs
        rw [if_neg hs] at ok'
        split
        · intro q hq; cases hq
        · rename_i ho
          rw [if_neg ho] at ok'
          split
          · intro q hq; cases hq
          · rename_i hq1
            rw [if_neg hq1] at ok'
            intro q hq
            rw [List.mem_singleton.1 hq]
            have o := ok'.op rfl
            have hsh : 1 ≤ fld a 1 ∧ fld a 1 ≤ 64 := ok'.tch.all _ o.2.2.2.2
            exact ⟨rfl, o.2.2.2.2, h5, may_lock hsh ok'.tx ⟨o.2.1, ok'.sq.2⟩ o.2.2.1 o.2.2.2.1⟩
  split
  · unfold ansL
    split
    · intro q hq; cases hq
    split
    · intro q hq; cases hq
    split
    · intro q hq; cases hq
    intro q hq; cases hq
  split
  · rename_i h0 h1 h2
    rw [if_neg h0, if_neg h1, if_pos h2] at ok'
    unfold finL at ok' ⊢
    split
    · intro q hq; cases hq
    · rename_i ha
      rw [if_neg ha] at ok'
      split
      · intro q hq; cases hq
      · rename_i hb
        rw [if_neg hb] at ok'
        exact sent_goOn ok' h5
  split
  · rename_i h0 h1 h2 h3
    rw [if_neg h0, if_neg h1, if_neg h2, if_pos h3] at ok'
    unfold votL at ok' ⊢
    split
    · intro q hq; cases hq
    · rename_i ha
      rw [if_neg ha] at ok'
      split
      · intro q hq; cases hq
      · rename_i hb
        rw [if_neg hb] at ok'
        split
        · intro q hq; cases hq
        · rename_i hc
          rw [if_neg hc] at ok'
          split
          · rename_i hd
            rw [if_pos hd] at ok'
            exact sent_abt ok' h5
          · rename_i hd
            rw [if_neg hd] at ok'
            exact sent_goOn ok' h5
  split
  · rename_i h0 h1 h2 h3 h4
    rw [if_neg h0, if_neg h1, if_neg h2, if_neg h3, if_pos h4] at ok'
    exact sent_abt ok' h5
  split
  · unfold ackL
    split
    · intro q hq; cases hq
    split
    · intro q hq; cases hq
    split
    · intro q hq; cases hq
    intro q hq; cases hq
  intro q hq; cases hq
theorem sent_again {x : Tr} {k : Nat} (ok : TrOk x k) (h5 : x.tx = 5) (al : Bool) : ∀ q ∈ againL x al, Sent x q := by
  intro q hq
  unfold againL at hq
  split at hq
  · rcases List.mem_append.1 hq with hq | hq
    · split at hq
      · rename_i ho
        rw [List.mem_singleton.1 hq]
        have o := ok.op ho
        exact ⟨rfl, o.2.2.2.2, h5, may_lock (ok.tch.all _ o.2.2.2.2) ok.tx ⟨o.2.1, ok.sq.2⟩ o.2.2.1 o.2.2.2.1⟩
      · cases hq
    · split at hq
      · obtain ⟨t, ht, rfl⟩ := List.mem_map.1 hq
        exact Sent.news ok h5 ht rfl
      · cases hq
  · split at hq
    · obtain ⟨t, ht, rfl⟩ := List.mem_map.1 hq
      exact Sent.news ok h5 (without_mem.1 ht).1 rfl
    · split at hq
      · obtain ⟨t, ht, rfl⟩ := List.mem_map.1 hq
        exact Sent.news ok h5 (without_mem.1 ht).1 rfl
      · cases hq
theorem again_over {x : Tr} (al : Bool) (h : overB x = true) : againL x al = [] := by
  unfold overB decided at h
  rw [Bool.and_eq_true] at h
  have h1 : x.st = 3 ∨ x.st = 4 := by simpa using h.1
  have h2 : withoutL x.tch x.acks = [] := by simpa using h.2
  unfold againL
  rw [if_neg (by omega), if_neg (by omega), if_pos h1, h2]
  rfl
theorem goOn_few {x : Tr} (h : x.tch.length ≤ 64) : (goOnL x).2.length ≤ 64 := by
  unfold goOnL
  split
  · simp; exact h
  · split
    · simp
    · simp; exact h
theorem abt_few {x : Tr} (h : x.tch.length ≤ 64) (r : Int) : (abtL x r).2.1.length ≤ 64 := by
  unfold abtL
  split
  · simp
  split
  · simp
  simp; exact h
theorem act_few {x : Tr} (h : x.tch.length ≤ 64) (a : List Int) : (actL x a).2.1.length ≤ 64 := by
  unfold actL
  split
  · unfold askL; split; simp; split; simp; split; simp; split; simp; simp
  split
  · unfold ansL; split; simp; split; simp; split; simp; simp
  split
  · unfold finL; split; simp; split; simp; exact goOn_few h
  split
  · unfold votL; split; simp; split; simp; split; simp; split; exact abt_few h 2; exact goOn_few (x := votX x _) h
  split
  · exact abt_few h _
  split
  · unfold ackL; split; simp; split; simp; split; simp; simp
  simp
theorem again_few {x : Tr} (h : x.tch.length ≤ 64) (al : Bool) : (againL x al).length ≤ 65 := by
  have hw : ∀ o, (withoutL x.tch o).length ≤ 64 := fun o => Nat.le_trans (List.length_filter_le _ _) h
  unfold againL
  split
  · rw [List.length_append]
    split <;> split <;> simp <;> omega
  split
  · have := hw x.vts; simp; omega
  split
  · have := hw x.acks; simp; omega
  simp
theorem Tm.offOwn {w w' : World} {B B' n : Nat} {x : Tr} {s : Sl} {u : Value} {xs : List Value} (h : Tm w B x s) (hu : w.ownsRow B' 42 28 u n xs) (ht : Turn (fun k => u.ownBlock = some k) w w') : Tm w' B x s := by
  refine ⟨own_turn h.t ht fun k hk e => ?_, own_turn h.v ht fun k hk e => ?_, own_turn h.k ht fun k hk e => ?_, own_turn h.g ht fun k hk e => ?_⟩
  · obtain ⟨c1, h1, _⟩ := own_heap h.t k hk; obtain ⟨c2, h2, _⟩ := own_heap hu k e; exact heap_ne h1 h2 (by decide) rfl
  · obtain ⟨c1, h1, _⟩ := own_heap h.v k hk; obtain ⟨c2, h2, _⟩ := own_heap hu k e; exact heap_ne h1 h2 (by decide) rfl
  · obtain ⟨c1, h1, _⟩ := own_heap h.k k hk; obtain ⟨c2, h2, _⟩ := own_heap hu k e; exact heap_ne h1 h2 (by decide) rfl
  · obtain ⟨c1, h1, _⟩ := own_heap h.g k hk; obtain ⟨c2, h2, _⟩ := own_heap hu k e; exact heap_ne h1 h2 (by decide) rfl
/-- A message at a place of a slice. -/
theorem Reads.txMsg_at {w : World} {B n : Nat} {A : Option Addr} {ls : List (List Int)} (h : Reads w B 28 A n (ints ls.flatten)) (hall : ∀ l ∈ ls, l.length = 28) (hn : ls.length = n) {i : Nat} (hi : i < n) :
    ∃ b off, A = some ⟨b, off, none⟩ ∧ b < B ∧ (ls.getD i []).length = 28 ∧ ∀ j v, (ints (ls.getD i []))[j]? = some v → w.cell? ((⟨b, off + i * 28, none⟩ : Addr).add j) = some v := by
  obtain ⟨b, off, e, hb, hc, h33⟩ := h.flat_at hall hn (by omega) hi
  refine ⟨b, off, e, hb, h33, fun j v hv => ?_⟩
  have hj : j < 28 := by have := (List.getElem?_eq_some_iff.1 hv).1; rwa [ints_length, h33] at this
  rw [show (⟨b, off + i * 28, none⟩ : Addr).add j = ⟨b, off + i * 28 + j, none⟩ by unfold Addr.add; split <;> simp_all]
  rw [hc j hj, ← hv]
  generalize ls.getD i [] = l at h33
  simp [ints, fld_get (show j < l.length by omega)]
end Go.Proofs.Ytopjkidekbfalaa
/- The walk of TxnSends. -/
namespace Go.Proofs.Ytopjkidekbfalaa
open Go.RowKit
set_option linter.unusedVariables false
set_option linter.unusedSimpArgs false

set_option maxRecDepth 100000 in
set_option maxHeartbeats 32000000 in
theorem txnSends_walk (A : Option Addr) (n c : Nat) (l : List (List Int)) (lv : Bool) (w : World) (hl : l.length = n) (ha : ∀ x ∈ l, x.length = 33) (hr : Reads w w.heap.size 33 A n (ints l.flatten)) :
    Calls Try.prog 4 #[.slice A n c, .bool lv] w fun e w' => e = .returned (.bool true) ∧ Below w.heap.size w w' := by
  have hnn := fun W => run_neq_nil_nil (P := Try.prog) W 32 Try.underlying32
  have hen := fun W => run_eql_nil_nil (P := Try.prog) W 32 Try.underlying32
  have H := Lib.hid hr
  have HL := Lib.hid hl
  have HA := Lib.hid ha
  clear hr hl ha
  by_cases hn : 100 < n
  · have d0 : decide ((100 : Int) < (n : Int)) = true := by simp; omega
    go_enter Try.func4, Try.ntmps4
    go_wp2_with (go_at_call 7; refine (txnAlive _).mono ?_; rintro e w0 ⟨rfl, hb0⟩; have B0 := Lib.hid hb0; clear hb0)
    go_ret
    exact ⟨rfl, B0.out⟩
  · have d0 : decide ((100 : Int) < (n : Int)) = false := by simp; omega
    go_enter Try.func4, Try.ntmps4
    go_upto_region 6 with (first
      | (go_at_call 7; refine (txnAlive _).mono ?_; rintro e w0 ⟨rfl, hb0⟩; have B0 := Lib.hid hb0; clear hb0)
      | (go_at_call 8; refine (new_ok 5 (by omega) (by omega) _).mono ?_; rintro e W1 ⟨rfl, hb⟩; have B1 := Lib.hid (stepB B0.out hb); clear hb B0)
      | (refine wpList_store_mid (by rfl) 30 (.tmp 5) (.tmp 21) (by rfl) W1.heap.size 0 (trc (newL 5) noSl) (by rfl) (by rfl) ((show Blk (W1.alloc (.cells zTr 30)) W1.heap.size 30 (trc noTr noSl) from Blk.new W1 _ _).there (Nat.le_refl 13)) (tr_info _ _) (tr_one _ _ rfl rfl rfl rfl) ?_
         have XV := Lib.hid (show Blk ((W1.alloc (.cells zTr 30)).setCells W1.heap.size 0 (trc (newL 5) noSl).toList) W1.heap.size 30 (trc (newL 5) noSl) from (show Blk (W1.alloc (.cells zTr 30)) W1.heap.size 30 (trc noTr noSl) from Blk.new W1 _ _).put _ rfl)
         have BV := Lib.hid (Below.setCells (b := W1.heap.size) (show w.heap.size ≤ W1.heap.size from B1.out.size) (trc (newL 5) noSl).toList 0 _ (stepA B1.out (.cells zTr 30)))
         have HG := Lib.hid B1.out.size
         generalize (W1.alloc (.cells zTr 30)).setCells W1.heap.size 0 (trc (newL 5) noSl).toList = WV at XV BV ⊢
         generalize W1.heap.size = g at XV HG ⊢))
    clear B1
    go_wp2_with fail
    go_loopw [7, 8, 9, 10, 11, 12, 13] (fun i _ _ _ _ _ _ wr => ∃ (m : Nat) (x : Tr) (s : Sl), m ≤ n ∧ i = .int .i64 m ∧ TrOk x m ∧ x.tx = 5 ∧ Blk wr g 30 (trc x s) ∧ Tm wr 0 x s ∧ Below w.heap.size w wr) (fun i _ _ _ _ _ _ _ => n - (RowKit.intOf i).toNat)
    case atStart => exact ⟨0, newL 5, noSl, Nat.zero_le _, rfl, TrOk.new (by omega) 0, rfl, XV.out, Tm.new WV 0 5, BV.out⟩
    case round =>
      rename World => X
      obtain ⟨m, x, s, hm, rfl, hok, htx, hblk, htm, hbel⟩ := hrel
      have OKX := Lib.hid hok
      have HTX := Lib.hid htx
      have XX := Lib.hid hblk
      have TX := Lib.hid htm
      have BX := Lib.hid hbel
      clear hok htx hblk htm hbel XV BV
      by_cases hmn : m < n
      · have d3 : decide ((m : Int) < (n : Int)) = true := by simp; omega
        obtain ⟨ab, aoff, rfl, hab, ha33, hac⟩ := (H.out.below BX.out).txAct_at HA.out HL.out hmn
        have AC := Lib.hid hac
        have A33 := Lib.hid ha33
        clear hac ha33 hab
        generalize l.getD m [] = a at AC A33
        have HAI := Lib.hid (act_info A33.out)
        obtain ⟨y, ms, cc, hy⟩ : ∃ y ms cc, actL x a = (y, ms, cc) := ⟨_, _, _, rfl⟩
        have HY := Lib.hid hy
        have OKY := Lib.hid (show TrOk y (m + 1) from by have := OKX.out.act a; rwa [hy] at this)
        have HTY := Lib.hid (show y.tx = 5 from by have := actL_tx x a; rw [hy] at this; exact this.trans HTX.out)
        have HSA := Lib.hid (show ∀ q ∈ ms, Sent y q from by have := sent_act OKX.out HTX.out a; rwa [hy] at this)
        have HFA := Lib.hid (show ms.length ≤ 64 from by have := act_few OKX.out.tch.len a; rwa [hy] at this)
        clear hy
        have hgl := XX.out.lt
        have HGL := Lib.hid hgl
        have HCK := Lib.hid (show ∀ Y, Below X.heap.size X Y → ∀ j v, (ints a)[j]? = some v → Y.cell? ((⟨ab, aoff + m * 33, none⟩ : Addr).add j) = some v from fun Y hy j v hv => (hy.cell (p := (⟨ab, aoff + m * 33, none⟩ : Addr).add j) (by rw [block_of_add]; exact World.block_lt_of_cell? _ _ (AC.out j v hv) |> (by simpa [block_of_add] using ·))).trans (AC.out j v hv))
        go_upto_region 11 with fail
        go_cut [8, 9, 10] from 25 to 100 (fun v8 v9 _ wx => ∃ (r : Nat) (s2 : Sl) (Au : Option Addr) (cu : Nat), v8 = .pointer (some ⟨r, 0, none⟩) ∧ v9 = .slice Au ms.length cu ∧ Blk wx r 30 (trc y s2) ∧ Blk wx g 30 (trc x s) ∧ Tm wx 0 y s2 ∧ MsgR wx X.heap.size (.slice Au ms.length cu) ms ∧ Below X.heap.size X wx ∧ r ≠ g)
        case first =>
          refine wp_region_held_drew (S := fun w' => Blk w' g 30 (trc x s) ∧ ∀ j v, (ints a)[j]? = some v → w'.cell? ((⟨ab, aoff + m * 33, none⟩ : Addr).add j) = some v) (by kernel_rfl) ⟨XX.out.drew, fun j v hv => AC.out j v hv⟩ (fun hHeld => ?_)
          have BD := Lib.hid (show Below X.heap.size X X.drew from (Below.refl _ _).drew)
          generalize X.drew = X1 at BD hHeld ⊢
          refine wpAnyH_take (i := 0) (v := .agg (trc x s)) rfl (by kernel_rfl) (by kernel_rfl) (by kernel_rfl) (fun _ _ _ h => h) (Or.inl ⟨by rfl, fun w0 hSw => exec_load (x := .tmp 5) rfl rfl (tr_load hSw.1)⟩) (by assumption) ?_
          try simp only [List.getElem_toArray, List.getElem_cons_succ, List.getElem_cons_zero, Act.put, List.setIfInBounds_toArray, List.set_cons_zero, List.set_cons_succ]
          refine wpAnyH_take (i := 1) (v := ?_) rfl (by kernel_rfl) (by kernel_rfl) (by kernel_rfl) (fun _ _ _ h => h) (Or.inl ⟨by rfl, ?_⟩) (by assumption) ?_
          rotate_left
          · (intro w0 hSw; (try dsimp only at hSw); go_simp; try with_reducible rfl)
          try simp only [List.getElem_toArray, List.getElem_cons_succ, List.getElem_cons_zero, Act.put, List.setIfInBounds_toArray, List.set_cons_zero, List.set_cons_succ]
          refine wpAnyH_take (i := 2) (v := ?_) rfl (by kernel_rfl) (by kernel_rfl) (by kernel_rfl) (fun _ _ _ h => h) (Or.inl ⟨by rfl, ?_⟩) (by assumption) ?_
          rotate_left
          · (intro w0 hSw; (try dsimp only at hSw); go_simp; try with_reducible rfl)
          try simp only [List.getElem_toArray, List.getElem_cons_succ, List.getElem_cons_zero, Act.put, List.setIfInBounds_toArray, List.set_cons_zero, List.set_cons_succ]
          refine wpAnyH_take (i := 3) (v := ?_) rfl (by kernel_rfl) (by kernel_rfl) (by kernel_rfl) (fun _ _ _ h => h) (Or.inl ⟨by rfl, ?_⟩) (by assumption) ?_
          rotate_left
          · (intro w0 hSw; (try dsimp only at hSw); go_simp; try with_reducible rfl)
          try simp only [List.getElem_toArray, List.getElem_cons_succ, List.getElem_cons_zero, Act.put, List.setIfInBounds_toArray, List.set_cons_zero, List.set_cons_succ]
          refine wpAnyH_take (i := 4) (v := .agg (mc a)) rfl (by kernel_rfl) (by kernel_rfl) (by kernel_rfl) (fun _ _ _ h => h) (Or.inl ⟨by rfl, fun w0 hSw => exec_load (x := .tmp 35) rfl (ad := ⟨ab, aoff + m * 33, none⟩) rfl (run_loadVar_cells w0 _ _ (ints a) _ hSw.2 Try.underlying44 rfl HAI.out)⟩) (by assumption) ?_
          try simp only [List.getElem_toArray, List.getElem_cons_succ, List.getElem_cons_zero, Act.put, List.setIfInBounds_toArray, List.set_cons_zero, List.set_cons_succ]
          refine wpAnyH_ready (rs := [5, 10]) (by kernel_rfl) (by simp) ?_
          refine AllReadyH.cons rfl (fun K hK => ?_) (AllReadyH.cons rfl (fun K hK => ?_) AllReadyH.nil)
          · go_simp
            refine (act_any x s a A33.out _ (TX.out.step BD.out) OKX.out (by omega)).mono ?_
            rintro e X2 ⟨s2, u, rfl, ht2, hu2, hb2⟩
            try go_simp
            rw [HY.out] at ht2 hu2
            simp only [HY.out]
            obtain ⟨Au, cu, rfl⟩ := own_len hu2
            have T2 := Lib.hid ht2
            have U2 := Lib.hid (own_less hu2 BD.out.size)
            have E2 := Lib.hid (BD.out.trans (hb2.mono BD.out.size))
            have E2s := Lib.hid hb2
            clear ht2 hu2 hb2
            refine hK.out _ _ ⟨XX.out.here E2.out, HCK.out _ E2.out⟩ (fun hHeld => ?_)
            clear hK K
            refine wpAnyH_take (i := 6) (v := ?_) rfl (by kernel_rfl) (by kernel_rfl) (by kernel_rfl) (fun _ _ _ h => h) (Or.inl ⟨by rfl, ?_⟩) (by assumption) ?_
            rotate_left
            · (intro w0 hSw; (try dsimp only at hSw); go_simp; try with_reducible rfl)
            try simp only [List.getElem_toArray, List.getElem_cons_succ, List.getElem_cons_zero, Act.put, List.setIfInBounds_toArray, List.set_cons_zero, List.set_cons_succ]
            refine wpAnyH_take (i := 7) (v := ?_) rfl (by kernel_rfl) (by kernel_rfl) (by kernel_rfl) (fun _ _ _ h => h) (Or.inl ⟨by rfl, ?_⟩) (by assumption) ?_
            rotate_left
            · (intro w0 hSw; (try dsimp only at hSw); go_simp; try with_reducible rfl)
            try simp only [List.getElem_toArray, List.getElem_cons_succ, List.getElem_cons_zero, Act.put, List.setIfInBounds_toArray, List.set_cons_zero, List.set_cons_succ]
            refine wpAnyH_take (i := 8) (v := ?_) rfl (by kernel_rfl) (by kernel_rfl) (by kernel_rfl) (fun _ _ _ h => h) (Or.inl ⟨by rfl, ?_⟩) (by assumption) ?_
            rotate_left
            · (intro w0 hSw; (try dsimp only at hSw); go_simp; try with_reducible rfl)
            try simp only [List.getElem_toArray, List.getElem_cons_succ, List.getElem_cons_zero, Act.put, List.setIfInBounds_toArray, List.set_cons_zero, List.set_cons_succ]
            refine wpAnyH_take (i := 9) (v := ?_) rfl (by kernel_rfl) (by kernel_rfl) (by kernel_rfl) (fun _ _ _ h => h) (Or.inl ⟨by rfl, ?_⟩) (by assumption) ?_
            rotate_left
            · (intro w0 hSw; (try dsimp only at hSw); go_simp; try with_reducible rfl)
            try simp only [List.getElem_toArray, List.getElem_cons_succ, List.getElem_cons_zero, Act.put, List.setIfInBounds_toArray, List.set_cons_zero, List.set_cons_succ]
            refine wpAnyH_ready (rs := [10]) (by kernel_rfl) (by simp) ?_
            refine AllReadyH.cons rfl (fun K hK => ?_) AllReadyH.nil
            go_simp
            have E3 := Lib.hid (show Below X.heap.size X (X2.alloc (.cells zTr 30)) from E2.out.alloc E2.out.size _)
            have Z3 := Lib.hid (Blk.new X2 30 zTr)
            have T3 := Lib.hid (T2.out.step (Joins.below_alloc1 X2 (.cells zTr 30)))
            have U3 := Lib.hid (own_step U2.out (Joins.below_alloc1 X2 (.cells zTr 30)))
            have GR := Lib.hid E2.out.size
            refine hK.out _ _ ⟨XX.out.here E3.out, HCK.out _ E3.out⟩ (fun hHeld => ?_)
            clear hK K
            generalize X2.alloc (.cells zTr 30) = X3 at E3 Z3 T3 U3 hHeld ⊢
            generalize X2.heap.size = rb at Z3 GR ⊢
            refine wpAnyH_ready (rs := [11]) (by kernel_rfl) (by simp) ?_
            refine AllReadyH.cons rfl (fun K hK => ?_) AllReadyH.nil
            refine step_store_mid (by rfl) 30 (.tmp 8) (.tmp 38) rfl rb 0 (trc y s2) rfl rfl (Z3.out.there (Nat.le_refl 13)) (tr_info _ _) T3.out.one ?_
            have E4 := Lib.hid (show Below X.heap.size X (X3.setCells rb 0 (trc y s2).toList) from Below.setCells GR.out _ _ _ E3.out)
            have Y4 := Lib.hid (Z3.out.put (trc y s2) rfl)
            have R4 := Lib.hid (show Turn (fun k => k = rb) X3 (X3.setCells rb 0 (trc y s2).toList) from Turn.setCells (S := fun k => k = rb) (fun _ => rfl) _ _ _ (Turn.refl _ _))
            have T4 := Lib.hid (T3.out.offB Z3.out R4.out)
            have U4 := Lib.hid (own_offB U3.out Z3.out (by decide) R4.out)
            clear R4
            refine hK.out _ _ ⟨XX.out.here E4.out, HCK.out _ E4.out⟩ (fun hHeld => ?_)
            clear hK K
            generalize X3.setCells rb 0 (trc y s2).toList = X4 at E4 Y4 T4 U4 hHeld ⊢
            refine wpAnyH_take (i := 12) (v := ?_) rfl (by kernel_rfl) (by kernel_rfl) (by kernel_rfl) (fun _ _ _ h => h) (Or.inl ⟨by rfl, ?_⟩) (by assumption) ?_
            rotate_left
            · (intro w0 hSw; (try dsimp only at hSw); go_simp; try with_reducible rfl)
            try simp only [List.getElem_toArray, List.getElem_cons_succ, List.getElem_cons_zero, Act.put, List.setIfInBounds_toArray, List.set_cons_zero, List.set_cons_succ]
            refine wpAnyH_take (i := 13) (v := ?_) rfl (by kernel_rfl) (by kernel_rfl) (by kernel_rfl) (fun _ _ _ h => h) (Or.inl ⟨by rfl, ?_⟩) (by assumption) ?_
            rotate_left
            · (intro w0 hSw; (try dsimp only at hSw); go_simp; try with_reducible rfl)
            try simp only [List.getElem_toArray, List.getElem_cons_succ, List.getElem_cons_zero, Act.put, List.setIfInBounds_toArray, List.set_cons_zero, List.set_cons_succ]
            refine wpAnyH_done (by kernel_rfl) ?_ _
            go_wp2_with fail
            go_meet
            exact ⟨_, s2, Au, cu, rfl, rfl, Y4.out, XX.out.here E4.out, T4.out, U4.out, E4.out, by have := GR.out; have := XX.out.lt; omega⟩
          · go_simp
            have E3 := Lib.hid (show Below X.heap.size X (X1.alloc (.cells zTr 30)) from BD.out.alloc BD.out.size _)
            have Z0 := Lib.hid (Blk.new X1 30 zTr)
            have GR := Lib.hid BD.out.size
            refine hK.out _ _ ⟨XX.out.here E3.out, HCK.out _ E3.out⟩ (fun hHeld => ?_)
            clear hK K
            generalize X1.alloc (.cells zTr 30) = XA at E3 Z0 hHeld ⊢
            generalize X1.heap.size = rb at Z0 GR ⊢
            refine wpAnyH_ready (rs := [5]) (by kernel_rfl) (by simp) ?_
            refine AllReadyH.cons rfl (fun K hK => ?_) AllReadyH.nil
            go_simp
            refine (act_any x s a A33.out _ (TX.out.step E3.out) OKX.out (by omega)).mono ?_
            rintro e X2 ⟨s2, u, rfl, ht2, hu2, hb2⟩
            try go_simp
            rw [HY.out] at ht2 hu2
            simp only [HY.out]
            obtain ⟨Au, cu, rfl⟩ := own_len hu2
            have T2 := Lib.hid ht2
            have U2 := Lib.hid (own_less hu2 E3.out.size)
            have E2 := Lib.hid (E3.out.trans (hb2.mono E3.out.size))
            have E2s := Lib.hid hb2
            clear ht2 hu2 hb2
            refine hK.out _ _ ⟨XX.out.here E2.out, HCK.out _ E2.out⟩ (fun hHeld => ?_)
            clear hK K
            refine wpAnyH_take (i := 6) (v := ?_) rfl (by kernel_rfl) (by kernel_rfl) (by kernel_rfl) (fun _ _ _ h => h) (Or.inl ⟨by rfl, ?_⟩) (by assumption) ?_
            rotate_left
            · (intro w0 hSw; (try dsimp only at hSw); go_simp; try with_reducible rfl)
            try simp only [List.getElem_toArray, List.getElem_cons_succ, List.getElem_cons_zero, Act.put, List.setIfInBounds_toArray, List.set_cons_zero, List.set_cons_succ]
            refine wpAnyH_take (i := 7) (v := ?_) rfl (by kernel_rfl) (by kernel_rfl) (by kernel_rfl) (fun _ _ _ h => h) (Or.inl ⟨by rfl, ?_⟩) (by assumption) ?_
            rotate_left
            · (intro w0 hSw; (try dsimp only at hSw); go_simp; try with_reducible rfl)
            try simp only [List.getElem_toArray, List.getElem_cons_succ, List.getElem_cons_zero, Act.put, List.setIfInBounds_toArray, List.set_cons_zero, List.set_cons_succ]
            refine wpAnyH_take (i := 8) (v := ?_) rfl (by kernel_rfl) (by kernel_rfl) (by kernel_rfl) (fun _ _ _ h => h) (Or.inl ⟨by rfl, ?_⟩) (by assumption) ?_
            rotate_left
            · (intro w0 hSw; (try dsimp only at hSw); go_simp; try with_reducible rfl)
            try simp only [List.getElem_toArray, List.getElem_cons_succ, List.getElem_cons_zero, Act.put, List.setIfInBounds_toArray, List.set_cons_zero, List.set_cons_succ]
            refine wpAnyH_take (i := 9) (v := ?_) rfl (by kernel_rfl) (by kernel_rfl) (by kernel_rfl) (fun _ _ _ h => h) (Or.inl ⟨by rfl, ?_⟩) (by assumption) ?_
            rotate_left
            · (intro w0 hSw; (try dsimp only at hSw); go_simp; try with_reducible rfl)
            try simp only [List.getElem_toArray, List.getElem_cons_succ, List.getElem_cons_zero, Act.put, List.setIfInBounds_toArray, List.set_cons_zero, List.set_cons_succ]
            have Z3 := Lib.hid (Z0.out.here E2s.out)
            have T3 := T2
            have U3 := U2
            have E3 := E2
            generalize X2 = X3 at E3 Z3 T3 U3 hHeld ⊢
            refine wpAnyH_ready (rs := [11]) (by kernel_rfl) (by simp) ?_
            refine AllReadyH.cons rfl (fun K hK => ?_) AllReadyH.nil
            refine step_store_mid (by rfl) 30 (.tmp 8) (.tmp 38) rfl rb 0 (trc y s2) rfl rfl (Z3.out.there (Nat.le_refl 13)) (tr_info _ _) T3.out.one ?_
            have E4 := Lib.hid (show Below X.heap.size X (X3.setCells rb 0 (trc y s2).toList) from Below.setCells GR.out _ _ _ E3.out)
            have Y4 := Lib.hid (Z3.out.put (trc y s2) rfl)
            have R4 := Lib.hid (show Turn (fun k => k = rb) X3 (X3.setCells rb 0 (trc y s2).toList) from Turn.setCells (S := fun k => k = rb) (fun _ => rfl) _ _ _ (Turn.refl _ _))
            have T4 := Lib.hid (T3.out.offB Z3.out R4.out)
            have U4 := Lib.hid (own_offB U3.out Z3.out (by decide) R4.out)
            clear R4
            refine hK.out _ _ ⟨XX.out.here E4.out, HCK.out _ E4.out⟩ (fun hHeld => ?_)
            clear hK K
            generalize X3.setCells rb 0 (trc y s2).toList = X4 at E4 Y4 T4 U4 hHeld ⊢
            refine wpAnyH_take (i := 12) (v := ?_) rfl (by kernel_rfl) (by kernel_rfl) (by kernel_rfl) (fun _ _ _ h => h) (Or.inl ⟨by rfl, ?_⟩) (by assumption) ?_
            rotate_left
            · (intro w0 hSw; (try dsimp only at hSw); go_simp; try with_reducible rfl)
            try simp only [List.getElem_toArray, List.getElem_cons_succ, List.getElem_cons_zero, Act.put, List.setIfInBounds_toArray, List.set_cons_zero, List.set_cons_succ]
            refine wpAnyH_take (i := 13) (v := ?_) rfl (by kernel_rfl) (by kernel_rfl) (by kernel_rfl) (fun _ _ _ h => h) (Or.inl ⟨by rfl, ?_⟩) (by assumption) ?_
            rotate_left
            · (intro w0 hSw; (try dsimp only at hSw); go_simp; try with_reducible rfl)
            try simp only [List.getElem_toArray, List.getElem_cons_succ, List.getElem_cons_zero, Act.put, List.setIfInBounds_toArray, List.set_cons_zero, List.set_cons_succ]
            refine wpAnyH_done (by kernel_rfl) ?_ _
            go_wp2_with fail
            go_meet
            exact ⟨_, s2, Au, cu, rfl, rfl, Y4.out, XX.out.here E4.out, T4.out, U4.out, E4.out, by have := GR.out; have := XX.out.lt; omega⟩
        case rest =>
          obtain ⟨r, s2, Au, cu, rfl, rfl, hyb, hxb, hym, hum, hbel, hne⟩ := hcut
          have YB := Lib.hid hyb
          have XB := Lib.hid hxb
          have YM := Lib.hid hym
          have UM := Lib.hid hum
          have EB := Lib.hid hbel
          have AGN := Lib.hid (fun (W : World) (h : Tm W 0 y s2) => again_any y s2 lv W h OKY.out.tch OKY.out.vts OKY.out.acks OKY.out.st)
          have HSB := Lib.hid (sent_again OKY.out HTY.out lv)
          have HFB := Lib.hid (again_few OKY.out.tch.len lv)
          have HOV := Lib.hid (fun h => again_over (x := y) lv h)
          have TCL := Lib.hid OKY.out.tch.len
          clear hyb hxb hym hum hbel hne HAI AC A33 HCK TX XX
          generalize againL y lv = ag at AGN HSB HFB HOV
          generalize wc = W0 at YB XB YM UM EB ⊢
          go_upto_region 13 with (first
            | (refine wpList_load_row rfl 30 (.tmp 8) rfl r rfl 30 (trc y s2) (0, 0) _ YB.out Try.underlying30 rfl (tr_info _ _) ?_)
            | (refine wpList_store_mid (by rfl) 30 (.tmp 5) (.tmp 41) (by rfl) g 0 (trc y s2) (by rfl) (by rfl) (XB.out.there (Nat.le_refl 13)) (tr_info _ _) YM.out.one ?_
               have E3 := Lib.hid (show Turn (fun k => k = g) W0 (W0.setCells g 0 (trc y s2).toList) from Turn.setCells (S := fun k => k = g) (fun _ => rfl) _ _ _ (Turn.refl _ _))
               have XZ := Lib.hid (XB.out.put (trc y s2) rfl)
               have TZ := Lib.hid (YM.out.offB XB.out E3.out)
               have UZ := Lib.hid (own_offB UM.out XB.out (by decide) E3.out)
               have BZ := Lib.hid ((stepB BX.out EB.out).trans (E3.out.below (B := w.heap.size) (fun k hk e => by have := HG.out; omega) (Nat.le_trans BX.out.size EB.out.size)))
               have SZ := Lib.hid (Nat.le_trans EB.out.size E3.out.size)
               clear E3
               generalize W0.setCells g 0 (trc y s2).toList = W1 at XZ TZ UZ BZ SZ ⊢))
          clear YB XB YM UM EB
          obtain ⟨i0, hi0, hz0, hz1, hz2⟩ := info_parts info_msg
          obtain ⟨L, hL⟩ : ∃ L, ms ++ ag = L := ⟨_, rfl⟩
          have HL2 := Lib.hid hL
          have HSL := Lib.hid (show ∀ q ∈ L, Sent y q from fun q hq => (List.mem_append.1 (hL ▸ hq)).elim (HSA.out q) (HSB.out q))
          have HNL := Lib.hid (show L.length ≤ 129 from by rw [← hL, List.length_append]; have := HSA.out; have := HFA.out; have := HFB.out; omega)
          clear hL
          go_upto_region 14 with (first
            | (refine wpList_load_row rfl 30 (.tmp 5) rfl g rfl 30 (trc y s2) (0, 0) _ XZ.out Try.underlying30 rfl (tr_info _ _) ?_)
            | (go_at_call 11; refine (AGN.out _ TZ.out).mono ?_; rintro e W2 ⟨u2, rfl, hu2, hb2⟩; obtain ⟨A2, c2, rfl, rd2, _, _⟩ := own_rd hu2; have RD2 := Lib.hid rd2; have XA2 := Lib.hid (XZ.out.here hb2); have TA2 := Lib.hid (TZ.out.step hb2); have UA2 := Lib.hid (own_step UZ.out hb2); have BA2 := Lib.hid (stepB BZ.out hb2); have SA2 := Lib.hid (Nat.le_trans SZ.out hb2.size); clear hu2 hb2 rd2)
            | (at_builtin; refine wpList_append_any _ rfl (.tmp 42) (.tmp 45) _ rfl X.heap.size 42 i0 _ 28 224 Try.underlying35 hi0 hz0 hz1 hz2 (mc_size zM_length) (by omega) (.slice Au ms.length cu) ms.length (ints ms.flatten) rfl UA2.out _ A2 ag.length c2 (ints ag.flatten) rfl RD2.out (ints_one _) (by have := HFA.out; have := HFB.out; simp only [maxLen]; omega) (by have := HFA.out; have := HFB.out; omega) SA2.out ?_
               intro v9 W3 hown hgr _
               have G3 := Lib.hid (show Turn (fun k => (Value.slice Au ms.length cu).ownBlock = some k) W2 W3 from (Turn.refl _ _).grown hgr (fun k hk _ => hk))
               have X3 := Lib.hid (XA2.out.turn G3.out (fun e => by have := own_ge UA2.out e; have := HGL.out; omega))
               have T3 := Lib.hid (TA2.out.offOwn UA2.out G3.out)
               have B3 := Lib.hid (BA2.out.trans (G3.out.below (B := w.heap.size) (fun k hk e => by have := own_ge UA2.out e; have := BX.out.size; omega) BA2.out.size))
               have O3 := Lib.hid (show MsgR W3 X.heap.size v9 L from by rw [← ints_append, ← List.flatten_append, ← List.length_append, HL2.out] at hown; exact hown)
               obtain ⟨A3, c3, rfl⟩ := own_len O3.out
               clear hown hgr G3))
          have RL := Lib.hid (Reads.of_own O3.out)
          clear XZ TZ UZ BZ SZ RD2 XA2 TA2 UA2 BA2 SA2 O3 HSA HSB HFA HFB hi0 hz0 hz1 hz2
          clear HL2
          generalize hN : L.length = N at RL HNL ⊢
          have HN := Lib.hid hN
          clear hN
          go_wp2_with fail
          go_loopw [11, 12, 13] (fun v _ _ wr => ∃ k : Nat, v = .int .i64 k ∧ k ≤ N ∧ Below W3.heap.size W3 wr) (fun v _ _ _ => N - (RowKit.intOf v).toNat)
          case atStart => exact ⟨0, rfl, Nat.zero_le _, Below.refl _ _⟩
          case round =>
            rename World => Z
            obtain ⟨k, rfl, hk, hbz⟩ := hrel
            have EZ := Lib.hid hbz
            clear hbz
            have ZX := Lib.hid (X3.out.here EZ.out)
            have ZT := Lib.hid (T3.out.step EZ.out)
            by_cases hkn : k < N
            · have hNL := HNL.out
              have d5 : decide ((k : Int) < (N : Int)) = true := by simp; omega
              obtain ⟨bm, om, rfl, _, hm28, hmc⟩ := (RL.out.below EZ.out).txMsg_at (fun q hq => (HSL.out q hq).len) HN.out hkn
              have HSQ := Lib.hid (show Sent y (L.getD k []) from HSL.out _ (by have := HN.out; rw [show L.getD k [] = L[k]'(by omega) by simp [List.getD, HN.out, hkn]]; exact List.getElem_mem _))
              have HMC := Lib.hid hmc
              clear hmc hm28
              generalize L.getD k [] = q at HSQ HMC
              have HIT := Lib.hid (show ∃ j, j < y.tch.length ∧ gd y.tch j = fld q 2 from by
                obtain ⟨j, hj, e⟩ := List.getElem_of_mem HSQ.out.shd
                exact ⟨j, hj, by rw [gd_get hj]; exact e⟩)
              have HCQ := Lib.hid (show ∀ Y, Below Z.heap.size Z Y → ∀ j v, (ints q)[j]? = some v → Y.cell? ((⟨bm, om + k * 28, none⟩ : Addr).add j) = some v from fun Y hy j v hv => (hy.cell (p := (⟨bm, om + k * 28, none⟩ : Addr).add j) (by rw [block_of_add]; exact World.block_lt_of_cell? _ _ (HMC.out j v hv) |> (by simpa [block_of_add] using ·))).trans (HMC.out j v hv))
              have HF2 := Lib.hid (show ∀ Y, Below Z.heap.size Z Y → ∀ j, j < 28 → Y.cell? ⟨bm, om + k * 28 + j, none⟩ = some (.int .i64 (fld q j)) from fun Y hy j hj => by
                have h28 := HSQ.out.len
                have := HCQ.out Y hy j _ (show (ints q)[j]? = some (.int .i64 (fld q j)) from by simp [ints, fld_get (show j < q.length by omega)])
                rwa [show (⟨bm, om + k * 28, none⟩ : Addr).add j = ⟨bm, om + k * 28 + j, none⟩ by unfold Addr.add; split <;> simp_all] at this)
              obtain ⟨At, ct, et, rt, _, _⟩ := own_rd ZT.out.t
              have HRT := Lib.hid rt
              have x9 : Z.cell? ⟨g, 9, none⟩ = some (.slice At y.tch.length ct) := by rw [← et]; exact ZX.out.cell 9
              have k2 : Z.cell? ⟨bm, om + k * 28 + 2, none⟩ = some (.int .i64 (fld q 2)) := HF2.out Z (Below.refl _ _) 2 (by omega)
              have H5 := Lib.hid (show fld q 3 = 5 from HSQ.out.tx)
              clear rt et
              generalize hNT : y.tch.length = NT at x9 HRT HIT TCL ⊢
              have HNT := Lib.hid hNT
              clear hNT
              generalize hto : fld q 2 = to2 at k2 HIT ⊢
              clear hto
              have hNT64 := TCL.out
              go_upto_region 18 with fail
              go_wp2_with fail
              go_loopw [12, 13] (fun s12 s13 wr => ∃ (i p : Nat) (f : Bool), s12 = .bool f ∧ s13 = .int .i64 i ∧ i ≤ NT ∧ (∀ j : Nat, j < i → gd y.tch j = to2 → f = true) ∧ wr = Z.drewN p) (fun _ s13 _ => NT - (RowKit.intOf s13).toNat)
              case atStart => exact ⟨0, 0, false, rfl, rfl, Nat.zero_le _, fun j hj => by omega, rfl⟩
              case round =>
                obtain ⟨i, p, f, rfl, rfl, hi, hf, rfl⟩ := hrel
                have HF := Lib.hid hf
                clear hf
                by_cases hin : i < NT
                · obtain ⟨bt, ot, rfl, _, hct⟩ := int_cells HRT.out (by omega)
                  have k1 := hct i (by rw [HNT.out]; exact hin)
                  clear hct
                  generalize hyy : gd y.tch i = yy at k1
                  have HYY := Lib.hid hyy
                  clear hyy
                  have d6 : decide ((i : Int) < (NT : Int)) = true := by simp; omega
                  go_upto_region 21 with fail
                  cases f with
                  | true =>
                    refine wp_region_held_drew (S := fun w' => w'.cell? ⟨g, 9, none⟩ = some (.slice (some ⟨bt, ot, none⟩) NT ct) ∧ w'.cell? ⟨bt, ot + i, none⟩ = some (.int .i64 yy) ∧ w'.cell? ⟨bm, om + k * 28 + 2, none⟩ = some (.int .i64 to2)) (by kernel_rfl) ⟨x9, k1, k2⟩ (fun hHeld => ?_)
                    refine wpAnyH_take (i := 0) (v := ?_) rfl (by kernel_rfl) (by kernel_rfl) (by kernel_rfl) (fun _ _ _ h => h) (Or.inl ⟨by rfl, ?_⟩) (by assumption) ?_
                    rotate_left
                    · (intro w0 hSw; (try dsimp only at hSw); go_simp; try with_reducible rfl)
                    try simp only [List.getElem_toArray, List.getElem_cons_succ, List.getElem_cons_zero, Act.put, List.setIfInBounds_toArray, List.set_cons_zero, List.set_cons_succ]
                    refine wpAnyH_take (i := 1) (v := ?_) rfl (by kernel_rfl) (by kernel_rfl) (by kernel_rfl) (fun _ _ _ h => h) (Or.inl ⟨by rfl, ?_⟩) (by assumption) ?_
                    rotate_left
                    · (intro w0 hSw; (try dsimp only at hSw); go_simp; try with_reducible rfl)
                    try simp only [List.getElem_toArray, List.getElem_cons_succ, List.getElem_cons_zero, Act.put, List.setIfInBounds_toArray, List.set_cons_zero, List.set_cons_succ]
                    refine wpAnyH_take (i := 2) (v := undef) rfl (by kernel_rfl) (by kernel_rfl) (by kernel_rfl) (fun _ _ _ h => h) (Or.inr ⟨by rfl, rfl⟩) (by assumption) ?_
                    try simp only [List.getElem_toArray, List.getElem_cons_succ, List.getElem_cons_zero, Act.put, List.setIfInBounds_toArray, List.set_cons_zero, List.set_cons_succ]
                    refine wpAnyH_take (i := 3) (v := undef) rfl (by kernel_rfl) (by kernel_rfl) (by kernel_rfl) (fun _ _ _ h => h) (Or.inr ⟨by rfl, rfl⟩) (by assumption) ?_
                    try simp only [List.getElem_toArray, List.getElem_cons_succ, List.getElem_cons_zero, Act.put, List.setIfInBounds_toArray, List.set_cons_zero, List.set_cons_succ]
                    refine wpAnyH_take (i := 4) (v := undef) rfl (by kernel_rfl) (by kernel_rfl) (by kernel_rfl) (fun _ _ _ h => h) (Or.inr ⟨by rfl, rfl⟩) (by assumption) ?_
                    try simp only [List.getElem_toArray, List.getElem_cons_succ, List.getElem_cons_zero, Act.put, List.setIfInBounds_toArray, List.set_cons_zero, List.set_cons_succ]
                    refine wpAnyH_take (i := 5) (v := undef) rfl (by kernel_rfl) (by kernel_rfl) (by kernel_rfl) (fun _ _ _ h => h) (Or.inr ⟨by rfl, rfl⟩) (by assumption) ?_
                    try simp only [List.getElem_toArray, List.getElem_cons_succ, List.getElem_cons_zero, Act.put, List.setIfInBounds_toArray, List.set_cons_zero, List.set_cons_succ]
                    refine wpAnyH_take (i := 6) (v := undef) rfl (by kernel_rfl) (by kernel_rfl) (by kernel_rfl) (fun _ _ _ h => h) (Or.inr ⟨by rfl, rfl⟩) (by assumption) ?_
                    try simp only [List.getElem_toArray, List.getElem_cons_succ, List.getElem_cons_zero, Act.put, List.setIfInBounds_toArray, List.set_cons_zero, List.set_cons_succ]
                    refine wpAnyH_take (i := 7) (v := undef) rfl (by kernel_rfl) (by kernel_rfl) (by kernel_rfl) (fun _ _ _ h => h) (Or.inr ⟨by rfl, rfl⟩) (by assumption) ?_
                    try simp only [List.getElem_toArray, List.getElem_cons_succ, List.getElem_cons_zero, Act.put, List.setIfInBounds_toArray, List.set_cons_zero, List.set_cons_succ]
                    refine wpAnyH_take (i := 8) (v := undef) rfl (by kernel_rfl) (by kernel_rfl) (by kernel_rfl) (fun _ _ _ h => h) (Or.inr ⟨by rfl, rfl⟩) (by assumption) ?_
                    try simp only [List.getElem_toArray, List.getElem_cons_succ, List.getElem_cons_zero, Act.put, List.setIfInBounds_toArray, List.set_cons_zero, List.set_cons_succ]
                    refine wpAnyH_take (i := 9) (v := undef) rfl (by kernel_rfl) (by kernel_rfl) (by kernel_rfl) (fun _ _ _ h => h) (Or.inr ⟨by rfl, rfl⟩) (by assumption) ?_
                    try simp only [List.getElem_toArray, List.getElem_cons_succ, List.getElem_cons_zero, Act.put, List.setIfInBounds_toArray, List.set_cons_zero, List.set_cons_succ]
                    refine wpAnyH_take (i := 10) (v := undef) rfl (by kernel_rfl) (by kernel_rfl) (by kernel_rfl) (fun _ _ _ h => h) (Or.inr ⟨by rfl, rfl⟩) (by assumption) ?_
                    try simp only [List.getElem_toArray, List.getElem_cons_succ, List.getElem_cons_zero, Act.put, List.setIfInBounds_toArray, List.set_cons_zero, List.set_cons_succ]
                    refine wpAnyH_take (i := 11) (v := undef) rfl (by kernel_rfl) (by kernel_rfl) (by kernel_rfl) (fun _ _ _ h => h) (Or.inr ⟨by rfl, rfl⟩) (by assumption) ?_
                    try simp only [List.getElem_toArray, List.getElem_cons_succ, List.getElem_cons_zero, Act.put, List.setIfInBounds_toArray, List.set_cons_zero, List.set_cons_succ]
                    refine wpAnyH_take (i := 12) (v := undef) rfl (by kernel_rfl) (by kernel_rfl) (by kernel_rfl) (fun _ _ _ h => h) (Or.inr ⟨by rfl, rfl⟩) (by assumption) ?_
                    try simp only [List.getElem_toArray, List.getElem_cons_succ, List.getElem_cons_zero, Act.put, List.setIfInBounds_toArray, List.set_cons_zero, List.set_cons_succ]
                    refine wpAnyH_take (i := 13) (v := ?_) rfl (by kernel_rfl) (by kernel_rfl) (by kernel_rfl) (fun _ _ _ h => h) (Or.inl ⟨by rfl, ?_⟩) (by assumption) ?_
                    rotate_left
                    · (intro w0 hSw; (try dsimp only at hSw); go_simp; try with_reducible rfl)
                    try simp only [List.getElem_toArray, List.getElem_cons_succ, List.getElem_cons_zero, Act.put, List.setIfInBounds_toArray, List.set_cons_zero, List.set_cons_succ]
                    refine wpAnyH_take (i := 14) (v := ?_) rfl (by kernel_rfl) (by kernel_rfl) (by kernel_rfl) (fun _ _ _ h => h) (Or.inl ⟨by rfl, ?_⟩) (by assumption) ?_
                    rotate_left
                    · (intro w0 hSw; (try dsimp only at hSw); go_simp; try with_reducible rfl)
                    try simp only [List.getElem_toArray, List.getElem_cons_succ, List.getElem_cons_zero, Act.put, List.setIfInBounds_toArray, List.set_cons_zero, List.set_cons_succ]
                    refine wpAnyH_done (by kernel_rfl) ?_ _
                    clear hHeld
                    go_wp2_with fail
                    go_roundw
                    case rel => exact ⟨i + 1, _, true, rfl, by go_num, by omega, fun _ _ _ => rfl, rfl⟩
                    case measure => simp [RowKit.intOf]; omega
                  | false =>
                    refine wp_region_held_drew (S := fun w' => w'.cell? ⟨g, 9, none⟩ = some (.slice (some ⟨bt, ot, none⟩) NT ct) ∧ w'.cell? ⟨bt, ot + i, none⟩ = some (.int .i64 yy) ∧ w'.cell? ⟨bm, om + k * 28 + 2, none⟩ = some (.int .i64 to2)) (by kernel_rfl) ⟨x9, k1, k2⟩ (fun hHeld => ?_)
                    refine wpAnyH_take (i := 0) (v := ?_) rfl (by kernel_rfl) (by kernel_rfl) (by kernel_rfl) (fun _ _ _ h => h) (Or.inl ⟨by rfl, ?_⟩) (by assumption) ?_
                    rotate_left
                    · (intro w0 hSw; (try dsimp only at hSw); go_simp; try with_reducible rfl)
                    try simp only [List.getElem_toArray, List.getElem_cons_succ, List.getElem_cons_zero, Act.put, List.setIfInBounds_toArray, List.set_cons_zero, List.set_cons_succ]
                    refine wpAnyH_take (i := 1) (v := ?_) rfl (by kernel_rfl) (by kernel_rfl) (by kernel_rfl) (fun _ _ _ h => h) (Or.inl ⟨by rfl, ?_⟩) (by assumption) ?_
                    rotate_left
                    · (intro w0 hSw; (try dsimp only at hSw); go_simp; try with_reducible rfl)
                    try simp only [List.getElem_toArray, List.getElem_cons_succ, List.getElem_cons_zero, Act.put, List.setIfInBounds_toArray, List.set_cons_zero, List.set_cons_succ]
                    refine wpAnyH_take (i := 2) (v := ?_) rfl (by kernel_rfl) (by kernel_rfl) (by kernel_rfl) (fun _ _ _ h => h) (Or.inl ⟨by rfl, ?_⟩) (by assumption) ?_
                    rotate_left
                    · (intro w0 hSw; (try dsimp only at hSw); go_simp; try with_reducible rfl)
                    try simp only [List.getElem_toArray, List.getElem_cons_succ, List.getElem_cons_zero, Act.put, List.setIfInBounds_toArray, List.set_cons_zero, List.set_cons_succ]
                    refine wpAnyH_take (i := 3) (v := ?_) rfl (by kernel_rfl) (by kernel_rfl) (by kernel_rfl) (fun _ _ _ h => h) (Or.inl ⟨by rfl, ?_⟩) (by assumption) ?_
                    rotate_left
                    · (intro w0 hSw; (try dsimp only at hSw); go_simp; try with_reducible rfl)
                    try simp only [List.getElem_toArray, List.getElem_cons_succ, List.getElem_cons_zero, Act.put, List.setIfInBounds_toArray, List.set_cons_zero, List.set_cons_succ]
                    refine wpAnyH_take (i := 4) (v := ?_) rfl (by kernel_rfl) (by kernel_rfl) (by kernel_rfl) (fun _ _ _ h => h) (Or.inl ⟨by rfl, ?_⟩) (by assumption) ?_
                    rotate_left
                    · (intro w0 hSw; (try dsimp only at hSw); go_simp; try with_reducible rfl)
                    try simp only [List.getElem_toArray, List.getElem_cons_succ, List.getElem_cons_zero, Act.put, List.setIfInBounds_toArray, List.set_cons_zero, List.set_cons_succ]
                    refine wpAnyH_take (i := 5) (v := ?_) rfl (by kernel_rfl) (by kernel_rfl) (by kernel_rfl) (fun _ _ _ h => h) (Or.inl ⟨by rfl, ?_⟩) (by assumption) ?_
                    rotate_left
                    · (intro w0 hSw; (try dsimp only at hSw); go_simp; try with_reducible rfl)
                    try simp only [List.getElem_toArray, List.getElem_cons_succ, List.getElem_cons_zero, Act.put, List.setIfInBounds_toArray, List.set_cons_zero, List.set_cons_succ]
                    refine wpAnyH_take (i := 6) (v := ?_) rfl (by kernel_rfl) (by kernel_rfl) (by kernel_rfl) (fun _ _ _ h => h) (Or.inl ⟨by rfl, ?_⟩) (by assumption) ?_
                    rotate_left
                    · (intro w0 hSw; (try dsimp only at hSw); go_simp; try with_reducible rfl)
                    try simp only [List.getElem_toArray, List.getElem_cons_succ, List.getElem_cons_zero, Act.put, List.setIfInBounds_toArray, List.set_cons_zero, List.set_cons_succ]
                    refine wpAnyH_take (i := 7) (v := ?_) rfl (by kernel_rfl) (by kernel_rfl) (by kernel_rfl) (fun _ _ _ h => h) (Or.inl ⟨by rfl, ?_⟩) (by assumption) ?_
                    rotate_left
                    · (intro w0 hSw; (try dsimp only at hSw); go_simp; try with_reducible rfl)
                    try simp only [List.getElem_toArray, List.getElem_cons_succ, List.getElem_cons_zero, Act.put, List.setIfInBounds_toArray, List.set_cons_zero, List.set_cons_succ]
                    refine wpAnyH_take (i := 8) (v := ?_) rfl (by kernel_rfl) (by kernel_rfl) (by kernel_rfl) (fun _ _ _ h => h) (Or.inl ⟨by rfl, ?_⟩) (by assumption) ?_
                    rotate_left
                    · (intro w0 hSw; (try dsimp only at hSw); go_simp; try with_reducible rfl)
                    try simp only [List.getElem_toArray, List.getElem_cons_succ, List.getElem_cons_zero, Act.put, List.setIfInBounds_toArray, List.set_cons_zero, List.set_cons_succ]
                    refine wpAnyH_take (i := 9) (v := ?_) rfl (by kernel_rfl) (by kernel_rfl) (by kernel_rfl) (fun _ _ _ h => h) (Or.inl ⟨by rfl, ?_⟩) (by assumption) ?_
                    rotate_left
                    · (intro w0 hSw; (try dsimp only at hSw); go_simp; try with_reducible rfl)
                    try simp only [List.getElem_toArray, List.getElem_cons_succ, List.getElem_cons_zero, Act.put, List.setIfInBounds_toArray, List.set_cons_zero, List.set_cons_succ]
                    refine wpAnyH_take (i := 10) (v := ?_) rfl (by kernel_rfl) (by kernel_rfl) (by kernel_rfl) (fun _ _ _ h => h) (Or.inl ⟨by rfl, ?_⟩) (by assumption) ?_
                    rotate_left
                    · (intro w0 hSw; (try dsimp only at hSw); go_simp; try with_reducible rfl)
                    try simp only [List.getElem_toArray, List.getElem_cons_succ, List.getElem_cons_zero, Act.put, List.setIfInBounds_toArray, List.set_cons_zero, List.set_cons_succ]
                    refine wpAnyH_take (i := 11) (v := ?_) rfl (by kernel_rfl) (by kernel_rfl) (by kernel_rfl) (fun _ _ _ h => h) (Or.inl ⟨by rfl, ?_⟩) (by assumption) ?_
                    rotate_left
                    · (intro w0 hSw; (try dsimp only at hSw); go_simp; try with_reducible rfl)
                    try simp only [List.getElem_toArray, List.getElem_cons_succ, List.getElem_cons_zero, Act.put, List.setIfInBounds_toArray, List.set_cons_zero, List.set_cons_succ]
                    refine wpAnyH_take (i := 12) (v := ?_) rfl (by kernel_rfl) (by kernel_rfl) (by kernel_rfl) (fun _ _ _ h => h) (Or.inl ⟨by rfl, ?_⟩) (by assumption) ?_
                    rotate_left
                    · (intro w0 hSw; (try dsimp only at hSw); go_simp; try with_reducible rfl)
                    try simp only [List.getElem_toArray, List.getElem_cons_succ, List.getElem_cons_zero, Act.put, List.setIfInBounds_toArray, List.set_cons_zero, List.set_cons_succ]
                    refine wpAnyH_take (i := 13) (v := ?_) rfl (by kernel_rfl) (by kernel_rfl) (by kernel_rfl) (fun _ _ _ h => h) (Or.inl ⟨by rfl, ?_⟩) (by assumption) ?_
                    rotate_left
                    · (intro w0 hSw; (try dsimp only at hSw); go_simp; try with_reducible rfl)
                    try simp only [List.getElem_toArray, List.getElem_cons_succ, List.getElem_cons_zero, Act.put, List.setIfInBounds_toArray, List.set_cons_zero, List.set_cons_succ]
                    refine wpAnyH_take (i := 14) (v := ?_) rfl (by kernel_rfl) (by kernel_rfl) (by kernel_rfl) (fun _ _ _ h => h) (Or.inl ⟨by rfl, ?_⟩) (by assumption) ?_
                    rotate_left
                    · (intro w0 hSw; (try dsimp only at hSw); go_simp; try with_reducible rfl)
                    try simp only [List.getElem_toArray, List.getElem_cons_succ, List.getElem_cons_zero, Act.put, List.setIfInBounds_toArray, List.set_cons_zero, List.set_cons_succ]
                    refine wpAnyH_done (by kernel_rfl) ?_ _
                    clear hHeld
                    go_wp2_with fail
                    go_roundw
                    case rel =>
                      refine ⟨i + 1, _, yy == to2, rfl, by go_num, by omega, fun j hj e => ?_, rfl⟩
                      rcases Nat.lt_or_ge j i with h | h
                      · cases HF.out j h e
                      · obtain rfl : j = i := by omega
                        rw [HYY.out] at e
                        simpa using e
                    case measure => simp [RowKit.intOf]; omega
                · obtain rfl : i = NT := by omega
                  obtain ⟨j, hj, e⟩ := HIT.out
                  obtain rfl : f = true := HF.out j hj e
                  clear e hj
                  have d6 : decide ((i : Int) < (i : Int)) = false := by simp
                  go_upto_region 22 with fail
                  have BP := Lib.hid (below_drewN (Below.refl Z.heap.size Z) p)
                  have EP := Lib.hid (below_drewN EZ.out p)
                  clear k2 x9
                  generalize Z.drewN p = Z1 at BP EP ⊢
                  have k3 : Z1.cell? ⟨bm, om + k * 28 + 3, none⟩ = some (.int .i64 5) := by rw [← H5.out]; exact HF2.out Z1 BP.out 3 (by omega)
                  have HDW := Lib.hid (HCQ.out Z1 BP.out)
                  have HDI := Lib.hid (show (Try.prog.info? 42).map (·.size) = some (ints q).length from by have := mc_info HSQ.out.len; simpa [mc] using this)
                  go_wp2_with (refine wpList_load_cells_g (by rfl) 42 (.tmp 87) rfl ⟨bm, om + k * 28, none⟩ rfl (ints q) _ HDW.out Try.underlying42 rfl HDI.out ?_)
                  refine (refOk_any q HSQ.out.len _).mono ?_
                  rintro e Z2 ⟨rfl, hb6⟩
                  rw [HSQ.out.may]
                  have E6 := Lib.hid (EP.out.trans (hb6.mono EP.out.size))
                  clear hb6 k3
                  go_wp2_with fail
                  go_roundw
                  case rel => exact ⟨k + 1, by go_num, by omega, E6.out⟩
                  case measure => simp [RowKit.intOf]; omega
            · obtain rfl : k = N := by omega
              have d5 : decide ((k : Int) < (k : Int)) = false := by simp
              have OVR := Lib.hid (over_any y s2 Z ZT.out OKY.out.tch OKY.out.acks)
              clear HSL RL
              go_upto_region 24 with fail
              go_cut [100] from 25 to 100 (fun v wx => v = .bool false ∧ Below Z.heap.size Z wx)
              case first =>
                cases ho : overB y with
                | false =>
                  rw [ho] at OVR
                  clear ho
                  go_wp2_with (first
                    | (refine wpList_load_row rfl 30 (.tmp 5) rfl g rfl 30 (trc y s2) (0, 0) _ ZX.out Try.underlying30 rfl (tr_info _ _) ?_)
                    | (go_at_call 13; refine OVR.out.mono ?_; rintro e V2 ⟨rfl, hb⟩; have E6 := Lib.hid hb; clear hb))
                  go_meet
                  exact ⟨rfl, E6.out⟩
                | true =>
                  rw [ho] at OVR
                  obtain rfl : ag = [] := HOV.out ho
                  clear ho
                  go_wp2_with (first
                    | (refine wpList_load_row rfl 30 (.tmp 5) rfl g rfl 30 (trc y s2) (0, 0) _ ZX.out Try.underlying30 rfl (tr_info _ _) ?_)
                    | (refine wpList_load_row_g (by rfl) 30 (.tmp 5) rfl g rfl 30 (trc y s2) (0, 0) _ ZX2.out Try.underlying30 rfl (tr_info _ _) ?_)
                    | (go_at_call 13; refine OVR.out.mono ?_; rintro e V2 ⟨rfl, hb⟩; have E6 := Lib.hid hb; have ZX2 := Lib.hid (ZX.out.here hb); have ZT2 := Lib.hid (ZT.out.step hb); clear hb))
                  refine (AGN.out _ ZT2.out).mono ?_
                  rintro e V3 ⟨u3, rfl, hu3, hb3⟩
                  obtain ⟨Av, cv, rfl⟩ := own_len hu3
                  have E7 := Lib.hid (E6.out.trans (hb3.mono E6.out.size))
                  clear hu3 hb3
                  go_wp2_with fail
                  go_meet
                  exact ⟨rfl, E7.out⟩
              case rest =>
                obtain ⟨rfl, hb7⟩ := hcut
                have XF := Lib.hid (ZX.out.here hb7)
                have TF := Lib.hid (ZT.out.step hb7)
                have EF := Lib.hid (EZ.out.trans (hb7.mono EZ.out.size))
                have BF := Lib.hid (B3.out.trans (EF.out.mono B3.out.size))
                clear hb7
                go_wp2_with fail
                go_roundw
                case rel => exact ⟨m + 1, y, s2, by omega, by go_num, OKY.out, HTY.out, XF.out, TF.out, BF.out⟩
                case measure => simp [RowKit.intOf]; omega
      · obtain rfl : m = n := by omega
        have d3 : decide ((m : Int) < (m : Int)) = false := by simp
        go_wp2_with fail
        go_ret
        exact ⟨rfl, BX.out⟩
end Go.Proofs.Ytopjkidekbfalaa
