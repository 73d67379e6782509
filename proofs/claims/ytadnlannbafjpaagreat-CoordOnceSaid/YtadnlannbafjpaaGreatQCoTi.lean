/- A coordinator: a tick. -/
import Derived.Test.YtadnlannbafjpaaGreatQCoTh
namespace Go.Proofs.YtadnlannbafjpaaGreat
open Go.RowKit
set_option linter.unusedVariables false
set_option linter.unusedSimpArgs false
theorem TkQ.done {w V W : World} {g n p : Nat} {P P' : Pt} {v' : Value} {c' : Co} {ms : List (List Int)} (hb : Below w.heap.size w V) (hp : p = w.heap.size) (h : TkQ V W g n p w.heap.size P (.slice none 0 0) c' P' v' ms) : CoS w W g n P (fun _ => False) c' P' where
 m := h.s.m
 turn := (Turn.of_below hb).trans h.turn fun k hk hm => by
   rcases hm with e | e | e
   · exact e
   · omega
   · cases e
 tur := fun k hk => (h.tur k hk).elim .inl fun e => .inr (Nat.le_trans hb.size e)
 own := fun k hk => (h.own k hk).elim .inl fun e => .inr (.inl (Nat.le_trans hb.size e))
section
variable {g n p B : Nat} {c : Co} {P : Pt} {v : Value} {ms0 : List (List Int)}
set_option maxRecDepth 100000 in
set_option maxHeartbeats 4000000 in
theorem coTick_any (k0 : Nat) (w : World) (h : CoM w g n c P) (K : CoK n k0 c) (hk0 : k0 ≤ 900) (F : CoF c) (htm : 0 ≤ c.tm ∧ c.tm ≤ 1000000) (hre : 1 ≤ c.cf.re ∧ c.cf.re ≤ 1099511627776) :
   Calls Tryz.prog 32 #[.pointer (some ⟨g, 0, none⟩)] w fun e w' => ∃ u, e = .returned u ∧ MsgR w' w.heap.size u (tickL n c).2 ∧ ∃ P', CoS w w' g n P (fun _ => False) (tickL n c).1 P' := by
 have KK0 := Lib.hid K
 have FF := Lib.hid F
 have HK0 := Lib.hid hk0
 have HM := Lib.hid h
 have HTM := Lib.hid htm
 have HRE := Lib.hid hre
 have B1 := Lib.hid (Joins.below_alloc1 w (.cells #[.slice none 0 0] 35))
 have S1 := Lib.hid (show TkS (w.alloc (.cells #[.slice none 0 0] 35)) g n w.heap.size w.heap.size c P (.slice none 0 0) [] from ⟨h.step B1.out, Blk.new w 35 #[.slice none 0 0], World.ownsRow_nil _ _ _ _, B1.out.size⟩)
 have w1 : IntKind.i64.wrap (c.tm + 1) = c.tm + 1 := IntWalk.i64_in _ (by omega)
 have HPL := Lib.hid (show ∀ k, P.own g k → k < w.heap.size from fun k hk => h.lt hk)
 clear h K hk0 F htm hre
 go_enter Tryz.func32, Tryz.ntmps32
 go_upto_region 5 with fail
 obtain ⟨p, hp⟩ : ∃ p, p = w.heap.size := ⟨_, rfl⟩
 have HP := Lib.hid hp
 have S1' := Lib.hid (show TkS (w.alloc (.cells #[.slice none 0 0] 35)) g n p w.heap.size c P (.slice none 0 0) [] from by rw [hp]; exact S1.out)
 rw [← hp]
 clear S1 hp
 generalize w.alloc _ = V at S1' B1 ⊢
 have k9 : V.cell? ⟨g, 9, none⟩ = some (.int .i64 c.tm) := S1'.out.m.box.cell 9
 have f9 := S1'.out.m.box.frozen 9
 go_upto_region 6 with fail
 have Q2 := Lib.hid (S1'.out.act (CoS.time S1'.out.m))
 generalize V.setCell _ _ = V2 at Q2 ⊢
 clear k9 f9
 have HC2 := Lib.hid (show (tick1 c).tm = c.tm + 1 from rfl)
 have KK := Lib.hid (fun (X : World) (hX : Below V2.heap.size V2 X) => (show X.cell? ⟨g, 7, none⟩ = some (.pointer (some ⟨P.p, 0, none⟩)) ∧ X.cell? ⟨g, 9, none⟩ = some (.int .i64 (c.tm + 1)) ∧ X.cell? ⟨g, 2, none⟩ = some (.int .i64 c.cf.le) from
   ⟨(Q2.out.s.m.step hX).box.cell 7, (Q2.out.s.m.step hX).box.cell 9, (Q2.out.s.m.step hX).box.cell 2⟩))
 refine wp_region_held_drew (S := fun X => X.cell? ⟨g, 7, none⟩ = some (.pointer (some ⟨P.p, 0, none⟩)) ∧ X.cell? ⟨g, 9, none⟩ = some (.int .i64 (c.tm + 1)) ∧ X.cell? ⟨g, 2, none⟩ = some (.int .i64 c.cf.le)) (by kernel_rfl) (KK.out _ (Below.refl _ _).drew) (fun hHeld => ?_)
 refine wpAnyH_take (i := 0) (v := ?_) rfl (by kernel_rfl) (by kernel_rfl) (by kernel_rfl) (fun _ _ _ h => h) (Or.inl ⟨by rfl, ?_⟩) (by assumption) ?_
 rotate_left
 · (intro w0 hSw; (try dsimp only at hSw); go_simp; try with_reducible rfl)
 try simp only [List.getElem_toArray, List.getElem_cons_succ, List.getElem_cons_zero, Act.put, List.setIfInBounds_toArray, List.set_cons_zero, List.set_cons_succ]
 refine wpAnyH_take (i := 1) (v := ?_) rfl (by kernel_rfl) (by kernel_rfl) (by kernel_rfl) (fun _ _ _ h => h) (Or.inl ⟨by rfl, ?_⟩) (by assumption) ?_
 rotate_left
 · (intro w0 hSw; (try dsimp only at hSw); go_simp; try with_reducible rfl)
 try simp only [List.getElem_toArray, List.getElem_cons_succ, List.getElem_cons_zero, Act.put, List.setIfInBounds_toArray, List.set_cons_zero, List.set_cons_succ]
 refine wpAnyH_take (i := 2) (v := ?_) rfl (by kernel_rfl) (by kernel_rfl) (by kernel_rfl) (fun _ _ _ h => h) (Or.inl ⟨by rfl, ?_⟩) (by assumption) ?_
 rotate_left
 · (intro w0 hSw; (try dsimp only at hSw); go_simp; try with_reducible rfl)
 try simp only [List.getElem_toArray, List.getElem_cons_succ, List.getElem_cons_zero, Act.put, List.setIfInBounds_toArray, List.set_cons_zero, List.set_cons_succ]
 refine wpAnyH_take (i := 3) (v := ?_) rfl (by kernel_rfl) (by kernel_rfl) (by kernel_rfl) (fun _ _ _ h => h) (Or.inl ⟨by rfl, ?_⟩) (by assumption) ?_
 rotate_left
 · (intro w0 hSw; (try dsimp only at hSw); go_simp; try with_reducible rfl)
 try simp only [List.getElem_toArray, List.getElem_cons_succ, List.getElem_cons_zero, Act.put, List.setIfInBounds_toArray, List.set_cons_zero, List.set_cons_succ]
 refine wpAnyH_take (i := 4) (v := ?_) rfl (by kernel_rfl) (by kernel_rfl) (by kernel_rfl) (fun _ _ _ h => h) (Or.inl ⟨by rfl, ?_⟩) (by assumption) ?_
 rotate_left
 · (intro w0 hSw; (try dsimp only at hSw); go_simp; try with_reducible rfl)
 try simp only [List.getElem_toArray, List.getElem_cons_succ, List.getElem_cons_zero, Act.put, List.setIfInBounds_toArray, List.set_cons_zero, List.set_cons_succ]
 refine wpAnyH_take (i := 5) (v := ?_) rfl (by kernel_rfl) (by kernel_rfl) (by kernel_rfl) (fun _ _ _ h => h) (Or.inl ⟨by rfl, ?_⟩) (by assumption) ?_
 rotate_left
 · (intro w0 hSw; (try dsimp only at hSw); go_simp; try with_reducible rfl)
 try simp only [List.getElem_toArray, List.getElem_cons_succ, List.getElem_cons_zero, Act.put, List.setIfInBounds_toArray, List.set_cons_zero, List.set_cons_succ]
 refine wpAnyH_take (i := 6) (v := ?_) rfl (by kernel_rfl) (by kernel_rfl) (by kernel_rfl) (fun _ _ _ h => h) (Or.inl ⟨by rfl, ?_⟩) (by assumption) ?_
 rotate_left
 · (intro w0 hSw; (try dsimp only at hSw); go_simp; try with_reducible rfl)
 try simp only [List.getElem_toArray, List.getElem_cons_succ, List.getElem_cons_zero, Act.put, List.setIfInBounds_toArray, List.set_cons_zero, List.set_cons_succ]
 refine wpAnyH_take (i := 7) (v := ?_) rfl (by kernel_rfl) (by kernel_rfl) (by kernel_rfl) (fun _ _ _ h => h) (Or.inl ⟨by rfl, ?_⟩) (by assumption) ?_
 rotate_left
 · (intro w0 hSw; (try dsimp only at hSw); go_simp; try with_reducible rfl)
 try simp only [List.getElem_toArray, List.getElem_cons_succ, List.getElem_cons_zero, Act.put, List.setIfInBounds_toArray, List.set_cons_zero, List.set_cons_succ]
 refine wpAnyH_take (i := 8) (v := ?_) rfl (by kernel_rfl) (by kernel_rfl) (by kernel_rfl) (fun _ _ _ h => h) (Or.inl ⟨by rfl, ?_⟩) (by assumption) ?_
 rotate_left
 · (intro w0 hSw; (try dsimp only at hSw); go_simp; try with_reducible rfl)
 try simp only [List.getElem_toArray, List.getElem_cons_succ, List.getElem_cons_zero, Act.put, List.setIfInBounds_toArray, List.set_cons_zero, List.set_cons_succ]
 refine wpAnyH_take (i := 9) (v := ?_) rfl (by kernel_rfl) (by kernel_rfl) (by kernel_rfl) (fun _ _ _ h => h) (Or.inl ⟨by rfl, ?_⟩) (by assumption) ?_
 rotate_left
 · (intro w0 hSw; (try dsimp only at hSw); go_simp; try with_reducible rfl)
 try simp only [List.getElem_toArray, List.getElem_cons_succ, List.getElem_cons_zero, Act.put, List.setIfInBounds_toArray, List.set_cons_zero, List.set_cons_succ]
 refine wpAnyH_take (i := 10) (v := ?_) rfl (by kernel_rfl) (by kernel_rfl) (by kernel_rfl) (fun _ _ _ h => h) (Or.inl ⟨by rfl, ?_⟩) (by assumption) ?_
 rotate_left
 · (intro w0 hSw; (try dsimp only at hSw); go_simp; try with_reducible rfl)
 try simp only [List.getElem_toArray, List.getElem_cons_succ, List.getElem_cons_zero, Act.put, List.setIfInBounds_toArray, List.set_cons_zero, List.set_cons_succ]
 refine wpAnyH_take (i := 11) (v := ?_) rfl (by kernel_rfl) (by kernel_rfl) (by kernel_rfl) (fun _ _ _ h => h) (Or.inl ⟨by rfl, ?_⟩) (by assumption) ?_
 rotate_left
 · (intro w0 hSw; (try dsimp only at hSw); go_simp; try with_reducible rfl)
 try simp only [List.getElem_toArray, List.getElem_cons_succ, List.getElem_cons_zero, Act.put, List.setIfInBounds_toArray, List.set_cons_zero, List.set_cons_succ]
 refine wpAnyH_take (i := 12) (v := ?_) rfl (by kernel_rfl) (by kernel_rfl) (by kernel_rfl) (fun _ _ _ h => h) (Or.inl ⟨by rfl, ?_⟩) (by assumption) ?_
 rotate_left
 · (intro w0 hSw; (try dsimp only at hSw); go_simp; try with_reducible rfl)
 try simp only [List.getElem_toArray, List.getElem_cons_succ, List.getElem_cons_zero, Act.put, List.setIfInBounds_toArray, List.set_cons_zero, List.set_cons_succ]
 refine wpAnyH_take (i := 15) (v := ?_) rfl (by kernel_rfl) (by kernel_rfl) (by kernel_rfl) (fun _ _ _ h => h) (Or.inl ⟨by rfl, ?_⟩) (by assumption) ?_
 rotate_left
 · (intro w0 hSw; (try dsimp only at hSw); go_simp; try with_reducible rfl)
 try simp only [List.getElem_toArray, List.getElem_cons_succ, List.getElem_cons_zero, Act.put, List.setIfInBounds_toArray, List.set_cons_zero, List.set_cons_succ]
 refine wpAnyH_ready (rs := [13]) (by kernel_rfl) (by simp) ?_
 refine AllReadyH.cons rfl (fun K hK => ?_) AllReadyH.nil
 go_simp
 refine (cLost_any (c.tm + 1) c.cf.le _ (Q2.out.s.m.step (Below.refl _ _).drew).r.cli).mono ?_
 rintro e9 w9 ⟨v9, rfl, hown, hb9⟩
 have B9 := Lib.hid (show Below V2.heap.size V2 w9 from ⟨hb9.os, hb9.tape, hb9.output, hb9.size, hb9.block⟩)
 obtain ⟨l, hl⟩ : ∃ l, lostR (c.tm + 1) c.cf.le (tick1 c).cl = l := ⟨_, rfl⟩
 rw [hl] at hown
 obtain ⟨nl, hnl⟩ : ∃ nl, l.length = nl := ⟨_, rfl⟩
 rw [hnl] at hown
 have OW := Lib.hid (show w9.ownsRow V2.heap.size 3 1 v9 nl (i64s l) from hown)
 obtain ⟨A9, c9, rfl⟩ := own_len hown
 have HL := Lib.hid (show lostR (tick1 c).tm c.cf.le c.cl = l from hl)
 have HNL := Lib.hid hnl
 have hn8 : nl ≤ 8 := by rw [← hnl, ← hl]; exact Nat.le_trans lostR_len (by show c.cl.length ≤ 8; rw [KK0.out.ncl]; exact KK0.out.n8)
 clear hl hnl hown hb9
 try go_simp
 refine hK.out _ _ (KK.out _ B9.out) (fun hHeld => ?_)
 clear hK K
 refine wpAnyH_take (i := 14) (v := ?_) rfl (by kernel_rfl) (by kernel_rfl) (by kernel_rfl) (fun _ _ _ h => h) (Or.inl ⟨by rfl, ?_⟩) (by assumption) ?_
 rotate_left
 · (intro w0 hSw; (try dsimp only at hSw); go_simp; try with_reducible rfl)
 try simp only [List.getElem_toArray, List.getElem_cons_succ, List.getElem_cons_zero, Act.put, List.setIfInBounds_toArray, List.set_cons_zero, List.set_cons_succ]
 refine wpAnyH_done (by kernel_rfl) ?_ _
 clear hHeld
 have hV9 : V2.heap.size ≤ w9.heap.size := B9.out.size
 have S9 := Lib.hid (Q2.out.s.step B9.out)
 have PLT := Lib.hid (show ∀ k, P.own g k → k < V2.heap.size from fun k hk => Q2.out.s.m.lt hk)
 have PP := Lib.hid (show p < V2.heap.size from Q2.out.s.box.lt)
 have OX := Lib.hid (fun (W : World) (hT : Turn (TkT g p P (.slice none 0 0)) w9 W) => (show W.ownsRow V2.heap.size 3 1 (.slice A9 nl c9) nl (i64s l) from own_turn OW.out hT fun k hk e => by
   have h1 := (own_ge OW.out hk).1
   rcases e with e | e | e
   · have := PLT.out k (.inl e); omega
   · have := PP.out; omega
   · cases e))
 have Q9 := Lib.hid ((Q2.out).trans (TkQ.below Q2.out.s B9.out))
 go_wp2_with fail
 go_loopw [34] (fun i W => ∃ (k : Nat) (vv : Value) (Pk : Pt), k ≤ nl ∧ i = .int .i64 k ∧ TkQ w9 W g n p w.heap.size P (.slice none 0 0) (lsN (tick1 c) l k).1 Pk vv (lsN (tick1 c) l k).2) (fun i _ => nl - (intOf i).toNat)
 case atStart => exact ⟨0, .slice none 0 0, P, Nat.zero_le _, rfl, TkQ.below S9.out (Below.refl _ _)⟩
 case round =>
   obtain ⟨k, vv, Pk, hk, rfl, hQ⟩ := hrel
   rename World => W
   have QQ := Lib.hid hQ
   clear hQ
   have hk8 : k ≤ 8 := by omega
   have HKK := Lib.hid ((KK0.out.tick1).lsN l k)
   have HKG := Lib.hid (HKK.out.good (by have := HK0.out; omega))
   by_cases hlt : k < nl
   · obtain ⟨ck, hck⟩ : ∃ ck, (lsN (tick1 c) l k).1 = ck := ⟨_, rfl⟩
     obtain ⟨mk, hmk⟩ : ∃ mk, (lsN (tick1 c) l k).2 = mk := ⟨_, rfl⟩
     have hstep : lsN (tick1 c) l (k + 1) = ((lsS ck (gd l k)).1, mk ++ (lsS ck (gd l k)).2) := by rw [← hck, ← hmk]; rfl
     have HST := Lib.hid hstep
     rw [hck, hmk] at QQ
     rw [hck] at HKK HKG
     have HMK := Lib.hid (show mk.length ≤ 1000 from by have := lsN_few KK0.out.tick1 l k; rw [hmk] at this; omega)
     have HSF := Lib.hid (lsS_few HKK.out (gd l k))
     clear hck hmk hstep
     obtain ⟨t, ht⟩ : ∃ t, gd l k = t := ⟨_, rfl⟩
     rw [ht] at HST HSF
     have kc : ∃ lb, A9 = some ⟨lb, 0, none⟩ ∧ W.cell? ⟨lb, k, none⟩ = some (.int .i64 t) := by
       have hX := OX.out W QQ.out.turn
       rcases hX.2 with ⟨e, h0⟩ | ⟨lb, cap, cur, e, _, hh, hnc, _⟩
       · omega
       · injection e with e1 e2 e3
         subst e1
         exact ⟨lb, rfl, by rw [own_gd hX (by rw [HNL.out]; exact hlt), ht]⟩
     obtain ⟨lb, rfl, kel⟩ := kc
     obtain ⟨z, hz⟩ : ∃ z, eL ck.txs t = z := ⟨_, rfl⟩
     obtain ⟨bz, hbz⟩ : ∃ bz, inL ck.txs t = bz := ⟨_, rfl⟩
     have d1 : decide ((k : Int) < (nl : Int)) = true := decide_eq_true (by omega)
     have d2 : (k : Int) < (nl : Int) := by omega
     have HLW := Lib.hid (show Pk.L.length ≤ 1000 from by rw [← QQ.out.s.m.r.len]; exact HKG.out.len)
     have HZ := Lib.hid hz
     have HBZ := Lib.hid hbz
     clear hz hbz ht
     go_upto_region 10 with (first
       | (go_at_call 60; refine (find_any t _ QQ.out.s.m HLW.out z HZ.out bz HBZ.out).mono ?_; rintro e V6 ⟨s, rfl, hts, hb⟩; have T6 := Lib.hid hts; have C6 := Lib.hid hb; clear hts hb)
       | (refine wpList_store_mid (by rfl) 62 (.tmp 7) (.tmp 42) (by rfl) V6.heap.size 0 (trc z s) (by rfl) (by rfl) ((show Blk (V6.alloc (.cells zTr 62)) V6.heap.size 62 (trc noTr noSl) from Blk.new V6 _ _).there (Nat.le_refl 13)) (tr_info _ _) (T6.out.step C6.out).one ?_
          have XZ := Lib.hid (show Blk ((V6.alloc (.cells zTr 62)).setCells V6.heap.size 0 (trc z s).toList) V6.heap.size 62 (trc z s) from (show Blk (V6.alloc (.cells zTr 62)) V6.heap.size 62 (trc noTr noSl) from Blk.new V6 _ _).put _ rfl)
          have EA := Lib.hid (show Below V6.heap.size V6 ((V6.alloc (.cells zTr 62)).setCells V6.heap.size 0 (trc z s).toList) from Below.setCells (b := V6.heap.size) (Nat.le_refl _) (trc z s).toList 0 _ (Joins.below_alloc1 V6 (.cells zTr 62)))
          have B7 := Lib.hid (stepB C6.out EA.out)
          generalize (V6.alloc (.cells zTr 62)).setCells V6.heap.size 0 (trc z s).toList = V7 at XZ EA B7 ⊢
          generalize V6.heap.size = bt at XZ EA ⊢))
     have kst : V7.cell? ⟨bt, 1, none⟩ = some (.int .i64 z.st) := XZ.out.cell 1
     have Q7 := Lib.hid (QQ.out.trans (TkQ.below QQ.out.s B7.out))
     by_cases hs1 : z.st = 1
     · have g1 : (z.st == 1) = true := by rw [hs1]; rfl
       obtain ⟨i, hti, hi, hx⟩ := eL_one (l := ck.txs) (t := t) (by rw [HZ.out]; exact hs1)
       rw [HZ.out] at hx
       have HLS := Lib.hid (show lsS ck t = abtC ck z i 5 from by unfold lsS; rw [HZ.out, if_pos hs1, hti, show ((i : Int) + 1 - 1).toNat = i by omega])
       have GX := Lib.hid (HKG.out.tx i z hx)
       have HIL := Lib.hid (show i < Pk.L.length from by rw [← QQ.out.s.m.r.len]; exact hi)
       have T7 := Lib.hid (T6.out.step B7.out)
       rw [HLS.out] at HST HSF
       clear hti hi hx hs1
       have TKL := True.intro
       go_wp2_with (first
         | (have _t := TKL; refine wpList_load_row rfl 62 (.tmp 7) rfl bt rfl 62 (trc z s) (0, 0) _ XZ.out Tryz.underlying62 rfl (tr_info _ _) ?_; clear _t TKL)
         | (go_at_call 56; refine (abort_all z s 5 _ Q7.out.s.m T7.out GX.out.2.1 i HIL.out HLW.out GX.out.1 HKG.out.ev).mono ?_; rintro e V8 ⟨u, rfl, hu, P8, hs⟩; have U8 := Lib.hid hu; have Q8 := Lib.hid (Q7.out.trans (Q7.out.s.act hs)); clear hu hs)
         | (go_at_call 62; refine (tickSend_any p w.heap.size _ vv u mk _ _ Q8.out.s.box Q8.out.s.row Q8.out.s.hB U8.out (by have := HMK.out; omega) (by have := HSF.out; omega)).mono ?_; rintro e V9 ⟨rfl, v', hx, hr, ht, hv⟩; have Q9' := Lib.hid (Q8.out.trans (TkS.add Q8.out.s (Below.refl _ _) Q8.out.s hx hr ht hv)); clear hx hr ht hv))
       go_roundw
       case rel => exact ⟨k + 1, _, _, by omega, by go_num, by rw [HST.out]; exact Q9'.out⟩
       case measure => simp [intOf]; omega
     · have g1 : (z.st == 1) = false := by simpa using hs1
       have HLS := Lib.hid (show lsS ck t = (ck, []) from by unfold lsS; rw [HZ.out, if_neg hs1])
       rw [HLS.out] at HST
       clear hs1
       go_wp2_with fail
       go_roundw
       case rel => exact ⟨k + 1, _, _, by omega, by go_num, by rw [HST.out, List.append_nil]; exact Q7.out⟩
       case measure => simp [intOf]; omega
   · obtain rfl : k = nl := by omega
     have d1 : decide ((k : Int) < (k : Int)) = false := decide_eq_false (by omega)
     have d2 : ¬ ((k : Int) < (k : Int)) := by omega
     have hE : lsN (tick1 c) l k = tickC c := by unfold tickC; rw [HL.out, HNL.out]
     rw [hE] at QQ HKK HKG
     have HFW := Lib.hid (show (tickC c).2.length ≤ 1000 from by have := lsN_few KK0.out.tick1 l k; rw [hE] at this; omega)
     have KEP := Lib.hid (show Kept (tick1 c) (tickC c).1 from by have := Kept.lsN (tick1 c) l k; rw [hE] at this; exact this)
     have HSR := Lib.hid (show ∀ (i : Nat) (x : Tr), (tickC c).1.txs[i]? = some x → 1 ≤ x.st ∧ x.st ≤ 4 from fun i x hx => (HKK.out.tx i x hx).2.st)
     have CF := Lib.hid (FF.out.tick1.kept KEP.out)
     have HTL := Lib.hid (show tickL n c = if (c.tm + 1).tmod c.cf.re = 0 then ({ (tickC c).1 with lf := leftL (tickC c).1 }, (tickC c).2 ++ (leftL (tickC c).1).flatMap (agnL n (tickC c).1)) else tickC c from rfl)
     have KX := Lib.hid (fun (X : World) (hX : Below W.heap.size W X) => (show X.cell? ⟨g, 9, none⟩ = some (.int .i64 (c.tm + 1)) ∧ X.cell? ⟨g, 3, none⟩ = some (.int .i64 c.cf.re) from
       ⟨by have := (QQ.out.s.m.step hX).box.cell 9; rw [show (coc (tickC c).1 n Pk)[9]? = some (.int .i64 (tickC c).1.tm) from rfl, KEP.out.tm] at this; exact this, by have := (QQ.out.s.m.step hX).box.cell 3; rw [show (coc (tickC c).1 n Pk)[3]? = some (.int .i64 (tickC c).1.cf.re) from rfl, KEP.out.cf] at this; exact this⟩))
     have hre := HRE.out.1
     have hr0 : ¬ (c.cf.re = 0) := by omega
     have htm := HTM.out
     have hr1 := Int.tmod_nonneg c.cf.re (show 0 ≤ c.tm + 1 by omega)
     have hr2 := Int.tmod_lt_of_pos (c.tm + 1) (show 0 < c.cf.re by omega)
     have hr3 := HRE.out.2
     have w2 : IntKind.i64.wrap ((c.tm + 1).tmod c.cf.re) = (c.tm + 1).tmod c.cf.re := IntWalk.i64_in _ (by omega)
     clear hE hlt hk hk8 htm hr1 hr2 hr3 hre
     go_upto_region 13 with fail
     refine wp_region_held_drew (S := fun X => X.cell? ⟨g, 9, none⟩ = some (.int .i64 (c.tm + 1)) ∧ X.cell? ⟨g, 3, none⟩ = some (.int .i64 c.cf.re)) (by kernel_rfl) (KX.out _ (Below.refl _ _).drew) (fun hHeld => ?_)
     have QD := Lib.hid (QQ.out.trans (TkQ.below QQ.out.s (Below.refl _ _).drew))
     generalize W.drew = WD at QD hHeld ⊢
     refine wpAnyH_take (i := 0) (v := ?_) rfl (by kernel_rfl) (by kernel_rfl) (by kernel_rfl) (fun _ _ _ h => h) (Or.inl ⟨by rfl, ?_⟩) (by assumption) ?_
     rotate_left
     · (intro w0 hSw; (try dsimp only at hSw); go_simp; try with_reducible rfl)
     try simp only [List.getElem_toArray, List.getElem_cons_succ, List.getElem_cons_zero, Act.put, List.setIfInBounds_toArray, List.set_cons_zero, List.set_cons_succ]
     refine wpAnyH_take (i := 1) (v := ?_) rfl (by kernel_rfl) (by kernel_rfl) (by kernel_rfl) (fun _ _ _ h => h) (Or.inl ⟨by rfl, ?_⟩) (by assumption) ?_
     rotate_left
     · (intro w0 hSw; (try dsimp only at hSw); go_simp; try with_reducible rfl)
     try simp only [List.getElem_toArray, List.getElem_cons_succ, List.getElem_cons_zero, Act.put, List.setIfInBounds_toArray, List.set_cons_zero, List.set_cons_succ]
     refine wpAnyH_take (i := 2) (v := ?_) rfl (by kernel_rfl) (by kernel_rfl) (by kernel_rfl) (fun _ _ _ h => h) (Or.inl ⟨by rfl, ?_⟩) (by assumption) ?_
     rotate_left
     · (intro w0 hSw; (try dsimp only at hSw); go_simp; try with_reducible rfl)
     try simp only [List.getElem_toArray, List.getElem_cons_succ, List.getElem_cons_zero, Act.put, List.setIfInBounds_toArray, List.set_cons_zero, List.set_cons_succ]
     refine wpAnyH_take (i := 3) (v := ?_) rfl (by kernel_rfl) (by kernel_rfl) (by kernel_rfl) (fun _ _ _ h => h) (Or.inl ⟨by rfl, ?_⟩) (by assumption) ?_
     rotate_left
     · (intro w0 hSw; (try dsimp only at hSw); go_simp; try with_reducible rfl)
     try simp only [List.getElem_toArray, List.getElem_cons_succ, List.getElem_cons_zero, Act.put, List.setIfInBounds_toArray, List.set_cons_zero, List.set_cons_succ]
     refine wpAnyH_take (i := 4) (v := ?_) rfl (by kernel_rfl) (by kernel_rfl) (by kernel_rfl) (fun _ _ _ h => h) (Or.inl ⟨by rfl, ?_⟩) (by assumption) ?_
     rotate_left
     · (intro w0 hSw; (try dsimp only at hSw); go_simp; try with_reducible rfl)
     try simp only [List.getElem_toArray, List.getElem_cons_succ, List.getElem_cons_zero, Act.put, List.setIfInBounds_toArray, List.set_cons_zero, List.set_cons_succ]
     refine wpAnyH_take (i := 5) (v := ?_) rfl (by kernel_rfl) (by kernel_rfl) (by kernel_rfl) (fun _ _ _ h => h) (Or.inl ⟨by rfl, ?_⟩) (by assumption) ?_
     rotate_left
     · (intro w0 hSw; (try dsimp only at hSw); go_simp; try with_reducible rfl)
     try simp only [List.getElem_toArray, List.getElem_cons_succ, List.getElem_cons_zero, Act.put, List.setIfInBounds_toArray, List.set_cons_zero, List.set_cons_succ]
     refine wpAnyH_take (i := 6) (v := ?_) rfl (by kernel_rfl) (by kernel_rfl) (by kernel_rfl) (fun _ _ _ h => h) (Or.inl ⟨by rfl, ?_⟩) (by assumption) ?_
     rotate_left
     · (intro w0 hSw; (try dsimp only at hSw); go_simp; try with_reducible rfl)
     try simp only [List.getElem_toArray, List.getElem_cons_succ, List.getElem_cons_zero, Act.put, List.setIfInBounds_toArray, List.set_cons_zero, List.set_cons_succ]
     refine wpAnyH_take (i := 7) (v := ?_) rfl (by kernel_rfl) (by kernel_rfl) (by kernel_rfl) (fun _ _ _ h => h) (Or.inl ⟨by rfl, ?_⟩) (by assumption) ?_
     rotate_left
     · (intro w0 hSw; (try dsimp only at hSw); go_simp; try with_reducible rfl)
     try simp only [List.getElem_toArray, List.getElem_cons_succ, List.getElem_cons_zero, Act.put, List.setIfInBounds_toArray, List.set_cons_zero, List.set_cons_succ]
     refine wpAnyH_take (i := 8) (v := ?_) rfl (by kernel_rfl) (by kernel_rfl) (by kernel_rfl) (fun _ _ _ h => h) (Or.inl ⟨by rfl, ?_⟩) (by assumption) ?_
     rotate_left
     · (intro w0 hSw; (try dsimp only at hSw); go_simp; try with_reducible rfl)
     try simp only [List.getElem_toArray, List.getElem_cons_succ, List.getElem_cons_zero, Act.put, List.setIfInBounds_toArray, List.set_cons_zero, List.set_cons_succ]
     refine wpAnyH_take (i := 9) (v := ?_) rfl (by kernel_rfl) (by kernel_rfl) (by kernel_rfl) (fun _ _ _ h => h) (Or.inl ⟨by rfl, ?_⟩) (by assumption) ?_
     rotate_left
     · (intro w0 hSw; (try dsimp only at hSw); go_simp; try with_reducible rfl)
     try simp only [List.getElem_toArray, List.getElem_cons_succ, List.getElem_cons_zero, Act.put, List.setIfInBounds_toArray, List.set_cons_zero, List.set_cons_succ]
     refine wpAnyH_take (i := 10) (v := ?_) rfl (by kernel_rfl) (by kernel_rfl) (by kernel_rfl) (fun _ _ _ h => h) (Or.inl ⟨by rfl, ?_⟩) (by assumption) ?_
     rotate_left
     · (intro w0 hSw; (try dsimp only at hSw); go_simp; try with_reducible rfl)
     try simp only [List.getElem_toArray, List.getElem_cons_succ, List.getElem_cons_zero, Act.put, List.setIfInBounds_toArray, List.set_cons_zero, List.set_cons_succ]
     refine wpAnyH_done (by kernel_rfl) ?_ _
     clear hHeld KX
     by_cases hz : (c.tm + 1).tmod c.cf.re = 0
     · have g1 : decide ((c.tm + 1).tmod c.cf.re = 0) = true := decide_eq_true hz
       have g2 : ((c.tm + 1).tmod c.cf.re == 0) = true := by rw [hz]; rfl
       rw [if_pos hz] at HTL
       go_wp2_with (go_at_call 64; refine (coAgain_any _ QD.out.s HKG.out CF.out HSR.out (by have := HFW.out; omega)).mono ?_; rintro e V8 ⟨rfl, v8, P8, hq⟩; have Q8 := Lib.hid ((Q9.out.trans QD.out).trans hq); have kp : V8.cell? ⟨p, 0, none⟩ = some v8 := Q8.out.s.box.cell 0; clear hq)
       go_ret
       rw [HTL.out]
       exact ⟨_, rfl, Q8.out.s.row, _, TkQ.done B1.out HP.out Q8.out⟩
     · have g1 : decide ((c.tm + 1).tmod c.cf.re = 0) = false := decide_eq_false hz
       have g2 : ((c.tm + 1).tmod c.cf.re == 0) = false := by simpa using hz
       rw [if_neg hz] at HTL
       have Q8 := Lib.hid (Q9.out.trans QD.out)
       have kp : WD.cell? ⟨p, 0, none⟩ = some vv := Q8.out.s.box.cell 0
       go_wp2_with fail
       go_ret
       rw [HTL.out]
       exact ⟨_, rfl, Q8.out.s.row, _, TkQ.done B1.out HP.out Q8.out⟩
end
end Go.Proofs.YtadnlannbafjpaaGreat
