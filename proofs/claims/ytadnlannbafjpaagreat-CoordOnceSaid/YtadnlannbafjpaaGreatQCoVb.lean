/- A coordinator: View. -/
import Derived.Test.YtadnlannbafjpaaGreatQCoVa
import Derived.Test.YtadnlannbafjpaaGreatQCoV
import Derived.Test.YtadnlannbafjpaaGreatQCoR
import Derived.Test.YtadnlannbafjpaaGreatQShelfV
namespace Go.Proofs.YtadnlannbafjpaaGreat
open Go.RowKit
set_option linter.unusedVariables false
set_option linter.unusedSimpArgs false
theorem clone_ev {B : Nat} {v : Value} {l : List (List Int)} (w : World) (h : w.ownsRow B 65 7 v l.length (ints l.flatten)) (hn : l.length ≤ 100000) :
   Calls Tryz.prog 40 #[v] w fun e w' => ∃ v', e = .returned v' ∧ w'.ownsRow w.heap.size 65 7 v' l.length (ints l.flatten) ∧ Below w.heap.size w w' := by
 obtain ⟨i0, hi0, hz0, hz1, hz2⟩ := info_parts info_event
 rcases h.2 with ⟨rfl, h0⟩ | ⟨g, cap, cur, rfl, hb, hh, h2⟩
 · have hl : l = [] := List.eq_nil_of_length_eq_zero h0
   subst hl
   exact (AnyE.slices_Clone_nil Tryz.laysCloneE 0 0 w).mono fun e w' ⟨he, hw⟩ => ⟨_, he, World.ownsRow_nil _ _ _ _, by subst hw; exact Below.refl _ _⟩
 · have hc : ∀ j u, (ints l.flatten)[j]? = some u → w.cell? ⟨g, 0 + j, none⟩ = some u := fun j u hu => by rw [Nat.zero_add]; exact own_cell h hu
   have := AnyE.slices_Clone Tryz.laysCloneE i0 _ 7 56 hi0 hz0 hz1 hz2 rfl (by omega) Tryz.sizeOf65 g 0 l.length cap (ints l.flatten) w h.1 (by unfold maxLen; omega) (by omega) hc (ints_one _)
   exact Calls.mono this fun e w' ⟨v', he, ho, _, hb'⟩ => ⟨v', he, ho, hb'⟩
def noQ : Tr × Sl := (noTr, noSl)
theorem made_txs (n : Nat) : (madeCells zTr (n * 13)).toList = rowT (List.replicate n noQ) := by
 apply List.ext_getElem?
 intro i
 by_cases hi : i < n * 13
 · have h13 : i % 13 < 13 := Nat.mod_lt _ (by omega)
   have hd : i / 13 < n := Nat.div_lt_of_lt_mul (by omega)
   have e : i = i / 13 * 13 + i % 13 := by omega
   have hr : (rowT (List.replicate n noQ))[i / 13 * 13 + i % 13]? = (trv ((List.replicate n noQ)[i / 13]'(by simpa using hd)))[i % 13]? := fm_get trv_len (by simpa using hd) h13
   rw [show (rowT (List.replicate n noQ))[i]? = (rowT (List.replicate n noQ))[i / 13 * 13 + i % 13]? from by rw [← e], hr]
   have h2 : i % zTr.size < zTr.size := by show i % 13 < 13; exact h13
   simp only [madeCells, Array.getElem?_toList, Array.getElem?_map, Array.getElem?_range, if_pos hi, Option.map_some, List.getElem_replicate]
   rw [getElem!_pos zTr (i % zTr.size) h2, show trv noQ = zTr.toList from rfl]
   rw [Array.getElem?_toList]
   exact (Array.getElem?_eq_getElem (xs := zTr) (i := i % 13) h2).symm
 · rw [List.getElem?_eq_none (by rw [Array.length_toList, size_madeCells]; omega), List.getElem?_eq_none (by rw [rowT_len]; simp; omega)]
structure VwI (w W : World) (r n k : Nat) (c : Co) (L : List (Tr × Sl)) : Prop where
 row : W.ownsRow w.heap.size 62 13 (.slice (some ⟨r, 0, none⟩) n n) n (rowT L)
 len : L.length = n
 fst : ∀ i, i < k → (L[i]?).map Prod.fst = c.txs[i]?
 sls : ∀ i q, i < k → L[i]? = some q → Tm W w.heap.size q.1 q.2
 bel : Below w.heap.size w W
theorem VwI.step {w W W' : World} {r n k : Nat} {c : Co} {L : List (Tr × Sl)} (h : VwI w W r n k c L) (hb : Below W.heap.size W W') : VwI w W' r n k c L :=
 ⟨own_turn h.row (Turn.of_below hb (S := fun _ => False)) (fun _ _ => id), h.len, h.fst, fun i q hi hq => (h.sls i q hi hq).step hb, stepB h.bel hb⟩
theorem VwI.put {w W : World} {r n k : Nat} {c : Co} {L : List (Tr × Sl)} (h : VwI w W r n k c L) (hk : k < n) {x : Tr} {s : Sl} (hx : c.txs[k]? = some x) (ht : Tm W w.heap.size x s) : VwI w (W.setCells r (k * 13) (trc x s).toList) r n (k + 1) c (L.set k (x, s)) := by
 have hrow := own_setCells (trv (x, s)) (k * 13) h.row
 rw [show lsp (rowT L) (k * 13) (trv (x, s)) = rowT (L.set k (x, s)) from lsp_fm trv_len L k (x, s) (by rw [h.len]; exact hk)] at hrow
 have hT : Turn (fun b => b = r) W (W.setCells r (k * 13) (trc x s).toList) := Turn.setCells (S := fun b => b = r) (fun _ => rfl) _ _ _ (Turn.refl _ _)
 obtain ⟨cur, hh, hr⟩ := own_heap h.row r rfl
 have hoff : ∀ {y : Tr} {q : Sl}, Tm W w.heap.size y q → Tm (W.setCells r (k * 13) (trc x s).toList) w.heap.size y q := fun hq => hq.offS hT fun b hb e => SlB.ne hq hh (by decide) (by decide) hb e
 refine ⟨hrow, by rw [List.length_set]; exact h.len, fun i hi => ?_, fun i q hi hq => ?_, ?_⟩
 · by_cases e : k = i
   · subst e
     rw [List.getElem?_set_self (by rw [h.len]; exact hk), hx]; rfl
   · rw [List.getElem?_set_ne e]; exact h.fst i (by omega)
 · by_cases e : k = i
   · subst e
     rw [List.getElem?_set_self (by rw [h.len]; exact hk)] at hq
     obtain rfl := Option.some.inj hq
     exact hoff ht
   · rw [List.getElem?_set_ne e] at hq; exact hoff (h.sls i q (by omega) hq)
 · exact Below.setCells (b := r) hr (trc x s).toList (k * 13) _ h.bel
theorem VwI.there {w W : World} {r n k : Nat} {c : Co} {L : List (Tr × Sl)} (h : VwI w W r n k c L) (hk : k < n) : W.there r (k * 13) 13 := by
 have e := h.len
 subst e
 exact TxR.there (own_less h.row (Nat.zero_le _)) hk
theorem VwI.all {w W : World} {r n : Nat} {c : Co} {L : List (Tr × Sl)} (h : VwI w W r n n c L) (hn : c.txs.length = n) : L.map Prod.fst = c.txs := by
 apply List.ext_getElem?
 intro i
 by_cases hi : i < n
 · rw [List.getElem?_map]; exact h.fst i hi
 · rw [List.getElem?_eq_none (by rw [List.length_map, h.len]; omega), List.getElem?_eq_none (by omega)]
section
variable {g n : Nat} {c : Co} {P : Pt}
set_option maxRecDepth 100000 in
set_option maxHeartbeats 4000000 in
theorem coView_any (w : World) (h : CoM w g n c P) (G : CoG n c) :
   Calls Tryz.prog 19 #[.pointer (some ⟨g, 0, none⟩)] w fun e w' => ∃ r L ve, e = .returned (.agg #[.int .i64 c.tm, .int .i64 c.txs.length, .slice (some ⟨r, 0, none⟩) c.txs.length c.txs.length, ve]) ∧ L.map Prod.fst = c.txs ∧ w'.ownsRow w.heap.size 62 13 (.slice (some ⟨r, 0, none⟩) c.txs.length c.txs.length) c.txs.length (rowT L) ∧ (∀ q ∈ L, Tm w' w.heap.size q.1 q.2) ∧ w'.ownsRow w.heap.size 65 7 ve c.ev.length (ints c.ev.flatten) ∧ Below w.heap.size w w' := by
 obtain ⟨i3, hi3, hz3, hz4, hz5⟩ := info_parts info_txn3
 obtain ⟨N, hN⟩ : ∃ N, c.txs.length = N := ⟨_, rfl⟩
 have HN := Lib.hid hN
 have HPN := Lib.hid (show P.L.length = N from by rw [← h.r.len]; exact hN)
 have HM := Lib.hid h
 have HG := Lib.hid G
 have hn1 : N ≤ 1000 := by rw [← hN]; exact G.len
 have Z1 := Lib.hid (show Blk (w.alloc (.cells zVw 56)) w.heap.size 56 zVw from Blk.new w _ _)
 have B1 := Lib.hid (Joins.below_alloc1 w (.cells zVw 56))
 rw [hN]
 clear h G hN
 go_enter Tryz.func19, Tryz.ntmps19
 go_upto_region 3 with fail
 obtain ⟨bv, hbv⟩ : ∃ b, b = w.heap.size := ⟨_, rfl⟩
 have HBV := Lib.hid hbv
 rw [← hbv] at Z1 ⊢
 clear hbv
 generalize w.alloc _ = V at Z1 B1 ⊢
 obtain ⟨vA, vc, hvt⟩ := own_len (HM.out.step B1.out).r.txr
 rw [HPN.out] at hvt
 have HVT := Lib.hid hvt
 have k10 : V.cell? ⟨g, 10, none⟩ = some (.slice vA N vc) := by rw [← hvt]; exact (HM.out.step B1.out).box.cell 10
 clear hvt
 go_upto_region 4 with (
   refine wpList_make_full _ rfl (.tmp 13) (.tmp 13) 53 rfl w.heap.size 62 i3 _ 13 Tryz.underlying53 hi3 hz3 hz4 .i64 .i64 _ _ N rfl rfl rfl rfl (by rw [hz5]; omega) (by simp only [maxLen]; omega) B1.out.size ?_
   intro V2 hown hgr
   have O2 := Lib.hid hown
   have G2 := Lib.hid hgr
   clear hown hgr)
 obtain ⟨r, hr⟩ : ∃ r, r = V.heap.size := ⟨_, rfl⟩
 rw [← hr] at O2 ⊢
 have B12 := Lib.hid (show Below V.heap.size V V2 from below_own (v := .slice none 0 0) (Below.refl _ _) G2.out (World.ownsRow_nil V V.heap.size 62 13) (Nat.le_refl _) (Nat.le_refl _))
 have B2 := Lib.hid (stepB B1.out B12.out)
 have Z2 := Lib.hid (Z1.out.here B12.out)
 have I2 := Lib.hid (show VwI w V2 r N 0 c (List.replicate N noQ) from ⟨by rw [← made_txs]; exact O2.out, by simp, fun i hi => absurd hi (by omega), fun i q hi => absurd hi (by omega), B2.out⟩)
 have NE := Lib.hid (show bv ≠ r from by have := Z1.out.lt; omega)
 have k10 : V2.cell? ⟨g, 10, none⟩ = some (.slice vA N vc) := by rw [← HVT.out]; exact (HM.out.step B2.out).box.cell 10
 clear O2 G2 B12 Z1 B1 hr
 go_wp2_with fail
 go_loopw [20] (fun i U => ∃ (k : Nat) (L : List (Tr × Sl)), k ≤ N ∧ i = .int .i64 k ∧ VwI w U r N k c L ∧ Blk U bv 56 zVw) (fun i _ => N - (intOf i).toNat)
 case atStart => exact ⟨0, _, Nat.zero_le _, rfl, I2.out, Z2.out⟩
 case round =>
   obtain ⟨k, L, hk, rfl, hi, hz⟩ := hrel
   rename World => U
   have I := Lib.hid hi
   have Z := Lib.hid hz
   have hk2 : k ≤ 1000 := by omega
   clear hi hz k10
   by_cases hlt : k < N
   · have hkL : k < P.L.length := by rw [HPN.out]; exact hlt
     obtain ⟨x, s, hxs, hx⟩ := HM.out.r.at_ hkL
     obtain ⟨b, ca, ev, hcell, _, _⟩ := (HM.out.step I.out.bel).r.txr.open hkL
     rw [hxs] at hcell
     rw [HVT.out] at ev
     injection ev with e1 e2 e3
     subst e1
     have KC := Lib.hid (TxR.row hcell)
     have TM := Lib.hid (show Tm U 0 x s from by have := (HM.out.step I.out.bel).r.sls _ (List.getElem_mem hkL); rw [hxs] at this; exact this)
     have SH := Lib.hid (HG.out.tx k x hx).2.1
     have HX := Lib.hid hx
     have d1 : decide ((k : Int) < (N : Int)) = true := decide_eq_true (by omega)
     have d2 : (k : Int) < (N : Int) := by omega
     have TKa := True.intro
     clear hcell hxs hx e2 e3 hkL
     go_upto_region 7 with (first
       | (have _t := TKa; refine wpList_load_cells rfl 62 (.tmp 23) rfl ⟨b, k * 13, none⟩ rfl (trv (x, s)) _ KC.out Tryz.underlying62 rfl (trv_info (x, s)) ?_; clear _t TKa)
       | (refine wpList_store_mid (by rfl) 62 (.tmp 5) (.tmp 24) (by rfl) U.heap.size 0 (trc x s) (by rfl) (by rfl) ((show Blk (U.alloc (.cells zTr 62)) U.heap.size 62 (trc noTr noSl) from Blk.new U _ _).there (Nat.le_refl 13)) (tr_info _ _) TM.out.one ?_
          have XZ := Lib.hid (show Blk ((U.alloc (.cells zTr 62)).setCells U.heap.size 0 (trc x s).toList) U.heap.size 62 (trc x s) from (show Blk (U.alloc (.cells zTr 62)) U.heap.size 62 (trc noTr noSl) from Blk.new U _ _).put _ rfl)
          have EA := Lib.hid (show Below U.heap.size U ((U.alloc (.cells zTr 62)).setCells U.heap.size 0 (trc x s).toList) from Below.setCells (b := U.heap.size) (Nat.le_refl _) (trc x s).toList 0 _ (Joins.below_alloc1 U (.cells zTr 62)))
          have I7 := Lib.hid (I.out.step EA.out)
          have Z7 := Lib.hid (Z.out.here EA.out)
          have T7 := Lib.hid (TM.out.step EA.out)
          generalize (U.alloc (.cells zTr 62)).setCells U.heap.size 0 (trc x s).toList = V7 at XZ EA I7 Z7 T7 ⊢
          generalize U.heap.size = bt at XZ EA ⊢))
     have TKb := True.intro
     go_wp2_with (first
       | (have _t := TKb; refine wpList_load_row rfl 62 (.tmp 5) rfl bt rfl 62 (trc x s) (0, 0) _ XZ.out Tryz.underlying62 rfl (tr_info _ _) ?_; clear _t TKb)
       | (go_at_call 39; refine (coOwn_any x s _ T7.out SH.out).mono ?_; rintro e V8 ⟨s', rfl, ht, _, hb⟩; have T8 := Lib.hid (ht.less I7.out.bel.size); have I8 := Lib.hid (I7.out.step hb); have Z8 := Lib.hid (Z7.out.here hb); clear ht hb)
       | (refine wpList_store_mid (by rfl) 62 (.tmp 29) (.tmp 28) (by rfl) r (k * 13) (trc x s') (by rfl) (by rfl) (I8.out.there hlt) (tr_info _ _) T8.out.one ?_
          have I9 := Lib.hid (I8.out.put hlt HX.out T8.out)
          have Z9 := Lib.hid (Z8.out.farCells NE.out (trc x s').toList (k * 13))
          generalize V8.setCells r (k * 13) (trc x s').toList = V9 at I9 Z9 ⊢))
     go_roundw
     case rel => exact ⟨k + 1, _, by omega, by go_num, I9.out, Z9.out⟩
     case measure => simp [intOf]; omega
   · obtain rfl : k = N := by omega
     have d1 : decide ((k : Int) < (k : Int)) = false := decide_eq_false (by omega)
     have d2 : ¬ ((k : Int) < (k : Int)) := by omega
     have KP := Lib.hid (fun (X : World) (hX : Below U.heap.size U X) => (show X.cell? ⟨g, 9, none⟩ = some (.int .i64 c.tm) ∧ X.cell? ⟨g, 10, none⟩ = some (.slice vA k vc) ∧ X.cell? ⟨g, 12, none⟩ = some P.ve from
       ⟨(HM.out.step (stepB I.out.bel hX)).box.cell 9, by rw [← HVT.out]; exact (HM.out.step (stepB I.out.bel hX)).box.cell 10, (HM.out.step (stepB I.out.bel hX)).box.cell 12⟩))
     go_upto_region 9 with fail
     refine wp_region_till 16 (fun X => X.cell? ⟨g, 9, none⟩ = some (.int .i64 c.tm) ∧ X.cell? ⟨g, 10, none⟩ = some (.slice vA k vc) ∧ X.cell? ⟨g, 12, none⟩ = some P.ve) (by kernel_rfl) (KP.out _ (Below.refl _ _).drew) (fun hHeld => ?_)
     have BD := Lib.hid (show Below U.heap.size U U.drew from (Below.refl _ _).drew)
     generalize U.drew = W1 at BD hHeld ⊢
     refine wpTill_take (i := 0) (v := ?_) rfl (by kernel_rfl) (by kernel_rfl) (by kernel_rfl) (by kernel_rfl) (fun _ _ _ h => h) (Or.inl ⟨by rfl, ?_⟩) (by assumption) ?_
     rotate_left
     · (intro w0 hSw; (try dsimp only at hSw); go_simp; try with_reducible rfl)
     try simp only [List.getElem_toArray, List.getElem_cons_succ, List.getElem_cons_zero, Act.put, List.setIfInBounds_toArray, List.set_cons_zero, List.set_cons_succ]
     refine wpTill_take (i := 1) (v := ?_) rfl (by kernel_rfl) (by kernel_rfl) (by kernel_rfl) (by kernel_rfl) (fun _ _ _ h => h) (Or.inl ⟨by rfl, ?_⟩) (by assumption) ?_
     rotate_left
     · (intro w0 hSw; (try dsimp only at hSw); go_simp; try with_reducible rfl)
     try simp only [List.getElem_toArray, List.getElem_cons_succ, List.getElem_cons_zero, Act.put, List.setIfInBounds_toArray, List.set_cons_zero, List.set_cons_succ]
     refine wpTill_take (i := 2) (v := ?_) rfl (by kernel_rfl) (by kernel_rfl) (by kernel_rfl) (by kernel_rfl) (fun _ _ _ h => h) (Or.inl ⟨by rfl, ?_⟩) (by assumption) ?_
     rotate_left
     · (intro w0 hSw; (try dsimp only at hSw); go_simp; try with_reducible rfl)
     try simp only [List.getElem_toArray, List.getElem_cons_succ, List.getElem_cons_zero, Act.put, List.setIfInBounds_toArray, List.set_cons_zero, List.set_cons_succ]
     refine wpTill_take (i := 3) (v := ?_) rfl (by kernel_rfl) (by kernel_rfl) (by kernel_rfl) (by kernel_rfl) (fun _ _ _ h => h) (Or.inl ⟨by rfl, ?_⟩) (by assumption) ?_
     rotate_left
     · (intro w0 hSw; (try dsimp only at hSw); go_simp; try with_reducible rfl)
     try simp only [List.getElem_toArray, List.getElem_cons_succ, List.getElem_cons_zero, Act.put, List.setIfInBounds_toArray, List.set_cons_zero, List.set_cons_succ]
     refine wpTill_take (i := 4) (v := ?_) rfl (by kernel_rfl) (by kernel_rfl) (by kernel_rfl) (by kernel_rfl) (fun _ _ _ h => h) (Or.inl ⟨by rfl, ?_⟩) (by assumption) ?_
     rotate_left
     · (intro w0 hSw; (try dsimp only at hSw); go_simp; try with_reducible rfl)
     try simp only [List.getElem_toArray, List.getElem_cons_succ, List.getElem_cons_zero, Act.put, List.setIfInBounds_toArray, List.set_cons_zero, List.set_cons_succ]
     refine wpTill_take (i := 5) (v := ?_) rfl (by kernel_rfl) (by kernel_rfl) (by kernel_rfl) (by kernel_rfl) (fun _ _ _ h => h) (Or.inl ⟨by rfl, ?_⟩) (by assumption) ?_
     rotate_left
     · (intro w0 hSw; (try dsimp only at hSw); go_simp; try with_reducible rfl)
     try simp only [List.getElem_toArray, List.getElem_cons_succ, List.getElem_cons_zero, Act.put, List.setIfInBounds_toArray, List.set_cons_zero, List.set_cons_succ]
     refine wpTill_take (i := 6) (v := ?_) rfl (by kernel_rfl) (by kernel_rfl) (by kernel_rfl) (by kernel_rfl) (fun _ _ _ h => h) (Or.inl ⟨by rfl, ?_⟩) (by assumption) ?_
     rotate_left
     · (intro w0 hSw; (try dsimp only at hSw); go_simp; try with_reducible rfl)
     try simp only [List.getElem_toArray, List.getElem_cons_succ, List.getElem_cons_zero, Act.put, List.setIfInBounds_toArray, List.set_cons_zero, List.set_cons_succ]
     refine wpTill_take (i := 7) (v := ?_) rfl (by kernel_rfl) (by kernel_rfl) (by kernel_rfl) (by kernel_rfl) (fun _ _ _ h => h) (Or.inl ⟨by rfl, ?_⟩) (by assumption) ?_
     rotate_left
     · (intro w0 hSw; (try dsimp only at hSw); go_simp; try with_reducible rfl)
     try simp only [List.getElem_toArray, List.getElem_cons_succ, List.getElem_cons_zero, Act.put, List.setIfInBounds_toArray, List.set_cons_zero, List.set_cons_succ]
     refine wpTill_take (i := 8) (v := ?_) rfl (by kernel_rfl) (by kernel_rfl) (by kernel_rfl) (by kernel_rfl) (fun _ _ _ h => h) (Or.inl ⟨by rfl, ?_⟩) (by assumption) ?_
     rotate_left
     · (intro w0 hSw; (try dsimp only at hSw); go_simp; try with_reducible rfl)
     try simp only [List.getElem_toArray, List.getElem_cons_succ, List.getElem_cons_zero, Act.put, List.setIfInBounds_toArray, List.set_cons_zero, List.set_cons_succ]
     refine wpTill_take (i := 9) (v := ?_) rfl (by kernel_rfl) (by kernel_rfl) (by kernel_rfl) (by kernel_rfl) (fun _ _ _ h => h) (Or.inl ⟨by rfl, ?_⟩) (by assumption) ?_
     rotate_left
     · (intro w0 hSw; (try dsimp only at hSw); go_simp; try with_reducible rfl)
     try simp only [List.getElem_toArray, List.getElem_cons_succ, List.getElem_cons_zero, Act.put, List.setIfInBounds_toArray, List.set_cons_zero, List.set_cons_succ]
     refine wpTill_take (i := 10) (v := ?_) rfl (by kernel_rfl) (by kernel_rfl) (by kernel_rfl) (by kernel_rfl) (fun _ _ _ h => h) (Or.inl ⟨by rfl, ?_⟩) (by assumption) ?_
     rotate_left
     · (intro w0 hSw; (try dsimp only at hSw); go_simp; try with_reducible rfl)
     try simp only [List.getElem_toArray, List.getElem_cons_succ, List.getElem_cons_zero, Act.put, List.setIfInBounds_toArray, List.set_cons_zero, List.set_cons_succ]
     refine wpTill_take (i := 11) (v := ?_) rfl (by kernel_rfl) (by kernel_rfl) (by kernel_rfl) (by kernel_rfl) (fun _ _ _ h => h) (Or.inl ⟨by rfl, ?_⟩) (by assumption) ?_
     rotate_left
     · (intro w0 hSw; (try dsimp only at hSw); go_simp; try with_reducible rfl)
     try simp only [List.getElem_toArray, List.getElem_cons_succ, List.getElem_cons_zero, Act.put, List.setIfInBounds_toArray, List.set_cons_zero, List.set_cons_succ]
     refine wpTill_take (i := 12) (v := ?_) rfl (by kernel_rfl) (by kernel_rfl) (by kernel_rfl) (by kernel_rfl) (fun _ _ _ h => h) (Or.inl ⟨by rfl, ?_⟩) (by assumption) ?_
     rotate_left
     · (intro w0 hSw; (try dsimp only at hSw); go_simp; try with_reducible rfl)
     try simp only [List.getElem_toArray, List.getElem_cons_succ, List.getElem_cons_zero, Act.put, List.setIfInBounds_toArray, List.set_cons_zero, List.set_cons_succ]
     refine wpTill_take (i := 13) (v := ?_) rfl (by kernel_rfl) (by kernel_rfl) (by kernel_rfl) (by kernel_rfl) (fun _ _ _ h => h) (Or.inl ⟨by rfl, ?_⟩) (by assumption) ?_
     rotate_left
     · (intro w0 hSw; (try dsimp only at hSw); go_simp; try with_reducible rfl)
     try simp only [List.getElem_toArray, List.getElem_cons_succ, List.getElem_cons_zero, Act.put, List.setIfInBounds_toArray, List.set_cons_zero, List.set_cons_succ]
     refine wpTill_ready (rs := [14]) (by kernel_rfl) (by simp) ?_
     refine AllTill.cons rfl (fun K hK => ?_) AllTill.nil
     go_simp
     refine (clone_ev _ (HM.out.step (stepB I.out.bel BD.out)).r.evr (by have := HG.out.ev; omega)).mono ?_
     rintro e W2 ⟨ve, rfl, hve, hb⟩
     obtain ⟨eA, ec, rfl⟩ := own_len hve
     have BE := Lib.hid (stepB BD.out hb)
     have VE := Lib.hid (own_less hve (stepB I.out.bel BD.out).size)
     try go_simp
     refine hK.out _ _ (KP.out _ BE.out) (fun hHeld => ?_)
     clear hK K hve hb
     refine wpTill_pure (i := 15) (v := ?_) rfl (by kernel_rfl) (by kernel_rfl) (by kernel_rfl) (by kernel_rfl) (fun _ _ _ h => h) (Or.inl ⟨by rfl, ?_⟩) (by first | (exact fun _ => by assumption) | (exact fun hf => by cases hf)) ?_
     rotate_left
     · (intro w0 hSw; clear hSw; go_simp; try with_reducible rfl)
     try simp only [List.getElem_toArray, List.getElem_cons_succ, List.getElem_cons_zero, Act.put, List.setIfInBounds_toArray, List.set_cons_zero, List.set_cons_succ]
     refine wpTill_ready (rs := [16]) (by kernel_rfl) (by simp) ?_
     refine AllTill.last rfl (of_decide_eq_true (by kernel_rfl)) (fun K hK => ?_)
     have ZE := Lib.hid (Z.out.here BE.out)
     have IE := Lib.hid (I.out.step BE.out)
     refine step_store_mid (by rfl) 56 (.tmp 2) (.tmp 46) rfl bv 0 #[.int .i64 c.tm, .int .i64 (k : Int), .slice (some ⟨r, 0, none⟩) k k, .slice eA c.ev.length ec] rfl rfl (ZE.out.there (Nat.le_refl 4)) info_view (by kernel_rfl) ?_
     have ZF := Lib.hid (ZE.out.put #[.int .i64 c.tm, .int .i64 (k : Int), .slice (some ⟨r, 0, none⟩) k k, .slice eA c.ev.length ec] rfl)
     have TF := Lib.hid (show Turn (fun b => b = bv) W2 (W2.setCells bv 0 (#[.int .i64 c.tm, .int .i64 (k : Int), .slice (some ⟨r, 0, none⟩) k k, .slice eA c.ev.length ec] : Array Value).toList) from Turn.setCells (S := fun b => b = bv) (fun _ => rfl) _ _ _ (Turn.refl _ _))
     have BF := Lib.hid (show Below w.heap.size w (W2.setCells bv 0 (#[.int .i64 c.tm, .int .i64 (k : Int), .slice (some ⟨r, 0, none⟩) k k, .slice eA c.ev.length ec] : Array Value).toList) from Below.setCells (b := bv) (by rw [HBV.out]; exact Nat.le_refl _) _ 0 _ IE.out.bel)
     refine hK.out _ _ ?_
     clear hK K
     refine wpTill_done (by kernel_rfl) ?_ _
     clear hHeld KP
     generalize W2.setCells bv 0 (#[.int .i64 c.tm, .int .i64 (k : Int), .slice (some ⟨r, 0, none⟩) k k, .slice eA c.ev.length ec] : Array Value).toList = W3 at ZF TF BF ⊢
     have hL : L.length = k := IE.out.len
     have hzb := ZE.out
     go_wp2_with fail
     refine bodyPost_ret (v := .agg #[.int .i64 c.tm, .int .i64 (k : Int), .slice (some ⟨r, 0, none⟩) k k, .slice eA c.ev.length ec]) (results_one rfl rfl (run_loadVar_row _ _ _ 56 _ (0, 0) _ ZF.out Tryz.underlying56 rfl info_view)) rfl ?_
     refine ⟨r, L, _, rfl, IE.out.all HN.out, own_turn IE.out.row TF.out (fun b hb e => by subst e; exact row_ne IE.out.row hzb (by decide) hb rfl), fun a b hq => ?_, own_turn VE.out TF.out (fun b hb e => by subst e; exact row_ne VE.out hzb (by decide) hb rfl), BF.out⟩
     obtain ⟨i, hi, hqe⟩ := List.getElem_of_mem hq
     have hs := IE.out.sls i (a, b) (by omega) (by rw [List.getElem?_eq_getElem hi, hqe])
     exact hs.offS TF.out fun d hb e => SlB.ne hs hzb (by decide) (by decide) hb e
end
end Go.Proofs.YtadnlannbafjpaaGreat
