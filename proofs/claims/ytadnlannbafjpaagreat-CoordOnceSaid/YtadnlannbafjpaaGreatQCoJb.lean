/- A coordinator: a probe that comes. -/
import Derived.Test.YtadnlannbafjpaaGreatQCoJ
namespace Go.Proofs.YtadnlannbafjpaaGreat
open Go.RowKit
set_option linter.unusedVariables false
set_option linter.unusedSimpArgs false
section
variable {g n : Nat} {c : Co} {P : Pt}
set_option maxRecDepth 100000 in
set_option maxHeartbeats 3000000 in
theorem probed_on0 (m : List Int) (w : World) (h : CoM w g n c P) (hm : m.length = 28) (hpb : c.cf.pb = true) (h8 : n ≤ 8) (hl : P.L.length ≤ 1000) (hok : ∀ k : Nat, k < n → nowL n c.cl ((k : Int) + 1) = 0 ∨ ∃ i : Nat, i < P.L.length ∧ nowL n c.cl ((k : Int) + 1) = (i : Int) + 1) (hlv : liveL m (openC c n n) = true) (hbk : backL m = false) (z : Tr) (hz : eL c.txs (fld m 9) = z) (hop : z.op = true) (h10 : fld m 10 = 0) (hp : isP m = true) (q : List Int) (hqq : onwL z.sh m = q) (hpq : isP q = true) :
   Calls Tryz.prog 59 #[.pointer (some ⟨g, 0, none⟩), .agg (mc m)] w fun e w' => ∃ u, e = .returned u ∧ MsgR w' w.heap.size u [q] ∧ ∃ P', CoS w w' g n P (fun _ => False) c P' := by
 have hn0 := fun W => run_neq_nil_nil (P := Tryz.prog) W 28 Tryz.underlying28
 have HM := Lib.hid h
 have HL := Lib.hid hm
 have HI := Lib.hid (mc_info hm)
 have TOK := Lib.hid True.intro
 have M1 := Lib.hid (show Blk (w.alloc (.cells (mc m) 45)) w.heap.size 45 (mc m) from Blk.new w _ _)
 have B1 := Lib.hid (Joins.below_alloc1 w (.cells (mc m) 45))
 have HBK := Lib.hid hbk
 have HZ := Lib.hid hz
 clear hbk hz
 have H10 := Lib.hid h10
 clear h10
 have HOP := Lib.hid hop
 have HP := Lib.hid hp
 have HQ := Lib.hid hqq
 have HPQ := Lib.hid hpq
 have HLQ := Lib.hid (show q.length = 28 from by rw [← hqq]; exact onwL_len hm)
 have HIQ := Lib.hid (mc_info HLQ.out)
 have HIZ := Lib.hid (mc_info zM_length)
 have BQ := Lib.hid (ints_oneCell q)
 have BZ := Lib.hid (ints_oneCell zM)
 have HQ1 := Lib.hid (show ∀ m ∈ [q], m.length = 28 from fun m hm => by rw [List.mem_singleton.1 hm]; exact HLQ.out)
 clear hop hp hqq hpq
 have HPB := Lib.hid hpb
 have HLL := Lib.hid hl
 obtain ⟨os, hos⟩ : ∃ os, openC c n n = os := ⟨_, rfl⟩
 obtain ⟨k0, hk0⟩ : ∃ k, os.length = k := ⟨_, rfl⟩
 have HOC := Lib.hid (fun W (hW : CoM W g n c P) => show Calls Tryz.prog 100 #[.pointer (some ⟨g, 0, none⟩)] W fun e w' => ∃ A c', e = .returned (.slice A k0 c') ∧ Reads w' w'.heap.size 2 A k0 (ints os.flatten) ∧ Below W.heap.size W w' from by
   refine (open_any W hW h8 hl hok).mono ?_
   rintro e w' ⟨u, rfl, hu, hb⟩
   rw [hos, hk0] at hu
   obtain ⟨A, c', e1, hr, _, _⟩ := own_rd hu
   exact ⟨A, c', by rw [e1], hr, hb⟩)
 have HO2 := Lib.hid (show ∀ o ∈ os, o.length = 2 from by rw [← hos]; exact openC_2)
 have HK8 := Lib.hid (show k0 ≤ 1000 from by have := openC_len (c := c) (n := n) n; rw [hos] at this; omega)
 have HK0 := Lib.hid hk0
 rw [hos] at hlv
 have HLV := Lib.hid hlv
 clear hpb hl hok hos hk0 h8 hlv
 clear h hm
 go_enter Tryz.func59, Tryz.ntmps59
 go_upto_region 1 with fail
 generalize w.heap.size = bm at M1 ⊢
 generalize w.alloc (.cells (mc m) 45) = V at M1 B1 ⊢
 have KQ := Lib.hid (show ∀ Y, Below V.heap.size V Y → (Y.cell? ⟨g, 1, none⟩ = some (.bool true) ∧ Blk Y bm 45 (mc m)) from fun Y hy =>
   ⟨by rw [← HPB.out]; exact ((HM.out.step B1.out).step hy).box.cell 1, M1.out.here hy⟩)
 refine wp_region_held_drew (S := fun w' => w'.cell? ⟨g, 1, none⟩ = some (.bool true) ∧ Blk w' bm 45 (mc m)) (by kernel_rfl) (KQ.out _ (Below.refl _ _).drew) (fun hHeld => ?_)
 have BD := Lib.hid (show Below V.heap.size V V.drew from (Below.refl _ _).drew)
 generalize V.drew = V2 at BD hHeld ⊢
 refine wpAnyH_take (i := 0) (v := ?_) rfl (by kernel_rfl) (by kernel_rfl) (by kernel_rfl) (fun _ _ _ h => h) (Or.inl ⟨by rfl, ?_⟩) (by assumption) ?_
 rotate_left
 · (intro w0 hSw; (try dsimp only at hSw); go_simp; try with_reducible rfl)
 try simp only [List.getElem_toArray, List.getElem_cons_succ, List.getElem_cons_zero, Act.put, List.setIfInBounds_toArray, List.set_cons_zero, List.set_cons_succ]
 refine wpAnyH_take (i := 1) (v := ?_) rfl (by kernel_rfl) (by kernel_rfl) (by kernel_rfl) (fun _ _ _ h => h) (Or.inl ⟨by rfl, ?_⟩) (by assumption) ?_
 rotate_left
 · (intro w0 hSw; (try dsimp only at hSw); go_simp; try with_reducible rfl)
 try simp only [List.getElem_toArray, List.getElem_cons_succ, List.getElem_cons_zero, Act.put, List.setIfInBounds_toArray, List.set_cons_zero, List.set_cons_succ]
 refine wpAnyH_take (i := 2) (v := ?_) rfl (by kernel_rfl) (by kernel_rfl) (by kernel_rfl) (fun _ _ _ h => h) (Or.inl ⟨by rfl, ?_⟩) (by assumption) ?_
 rotate_left
 · (intro w0 hSw; (try dsimp only at hSw); go_simp; try with_reducible rfl)
 try simp only [List.getElem_toArray, List.getElem_cons_succ, List.getElem_cons_zero, Act.put, List.setIfInBounds_toArray, List.set_cons_zero, List.set_cons_succ]
 refine wpAnyH_take (i := 3) (v := ?_) rfl (by kernel_rfl) (by kernel_rfl) (by kernel_rfl) (fun _ _ _ h => h) (Or.inl ⟨by rfl, ?_⟩) (by assumption) ?_
 rotate_left
 · (intro w0 hSw; (try dsimp only at hSw); go_simp; try with_reducible rfl)
 try simp only [List.getElem_toArray, List.getElem_cons_succ, List.getElem_cons_zero, Act.put, List.setIfInBounds_toArray, List.set_cons_zero, List.set_cons_succ]
 refine wpAnyH_take (i := 4) (v := ?_) rfl (by kernel_rfl) (by kernel_rfl) (by kernel_rfl) (fun _ _ _ h => h) (Or.inl ⟨by rfl, ?_⟩) (by assumption) ?_
 rotate_left
 · (intro w0 hSw; (try dsimp only at hSw); go_simp; try with_reducible rfl)
 try simp only [List.getElem_toArray, List.getElem_cons_succ, List.getElem_cons_zero, Act.put, List.setIfInBounds_toArray, List.set_cons_zero, List.set_cons_succ]
 refine wpAnyH_take (i := 5) (v := ?_) rfl (by kernel_rfl) (by kernel_rfl) (by kernel_rfl) (fun _ _ _ h => h) (Or.inl ⟨by rfl, ?_⟩) (by assumption) ?_
 rotate_left
 · (intro w0 hSw; (try dsimp only at hSw); go_simp; try with_reducible rfl)
 try simp only [List.getElem_toArray, List.getElem_cons_succ, List.getElem_cons_zero, Act.put, List.setIfInBounds_toArray, List.set_cons_zero, List.set_cons_succ]
 refine wpAnyH_take (i := 6) (v := ?_) rfl (by kernel_rfl) (by kernel_rfl) (by kernel_rfl) (fun _ _ _ h => h) (Or.inl ⟨by rfl, ?_⟩) (by assumption) ?_
 rotate_left
 · (intro w0 hSw; (try dsimp only at hSw); go_simp; try with_reducible rfl)
 try simp only [List.getElem_toArray, List.getElem_cons_succ, List.getElem_cons_zero, Act.put, List.setIfInBounds_toArray, List.set_cons_zero, List.set_cons_succ]
 refine wpAnyH_take (i := 7) (v := .agg (mc m)) rfl (by kernel_rfl) (by kernel_rfl) (by kernel_rfl) (fun _ _ _ h => h) (Or.inl ⟨by rfl, fun w0 hSw => exec_load (x := .tmp 3) rfl rfl (loadM HL.out hSw.2)⟩) (by assumption) ?_
 try simp only [List.getElem_toArray, List.getElem_cons_succ, List.getElem_cons_zero, Act.put, List.setIfInBounds_toArray, List.set_cons_zero, List.set_cons_succ]
 refine wpAnyH_take (i := 8) (v := ?_) rfl (by kernel_rfl) (by kernel_rfl) (by kernel_rfl) (fun _ _ _ h => h) (Or.inl ⟨by rfl, ?_⟩) (by assumption) ?_
 rotate_left
 · (intro w0 hSw; (try dsimp only at hSw); go_simp; try with_reducible rfl)
 try simp only [List.getElem_toArray, List.getElem_cons_succ, List.getElem_cons_zero, Act.put, List.setIfInBounds_toArray, List.set_cons_zero, List.set_cons_succ]
 refine wpAnyH_ready (rs := [9]) (by kernel_rfl) (by simp) ?_
 refine AllReadyH.cons rfl (fun K hK => ?_) AllReadyH.nil
 go_simp
 refine (HOC.out _ ((HM.out.step B1.out).step BD.out)).mono ?_
 rintro e V3 ⟨A3, c3', rfl, rd3, hb⟩
 have R3 := Lib.hid rd3
 try go_simp
 have BE := Lib.hid (stepB BD.out hb)
 clear rd3 hb
 refine hK.out _ _ (KQ.out _ BE.out) (fun hHeld => ?_)
 clear hK K
 refine wpAnyH_ready (rs := [10]) (by kernel_rfl) (by simp) ?_
 refine AllReadyH.cons rfl (fun K hK => ?_) AllReadyH.nil
 go_simp
 refine (live_any m HL.out A3 k0 c3' os _ R3.out HO2.out HK0.out HK8.out true HLV.out).mono ?_
 rintro e V4 ⟨rfl, hb⟩
 try go_simp
 have BF := Lib.hid (stepB BE.out hb)
 clear hb
 refine hK.out _ _ (KQ.out _ BF.out) (fun hHeld => ?_)
 clear hK K
 refine wpAnyH_take (i := 11) (v := ?_) rfl (by kernel_rfl) (by kernel_rfl) (by kernel_rfl) (fun _ _ _ h => h) (Or.inl ⟨by rfl, ?_⟩) (by assumption) ?_
 rotate_left
 · (intro w0 hSw; (try dsimp only at hSw); go_simp; try with_reducible rfl)
 try simp only [List.getElem_toArray, List.getElem_cons_succ, List.getElem_cons_zero, Act.put, List.setIfInBounds_toArray, List.set_cons_zero, List.set_cons_succ]
 refine wpAnyH_take (i := 12) (v := ?_) rfl (by kernel_rfl) (by kernel_rfl) (by kernel_rfl) (fun _ _ _ h => h) (Or.inl ⟨by rfl, ?_⟩) (by assumption) ?_
 rotate_left
 · (intro w0 hSw; (try dsimp only at hSw); go_simp; try with_reducible rfl)
 try simp only [List.getElem_toArray, List.getElem_cons_succ, List.getElem_cons_zero, Act.put, List.setIfInBounds_toArray, List.set_cons_zero, List.set_cons_succ]
 refine wpAnyH_done (by kernel_rfl) ?_ _
 clear hHeld KQ
 have B4 := Lib.hid (stepB B1.out BF.out)
 have M4 := Lib.hid (M1.out.here BF.out)
 clear BD BE BF R3 M1
 have HB4 := Lib.hid B4.out.size
 have H4 := Lib.hid (HM.out.step B4.out)
 have TOK2 := Lib.hid True.intro
 have TOK3 := Lib.hid True.intro
 go_upto_region 7 with (first
   | (have _t := TOK2; refine wpList_load_row_g (by rfl) 45 (.tmp 3) rfl bm rfl 45 (mc m) (0, 0) _ M4.out Tryz.underlying45 rfl HI.out ?_; clear _t TOK2)
   | (go_at_call 101; refine (back_any m HL.out false HBK.out _).mono ?_; rintro e V5 ⟨rfl, hb⟩; have B5 := Lib.hid (stepB B4.out hb); have M5 := Lib.hid (M4.out.here hb); clear hb))
 have m9 := mc_cell HL.out M5.out (i := 9) (by omega)
 go_upto_region 8 with (first
   | (go_at_call 60; refine (find_any (fld m 9) _ (HM.out.step B5.out) HLL.out z HZ.out _ rfl).mono ?_; rintro e V6 ⟨s, rfl, ht, hb⟩; have T6 := Lib.hid ht; have C6 := Lib.hid hb; clear ht hb)
   | (refine wpList_store_mid (by rfl) 62 (.tmp 9) (.tmp 47) (by rfl) V6.heap.size 0 (trc z s) (by rfl) (by rfl) ((show Blk (V6.alloc (.cells zTr 62)) V6.heap.size 62 (trc noTr noSl) from Blk.new V6 _ _).there (Nat.le_refl 13)) (tr_info _ _) (T6.out.step C6.out).one ?_
      have XZ := Lib.hid (show Blk ((V6.alloc (.cells zTr 62)).setCells V6.heap.size 0 (trc z s).toList) V6.heap.size 62 (trc z s) from (show Blk (V6.alloc (.cells zTr 62)) V6.heap.size 62 (trc noTr noSl) from Blk.new V6 _ _).put _ rfl)
      have EA := Lib.hid (show Below V6.heap.size V6 ((V6.alloc (.cells zTr 62)).setCells V6.heap.size 0 (trc z s).toList) from Below.setCells (b := V6.heap.size) (Nat.le_refl _) (trc z s).toList 0 _ (Joins.below_alloc1 V6 (.cells zTr 62)))
      have B7 := Lib.hid (stepB (stepB B5.out C6.out) EA.out)
      have M7 := Lib.hid ((M5.out.here C6.out).here EA.out)
      generalize (V6.alloc (.cells zTr 62)).setCells V6.heap.size 0 (trc z s).toList = V7 at XZ EA B7 M7 ⊢
      generalize V6.heap.size = bt at XZ EA ⊢))
 have HB7 := Lib.hid B7.out.size
 clear m9
 have z4 : V7.cell? ⟨bt, 4, none⟩ = some (.bool true) := by rw [← HOP.out]; exact XZ.out.cell 4
 have z3 : V7.cell? ⟨bt, 3, none⟩ = some (.int .i64 z.sq) := XZ.out.cell 3
 have z5 : V7.cell? ⟨bt, 5, none⟩ = some (.int .i64 z.sh) := XZ.out.cell 5
 have m10 : V7.cell? ⟨bm, 10, none⟩ = some (.int .i64 0) := by rw [← H10.out]; exact mc_cell HL.out M7.out (i := 10) (by omega)
 generalize z.sq = sq at z3
 go_wp2_with (first
   | (have _t := TOK3; refine wpList_load_row_g (by rfl) 45 (.tmp 3) rfl bm rfl 45 (mc m) (0, 0) _ M7.out Tryz.underlying45 rfl HI.out ?_; clear _t TOK3)
   | (go_at_call 103; refine (onward_ok z.sh m HL.out HP.out _ q HQ.out HPQ.out).mono ?_; rintro e V8 ⟨rfl, hb⟩; have B8 := Lib.hid (stepB B7.out hb); clear hb)
   | (refine wpList_store_mid (by rfl) 45 (.tmp 11) (.tmp 69) (by rfl) V8.heap.size 0 (mc q) (by rfl) (by rfl) (mc_there zM_length HLQ.out (show Blk (V8.alloc (.cells zMs 45)) V8.heap.size 45 (mc zM) from Blk.new V8 _ _)) HIQ.out BQ.out ?_
      have X9 := Lib.hid (mc_put zM_length HLQ.out (show Blk (V8.alloc (.cells zMs 45)) V8.heap.size 45 (mc zM) from Blk.new V8 _ _))
      have B9 := Lib.hid (stepB B8.out (show Below V8.heap.size V8 ((V8.alloc (.cells zMs 45)).setCells V8.heap.size 0 (mc q).toList) from Below.setCells (b := V8.heap.size) (Nat.le_refl _) _ 0 _ (Joins.below_alloc1 V8 (.cells zMs 45))))
      generalize (V8.alloc (.cells zMs 45)).setCells V8.heap.size 0 (mc q).toList = V9 at X9 B9 ⊢
      generalize V8.heap.size = bq at X9 ⊢)
   | (refine wpList_load_row rfl 45 (.tmp 11) rfl bq rfl 45 (mc q) (0, 0) _ X9.out Tryz.underlying45 rfl HIQ.out ?_)
   | (refine wpList_build_msgs rfl 1 _ rfl [q] HQ1.out rfl (by omega) (by rfl) ?_
      have U10 := Lib.hid (own_msg1 V9 q HLQ.out)
      have B10 := Lib.hid (stepA B9.out (.cells (ints [q].flatten).toArray 45))
      have HB9 := Lib.hid B9.out.size
      generalize V9.alloc (.cells (ints [q].flatten).toArray 45) = V10 at U10 B10 ⊢))
 go_ret
 exact ⟨_, rfl, own_less U10.out HB9.out, _, CoS.below HM.out B10.out⟩
set_option maxRecDepth 100000 in
set_option maxHeartbeats 3000000 in
theorem probed_ons (m : List Int) (w : World) (h : CoM w g n c P) (hm : m.length = 28) (hpb : c.cf.pb = true) (h8 : n ≤ 8) (hl : P.L.length ≤ 1000) (hok : ∀ k : Nat, k < n → nowL n c.cl ((k : Int) + 1) = 0 ∨ ∃ i : Nat, i < P.L.length ∧ nowL n c.cl ((k : Int) + 1) = (i : Int) + 1) (hlv : liveL m (openC c n n) = true) (hbk : backL m = false) (z : Tr) (hz : eL c.txs (fld m 9) = z) (hop : z.op = true) (h10 : fld m 10 ≠ 0) (hsq : fld m 10 = z.sq) (hp : isP m = true) (q : List Int) (hqq : onwL z.sh m = q) (hpq : isP q = true) :
   Calls Tryz.prog 59 #[.pointer (some ⟨g, 0, none⟩), .agg (mc m)] w fun e w' => ∃ u, e = .returned u ∧ MsgR w' w.heap.size u [q] ∧ ∃ P', CoS w w' g n P (fun _ => False) c P' := by
 have hn0 := fun W => run_neq_nil_nil (P := Tryz.prog) W 28 Tryz.underlying28
 have HM := Lib.hid h
 have HL := Lib.hid hm
 have HI := Lib.hid (mc_info hm)
 have TOK := Lib.hid True.intro
 have M1 := Lib.hid (show Blk (w.alloc (.cells (mc m) 45)) w.heap.size 45 (mc m) from Blk.new w _ _)
 have B1 := Lib.hid (Joins.below_alloc1 w (.cells (mc m) 45))
 have HBK := Lib.hid hbk
 have HZ := Lib.hid hz
 clear hbk hz
 have d1 : (z.sq != 0) = true := by rw [← hsq]; simp [h10]
 have d2 : (z.sq != z.sq) = false := by simp
 have H10 := Lib.hid hsq
 clear h10 hsq
 have HOP := Lib.hid hop
 have HP := Lib.hid hp
 have HQ := Lib.hid hqq
 have HPQ := Lib.hid hpq
 have HLQ := Lib.hid (show q.length = 28 from by rw [← hqq]; exact onwL_len hm)
 have HIQ := Lib.hid (mc_info HLQ.out)
 have HIZ := Lib.hid (mc_info zM_length)
 have BQ := Lib.hid (ints_oneCell q)
 have BZ := Lib.hid (ints_oneCell zM)
 have HQ1 := Lib.hid (show ∀ m ∈ [q], m.length = 28 from fun m hm => by rw [List.mem_singleton.1 hm]; exact HLQ.out)
 clear hop hp hqq hpq
 have HPB := Lib.hid hpb
 have HLL := Lib.hid hl
 obtain ⟨os, hos⟩ : ∃ os, openC c n n = os := ⟨_, rfl⟩
 obtain ⟨k0, hk0⟩ : ∃ k, os.length = k := ⟨_, rfl⟩
 have HOC := Lib.hid (fun W (hW : CoM W g n c P) => show Calls Tryz.prog 100 #[.pointer (some ⟨g, 0, none⟩)] W fun e w' => ∃ A c', e = .returned (.slice A k0 c') ∧ Reads w' w'.heap.size 2 A k0 (ints os.flatten) ∧ Below W.heap.size W w' from by
   refine (open_any W hW h8 hl hok).mono ?_
   rintro e w' ⟨u, rfl, hu, hb⟩
   rw [hos, hk0] at hu
   obtain ⟨A, c', e1, hr, _, _⟩ := own_rd hu
   exact ⟨A, c', by rw [e1], hr, hb⟩)
 have HO2 := Lib.hid (show ∀ o ∈ os, o.length = 2 from by rw [← hos]; exact openC_2)
 have HK8 := Lib.hid (show k0 ≤ 1000 from by have := openC_len (c := c) (n := n) n; rw [hos] at this; omega)
 have HK0 := Lib.hid hk0
 rw [hos] at hlv
 have HLV := Lib.hid hlv
 clear hpb hl hok hos hk0 h8 hlv
 clear h hm
 go_enter Tryz.func59, Tryz.ntmps59
 go_upto_region 1 with fail
 generalize w.heap.size = bm at M1 ⊢
 generalize w.alloc (.cells (mc m) 45) = V at M1 B1 ⊢
 have KQ := Lib.hid (show ∀ Y, Below V.heap.size V Y → (Y.cell? ⟨g, 1, none⟩ = some (.bool true) ∧ Blk Y bm 45 (mc m)) from fun Y hy =>
   ⟨by rw [← HPB.out]; exact ((HM.out.step B1.out).step hy).box.cell 1, M1.out.here hy⟩)
 refine wp_region_held_drew (S := fun w' => w'.cell? ⟨g, 1, none⟩ = some (.bool true) ∧ Blk w' bm 45 (mc m)) (by kernel_rfl) (KQ.out _ (Below.refl _ _).drew) (fun hHeld => ?_)
 have BD := Lib.hid (show Below V.heap.size V V.drew from (Below.refl _ _).drew)
 generalize V.drew = V2 at BD hHeld ⊢
 refine wpAnyH_take (i := 0) (v := ?_) rfl (by kernel_rfl) (by kernel_rfl) (by kernel_rfl) (fun _ _ _ h => h) (Or.inl ⟨by rfl, ?_⟩) (by assumption) ?_
 rotate_left
 · (intro w0 hSw; (try dsimp only at hSw); go_simp; try with_reducible rfl)
 try simp only [List.getElem_toArray, List.getElem_cons_succ, List.getElem_cons_zero, Act.put, List.setIfInBounds_toArray, List.set_cons_zero, List.set_cons_succ]
 refine wpAnyH_take (i := 1) (v := ?_) rfl (by kernel_rfl) (by kernel_rfl) (by kernel_rfl) (fun _ _ _ h => h) (Or.inl ⟨by rfl, ?_⟩) (by assumption) ?_
 rotate_left
 · (intro w0 hSw; (try dsimp only at hSw); go_simp; try with_reducible rfl)
 try simp only [List.getElem_toArray, List.getElem_cons_succ, List.getElem_cons_zero, Act.put, List.setIfInBounds_toArray, List.set_cons_zero, List.set_cons_succ]
 refine wpAnyH_take (i := 2) (v := ?_) rfl (by kernel_rfl) (by kernel_rfl) (by kernel_rfl) (fun _ _ _ h => h) (Or.inl ⟨by rfl, ?_⟩) (by assumption) ?_
 rotate_left
 · (intro w0 hSw; (try dsimp only at hSw); go_simp; try with_reducible rfl)
 try simp only [List.getElem_toArray, List.getElem_cons_succ, List.getElem_cons_zero, Act.put, List.setIfInBounds_toArray, List.set_cons_zero, List.set_cons_succ]
 refine wpAnyH_take (i := 3) (v := ?_) rfl (by kernel_rfl) (by kernel_rfl) (by kernel_rfl) (fun _ _ _ h => h) (Or.inl ⟨by rfl, ?_⟩) (by assumption) ?_
 rotate_left
 · (intro w0 hSw; (try dsimp only at hSw); go_simp; try with_reducible rfl)
 try simp only [List.getElem_toArray, List.getElem_cons_succ, List.getElem_cons_zero, Act.put, List.setIfInBounds_toArray, List.set_cons_zero, List.set_cons_succ]
 refine wpAnyH_take (i := 4) (v := ?_) rfl (by kernel_rfl) (by kernel_rfl) (by kernel_rfl) (fun _ _ _ h => h) (Or.inl ⟨by rfl, ?_⟩) (by assumption) ?_
 rotate_left
 · (intro w0 hSw; (try dsimp only at hSw); go_simp; try with_reducible rfl)
 try simp only [List.getElem_toArray, List.getElem_cons_succ, List.getElem_cons_zero, Act.put, List.setIfInBounds_toArray, List.set_cons_zero, List.set_cons_succ]
 refine wpAnyH_take (i := 5) (v := ?_) rfl (by kernel_rfl) (by kernel_rfl) (by kernel_rfl) (fun _ _ _ h => h) (Or.inl ⟨by rfl, ?_⟩) (by assumption) ?_
 rotate_left
 · (intro w0 hSw; (try dsimp only at hSw); go_simp; try with_reducible rfl)
 try simp only [List.getElem_toArray, List.getElem_cons_succ, List.getElem_cons_zero, Act.put, List.setIfInBounds_toArray, List.set_cons_zero, List.set_cons_succ]
 refine wpAnyH_take (i := 6) (v := ?_) rfl (by kernel_rfl) (by kernel_rfl) (by kernel_rfl) (fun _ _ _ h => h) (Or.inl ⟨by rfl, ?_⟩) (by assumption) ?_
 rotate_left
 · (intro w0 hSw; (try dsimp only at hSw); go_simp; try with_reducible rfl)
 try simp only [List.getElem_toArray, List.getElem_cons_succ, List.getElem_cons_zero, Act.put, List.setIfInBounds_toArray, List.set_cons_zero, List.set_cons_succ]
 refine wpAnyH_take (i := 7) (v := .agg (mc m)) rfl (by kernel_rfl) (by kernel_rfl) (by kernel_rfl) (fun _ _ _ h => h) (Or.inl ⟨by rfl, fun w0 hSw => exec_load (x := .tmp 3) rfl rfl (loadM HL.out hSw.2)⟩) (by assumption) ?_
 try simp only [List.getElem_toArray, List.getElem_cons_succ, List.getElem_cons_zero, Act.put, List.setIfInBounds_toArray, List.set_cons_zero, List.set_cons_succ]
 refine wpAnyH_take (i := 8) (v := ?_) rfl (by kernel_rfl) (by kernel_rfl) (by kernel_rfl) (fun _ _ _ h => h) (Or.inl ⟨by rfl, ?_⟩) (by assumption) ?_
 rotate_left
 · (intro w0 hSw; (try dsimp only at hSw); go_simp; try with_reducible rfl)
 try simp only [List.getElem_toArray, List.getElem_cons_succ, List.getElem_cons_zero, Act.put, List.setIfInBounds_toArray, List.set_cons_zero, List.set_cons_succ]
 refine wpAnyH_ready (rs := [9]) (by kernel_rfl) (by simp) ?_
 refine AllReadyH.cons rfl (fun K hK => ?_) AllReadyH.nil
 go_simp
 refine (HOC.out _ ((HM.out.step B1.out).step BD.out)).mono ?_
 rintro e V3 ⟨A3, c3', rfl, rd3, hb⟩
 have R3 := Lib.hid rd3
 try go_simp
 have BE := Lib.hid (stepB BD.out hb)
 clear rd3 hb
 refine hK.out _ _ (KQ.out _ BE.out) (fun hHeld => ?_)
 clear hK K
 refine wpAnyH_ready (rs := [10]) (by kernel_rfl) (by simp) ?_
 refine AllReadyH.cons rfl (fun K hK => ?_) AllReadyH.nil
 go_simp
 refine (live_any m HL.out A3 k0 c3' os _ R3.out HO2.out HK0.out HK8.out true HLV.out).mono ?_
 rintro e V4 ⟨rfl, hb⟩
 try go_simp
 have BF := Lib.hid (stepB BE.out hb)
 clear hb
 refine hK.out _ _ (KQ.out _ BF.out) (fun hHeld => ?_)
 clear hK K
 refine wpAnyH_take (i := 11) (v := ?_) rfl (by kernel_rfl) (by kernel_rfl) (by kernel_rfl) (fun _ _ _ h => h) (Or.inl ⟨by rfl, ?_⟩) (by assumption) ?_
 rotate_left
 · (intro w0 hSw; (try dsimp only at hSw); go_simp; try with_reducible rfl)
 try simp only [List.getElem_toArray, List.getElem_cons_succ, List.getElem_cons_zero, Act.put, List.setIfInBounds_toArray, List.set_cons_zero, List.set_cons_succ]
 refine wpAnyH_take (i := 12) (v := ?_) rfl (by kernel_rfl) (by kernel_rfl) (by kernel_rfl) (fun _ _ _ h => h) (Or.inl ⟨by rfl, ?_⟩) (by assumption) ?_
 rotate_left
 · (intro w0 hSw; (try dsimp only at hSw); go_simp; try with_reducible rfl)
 try simp only [List.getElem_toArray, List.getElem_cons_succ, List.getElem_cons_zero, Act.put, List.setIfInBounds_toArray, List.set_cons_zero, List.set_cons_succ]
 refine wpAnyH_done (by kernel_rfl) ?_ _
 clear hHeld KQ
 have B4 := Lib.hid (stepB B1.out BF.out)
 have M4 := Lib.hid (M1.out.here BF.out)
 clear BD BE BF R3 M1
 have HB4 := Lib.hid B4.out.size
 have H4 := Lib.hid (HM.out.step B4.out)
 have TOK2 := Lib.hid True.intro
 have TOK3 := Lib.hid True.intro
 go_upto_region 7 with (first
   | (have _t := TOK2; refine wpList_load_row_g (by rfl) 45 (.tmp 3) rfl bm rfl 45 (mc m) (0, 0) _ M4.out Tryz.underlying45 rfl HI.out ?_; clear _t TOK2)
   | (go_at_call 101; refine (back_any m HL.out false HBK.out _).mono ?_; rintro e V5 ⟨rfl, hb⟩; have B5 := Lib.hid (stepB B4.out hb); have M5 := Lib.hid (M4.out.here hb); clear hb))
 have m9 := mc_cell HL.out M5.out (i := 9) (by omega)
 go_upto_region 8 with (first
   | (go_at_call 60; refine (find_any (fld m 9) _ (HM.out.step B5.out) HLL.out z HZ.out _ rfl).mono ?_; rintro e V6 ⟨s, rfl, ht, hb⟩; have T6 := Lib.hid ht; have C6 := Lib.hid hb; clear ht hb)
   | (refine wpList_store_mid (by rfl) 62 (.tmp 9) (.tmp 47) (by rfl) V6.heap.size 0 (trc z s) (by rfl) (by rfl) ((show Blk (V6.alloc (.cells zTr 62)) V6.heap.size 62 (trc noTr noSl) from Blk.new V6 _ _).there (Nat.le_refl 13)) (tr_info _ _) (T6.out.step C6.out).one ?_
      have XZ := Lib.hid (show Blk ((V6.alloc (.cells zTr 62)).setCells V6.heap.size 0 (trc z s).toList) V6.heap.size 62 (trc z s) from (show Blk (V6.alloc (.cells zTr 62)) V6.heap.size 62 (trc noTr noSl) from Blk.new V6 _ _).put _ rfl)
      have EA := Lib.hid (show Below V6.heap.size V6 ((V6.alloc (.cells zTr 62)).setCells V6.heap.size 0 (trc z s).toList) from Below.setCells (b := V6.heap.size) (Nat.le_refl _) (trc z s).toList 0 _ (Joins.below_alloc1 V6 (.cells zTr 62)))
      have B7 := Lib.hid (stepB (stepB B5.out C6.out) EA.out)
      have M7 := Lib.hid ((M5.out.here C6.out).here EA.out)
      generalize (V6.alloc (.cells zTr 62)).setCells V6.heap.size 0 (trc z s).toList = V7 at XZ EA B7 M7 ⊢
      generalize V6.heap.size = bt at XZ EA ⊢))
 have HB7 := Lib.hid B7.out.size
 clear m9
 have z4 : V7.cell? ⟨bt, 4, none⟩ = some (.bool true) := by rw [← HOP.out]; exact XZ.out.cell 4
 have z3 : V7.cell? ⟨bt, 3, none⟩ = some (.int .i64 z.sq) := XZ.out.cell 3
 have z5 : V7.cell? ⟨bt, 5, none⟩ = some (.int .i64 z.sh) := XZ.out.cell 5
 have m10 : V7.cell? ⟨bm, 10, none⟩ = some (.int .i64 z.sq) := by rw [← H10.out]; exact mc_cell HL.out M7.out (i := 10) (by omega)
 generalize z.sq = sq at z3 m10 d1 d2
 go_wp2_with (first
   | (have _t := TOK3; refine wpList_load_row_g (by rfl) 45 (.tmp 3) rfl bm rfl 45 (mc m) (0, 0) _ M7.out Tryz.underlying45 rfl HI.out ?_; clear _t TOK3)
   | (go_at_call 103; refine (onward_ok z.sh m HL.out HP.out _ q HQ.out HPQ.out).mono ?_; rintro e V8 ⟨rfl, hb⟩; have B8 := Lib.hid (stepB B7.out hb); clear hb)
   | (refine wpList_store_mid (by rfl) 45 (.tmp 11) (.tmp 69) (by rfl) V8.heap.size 0 (mc q) (by rfl) (by rfl) (mc_there zM_length HLQ.out (show Blk (V8.alloc (.cells zMs 45)) V8.heap.size 45 (mc zM) from Blk.new V8 _ _)) HIQ.out BQ.out ?_
      have X9 := Lib.hid (mc_put zM_length HLQ.out (show Blk (V8.alloc (.cells zMs 45)) V8.heap.size 45 (mc zM) from Blk.new V8 _ _))
      have B9 := Lib.hid (stepB B8.out (show Below V8.heap.size V8 ((V8.alloc (.cells zMs 45)).setCells V8.heap.size 0 (mc q).toList) from Below.setCells (b := V8.heap.size) (Nat.le_refl _) _ 0 _ (Joins.below_alloc1 V8 (.cells zMs 45))))
      generalize (V8.alloc (.cells zMs 45)).setCells V8.heap.size 0 (mc q).toList = V9 at X9 B9 ⊢
      generalize V8.heap.size = bq at X9 ⊢)
   | (refine wpList_load_row rfl 45 (.tmp 11) rfl bq rfl 45 (mc q) (0, 0) _ X9.out Tryz.underlying45 rfl HIQ.out ?_)
   | (refine wpList_build_msgs rfl 1 _ rfl [q] HQ1.out rfl (by omega) (by rfl) ?_
      have U10 := Lib.hid (own_msg1 V9 q HLQ.out)
      have B10 := Lib.hid (stepA B9.out (.cells (ints [q].flatten).toArray 45))
      have HB9 := Lib.hid B9.out.size
      generalize V9.alloc (.cells (ints [q].flatten).toArray 45) = V10 at U10 B10 ⊢))
 go_ret
 exact ⟨_, rfl, own_less U10.out HB9.out, _, CoS.below HM.out B10.out⟩
set_option maxRecDepth 100000 in
set_option maxHeartbeats 3000000 in
theorem probed_no0 (m : List Int) (w : World) (h : CoM w g n c P) (hm : m.length = 28) (hpb : c.cf.pb = true) (h8 : n ≤ 8) (hl : P.L.length ≤ 1000) (hok : ∀ k : Nat, k < n → nowL n c.cl ((k : Int) + 1) = 0 ∨ ∃ i : Nat, i < P.L.length ∧ nowL n c.cl ((k : Int) + 1) = (i : Int) + 1) (hlv : liveL m (openC c n n) = true) (hbk : backL m = false) (z : Tr) (hz : eL c.txs (fld m 9) = z) (hop : z.op = true) (h10 : fld m 10 = 0) (hp : isP m = true) (q : List Int) (hqq : onwL z.sh m = q) (hpq : isP q = false) :
   Calls Tryz.prog 59 #[.pointer (some ⟨g, 0, none⟩), .agg (mc m)] w fun e w' => e = .returned (.slice none 0 0) ∧ Below w.heap.size w w' := by
 have hn0 := fun W => run_neq_nil_nil (P := Tryz.prog) W 28 Tryz.underlying28
 have HM := Lib.hid h
 have HL := Lib.hid hm
 have HI := Lib.hid (mc_info hm)
 have TOK := Lib.hid True.intro
 have M1 := Lib.hid (show Blk (w.alloc (.cells (mc m) 45)) w.heap.size 45 (mc m) from Blk.new w _ _)
 have B1 := Lib.hid (Joins.below_alloc1 w (.cells (mc m) 45))
 have HBK := Lib.hid hbk
 have HZ := Lib.hid hz
 clear hbk hz
 have H10 := Lib.hid h10
 clear h10
 have HOP := Lib.hid hop
 have HP := Lib.hid hp
 have HQ := Lib.hid hqq
 have HPQ := Lib.hid hpq
 have HLQ := Lib.hid (show q.length = 28 from by rw [← hqq]; exact onwL_len hm)
 have HIQ := Lib.hid (mc_info HLQ.out)
 have HIZ := Lib.hid (mc_info zM_length)
 have BQ := Lib.hid (ints_oneCell q)
 have BZ := Lib.hid (ints_oneCell zM)
 have HQ1 := Lib.hid (show ∀ m ∈ [q], m.length = 28 from fun m hm => by rw [List.mem_singleton.1 hm]; exact HLQ.out)
 clear hop hp hqq hpq
 have HPB := Lib.hid hpb
 have HLL := Lib.hid hl
 obtain ⟨os, hos⟩ : ∃ os, openC c n n = os := ⟨_, rfl⟩
 obtain ⟨k0, hk0⟩ : ∃ k, os.length = k := ⟨_, rfl⟩
 have HOC := Lib.hid (fun W (hW : CoM W g n c P) => show Calls Tryz.prog 100 #[.pointer (some ⟨g, 0, none⟩)] W fun e w' => ∃ A c', e = .returned (.slice A k0 c') ∧ Reads w' w'.heap.size 2 A k0 (ints os.flatten) ∧ Below W.heap.size W w' from by
   refine (open_any W hW h8 hl hok).mono ?_
   rintro e w' ⟨u, rfl, hu, hb⟩
   rw [hos, hk0] at hu
   obtain ⟨A, c', e1, hr, _, _⟩ := own_rd hu
   exact ⟨A, c', by rw [e1], hr, hb⟩)
 have HO2 := Lib.hid (show ∀ o ∈ os, o.length = 2 from by rw [← hos]; exact openC_2)
 have HK8 := Lib.hid (show k0 ≤ 1000 from by have := openC_len (c := c) (n := n) n; rw [hos] at this; omega)
 have HK0 := Lib.hid hk0
 rw [hos] at hlv
 have HLV := Lib.hid hlv
 clear hpb hl hok hos hk0 h8 hlv
 clear h hm
 go_enter Tryz.func59, Tryz.ntmps59
 go_upto_region 1 with fail
 generalize w.heap.size = bm at M1 ⊢
 generalize w.alloc (.cells (mc m) 45) = V at M1 B1 ⊢
 have KQ := Lib.hid (show ∀ Y, Below V.heap.size V Y → (Y.cell? ⟨g, 1, none⟩ = some (.bool true) ∧ Blk Y bm 45 (mc m)) from fun Y hy =>
   ⟨by rw [← HPB.out]; exact ((HM.out.step B1.out).step hy).box.cell 1, M1.out.here hy⟩)
 refine wp_region_held_drew (S := fun w' => w'.cell? ⟨g, 1, none⟩ = some (.bool true) ∧ Blk w' bm 45 (mc m)) (by kernel_rfl) (KQ.out _ (Below.refl _ _).drew) (fun hHeld => ?_)
 have BD := Lib.hid (show Below V.heap.size V V.drew from (Below.refl _ _).drew)
 generalize V.drew = V2 at BD hHeld ⊢
 refine wpAnyH_take (i := 0) (v := ?_) rfl (by kernel_rfl) (by kernel_rfl) (by kernel_rfl) (fun _ _ _ h => h) (Or.inl ⟨by rfl, ?_⟩) (by assumption) ?_
 rotate_left
 · (intro w0 hSw; (try dsimp only at hSw); go_simp; try with_reducible rfl)
 try simp only [List.getElem_toArray, List.getElem_cons_succ, List.getElem_cons_zero, Act.put, List.setIfInBounds_toArray, List.set_cons_zero, List.set_cons_succ]
 refine wpAnyH_take (i := 1) (v := ?_) rfl (by kernel_rfl) (by kernel_rfl) (by kernel_rfl) (fun _ _ _ h => h) (Or.inl ⟨by rfl, ?_⟩) (by assumption) ?_
 rotate_left
 · (intro w0 hSw; (try dsimp only at hSw); go_simp; try with_reducible rfl)
 try simp only [List.getElem_toArray, List.getElem_cons_succ, List.getElem_cons_zero, Act.put, List.setIfInBounds_toArray, List.set_cons_zero, List.set_cons_succ]
 refine wpAnyH_take (i := 2) (v := ?_) rfl (by kernel_rfl) (by kernel_rfl) (by kernel_rfl) (fun _ _ _ h => h) (Or.inl ⟨by rfl, ?_⟩) (by assumption) ?_
 rotate_left
 · (intro w0 hSw; (try dsimp only at hSw); go_simp; try with_reducible rfl)
 try simp only [List.getElem_toArray, List.getElem_cons_succ, List.getElem_cons_zero, Act.put, List.setIfInBounds_toArray, List.set_cons_zero, List.set_cons_succ]
 refine wpAnyH_take (i := 3) (v := ?_) rfl (by kernel_rfl) (by kernel_rfl) (by kernel_rfl) (fun _ _ _ h => h) (Or.inl ⟨by rfl, ?_⟩) (by assumption) ?_
 rotate_left
 · (intro w0 hSw; (try dsimp only at hSw); go_simp; try with_reducible rfl)
 try simp only [List.getElem_toArray, List.getElem_cons_succ, List.getElem_cons_zero, Act.put, List.setIfInBounds_toArray, List.set_cons_zero, List.set_cons_succ]
 refine wpAnyH_take (i := 4) (v := ?_) rfl (by kernel_rfl) (by kernel_rfl) (by kernel_rfl) (fun _ _ _ h => h) (Or.inl ⟨by rfl, ?_⟩) (by assumption) ?_
 rotate_left
 · (intro w0 hSw; (try dsimp only at hSw); go_simp; try with_reducible rfl)
 try simp only [List.getElem_toArray, List.getElem_cons_succ, List.getElem_cons_zero, Act.put, List.setIfInBounds_toArray, List.set_cons_zero, List.set_cons_succ]
 refine wpAnyH_take (i := 5) (v := ?_) rfl (by kernel_rfl) (by kernel_rfl) (by kernel_rfl) (fun _ _ _ h => h) (Or.inl ⟨by rfl, ?_⟩) (by assumption) ?_
 rotate_left
 · (intro w0 hSw; (try dsimp only at hSw); go_simp; try with_reducible rfl)
 try simp only [List.getElem_toArray, List.getElem_cons_succ, List.getElem_cons_zero, Act.put, List.setIfInBounds_toArray, List.set_cons_zero, List.set_cons_succ]
 refine wpAnyH_take (i := 6) (v := ?_) rfl (by kernel_rfl) (by kernel_rfl) (by kernel_rfl) (fun _ _ _ h => h) (Or.inl ⟨by rfl, ?_⟩) (by assumption) ?_
 rotate_left
 · (intro w0 hSw; (try dsimp only at hSw); go_simp; try with_reducible rfl)
 try simp only [List.getElem_toArray, List.getElem_cons_succ, List.getElem_cons_zero, Act.put, List.setIfInBounds_toArray, List.set_cons_zero, List.set_cons_succ]
 refine wpAnyH_take (i := 7) (v := .agg (mc m)) rfl (by kernel_rfl) (by kernel_rfl) (by kernel_rfl) (fun _ _ _ h => h) (Or.inl ⟨by rfl, fun w0 hSw => exec_load (x := .tmp 3) rfl rfl (loadM HL.out hSw.2)⟩) (by assumption) ?_
 try simp only [List.getElem_toArray, List.getElem_cons_succ, List.getElem_cons_zero, Act.put, List.setIfInBounds_toArray, List.set_cons_zero, List.set_cons_succ]
 refine wpAnyH_take (i := 8) (v := ?_) rfl (by kernel_rfl) (by kernel_rfl) (by kernel_rfl) (fun _ _ _ h => h) (Or.inl ⟨by rfl, ?_⟩) (by assumption) ?_
 rotate_left
 · (intro w0 hSw; (try dsimp only at hSw); go_simp; try with_reducible rfl)
 try simp only [List.getElem_toArray, List.getElem_cons_succ, List.getElem_cons_zero, Act.put, List.setIfInBounds_toArray, List.set_cons_zero, List.set_cons_succ]
 refine wpAnyH_ready (rs := [9]) (by kernel_rfl) (by simp) ?_
 refine AllReadyH.cons rfl (fun K hK => ?_) AllReadyH.nil
 go_simp
 refine (HOC.out _ ((HM.out.step B1.out).step BD.out)).mono ?_
 rintro e V3 ⟨A3, c3', rfl, rd3, hb⟩
 have R3 := Lib.hid rd3
 try go_simp
 have BE := Lib.hid (stepB BD.out hb)
 clear rd3 hb
 refine hK.out _ _ (KQ.out _ BE.out) (fun hHeld => ?_)
 clear hK K
 refine wpAnyH_ready (rs := [10]) (by kernel_rfl) (by simp) ?_
 refine AllReadyH.cons rfl (fun K hK => ?_) AllReadyH.nil
 go_simp
 refine (live_any m HL.out A3 k0 c3' os _ R3.out HO2.out HK0.out HK8.out true HLV.out).mono ?_
 rintro e V4 ⟨rfl, hb⟩
 try go_simp
 have BF := Lib.hid (stepB BE.out hb)
 clear hb
 refine hK.out _ _ (KQ.out _ BF.out) (fun hHeld => ?_)
 clear hK K
 refine wpAnyH_take (i := 11) (v := ?_) rfl (by kernel_rfl) (by kernel_rfl) (by kernel_rfl) (fun _ _ _ h => h) (Or.inl ⟨by rfl, ?_⟩) (by assumption) ?_
 rotate_left
 · (intro w0 hSw; (try dsimp only at hSw); go_simp; try with_reducible rfl)
 try simp only [List.getElem_toArray, List.getElem_cons_succ, List.getElem_cons_zero, Act.put, List.setIfInBounds_toArray, List.set_cons_zero, List.set_cons_succ]
 refine wpAnyH_take (i := 12) (v := ?_) rfl (by kernel_rfl) (by kernel_rfl) (by kernel_rfl) (fun _ _ _ h => h) (Or.inl ⟨by rfl, ?_⟩) (by assumption) ?_
 rotate_left
 · (intro w0 hSw; (try dsimp only at hSw); go_simp; try with_reducible rfl)
 try simp only [List.getElem_toArray, List.getElem_cons_succ, List.getElem_cons_zero, Act.put, List.setIfInBounds_toArray, List.set_cons_zero, List.set_cons_succ]
 refine wpAnyH_done (by kernel_rfl) ?_ _
 clear hHeld KQ
 have B4 := Lib.hid (stepB B1.out BF.out)
 have M4 := Lib.hid (M1.out.here BF.out)
 clear BD BE BF R3 M1
 have HB4 := Lib.hid B4.out.size
 have H4 := Lib.hid (HM.out.step B4.out)
 have TOK2 := Lib.hid True.intro
 have TOK3 := Lib.hid True.intro
 go_upto_region 7 with (first
   | (have _t := TOK2; refine wpList_load_row_g (by rfl) 45 (.tmp 3) rfl bm rfl 45 (mc m) (0, 0) _ M4.out Tryz.underlying45 rfl HI.out ?_; clear _t TOK2)
   | (go_at_call 101; refine (back_any m HL.out false HBK.out _).mono ?_; rintro e V5 ⟨rfl, hb⟩; have B5 := Lib.hid (stepB B4.out hb); have M5 := Lib.hid (M4.out.here hb); clear hb))
 have m9 := mc_cell HL.out M5.out (i := 9) (by omega)
 go_upto_region 8 with (first
   | (go_at_call 60; refine (find_any (fld m 9) _ (HM.out.step B5.out) HLL.out z HZ.out _ rfl).mono ?_; rintro e V6 ⟨s, rfl, ht, hb⟩; have T6 := Lib.hid ht; have C6 := Lib.hid hb; clear ht hb)
   | (refine wpList_store_mid (by rfl) 62 (.tmp 9) (.tmp 47) (by rfl) V6.heap.size 0 (trc z s) (by rfl) (by rfl) ((show Blk (V6.alloc (.cells zTr 62)) V6.heap.size 62 (trc noTr noSl) from Blk.new V6 _ _).there (Nat.le_refl 13)) (tr_info _ _) (T6.out.step C6.out).one ?_
      have XZ := Lib.hid (show Blk ((V6.alloc (.cells zTr 62)).setCells V6.heap.size 0 (trc z s).toList) V6.heap.size 62 (trc z s) from (show Blk (V6.alloc (.cells zTr 62)) V6.heap.size 62 (trc noTr noSl) from Blk.new V6 _ _).put _ rfl)
      have EA := Lib.hid (show Below V6.heap.size V6 ((V6.alloc (.cells zTr 62)).setCells V6.heap.size 0 (trc z s).toList) from Below.setCells (b := V6.heap.size) (Nat.le_refl _) (trc z s).toList 0 _ (Joins.below_alloc1 V6 (.cells zTr 62)))
      have B7 := Lib.hid (stepB (stepB B5.out C6.out) EA.out)
      have M7 := Lib.hid ((M5.out.here C6.out).here EA.out)
      generalize (V6.alloc (.cells zTr 62)).setCells V6.heap.size 0 (trc z s).toList = V7 at XZ EA B7 M7 ⊢
      generalize V6.heap.size = bt at XZ EA ⊢))
 have HB7 := Lib.hid B7.out.size
 clear m9
 have z4 : V7.cell? ⟨bt, 4, none⟩ = some (.bool true) := by rw [← HOP.out]; exact XZ.out.cell 4
 have z3 : V7.cell? ⟨bt, 3, none⟩ = some (.int .i64 z.sq) := XZ.out.cell 3
 have z5 : V7.cell? ⟨bt, 5, none⟩ = some (.int .i64 z.sh) := XZ.out.cell 5
 have m10 : V7.cell? ⟨bm, 10, none⟩ = some (.int .i64 0) := by rw [← H10.out]; exact mc_cell HL.out M7.out (i := 10) (by omega)
 generalize z.sq = sq at z3
 go_wp2_with (first
   | (have _t := TOK3; refine wpList_load_row_g (by rfl) 45 (.tmp 3) rfl bm rfl 45 (mc m) (0, 0) _ M7.out Tryz.underlying45 rfl HI.out ?_; clear _t TOK3)
   | (go_at_call 103; refine (onward_err z.sh m HL.out HP.out _ q HQ.out HPQ.out).mono ?_; rintro e V8 ⟨rfl, hb⟩; have B8 := Lib.hid (stepB B7.out hb); clear hb)
   | (refine wpList_store_mid (by rfl) 45 (.tmp 11) (.tmp 69) (by rfl) V8.heap.size 0 (mc zM) (by rfl) (by rfl) (mc_there zM_length zM_length (show Blk (V8.alloc (.cells zMs 45)) V8.heap.size 45 (mc zM) from Blk.new V8 _ _)) HIZ.out BZ.out ?_
      have X9 := Lib.hid (mc_put zM_length zM_length (show Blk (V8.alloc (.cells zMs 45)) V8.heap.size 45 (mc zM) from Blk.new V8 _ _))
      have B9 := Lib.hid (stepB B8.out (show Below V8.heap.size V8 ((V8.alloc (.cells zMs 45)).setCells V8.heap.size 0 (mc zM).toList) from Below.setCells (b := V8.heap.size) (Nat.le_refl _) _ 0 _ (Joins.below_alloc1 V8 (.cells zMs 45))))
      generalize (V8.alloc (.cells zMs 45)).setCells V8.heap.size 0 (mc zM).toList = V9 at X9 B9 ⊢
      generalize V8.heap.size = bq at X9 ⊢)
   | fail)
 go_ret
 exact ⟨rfl, B9.out⟩
set_option maxRecDepth 100000 in
set_option maxHeartbeats 3000000 in
theorem probed_nos (m : List Int) (w : World) (h : CoM w g n c P) (hm : m.length = 28) (hpb : c.cf.pb = true) (h8 : n ≤ 8) (hl : P.L.length ≤ 1000) (hok : ∀ k : Nat, k < n → nowL n c.cl ((k : Int) + 1) = 0 ∨ ∃ i : Nat, i < P.L.length ∧ nowL n c.cl ((k : Int) + 1) = (i : Int) + 1) (hlv : liveL m (openC c n n) = true) (hbk : backL m = false) (z : Tr) (hz : eL c.txs (fld m 9) = z) (hop : z.op = true) (h10 : fld m 10 ≠ 0) (hsq : fld m 10 = z.sq) (hp : isP m = true) (q : List Int) (hqq : onwL z.sh m = q) (hpq : isP q = false) :
   Calls Tryz.prog 59 #[.pointer (some ⟨g, 0, none⟩), .agg (mc m)] w fun e w' => e = .returned (.slice none 0 0) ∧ Below w.heap.size w w' := by
 have hn0 := fun W => run_neq_nil_nil (P := Tryz.prog) W 28 Tryz.underlying28
 have HM := Lib.hid h
 have HL := Lib.hid hm
 have HI := Lib.hid (mc_info hm)
 have TOK := Lib.hid True.intro
 have M1 := Lib.hid (show Blk (w.alloc (.cells (mc m) 45)) w.heap.size 45 (mc m) from Blk.new w _ _)
 have B1 := Lib.hid (Joins.below_alloc1 w (.cells (mc m) 45))
 have HBK := Lib.hid hbk
 have HZ := Lib.hid hz
 clear hbk hz
 have d1 : (z.sq != 0) = true := by rw [← hsq]; simp [h10]
 have d2 : (z.sq != z.sq) = false := by simp
 have H10 := Lib.hid hsq
 clear h10 hsq
 have HOP := Lib.hid hop
 have HP := Lib.hid hp
 have HQ := Lib.hid hqq
 have HPQ := Lib.hid hpq
 have HLQ := Lib.hid (show q.length = 28 from by rw [← hqq]; exact onwL_len hm)
 have HIQ := Lib.hid (mc_info HLQ.out)
 have HIZ := Lib.hid (mc_info zM_length)
 have BQ := Lib.hid (ints_oneCell q)
 have BZ := Lib.hid (ints_oneCell zM)
 have HQ1 := Lib.hid (show ∀ m ∈ [q], m.length = 28 from fun m hm => by rw [List.mem_singleton.1 hm]; exact HLQ.out)
 clear hop hp hqq hpq
 have HPB := Lib.hid hpb
 have HLL := Lib.hid hl
 obtain ⟨os, hos⟩ : ∃ os, openC c n n = os := ⟨_, rfl⟩
 obtain ⟨k0, hk0⟩ : ∃ k, os.length = k := ⟨_, rfl⟩
 have HOC := Lib.hid (fun W (hW : CoM W g n c P) => show Calls Tryz.prog 100 #[.pointer (some ⟨g, 0, none⟩)] W fun e w' => ∃ A c', e = .returned (.slice A k0 c') ∧ Reads w' w'.heap.size 2 A k0 (ints os.flatten) ∧ Below W.heap.size W w' from by
   refine (open_any W hW h8 hl hok).mono ?_
   rintro e w' ⟨u, rfl, hu, hb⟩
   rw [hos, hk0] at hu
   obtain ⟨A, c', e1, hr, _, _⟩ := own_rd hu
   exact ⟨A, c', by rw [e1], hr, hb⟩)
 have HO2 := Lib.hid (show ∀ o ∈ os, o.length = 2 from by rw [← hos]; exact openC_2)
 have HK8 := Lib.hid (show k0 ≤ 1000 from by have := openC_len (c := c) (n := n) n; rw [hos] at this; omega)
 have HK0 := Lib.hid hk0
 rw [hos] at hlv
 have HLV := Lib.hid hlv
 clear hpb hl hok hos hk0 h8 hlv
 clear h hm
 go_enter Tryz.func59, Tryz.ntmps59
 go_upto_region 1 with fail
 generalize w.heap.size = bm at M1 ⊢
 generalize w.alloc (.cells (mc m) 45) = V at M1 B1 ⊢
 have KQ := Lib.hid (show ∀ Y, Below V.heap.size V Y → (Y.cell? ⟨g, 1, none⟩ = some (.bool true) ∧ Blk Y bm 45 (mc m)) from fun Y hy =>
   ⟨by rw [← HPB.out]; exact ((HM.out.step B1.out).step hy).box.cell 1, M1.out.here hy⟩)
 refine wp_region_held_drew (S := fun w' => w'.cell? ⟨g, 1, none⟩ = some (.bool true) ∧ Blk w' bm 45 (mc m)) (by kernel_rfl) (KQ.out _ (Below.refl _ _).drew) (fun hHeld => ?_)
 have BD := Lib.hid (show Below V.heap.size V V.drew from (Below.refl _ _).drew)
 generalize V.drew = V2 at BD hHeld ⊢
 refine wpAnyH_take (i := 0) (v := ?_) rfl (by kernel_rfl) (by kernel_rfl) (by kernel_rfl) (fun _ _ _ h => h) (Or.inl ⟨by rfl, ?_⟩) (by assumption) ?_
 rotate_left
 · (intro w0 hSw; (try dsimp only at hSw); go_simp; try with_reducible rfl)
 try simp only [List.getElem_toArray, List.getElem_cons_succ, List.getElem_cons_zero, Act.put, List.setIfInBounds_toArray, List.set_cons_zero, List.set_cons_succ]
 refine wpAnyH_take (i := 1) (v := ?_) rfl (by kernel_rfl) (by kernel_rfl) (by kernel_rfl) (fun _ _ _ h => h) (Or.inl ⟨by rfl, ?_⟩) (by assumption) ?_
 rotate_left
 · (intro w0 hSw; (try dsimp only at hSw); go_simp; try with_reducible rfl)
 try simp only [List.getElem_toArray, List.getElem_cons_succ, List.getElem_cons_zero, Act.put, List.setIfInBounds_toArray, List.set_cons_zero, List.set_cons_succ]
 refine wpAnyH_take (i := 2) (v := ?_) rfl (by kernel_rfl) (by kernel_rfl) (by kernel_rfl) (fun _ _ _ h => h) (Or.inl ⟨by rfl, ?_⟩) (by assumption) ?_
 rotate_left
 · (intro w0 hSw; (try dsimp only at hSw); go_simp; try with_reducible rfl)
 try simp only [List.getElem_toArray, List.getElem_cons_succ, List.getElem_cons_zero, Act.put, List.setIfInBounds_toArray, List.set_cons_zero, List.set_cons_succ]
 refine wpAnyH_take (i := 3) (v := ?_) rfl (by kernel_rfl) (by kernel_rfl) (by kernel_rfl) (fun _ _ _ h => h) (Or.inl ⟨by rfl, ?_⟩) (by assumption) ?_
 rotate_left
 · (intro w0 hSw; (try dsimp only at hSw); go_simp; try with_reducible rfl)
 try simp only [List.getElem_toArray, List.getElem_cons_succ, List.getElem_cons_zero, Act.put, List.setIfInBounds_toArray, List.set_cons_zero, List.set_cons_succ]
 refine wpAnyH_take (i := 4) (v := ?_) rfl (by kernel_rfl) (by kernel_rfl) (by kernel_rfl) (fun _ _ _ h => h) (Or.inl ⟨by rfl, ?_⟩) (by assumption) ?_
 rotate_left
 · (intro w0 hSw; (try dsimp only at hSw); go_simp; try with_reducible rfl)
 try simp only [List.getElem_toArray, List.getElem_cons_succ, List.getElem_cons_zero, Act.put, List.setIfInBounds_toArray, List.set_cons_zero, List.set_cons_succ]
 refine wpAnyH_take (i := 5) (v := ?_) rfl (by kernel_rfl) (by kernel_rfl) (by kernel_rfl) (fun _ _ _ h => h) (Or.inl ⟨by rfl, ?_⟩) (by assumption) ?_
 rotate_left
 · (intro w0 hSw; (try dsimp only at hSw); go_simp; try with_reducible rfl)
 try simp only [List.getElem_toArray, List.getElem_cons_succ, List.getElem_cons_zero, Act.put, List.setIfInBounds_toArray, List.set_cons_zero, List.set_cons_succ]
 refine wpAnyH_take (i := 6) (v := ?_) rfl (by kernel_rfl) (by kernel_rfl) (by kernel_rfl) (fun _ _ _ h => h) (Or.inl ⟨by rfl, ?_⟩) (by assumption) ?_
 rotate_left
 · (intro w0 hSw; (try dsimp only at hSw); go_simp; try with_reducible rfl)
 try simp only [List.getElem_toArray, List.getElem_cons_succ, List.getElem_cons_zero, Act.put, List.setIfInBounds_toArray, List.set_cons_zero, List.set_cons_succ]
 refine wpAnyH_take (i := 7) (v := .agg (mc m)) rfl (by kernel_rfl) (by kernel_rfl) (by kernel_rfl) (fun _ _ _ h => h) (Or.inl ⟨by rfl, fun w0 hSw => exec_load (x := .tmp 3) rfl rfl (loadM HL.out hSw.2)⟩) (by assumption) ?_
 try simp only [List.getElem_toArray, List.getElem_cons_succ, List.getElem_cons_zero, Act.put, List.setIfInBounds_toArray, List.set_cons_zero, List.set_cons_succ]
 refine wpAnyH_take (i := 8) (v := ?_) rfl (by kernel_rfl) (by kernel_rfl) (by kernel_rfl) (fun _ _ _ h => h) (Or.inl ⟨by rfl, ?_⟩) (by assumption) ?_
 rotate_left
 · (intro w0 hSw; (try dsimp only at hSw); go_simp; try with_reducible rfl)
 try simp only [List.getElem_toArray, List.getElem_cons_succ, List.getElem_cons_zero, Act.put, List.setIfInBounds_toArray, List.set_cons_zero, List.set_cons_succ]
 refine wpAnyH_ready (rs := [9]) (by kernel_rfl) (by simp) ?_
 refine AllReadyH.cons rfl (fun K hK => ?_) AllReadyH.nil
 go_simp
 refine (HOC.out _ ((HM.out.step B1.out).step BD.out)).mono ?_
 rintro e V3 ⟨A3, c3', rfl, rd3, hb⟩
 have R3 := Lib.hid rd3
 try go_simp
 have BE := Lib.hid (stepB BD.out hb)
 clear rd3 hb
 refine hK.out _ _ (KQ.out _ BE.out) (fun hHeld => ?_)
 clear hK K
 refine wpAnyH_ready (rs := [10]) (by kernel_rfl) (by simp) ?_
 refine AllReadyH.cons rfl (fun K hK => ?_) AllReadyH.nil
 go_simp
 refine (live_any m HL.out A3 k0 c3' os _ R3.out HO2.out HK0.out HK8.out true HLV.out).mono ?_
 rintro e V4 ⟨rfl, hb⟩
 try go_simp
 have BF := Lib.hid (stepB BE.out hb)
 clear hb
 refine hK.out _ _ (KQ.out _ BF.out) (fun hHeld => ?_)
 clear hK K
 refine wpAnyH_take (i := 11) (v := ?_) rfl (by kernel_rfl) (by kernel_rfl) (by kernel_rfl) (fun _ _ _ h => h) (Or.inl ⟨by rfl, ?_⟩) (by assumption) ?_
 rotate_left
 · (intro w0 hSw; (try dsimp only at hSw); go_simp; try with_reducible rfl)
 try simp only [List.getElem_toArray, List.getElem_cons_succ, List.getElem_cons_zero, Act.put, List.setIfInBounds_toArray, List.set_cons_zero, List.set_cons_succ]
 refine wpAnyH_take (i := 12) (v := ?_) rfl (by kernel_rfl) (by kernel_rfl) (by kernel_rfl) (fun _ _ _ h => h) (Or.inl ⟨by rfl, ?_⟩) (by assumption) ?_
 rotate_left
 · (intro w0 hSw; (try dsimp only at hSw); go_simp; try with_reducible rfl)
 try simp only [List.getElem_toArray, List.getElem_cons_succ, List.getElem_cons_zero, Act.put, List.setIfInBounds_toArray, List.set_cons_zero, List.set_cons_succ]
 refine wpAnyH_done (by kernel_rfl) ?_ _
 clear hHeld KQ
 have B4 := Lib.hid (stepB B1.out BF.out)
 have M4 := Lib.hid (M1.out.here BF.out)
 clear BD BE BF R3 M1
 have HB4 := Lib.hid B4.out.size
 have H4 := Lib.hid (HM.out.step B4.out)
 have TOK2 := Lib.hid True.intro
 have TOK3 := Lib.hid True.intro
 go_upto_region 7 with (first
   | (have _t := TOK2; refine wpList_load_row_g (by rfl) 45 (.tmp 3) rfl bm rfl 45 (mc m) (0, 0) _ M4.out Tryz.underlying45 rfl HI.out ?_; clear _t TOK2)
   | (go_at_call 101; refine (back_any m HL.out false HBK.out _).mono ?_; rintro e V5 ⟨rfl, hb⟩; have B5 := Lib.hid (stepB B4.out hb); have M5 := Lib.hid (M4.out.here hb); clear hb))
 have m9 := mc_cell HL.out M5.out (i := 9) (by omega)
 go_upto_region 8 with (first
   | (go_at_call 60; refine (find_any (fld m 9) _ (HM.out.step B5.out) HLL.out z HZ.out _ rfl).mono ?_; rintro e V6 ⟨s, rfl, ht, hb⟩; have T6 := Lib.hid ht; have C6 := Lib.hid hb; clear ht hb)
   | (refine wpList_store_mid (by rfl) 62 (.tmp 9) (.tmp 47) (by rfl) V6.heap.size 0 (trc z s) (by rfl) (by rfl) ((show Blk (V6.alloc (.cells zTr 62)) V6.heap.size 62 (trc noTr noSl) from Blk.new V6 _ _).there (Nat.le_refl 13)) (tr_info _ _) (T6.out.step C6.out).one ?_
      have XZ := Lib.hid (show Blk ((V6.alloc (.cells zTr 62)).setCells V6.heap.size 0 (trc z s).toList) V6.heap.size 62 (trc z s) from (show Blk (V6.alloc (.cells zTr 62)) V6.heap.size 62 (trc noTr noSl) from Blk.new V6 _ _).put _ rfl)
      have EA := Lib.hid (show Below V6.heap.size V6 ((V6.alloc (.cells zTr 62)).setCells V6.heap.size 0 (trc z s).toList) from Below.setCells (b := V6.heap.size) (Nat.le_refl _) (trc z s).toList 0 _ (Joins.below_alloc1 V6 (.cells zTr 62)))
      have B7 := Lib.hid (stepB (stepB B5.out C6.out) EA.out)
      have M7 := Lib.hid ((M5.out.here C6.out).here EA.out)
      generalize (V6.alloc (.cells zTr 62)).setCells V6.heap.size 0 (trc z s).toList = V7 at XZ EA B7 M7 ⊢
      generalize V6.heap.size = bt at XZ EA ⊢))
 have HB7 := Lib.hid B7.out.size
 clear m9
 have z4 : V7.cell? ⟨bt, 4, none⟩ = some (.bool true) := by rw [← HOP.out]; exact XZ.out.cell 4
 have z3 : V7.cell? ⟨bt, 3, none⟩ = some (.int .i64 z.sq) := XZ.out.cell 3
 have z5 : V7.cell? ⟨bt, 5, none⟩ = some (.int .i64 z.sh) := XZ.out.cell 5
 have m10 : V7.cell? ⟨bm, 10, none⟩ = some (.int .i64 z.sq) := by rw [← H10.out]; exact mc_cell HL.out M7.out (i := 10) (by omega)
 generalize z.sq = sq at z3 m10 d1 d2
 go_wp2_with (first
   | (have _t := TOK3; refine wpList_load_row_g (by rfl) 45 (.tmp 3) rfl bm rfl 45 (mc m) (0, 0) _ M7.out Tryz.underlying45 rfl HI.out ?_; clear _t TOK3)
   | (go_at_call 103; refine (onward_err z.sh m HL.out HP.out _ q HQ.out HPQ.out).mono ?_; rintro e V8 ⟨rfl, hb⟩; have B8 := Lib.hid (stepB B7.out hb); clear hb)
   | (refine wpList_store_mid (by rfl) 45 (.tmp 11) (.tmp 69) (by rfl) V8.heap.size 0 (mc zM) (by rfl) (by rfl) (mc_there zM_length zM_length (show Blk (V8.alloc (.cells zMs 45)) V8.heap.size 45 (mc zM) from Blk.new V8 _ _)) HIZ.out BZ.out ?_
      have X9 := Lib.hid (mc_put zM_length zM_length (show Blk (V8.alloc (.cells zMs 45)) V8.heap.size 45 (mc zM) from Blk.new V8 _ _))
      have B9 := Lib.hid (stepB B8.out (show Below V8.heap.size V8 ((V8.alloc (.cells zMs 45)).setCells V8.heap.size 0 (mc zM).toList) from Below.setCells (b := V8.heap.size) (Nat.le_refl _) _ 0 _ (Joins.below_alloc1 V8 (.cells zMs 45))))
      generalize (V8.alloc (.cells zMs 45)).setCells V8.heap.size 0 (mc zM).toList = V9 at X9 B9 ⊢
      generalize V8.heap.size = bq at X9 ⊢)
   | fail)
 go_ret
 exact ⟨rfl, B9.out⟩
end
end Go.Proofs.YtadnlannbafjpaaGreat
