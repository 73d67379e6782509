/- The walk of TxnActs. -/
import Derived.Test.YthfhhapefjideaaGreatTxRm
import Derived.Test.YthfhhapefjideaaGreatTxU
namespace Go.Proofs.YthfhhapefjideaaGreat
open Go.RowKit
set_option linter.unusedVariables false
set_option linter.unusedSimpArgs false

theorem goOnL_28 (x : Tr) : ∀ q ∈ (goOnL x).2, q.length = 28 := by
  intro q hq
  unfold goOnL at hq
  split at hq
  · obtain ⟨t, _, rfl⟩ := List.mem_map.1 hq; rfl
  · split at hq
    · cases hq
    · obtain ⟨t, _, rfl⟩ := List.mem_map.1 hq; rfl
theorem goOnL_few (x : Tr) : (goOnL x).2.length ≤ x.tch.length := by
  unfold goOnL
  split
  · simp
  · split
    · simp
    · simp
theorem abtL_28 (x : Tr) (r : Int) : ∀ q ∈ (abtL x r).2.1, q.length = 28 := by
  intro q hq
  unfold abtL at hq
  split at hq
  · cases hq
  · split at hq
    · cases hq
    · obtain ⟨t, _, rfl⟩ := List.mem_map.1 hq; rfl
theorem abtL_few (x : Tr) (r : Int) : (abtL x r).2.1.length ≤ x.tch.length := by
  unfold abtL
  split
  · simp
  · split
    · simp
    · simp
theorem actL_28 (x : Tr) (a : List Int) : ∀ q ∈ (actL x a).2.1, q.length = 28 := by
  unfold actL
  split
  · intro q hq
    unfold askL at hq
    split at hq; cases hq
    split at hq; cases hq
    split at hq; cases hq
    split at hq; cases hq
    rw [List.mem_singleton.1 hq]; rfl
  split
  · intro q hq; rw [ansL_nil] at hq; cases hq
  split
  · unfold finL
    split; intro q hq; cases hq
    split; intro q hq; cases hq
    exact goOnL_28 x
  split
  · unfold votL
    split; intro q hq; cases hq
    split; intro q hq; cases hq
    split; intro q hq; cases hq
    split; exact abtL_28 x 2
    exact goOnL_28 _
  split
  · exact abtL_28 x _
  split
  · intro q hq; rw [ackL_nil] at hq; cases hq
  intro q hq; cases hq
theorem act_few64 {x : Tr} (h : x.tch.length ≤ 64) (a : List Int) : (actL x a).2.1.length ≤ 64 := by
  unfold actL
  split
  · unfold askL
    split; exact Nat.zero_le _
    split; exact Nat.zero_le _
    split; exact Nat.zero_le _
    split; exact Nat.zero_le _
    show 1 ≤ 64
    omega
  split
  · rw [ansL_nil]; exact Nat.zero_le _
  split
  · unfold finL
    split; exact Nat.zero_le _
    split; exact Nat.zero_le _
    exact Nat.le_trans (goOnL_few x) h
  split
  · unfold votL
    split; exact Nat.zero_le _
    split; exact Nat.zero_le _
    split; exact Nat.zero_le _
    split; exact Nat.le_trans (abtL_few x 2) h
    exact Nat.le_trans (goOnL_few _) h
  split
  · exact Nat.le_trans (abtL_few x _) h
  split
  · rw [ackL_nil]; exact Nat.zero_le _
  exact Nat.zero_le _
theorem again_28 (x : Tr) (al : Bool) : ∀ q ∈ againL x al, q.length = 28 := by
  intro q hq
  unfold againL at hq
  split at hq
  · rcases List.mem_append.1 hq with hq | hq
    · split at hq
      · rw [List.mem_singleton.1 hq]; rfl
      · cases hq
    · split at hq
      · obtain ⟨t, _, rfl⟩ := List.mem_map.1 hq; rfl
      · cases hq
  · split at hq
    · obtain ⟨t, _, rfl⟩ := List.mem_map.1 hq; rfl
    · split at hq
      · obtain ⟨t, _, rfl⟩ := List.mem_map.1 hq; rfl
      · cases hq
theorem again_few65 {x : Tr} (h : x.tch.length ≤ 64) (al : Bool) : (againL x al).length ≤ 65 := by
  have hw : ∀ o : List Int, (withoutL x.tch o).length ≤ 64 := fun o => Nat.le_trans (List.length_filter_le _ _) h
  unfold againL
  split
  · rw [List.length_append]
    have h1 : (if x.op = true then [lockL x x.sh] else []).length ≤ 1 := by split <;> simp
    have h2 : (if al = true then x.tch.map (newsL x) else []).length ≤ 64 := by split <;> simp <;> omega
    omega
  · split
    · rw [List.length_map]; have := hw x.vts; omega
    · split
      · rw [List.length_map]; have := hw x.acks; omega
      · simp
set_option maxRecDepth 100000 in
set_option maxHeartbeats 64000000 in
theorem txnActs_walk (tx : Int) (A : Option Addr) (n c : Nat) (l : List (List Int)) (lv : Bool) (w : World) (hl : l.length = n) (ha : ∀ x ∈ l, x.length = 33) (hr : Reads w w.heap.size 33 A n (ints l.flatten)) :
    Calls Tryz.prog 3 #[.int .i64 tx, .slice A n c, .bool lv] w fun e w' => e = .returned (.bool true) ∧ Below w.heap.size w w' := by
  have hen := fun W => run_eql_nil_nil (P := Tryz.prog) W 32 Tryz.underlying32
  have H := Lib.hid hr
  have HL := Lib.hid hl
  have HA := Lib.hid ha
  clear hr hl ha
  by_cases hn : 100 < n
  · have d0 : decide ((100 : Int) < (n : Int)) = true := by simp; omega
    go_enter Tryz.func3, Tryz.ntmps3
    go_wp2_with (go_at_call 4; refine (txnAlive _).mono ?_; rintro e w0 ⟨rfl, hb0⟩; have B0 := Lib.hid hb0; clear hb0)
    go_ret
    exact ⟨rfl, B0.out⟩
  have d0 : decide ((100 : Int) < (n : Int)) = false := by simp; omega
  by_cases h1 : tx < 1
  · have HTX := Lib.hid h1
    have d1 : decide (tx < 1) = true := by simpa using h1
    clear h1
    go_enter Tryz.func3, Tryz.ntmps3
    go_upto_region 6 with (first
      | (go_at_call 4; refine (txnAlive _).mono ?_; rintro e w0 ⟨rfl, hb0⟩; have B0 := Lib.hid hb0; clear hb0)
      | (go_at_call 5; refine (new_bad tx (by have := HTX.out; omega) _).mono ?_; rintro e W1 ⟨rfl, hb⟩; have B1 := Lib.hid (stepB B0.out hb); clear hb)
      | (refine wpList_store_mid (by rfl) 30 (.tmp 7) (.tmp 25) (by rfl) W1.heap.size 0 (trc noTr noSl) (by rfl) (by rfl) ((show Blk (W1.alloc (.cells zTr 30)) W1.heap.size 30 (trc noTr noSl) from Blk.new W1 _ _).there (Nat.le_refl 13)) (tr_info _ _) (tr_one _ _ rfl rfl rfl rfl) ?_
         have XA := Lib.hid (show Blk ((W1.alloc (.cells zTr 30)).setCells W1.heap.size 0 (trc noTr noSl).toList) W1.heap.size 30 (trc noTr noSl) from (show Blk (W1.alloc (.cells zTr 30)) W1.heap.size 30 (trc noTr noSl) from Blk.new W1 _ _).put _ rfl)
         have EA := Lib.hid (show Below W1.heap.size W1 ((W1.alloc (.cells zTr 30)).setCells W1.heap.size 0 (trc noTr noSl).toList) from Below.setCells (b := W1.heap.size) (Nat.le_refl _) (trc noTr noSl).toList 0 _ (Joins.below_alloc1 W1 (.cells zTr 30)))
         have SA := Lib.hid (stepB B1.out EA.out)
         have GA := Lib.hid B1.out.size
         generalize (W1.alloc (.cells zTr 30)).setCells W1.heap.size 0 (trc noTr noSl).toList = WVA at XA EA SA ⊢
         generalize hggA : W1.heap.size = gA at XA GA ⊢))
    have e1 : (errno 1 : Value) = errV 1 := rfl
    have HNS := Lib.hid (show Short noTr from ⟨Nat.zero_le _, Nat.zero_le _, Nat.zero_le _, Nat.zero_le _, fun _ h => by cases h⟩)
    have TA := Lib.hid (Tm.no WVA 0)
    go_upto_region 7 with fail
    go_wp2_with (first
      | (go_at_call 6; refine (code_errV 1 (.inr rfl) _).mono ?_; rintro e w' ⟨rfl, rfl⟩)
      | (refine wpList_load_row_g (by rfl) 30 (.tmp 7) rfl gA rfl 30 (trc noTr noSl) (0, 0) _ XA.out Tryz.underlying30 rfl (tr_info _ _) ?_)
      | (go_at_call 8; refine (plain_any noTr noSl _ TA.out).mono ?_; rintro e W3 ⟨rfl, hb⟩; have B3 := Lib.hid (stepB SA.out hb); clear hb)
      | (go_at_call 7; refine (same_any noTr noSl noSl _ (Tm.no _ 0) (Tm.no _ 0) HNS.out).mono ?_; rintro e W4 ⟨rfl, hb⟩; have B4 := Lib.hid (stepB B3.out hb); clear hb))
    go_ret
    exact ⟨rfl, B4.out⟩
  by_cases h2 : 1048576 < tx
  · have HTX := Lib.hid h2
    have d1 : decide (tx < 1) = false := by simpa using h1
    have d2 : decide (1048576 < tx) = true := by simpa using h2
    clear h1 h2
    go_enter Tryz.func3, Tryz.ntmps3
    go_upto_region 6 with (first
      | (go_at_call 4; refine (txnAlive _).mono ?_; rintro e w0 ⟨rfl, hb0⟩; have B0 := Lib.hid hb0; clear hb0)
      | (go_at_call 5; refine (new_bad tx (by have := HTX.out; omega) _).mono ?_; rintro e W1 ⟨rfl, hb⟩; have B1 := Lib.hid (stepB B0.out hb); clear hb)
      | (refine wpList_store_mid (by rfl) 30 (.tmp 7) (.tmp 25) (by rfl) W1.heap.size 0 (trc noTr noSl) (by rfl) (by rfl) ((show Blk (W1.alloc (.cells zTr 30)) W1.heap.size 30 (trc noTr noSl) from Blk.new W1 _ _).there (Nat.le_refl 13)) (tr_info _ _) (tr_one _ _ rfl rfl rfl rfl) ?_
         have XA := Lib.hid (show Blk ((W1.alloc (.cells zTr 30)).setCells W1.heap.size 0 (trc noTr noSl).toList) W1.heap.size 30 (trc noTr noSl) from (show Blk (W1.alloc (.cells zTr 30)) W1.heap.size 30 (trc noTr noSl) from Blk.new W1 _ _).put _ rfl)
         have EA := Lib.hid (show Below W1.heap.size W1 ((W1.alloc (.cells zTr 30)).setCells W1.heap.size 0 (trc noTr noSl).toList) from Below.setCells (b := W1.heap.size) (Nat.le_refl _) (trc noTr noSl).toList 0 _ (Joins.below_alloc1 W1 (.cells zTr 30)))
         have SA := Lib.hid (stepB B1.out EA.out)
         have GA := Lib.hid B1.out.size
         generalize (W1.alloc (.cells zTr 30)).setCells W1.heap.size 0 (trc noTr noSl).toList = WVA at XA EA SA ⊢
         generalize hggA : W1.heap.size = gA at XA GA ⊢))
    have e1 : (errno 1 : Value) = errV 1 := rfl
    have HNS := Lib.hid (show Short noTr from ⟨Nat.zero_le _, Nat.zero_le _, Nat.zero_le _, Nat.zero_le _, fun _ h => by cases h⟩)
    have TA := Lib.hid (Tm.no WVA 0)
    go_upto_region 7 with fail
    go_wp2_with (first
      | (go_at_call 6; refine (code_errV 1 (.inr rfl) _).mono ?_; rintro e w' ⟨rfl, rfl⟩)
      | (refine wpList_load_row_g (by rfl) 30 (.tmp 7) rfl gA rfl 30 (trc noTr noSl) (0, 0) _ XA.out Tryz.underlying30 rfl (tr_info _ _) ?_)
      | (go_at_call 8; refine (plain_any noTr noSl _ TA.out).mono ?_; rintro e W3 ⟨rfl, hb⟩; have B3 := Lib.hid (stepB SA.out hb); clear hb)
      | (go_at_call 7; refine (same_any noTr noSl noSl _ (Tm.no _ 0) (Tm.no _ 0) HNS.out).mono ?_; rintro e W4 ⟨rfl, hb⟩; have B4 := Lib.hid (stepB B3.out hb); clear hb))
    go_ret
    exact ⟨rfl, B4.out⟩
  have HTX := Lib.hid (show 1 ≤ tx ∧ tx ≤ 1048576 from ⟨by omega, by omega⟩)
  have d1 : decide (tx < 1) = false := by simpa using h1
  have d2 : decide (1048576 < tx) = false := by simpa using h2
  clear h1 h2
  go_enter Tryz.func3, Tryz.ntmps3
  go_upto_region 6 with (first
    | (go_at_call 4; refine (txnAlive _).mono ?_; rintro e w0 ⟨rfl, hb0⟩; have B0 := Lib.hid hb0; clear hb0)
    | (go_at_call 5; refine (new_ok tx HTX.out.1 HTX.out.2 _).mono ?_; rintro e W1 ⟨rfl, hb⟩; have B1 := Lib.hid (stepB B0.out hb); clear hb)
    | (refine wpList_store_mid (by rfl) 30 (.tmp 7) (.tmp 25) (by rfl) W1.heap.size 0 (trc (newL tx) noSl) (by rfl) (by rfl) ((show Blk (W1.alloc (.cells zTr 30)) W1.heap.size 30 (trc noTr noSl) from Blk.new W1 _ _).there (Nat.le_refl 13)) (tr_info _ _) (tr_one _ _ rfl rfl rfl rfl) ?_
       have XA := Lib.hid (show Blk ((W1.alloc (.cells zTr 30)).setCells W1.heap.size 0 (trc (newL tx) noSl).toList) W1.heap.size 30 (trc (newL tx) noSl) from (show Blk (W1.alloc (.cells zTr 30)) W1.heap.size 30 (trc noTr noSl) from Blk.new W1 _ _).put _ rfl)
       have EA := Lib.hid (show Below W1.heap.size W1 ((W1.alloc (.cells zTr 30)).setCells W1.heap.size 0 (trc (newL tx) noSl).toList) from Below.setCells (b := W1.heap.size) (Nat.le_refl _) (trc (newL tx) noSl).toList 0 _ (Joins.below_alloc1 W1 (.cells zTr 30)))
       have SA := Lib.hid (stepB B1.out EA.out)
       have GA := Lib.hid B1.out.size
       generalize (W1.alloc (.cells zTr 30)).setCells W1.heap.size 0 (trc (newL tx) noSl).toList = WVA at XA EA SA ⊢
       generalize hggA : W1.heap.size = gA at XA GA ⊢))
  go_upto_region 9 with (first
    | (refine wpList_store_mid (by rfl) 37 (.tmp 9) (.tmp 43) (by rfl) WVA.heap.size 0 (trc (newL tx) noSl) (by rfl) (by rfl) ((show Blk (WVA.alloc (.cells zTr 37)) WVA.heap.size 37 (trc noTr noSl) from Blk.new WVA _ _).there (Nat.le_refl 13)) (tr_infoR _ _) (tr_one _ _ rfl rfl rfl rfl) ?_
       have XB := Lib.hid (show Blk ((WVA.alloc (.cells zTr 37)).setCells WVA.heap.size 0 (trc (newL tx) noSl).toList) WVA.heap.size 37 (trc (newL tx) noSl) from (show Blk (WVA.alloc (.cells zTr 37)) WVA.heap.size 37 (trc noTr noSl) from Blk.new WVA _ _).put _ rfl)
       have EB := Lib.hid (show Below WVA.heap.size WVA ((WVA.alloc (.cells zTr 37)).setCells WVA.heap.size 0 (trc (newL tx) noSl).toList) from Below.setCells (b := WVA.heap.size) (Nat.le_refl _) (trc (newL tx) noSl).toList 0 _ (Joins.below_alloc1 WVA (.cells zTr 37)))
       have SB := Lib.hid (stepB SA.out EB.out)
       have GB := Lib.hid SA.out.size
       generalize (WVA.alloc (.cells zTr 37)).setCells WVA.heap.size 0 (trc (newL tx) noSl).toList = WVB at XB EB SB ⊢
       generalize hggB : WVA.heap.size = gB at XB GB ⊢))
  have XA2 := Lib.hid (XA.out.here EB.out)
  have HNE := Lib.hid (show gA < gB from by have := XA.out.lt; omega)
  clear B1 XA EA SA EB hggA hggB
  generalize gA = g at XA2 GA HNE ⊢
  generalize gB = gv at XB GB HNE ⊢
  generalize WVB = WV at XA2 XB SB ⊢
  go_wp2_with fail
  go_loopw [10, 11, 12, 13, 14, 15, 16] (fun i _ _ _ _ _ _ wr => ∃ (m : Nat) (x : Tr) (s s' : Sl), m ≤ n ∧ i = .int .i64 m ∧ TrOk x m ∧ Blk wr g 30 (trc x s) ∧ Blk wr gv 37 (trc x s') ∧ Tm wr 0 x s ∧ Tm wr 0 x s' ∧ Below w.heap.size w wr) (fun i _ _ _ _ _ _ _ => n - (RowKit.intOf i).toNat)
  case atStart => exact ⟨0, newL tx, noSl, noSl, Nat.zero_le _, rfl, TrOk.new HTX.out 0, XA2.out, XB.out, Tm.new WV 0 tx, Tm.new WV 0 tx, SB.out⟩
  case round =>
    rename World => X
    obtain ⟨m, x, s, s', hm, rfl, hok, hblk, hblk', htm, htm', hbel⟩ := hrel
    have OKX := Lib.hid hok
    have XX := Lib.hid hblk
    have XR := Lib.hid hblk'
    have TX := Lib.hid htm
    have TR := Lib.hid htm'
    have BX := Lib.hid hbel
    clear hok hblk hblk' htm htm' hbel XA2 XB SB
    by_cases hmn : m < n
    · have d3 : decide ((m : Int) < (n : Int)) = true := by simp; omega
      obtain ⟨ab, aoff, rfl, hab, ha33, hac⟩ := (H.out.below BX.out).txAct_at HA.out HL.out hmn
      have AC := Lib.hid hac
      have A33 := Lib.hid ha33
      clear hac ha33 hab
      generalize l.getD m [] = a at AC A33
      have HAI := Lib.hid (act_info A33.out)
      obtain ⟨y, ms, cc, hy⟩ : ∃ y ms cc, actL x a = (y, ms, cc) := ⟨_, _, _, rfl⟩
      have HAC := Lib.hid (fun (W : World) (h : Tm W 0 x s) => show Calls Tryz.prog 9 #[.agg (trc x s), .agg (mc a)] W (ActP W (y, ms, cc)) from by rw [← hy]; exact act_any x s a A33.out W h OKX.out (by omega))
      have HWA := Lib.hid (fun (W : World) (h : Tm W 0 x s') => wanted_any x s' a A33.out W h OKX.out (by omega) y ms cc hy)
      have OKY := Lib.hid (show TrOk y (m + 1) from by have := OKX.out.act a; rwa [hy] at this)
      have HMS := Lib.hid (show (∀ q ∈ ms, q.length = 28) ∧ ms.length ≤ 64 from by
        have h1 := actL_28 x a
        have h2 := act_few64 OKX.out.tch.len a
        rw [hy] at h1 h2
        exact ⟨h1, h2⟩)
      clear hy
      have hgl := XX.out.lt
      have hgvl := XR.out.lt
      have HCK := Lib.hid (show ∀ Y, Below X.heap.size X Y → ∀ j v, (ints a)[j]? = some v → Y.cell? ((⟨ab, aoff + m * 33, none⟩ : Addr).add j) = some v from fun Y hy j v hv => (hy.cell (p := (⟨ab, aoff + m * 33, none⟩ : Addr).add j) (by rw [block_of_add]; exact World.block_lt_of_cell? _ _ (AC.out j v hv) |> (by simpa [block_of_add] using ·))).trans (AC.out j v hv))
      go_upto_region 12 with fail
      go_cut [11, 12, 13] from 44 to 109 (fun v1 v2 v3 wx => ∃ (r : Nat) (s2 : Sl) (Au : Option Addr) (cu : Nat), v1 = .pointer (some ⟨r, 0, none⟩) ∧ v2 = .slice Au ms.length cu ∧ v3 = .int .i64 cc ∧ Blk wx r 30 (trc y s2) ∧ Tm wx 0 y s2 ∧ MsgR wx X.heap.size (.slice Au ms.length cu) ms ∧ Below X.heap.size X wx ∧ X.heap.size ≤ r)
      case first =>
        have KP := Lib.hid (show ∀ Y, Below X.heap.size X Y → (Blk Y g 30 (trc x s) ∧ ∀ j v, (ints a)[j]? = some v → Y.cell? ((⟨ab, aoff + m * 33, none⟩ : Addr).add j) = some v) from fun Y hy => ⟨XX.out.here hy, HCK.out Y hy⟩)
        have TXS := TX
        refine wp_region_held_drew (S := fun w' => Blk w' g 30 (trc x s) ∧ ∀ j v, (ints a)[j]? = some v → w'.cell? ((⟨ab, aoff + m * 33, none⟩ : Addr).add j) = some v) (by kernel_rfl) (KP.out _ (Below.refl _ _).drew) (fun hHeld => ?_)
        have BD := Lib.hid (show Below X.heap.size X X.drew from (Below.refl _ _).drew)
        generalize X.drew = X1 at BD hHeld ⊢
        refine wpAnyH_take (i := 0) (v := .agg (trc x s)) rfl (by kernel_rfl) (by kernel_rfl) (by kernel_rfl) (fun _ _ _ h => h) (Or.inl ⟨by rfl, fun w0 hSw => exec_load (x := .tmp 7) rfl rfl (tr_load hSw.1)⟩) (by assumption) ?_
        try simp only [List.getElem_toArray, List.getElem_cons_succ, List.getElem_cons_zero, Act.put, List.setIfInBounds_toArray, List.set_cons_zero, List.set_cons_succ]
        refine wpAnyH_take (i := 1) (v := ?_) rfl (by kernel_rfl) (by kernel_rfl) (by kernel_rfl) (fun _ _ _ h => h) (Or.inl ⟨by rfl, ?_⟩) (by assumption) ?_
        rotate_left
        · (intro w0 hSw; (try dsimp only at hSw); go_simp; try with_reducible rfl)
        try simp only [List.getElem_toArray, List.getElem_cons_succ, List.getElem_cons_zero, Act.put, List.setIfInBounds_toArray, List.set_cons_zero, List.set_cons_succ]
        refine wpAnyH_take (i := 2) (v := ?_) rfl (by kernel_rfl) (by kernel_rfl) (by kernel_rfl) (fun _ _ _ h => h) (Or.inl ⟨by rfl, ?_⟩) (by assumption) ?_
        rotate_left
        · (intro w0 hSw; (try dsimp only at hSw); go_simp; try with_reducible rfl)
        try simp only [List.getElem_toArray, List.getElem_cons_succ, List.getElem_cons_zero, Act.put, List.setIfInBounds_toArray, List.set_cons_zero, List.set_cons_succ]
        refine wpAnyH_take (i := 3) (v := ?_) rfl (by kernel_rfl) (by kernel_rfl) (by kernel_rfl) (fun _ _ _ h => h) (Or.inl ⟨by rfl, ?_⟩) (by assumption) ?_
        rotate_left
        · (intro w0 hSw; (try dsimp only at hSw); go_simp; try with_reducible rfl)
        try simp only [List.getElem_toArray, List.getElem_cons_succ, List.getElem_cons_zero, Act.put, List.setIfInBounds_toArray, List.set_cons_zero, List.set_cons_succ]
        refine wpAnyH_take (i := 4) (v := .agg (mc a)) rfl (by kernel_rfl) (by kernel_rfl) (by kernel_rfl) (fun _ _ _ h => h) (Or.inl ⟨by rfl, fun w0 hSw => exec_load (x := .tmp 54) rfl (ad := ⟨ab, aoff + m * 33, none⟩) rfl (run_loadVar_cells w0 _ _ (ints a) _ hSw.2 Tryz.underlying48 rfl HAI.out)⟩) (by assumption) ?_
        try simp only [List.getElem_toArray, List.getElem_cons_succ, List.getElem_cons_zero, Act.put, List.setIfInBounds_toArray, List.set_cons_zero, List.set_cons_succ]
        refine wpAnyH_ready (rs := [5, 10]) (by kernel_rfl) (by simp) ?_
        refine AllReadyH.cons rfl (fun K hK => ?_) (AllReadyH.cons rfl (fun K hK => ?_) AllReadyH.nil)
        · go_simp
          refine (HAC.out _ (TXS.out.step BD.out)).mono ?_
          rintro e X2 ⟨s2, u, rfl, ht2, hu2, hb2⟩
          try go_simp
          obtain ⟨Au, cu, rfl⟩ := own_len hu2
          have T2 := Lib.hid ht2
          have U2 := Lib.hid (own_less hu2 BD.out.size)
          have E2 := Lib.hid (BD.out.trans (hb2.mono BD.out.size))
          clear ht2 hu2 hb2
          refine hK.out _ _ (KP.out _ E2.out) (fun hHeld => ?_)
          clear hK K
          refine wpAnyH_take (i := 6) (v := ?_) rfl (by kernel_rfl) (by kernel_rfl) (by kernel_rfl) (fun _ _ _ h => h) (Or.inl ⟨by rfl, ?_⟩) (by assumption) ?_
          rotate_left
          · (intro w0 hSw; (try dsimp only at hSw); go_simp; try with_reducible rfl)
          try simp only [List.getElem_toArray, List.getElem_cons_succ, List.getElem_cons_zero, Act.put, List.setIfInBounds_toArray, List.set_cons_zero, List.set_cons_succ]
          refine wpAnyH_take (i := 7) (v := ?_) rfl (by kernel_rfl) (by kernel_rfl) (by kernel_rfl) (fun _ _ _ h => h) (Or.inl ⟨by rfl, ?_⟩) (by assumption) ?_
          rotate_left
          · (intro w0 hSw; (try dsimp only at hSw); go_simp; try with_reducible rfl)
          try simp only [List.getElem_toArray, List.getElem_cons_succ, List.getElem_cons_zero, Act.put, List.setIfInBounds_toArray, List.set_cons_zero, List.set_cons_succ]
          refine wpAnyH_take (i := 8) (v := ?_) rfl (by kernel_rfl) (by kernel_rfl) (by kernel_rfl) (fun _ _ _ h => h) (Or.inl ⟨by rfl, ?_⟩) (by assumption) ?_
          rotate_left
          · (intro w0 hSw; (try dsimp only at hSw); go_simp; try with_reducible rfl)
          try simp only [List.getElem_toArray, List.getElem_cons_succ, List.getElem_cons_zero, Act.put, List.setIfInBounds_toArray, List.set_cons_zero, List.set_cons_succ]
          refine wpAnyH_take (i := 9) (v := ?_) rfl (by kernel_rfl) (by kernel_rfl) (by kernel_rfl) (fun _ _ _ h => h) (Or.inl ⟨by rfl, ?_⟩) (by assumption) ?_
          rotate_left
          · (intro w0 hSw; (try dsimp only at hSw); go_simp; try with_reducible rfl)
          try simp only [List.getElem_toArray, List.getElem_cons_succ, List.getElem_cons_zero, Act.put, List.setIfInBounds_toArray, List.set_cons_zero, List.set_cons_succ]
          refine wpAnyH_ready (rs := [10]) (by kernel_rfl) (by simp) ?_
          refine AllReadyH.cons rfl (fun K hK => ?_) AllReadyH.nil
          go_simp
          have E3 := Lib.hid (show Below X.heap.size X (X2.alloc (.cells zTr 30)) from E2.out.alloc E2.out.size _)
          have Z3 := Lib.hid (show Blk (X2.alloc (.cells zTr 30)) X2.heap.size 30 (trc noTr noSl) from Blk.new X2 30 zTr)
          have T3 := Lib.hid (T2.out.step (Joins.below_alloc1 X2 (.cells zTr 30)))
          have U3 := Lib.hid (own_step U2.out (Joins.below_alloc1 X2 (.cells zTr 30)))
          have GR := Lib.hid E2.out.size
          refine hK.out _ _ (KP.out _ E3.out) (fun hHeld => ?_)
          clear hK K
          generalize X2.alloc (.cells zTr 30) = X3 at E3 Z3 T3 U3 hHeld ⊢
          generalize X2.heap.size = rb at Z3 GR ⊢
          refine wpAnyH_ready (rs := [11]) (by kernel_rfl) (by simp) ?_
          refine AllReadyH.cons rfl (fun K hK => ?_) AllReadyH.nil
          refine step_store_mid (by rfl) 30 (.tmp 11) (.tmp 57) rfl rb 0 (trc y s2) rfl rfl (Z3.out.there (Nat.le_refl 13)) (tr_info _ _) T3.out.one ?_
          have E4 := Lib.hid (show Below X.heap.size X (X3.setCells rb 0 (trc y s2).toList) from Below.setCells GR.out _ _ _ E3.out)
          have Y4 := Lib.hid (Z3.out.put (trc y s2) rfl)
          have R4 := Lib.hid (show Turn (fun k => k = rb) X3 (X3.setCells rb 0 (trc y s2).toList) from Turn.setCells (S := fun k => k = rb) (fun _ => rfl) _ _ _ (Turn.refl _ _))
          have T4 := Lib.hid (T3.out.offB Z3.out R4.out)
          have U4 := Lib.hid (own_offB U3.out Z3.out (by decide) R4.out)
          clear R4
          refine hK.out _ _ (KP.out _ E4.out) (fun hHeld => ?_)
          clear hK K
          generalize X3.setCells rb 0 (trc y s2).toList = X4 at E4 Y4 T4 U4 hHeld ⊢
          refine wpAnyH_take (i := 12) (v := ?_) rfl (by kernel_rfl) (by kernel_rfl) (by kernel_rfl) (fun _ _ _ h => h) (Or.inl ⟨by rfl, ?_⟩) (by assumption) ?_
          rotate_left
          · (intro w0 hSw; (try dsimp only at hSw); go_simp; try with_reducible rfl)
          try simp only [List.getElem_toArray, List.getElem_cons_succ, List.getElem_cons_zero, Act.put, List.setIfInBounds_toArray, List.set_cons_zero, List.set_cons_succ]
          refine wpAnyH_take (i := 13) (v := ?_) rfl (by kernel_rfl) (by kernel_rfl) (by kernel_rfl) (fun _ _ _ h => h) (Or.inl ⟨by rfl, ?_⟩) (by assumption) ?_
          rotate_left
          · (intro w0 hSw; (try dsimp only at hSw); go_simp; try with_reducible rfl)
          try simp only [List.getElem_toArray, List.getElem_cons_succ, List.getElem_cons_zero, Act.put, List.setIfInBounds_toArray, List.set_cons_zero, List.set_cons_succ]
          refine wpAnyH_done (by kernel_rfl) ?_ _
          go_wp2_with fail
          go_meet
          exact ⟨_, s2, Au, cu, rfl, rfl, rfl, Y4.out, T4.out, U4.out, E4.out, by have := GR.out; omega⟩
        · go_simp
          have E0 := Lib.hid (show Below X.heap.size X (X1.alloc (.cells zTr 30)) from BD.out.alloc BD.out.size _)
          have Z0 := Lib.hid (show Blk (X1.alloc (.cells zTr 30)) X1.heap.size 30 (trc noTr noSl) from Blk.new X1 30 zTr)
          have GR := Lib.hid BD.out.size
          refine hK.out _ _ (KP.out _ E0.out) (fun hHeld => ?_)
          clear hK K
          generalize X1.alloc (.cells zTr 30) = XA at E0 Z0 hHeld ⊢
          generalize X1.heap.size = rb at Z0 GR ⊢
          refine wpAnyH_ready (rs := [5]) (by kernel_rfl) (by simp) ?_
          refine AllReadyH.cons rfl (fun K hK => ?_) AllReadyH.nil
          go_simp
          refine (HAC.out _ (TXS.out.step E0.out)).mono ?_
          rintro e X3 ⟨s2, u, rfl, ht2, hu2, hb2⟩
          try go_simp
          obtain ⟨Au, cu, rfl⟩ := own_len hu2
          have T3 := Lib.hid ht2
          have U3 := Lib.hid (own_less hu2 E0.out.size)
          have E3 := Lib.hid (E0.out.trans (hb2.mono E0.out.size))
          have Z3 := Lib.hid (Z0.out.here hb2)
          clear ht2 hu2 hb2
          refine hK.out _ _ (KP.out _ E3.out) (fun hHeld => ?_)
          clear hK K
          refine wpAnyH_take (i := 6) (v := ?_) rfl (by kernel_rfl) (by kernel_rfl) (by kernel_rfl) (fun _ _ _ h => h) (Or.inl ⟨by rfl, ?_⟩) (by assumption) ?_
          rotate_left
          · (intro w0 hSw; (try dsimp only at hSw); go_simp; try with_reducible rfl)
          try simp only [List.getElem_toArray, List.getElem_cons_succ, List.getElem_cons_zero, Act.put, List.setIfInBounds_toArray, List.set_cons_zero, List.set_cons_succ]
          refine wpAnyH_take (i := 7) (v := ?_) rfl (by kernel_rfl) (by kernel_rfl) (by kernel_rfl) (fun _ _ _ h => h) (Or.inl ⟨by rfl, ?_⟩) (by assumption) ?_
          rotate_left
          · (intro w0 hSw; (try dsimp only at hSw); go_simp; try with_reducible rfl)
          try simp only [List.getElem_toArray, List.getElem_cons_succ, List.getElem_cons_zero, Act.put, List.setIfInBounds_toArray, List.set_cons_zero, List.set_cons_succ]
          refine wpAnyH_take (i := 8) (v := ?_) rfl (by kernel_rfl) (by kernel_rfl) (by kernel_rfl) (fun _ _ _ h => h) (Or.inl ⟨by rfl, ?_⟩) (by assumption) ?_
          rotate_left
          · (intro w0 hSw; (try dsimp only at hSw); go_simp; try with_reducible rfl)
          try simp only [List.getElem_toArray, List.getElem_cons_succ, List.getElem_cons_zero, Act.put, List.setIfInBounds_toArray, List.set_cons_zero, List.set_cons_succ]
          refine wpAnyH_take (i := 9) (v := ?_) rfl (by kernel_rfl) (by kernel_rfl) (by kernel_rfl) (fun _ _ _ h => h) (Or.inl ⟨by rfl, ?_⟩) (by assumption) ?_
          rotate_left
          · (intro w0 hSw; (try dsimp only at hSw); go_simp; try with_reducible rfl)
          try simp only [List.getElem_toArray, List.getElem_cons_succ, List.getElem_cons_zero, Act.put, List.setIfInBounds_toArray, List.set_cons_zero, List.set_cons_succ]
          refine wpAnyH_ready (rs := [11]) (by kernel_rfl) (by simp) ?_
          refine AllReadyH.cons rfl (fun K hK => ?_) AllReadyH.nil
          refine step_store_mid (by rfl) 30 (.tmp 11) (.tmp 57) rfl rb 0 (trc y s2) rfl rfl (Z3.out.there (Nat.le_refl 13)) (tr_info _ _) T3.out.one ?_
          have E4 := Lib.hid (show Below X.heap.size X (X3.setCells rb 0 (trc y s2).toList) from Below.setCells GR.out _ _ _ E3.out)
          have Y4 := Lib.hid (Z3.out.put (trc y s2) rfl)
          have R4 := Lib.hid (show Turn (fun k => k = rb) X3 (X3.setCells rb 0 (trc y s2).toList) from Turn.setCells (S := fun k => k = rb) (fun _ => rfl) _ _ _ (Turn.refl _ _))
          have T4 := Lib.hid (T3.out.offB Z3.out R4.out)
          have U4 := Lib.hid (own_offB U3.out Z3.out (by decide) R4.out)
          clear R4
          refine hK.out _ _ (KP.out _ E4.out) (fun hHeld => ?_)
          clear hK K
          generalize X3.setCells rb 0 (trc y s2).toList = X4 at E4 Y4 T4 U4 hHeld ⊢
          refine wpAnyH_take (i := 12) (v := ?_) rfl (by kernel_rfl) (by kernel_rfl) (by kernel_rfl) (fun _ _ _ h => h) (Or.inl ⟨by rfl, ?_⟩) (by assumption) ?_
          rotate_left
          · (intro w0 hSw; (try dsimp only at hSw); go_simp; try with_reducible rfl)
          try simp only [List.getElem_toArray, List.getElem_cons_succ, List.getElem_cons_zero, Act.put, List.setIfInBounds_toArray, List.set_cons_zero, List.set_cons_succ]
          refine wpAnyH_take (i := 13) (v := ?_) rfl (by kernel_rfl) (by kernel_rfl) (by kernel_rfl) (fun _ _ _ h => h) (Or.inl ⟨by rfl, ?_⟩) (by assumption) ?_
          rotate_left
          · (intro w0 hSw; (try dsimp only at hSw); go_simp; try with_reducible rfl)
          try simp only [List.getElem_toArray, List.getElem_cons_succ, List.getElem_cons_zero, Act.put, List.setIfInBounds_toArray, List.set_cons_zero, List.set_cons_succ]
          refine wpAnyH_done (by kernel_rfl) ?_ _
          go_wp2_with fail
          go_meet
          exact ⟨_, s2, Au, cu, rfl, rfl, rfl, Y4.out, T4.out, U4.out, E4.out, by have := GR.out; omega⟩
      case rest =>
        obtain ⟨r, s2, Au, cu, rfl, rfl, rfl, hyb, hym, hum, hbel, hge⟩ := hcut
        have YB := Lib.hid hyb
        have YM := Lib.hid hym
        have UM := Lib.hid hum
        have EB := Lib.hid hbel
        have GE := Lib.hid hge
        have XO := Lib.hid (XX.out.here EB.out)
        have RO := Lib.hid (XR.out.here EB.out)
        have TRO := Lib.hid (TR.out.step EB.out)
        have BO := Lib.hid (stepB BX.out EB.out)
        have ACO := Lib.hid (HCK.out _ EB.out)
        have HGE := Lib.hid (show g < r ∧ gv < r from ⟨by omega, by omega⟩)
        have HXS := Lib.hid BX.out.size
        have UMX := Lib.hid (show MsgR wc w.heap.size (.slice Au ms.length cu) ms from own_less UM.out BX.out.size)
        clear hyb hym hum hbel hge XX XR TX TR BX AC HCK EB GE UM hgl hgvl
        generalize wc = X at YB YM XO RO TRO BO ACO UMX ⊢
        have hgvl := RO.out.lt
        have HCK := Lib.hid (show ∀ Y, Below X.heap.size X Y → ∀ j v, (ints a)[j]? = some v → Y.cell? ((⟨ab, aoff + m * 33, none⟩ : Addr).add j) = some v from fun Y hy j v hv => (hy.cell (p := (⟨ab, aoff + m * 33, none⟩ : Addr).add j) (by rw [block_of_add]; exact World.block_lt_of_cell? _ _ (ACO.out j v hv) |> (by simpa [block_of_add] using ·))).trans (ACO.out j v hv))
        go_upto_region 13 with fail
        go_cut [14, 15, 16] from 60 to 109 (fun v1 v2 v3 wx => ∃ (r : Nat) (s2 : Sl) (Au : Option Addr) (cu : Nat), v1 = .pointer (some ⟨r, 0, none⟩) ∧ v2 = .slice Au ms.length cu ∧ v3 = .int .i64 cc ∧ Blk wx r 37 (trc y s2) ∧ Tm wx 0 y s2 ∧ MsgR wx X.heap.size (.slice Au ms.length cu) ms ∧ Below X.heap.size X wx ∧ X.heap.size ≤ r)
        case first =>
          have KP := Lib.hid (show ∀ Y, Below X.heap.size X Y → (Blk Y gv 37 (trc x s') ∧ ∀ j v, (ints a)[j]? = some v → Y.cell? ((⟨ab, aoff + m * 33, none⟩ : Addr).add j) = some v) from fun Y hy => ⟨RO.out.here hy, HCK.out Y hy⟩)
          have TXS := TRO
          clear hgvl
          have hgvl := RO.out.lt
          refine wp_region_held_drew (S := fun w' => Blk w' gv 37 (trc x s') ∧ ∀ j v, (ints a)[j]? = some v → w'.cell? ((⟨ab, aoff + m * 33, none⟩ : Addr).add j) = some v) (by kernel_rfl) (KP.out _ (Below.refl _ _).drew) (fun hHeld => ?_)
          have BD := Lib.hid (show Below X.heap.size X X.drew from (Below.refl _ _).drew)
          generalize X.drew = X1 at BD hHeld ⊢
          refine wpAnyH_take (i := 0) (v := .agg (trc x s')) rfl (by kernel_rfl) (by kernel_rfl) (by kernel_rfl) (fun _ _ _ h => h) (Or.inl ⟨by rfl, fun w0 hSw => exec_load (x := .tmp 9) rfl rfl (tr_loadR hSw.1)⟩) (by assumption) ?_
          try simp only [List.getElem_toArray, List.getElem_cons_succ, List.getElem_cons_zero, Act.put, List.setIfInBounds_toArray, List.set_cons_zero, List.set_cons_succ]
          refine wpAnyH_take (i := 1) (v := ?_) rfl (by kernel_rfl) (by kernel_rfl) (by kernel_rfl) (fun _ _ _ h => h) (Or.inl ⟨by rfl, ?_⟩) (by assumption) ?_
          rotate_left
          · (intro w0 hSw; (try dsimp only at hSw); go_simp; try with_reducible rfl)
          try simp only [List.getElem_toArray, List.getElem_cons_succ, List.getElem_cons_zero, Act.put, List.setIfInBounds_toArray, List.set_cons_zero, List.set_cons_succ]
          refine wpAnyH_take (i := 2) (v := ?_) rfl (by kernel_rfl) (by kernel_rfl) (by kernel_rfl) (fun _ _ _ h => h) (Or.inl ⟨by rfl, ?_⟩) (by assumption) ?_
          rotate_left
          · (intro w0 hSw; (try dsimp only at hSw); go_simp; try with_reducible rfl)
          try simp only [List.getElem_toArray, List.getElem_cons_succ, List.getElem_cons_zero, Act.put, List.setIfInBounds_toArray, List.set_cons_zero, List.set_cons_succ]
          refine wpAnyH_take (i := 3) (v := ?_) rfl (by kernel_rfl) (by kernel_rfl) (by kernel_rfl) (fun _ _ _ h => h) (Or.inl ⟨by rfl, ?_⟩) (by assumption) ?_
          rotate_left
          · (intro w0 hSw; (try dsimp only at hSw); go_simp; try with_reducible rfl)
          try simp only [List.getElem_toArray, List.getElem_cons_succ, List.getElem_cons_zero, Act.put, List.setIfInBounds_toArray, List.set_cons_zero, List.set_cons_succ]
          refine wpAnyH_take (i := 4) (v := .agg (mc a)) rfl (by kernel_rfl) (by kernel_rfl) (by kernel_rfl) (fun _ _ _ h => h) (Or.inl ⟨by rfl, fun w0 hSw => exec_load (x := .tmp 64) rfl (ad := ⟨ab, aoff + m * 33, none⟩) rfl (run_loadVar_cells w0 _ _ (ints a) _ hSw.2 Tryz.underlying48 rfl HAI.out)⟩) (by assumption) ?_
          try simp only [List.getElem_toArray, List.getElem_cons_succ, List.getElem_cons_zero, Act.put, List.setIfInBounds_toArray, List.set_cons_zero, List.set_cons_succ]
          refine wpAnyH_ready (rs := [5, 10]) (by kernel_rfl) (by simp) ?_
          refine AllReadyH.cons rfl (fun K hK => ?_) (AllReadyH.cons rfl (fun K hK => ?_) AllReadyH.nil)
          · go_simp
            refine (HWA.out _ (TXS.out.step BD.out)).mono ?_
            rintro e X2 ⟨s2, u, rfl, ht2, hu2, hb2⟩
            try go_simp
            obtain ⟨Au, cu, rfl⟩ := own_len hu2
            have T2 := Lib.hid ht2
            have U2 := Lib.hid (own_less hu2 BD.out.size)
            have E2 := Lib.hid (BD.out.trans (hb2.mono BD.out.size))
            clear ht2 hu2 hb2
            refine hK.out _ _ (KP.out _ E2.out) (fun hHeld => ?_)
            clear hK K
            refine wpAnyH_take (i := 6) (v := ?_) rfl (by kernel_rfl) (by kernel_rfl) (by kernel_rfl) (fun _ _ _ h => h) (Or.inl ⟨by rfl, ?_⟩) (by assumption) ?_
            rotate_left
            · (intro w0 hSw; (try dsimp only at hSw); go_simp; try with_reducible rfl)
            try simp only [List.getElem_toArray, List.getElem_cons_succ, List.getElem_cons_zero, Act.put, List.setIfInBounds_toArray, List.set_cons_zero, List.set_cons_succ]
            refine wpAnyH_take (i := 7) (v := ?_) rfl (by kernel_rfl) (by kernel_rfl) (by kernel_rfl) (fun _ _ _ h => h) (Or.inl ⟨by rfl, ?_⟩) (by assumption) ?_
            rotate_left
            · (intro w0 hSw; (try dsimp only at hSw); go_simp; try with_reducible rfl)
            try simp only [List.getElem_toArray, List.getElem_cons_succ, List.getElem_cons_zero, Act.put, List.setIfInBounds_toArray, List.set_cons_zero, List.set_cons_succ]
            refine wpAnyH_take (i := 8) (v := ?_) rfl (by kernel_rfl) (by kernel_rfl) (by kernel_rfl) (fun _ _ _ h => h) (Or.inl ⟨by rfl, ?_⟩) (by assumption) ?_
            rotate_left
            · (intro w0 hSw; (try dsimp only at hSw); go_simp; try with_reducible rfl)
            try simp only [List.getElem_toArray, List.getElem_cons_succ, List.getElem_cons_zero, Act.put, List.setIfInBounds_toArray, List.set_cons_zero, List.set_cons_succ]
            refine wpAnyH_take (i := 9) (v := ?_) rfl (by kernel_rfl) (by kernel_rfl) (by kernel_rfl) (fun _ _ _ h => h) (Or.inl ⟨by rfl, ?_⟩) (by assumption) ?_
            rotate_left
            · (intro w0 hSw; (try dsimp only at hSw); go_simp; try with_reducible rfl)
            try simp only [List.getElem_toArray, List.getElem_cons_succ, List.getElem_cons_zero, Act.put, List.setIfInBounds_toArray, List.set_cons_zero, List.set_cons_succ]
            refine wpAnyH_ready (rs := [10]) (by kernel_rfl) (by simp) ?_
            refine AllReadyH.cons rfl (fun K hK => ?_) AllReadyH.nil
            go_simp
            have E3 := Lib.hid (show Below X.heap.size X (X2.alloc (.cells zTr 37)) from E2.out.alloc E2.out.size _)
            have Z3 := Lib.hid (show Blk (X2.alloc (.cells zTr 37)) X2.heap.size 37 (trc noTr noSl) from Blk.new X2 37 zTr)
            have T3 := Lib.hid (T2.out.step (Joins.below_alloc1 X2 (.cells zTr 37)))
            have U3 := Lib.hid (own_step U2.out (Joins.below_alloc1 X2 (.cells zTr 37)))
            have GR := Lib.hid E2.out.size
            refine hK.out _ _ (KP.out _ E3.out) (fun hHeld => ?_)
            clear hK K
            generalize X2.alloc (.cells zTr 37) = X3 at E3 Z3 T3 U3 hHeld ⊢
            generalize X2.heap.size = rb at Z3 GR ⊢
            refine wpAnyH_ready (rs := [11]) (by kernel_rfl) (by simp) ?_
            refine AllReadyH.cons rfl (fun K hK => ?_) AllReadyH.nil
            refine step_store_mid (by rfl) 37 (.tmp 14) (.tmp 67) rfl rb 0 (trc y s2) rfl rfl (Z3.out.there (Nat.le_refl 13)) (tr_infoR _ _) T3.out.one ?_
            have E4 := Lib.hid (show Below X.heap.size X (X3.setCells rb 0 (trc y s2).toList) from Below.setCells GR.out _ _ _ E3.out)
            have Y4 := Lib.hid (Z3.out.put (trc y s2) rfl)
            have R4 := Lib.hid (show Turn (fun k => k = rb) X3 (X3.setCells rb 0 (trc y s2).toList) from Turn.setCells (S := fun k => k = rb) (fun _ => rfl) _ _ _ (Turn.refl _ _))
            have T4 := Lib.hid (T3.out.offBR Z3.out R4.out)
            have U4 := Lib.hid (own_offB U3.out Z3.out (by decide) R4.out)
            clear R4
            refine hK.out _ _ (KP.out _ E4.out) (fun hHeld => ?_)
            clear hK K
            generalize X3.setCells rb 0 (trc y s2).toList = X4 at E4 Y4 T4 U4 hHeld ⊢
            refine wpAnyH_take (i := 12) (v := ?_) rfl (by kernel_rfl) (by kernel_rfl) (by kernel_rfl) (fun _ _ _ h => h) (Or.inl ⟨by rfl, ?_⟩) (by assumption) ?_
            rotate_left
            · (intro w0 hSw; (try dsimp only at hSw); go_simp; try with_reducible rfl)
            try simp only [List.getElem_toArray, List.getElem_cons_succ, List.getElem_cons_zero, Act.put, List.setIfInBounds_toArray, List.set_cons_zero, List.set_cons_succ]
            refine wpAnyH_take (i := 13) (v := ?_) rfl (by kernel_rfl) (by kernel_rfl) (by kernel_rfl) (fun _ _ _ h => h) (Or.inl ⟨by rfl, ?_⟩) (by assumption) ?_
            rotate_left
            · (intro w0 hSw; (try dsimp only at hSw); go_simp; try with_reducible rfl)
            try simp only [List.getElem_toArray, List.getElem_cons_succ, List.getElem_cons_zero, Act.put, List.setIfInBounds_toArray, List.set_cons_zero, List.set_cons_succ]
            refine wpAnyH_done (by kernel_rfl) ?_ _
            go_wp2_with fail
            go_meet
            exact ⟨_, s2, Au, cu, rfl, rfl, rfl, Y4.out, T4.out, U4.out, E4.out, by have := GR.out; omega⟩
          · go_simp
            have E0 := Lib.hid (show Below X.heap.size X (X1.alloc (.cells zTr 37)) from BD.out.alloc BD.out.size _)
            have Z0 := Lib.hid (show Blk (X1.alloc (.cells zTr 37)) X1.heap.size 37 (trc noTr noSl) from Blk.new X1 37 zTr)
            have GR := Lib.hid BD.out.size
            refine hK.out _ _ (KP.out _ E0.out) (fun hHeld => ?_)
            clear hK K
            generalize X1.alloc (.cells zTr 37) = XA at E0 Z0 hHeld ⊢
            generalize X1.heap.size = rb at Z0 GR ⊢
            refine wpAnyH_ready (rs := [5]) (by kernel_rfl) (by simp) ?_
            refine AllReadyH.cons rfl (fun K hK => ?_) AllReadyH.nil
            go_simp
            refine (HWA.out _ (TXS.out.step E0.out)).mono ?_
            rintro e X3 ⟨s2, u, rfl, ht2, hu2, hb2⟩
            try go_simp
            obtain ⟨Au, cu, rfl⟩ := own_len hu2
            have T3 := Lib.hid ht2
            have U3 := Lib.hid (own_less hu2 E0.out.size)
            have E3 := Lib.hid (E0.out.trans (hb2.mono E0.out.size))
            have Z3 := Lib.hid (Z0.out.here hb2)
            clear ht2 hu2 hb2
            refine hK.out _ _ (KP.out _ E3.out) (fun hHeld => ?_)
            clear hK K
            refine wpAnyH_take (i := 6) (v := ?_) rfl (by kernel_rfl) (by kernel_rfl) (by kernel_rfl) (fun _ _ _ h => h) (Or.inl ⟨by rfl, ?_⟩) (by assumption) ?_
            rotate_left
            · (intro w0 hSw; (try dsimp only at hSw); go_simp; try with_reducible rfl)
            try simp only [List.getElem_toArray, List.getElem_cons_succ, List.getElem_cons_zero, Act.put, List.setIfInBounds_toArray, List.set_cons_zero, List.set_cons_succ]
            refine wpAnyH_take (i := 7) (v := ?_) rfl (by kernel_rfl) (by kernel_rfl) (by kernel_rfl) (fun _ _ _ h => h) (Or.inl ⟨by rfl, ?_⟩) (by assumption) ?_
            rotate_left
            · (intro w0 hSw; (try dsimp only at hSw); go_simp; try with_reducible rfl)
            try simp only [List.getElem_toArray, List.getElem_cons_succ, List.getElem_cons_zero, Act.put, List.setIfInBounds_toArray, List.set_cons_zero, List.set_cons_succ]
            refine wpAnyH_take (i := 8) (v := ?_) rfl (by kernel_rfl) (by kernel_rfl) (by kernel_rfl) (fun _ _ _ h => h) (Or.inl ⟨by rfl, ?_⟩) (by assumption) ?_
            rotate_left
            · (intro w0 hSw; (try dsimp only at hSw); go_simp; try with_reducible rfl)
            try simp only [List.getElem_toArray, List.getElem_cons_succ, List.getElem_cons_zero, Act.put, List.setIfInBounds_toArray, List.set_cons_zero, List.set_cons_succ]
            refine wpAnyH_take (i := 9) (v := ?_) rfl (by kernel_rfl) (by kernel_rfl) (by kernel_rfl) (fun _ _ _ h => h) (Or.inl ⟨by rfl, ?_⟩) (by assumption) ?_
            rotate_left
            · (intro w0 hSw; (try dsimp only at hSw); go_simp; try with_reducible rfl)
            try simp only [List.getElem_toArray, List.getElem_cons_succ, List.getElem_cons_zero, Act.put, List.setIfInBounds_toArray, List.set_cons_zero, List.set_cons_succ]
            refine wpAnyH_ready (rs := [11]) (by kernel_rfl) (by simp) ?_
            refine AllReadyH.cons rfl (fun K hK => ?_) AllReadyH.nil
            refine step_store_mid (by rfl) 37 (.tmp 14) (.tmp 67) rfl rb 0 (trc y s2) rfl rfl (Z3.out.there (Nat.le_refl 13)) (tr_infoR _ _) T3.out.one ?_
            have E4 := Lib.hid (show Below X.heap.size X (X3.setCells rb 0 (trc y s2).toList) from Below.setCells GR.out _ _ _ E3.out)
            have Y4 := Lib.hid (Z3.out.put (trc y s2) rfl)
            have R4 := Lib.hid (show Turn (fun k => k = rb) X3 (X3.setCells rb 0 (trc y s2).toList) from Turn.setCells (S := fun k => k = rb) (fun _ => rfl) _ _ _ (Turn.refl _ _))
            have T4 := Lib.hid (T3.out.offBR Z3.out R4.out)
            have U4 := Lib.hid (own_offB U3.out Z3.out (by decide) R4.out)
            clear R4
            refine hK.out _ _ (KP.out _ E4.out) (fun hHeld => ?_)
            clear hK K
            generalize X3.setCells rb 0 (trc y s2).toList = X4 at E4 Y4 T4 U4 hHeld ⊢
            refine wpAnyH_take (i := 12) (v := ?_) rfl (by kernel_rfl) (by kernel_rfl) (by kernel_rfl) (fun _ _ _ h => h) (Or.inl ⟨by rfl, ?_⟩) (by assumption) ?_
            rotate_left
            · (intro w0 hSw; (try dsimp only at hSw); go_simp; try with_reducible rfl)
            try simp only [List.getElem_toArray, List.getElem_cons_succ, List.getElem_cons_zero, Act.put, List.setIfInBounds_toArray, List.set_cons_zero, List.set_cons_succ]
            refine wpAnyH_take (i := 13) (v := ?_) rfl (by kernel_rfl) (by kernel_rfl) (by kernel_rfl) (fun _ _ _ h => h) (Or.inl ⟨by rfl, ?_⟩) (by assumption) ?_
            rotate_left
            · (intro w0 hSw; (try dsimp only at hSw); go_simp; try with_reducible rfl)
            try simp only [List.getElem_toArray, List.getElem_cons_succ, List.getElem_cons_zero, Act.put, List.setIfInBounds_toArray, List.set_cons_zero, List.set_cons_succ]
            refine wpAnyH_done (by kernel_rfl) ?_ _
            go_wp2_with fail
            go_meet
            exact ⟨_, s2, Au, cu, rfl, rfl, rfl, Y4.out, T4.out, U4.out, E4.out, by have := GR.out; omega⟩
        case rest =>
          obtain ⟨r3, s3, Av, cv, rfl, rfl, rfl, hyb, hym, hum, hbel, hge⟩ := hcut
          have YB3 := Lib.hid hyb
          have YM3 := Lib.hid hym
          have EB := Lib.hid hbel
          have YB2 := Lib.hid (YB.out.here EB.out)
          have YM2 := Lib.hid (YM.out.step EB.out)
          have XO2 := Lib.hid (XO.out.here EB.out)
          have RO2 := Lib.hid (RO.out.here EB.out)
          have BO2 := Lib.hid (stepB BO.out EB.out)
          have U2 := Lib.hid (own_step UMX.out EB.out)
          have U3 := Lib.hid (show MsgR wc w.heap.size (.slice Av ms.length cv) ms from own_less hum BO.out.size)
          have HG3 := Lib.hid (show g < r3 ∧ gv < r3 from ⟨by have := XO.out.lt; omega, by have := RO.out.lt; omega⟩)
          clear hyb hym hum hbel hge YB YM XO RO TRO BO ACO UMX HCK EB HXS hgvl HAI A33 HAC HWA
          generalize wc = X at YB3 YM3 YB2 YM2 XO2 RO2 BO2 U2 U3 ⊢
          go_upto_region 14 with fail
          refine wp_region_held_drew (S := fun w' => Blk w' r 30 (trc y s2) ∧ Blk w' r3 37 (trc y s3)) (by kernel_rfl) ⟨YB2.out.drew, YB3.out.drew⟩ (fun hHeld => ?_)
          have BD := Lib.hid (show Below X.heap.size X X.drew from (Below.refl _ _).drew)
          have ZA := Lib.hid (XO2.out.here BD.out)
          have ZB := Lib.hid (RO2.out.here BD.out)
          have TA := Lib.hid (YM2.out.step BD.out)
          have TB := Lib.hid (YM3.out.step BD.out)
          have UA := Lib.hid (own_step U2.out BD.out)
          have UB := Lib.hid (own_step U3.out BD.out)
          have CB := Lib.hid (stepB BO2.out BD.out)
          clear YB3 YM3 YB2 YM2 XO2 RO2 BO2 U2 U3 BD
          generalize X.drew = V1 at hHeld ZA ZB TA TB UA UB CB ⊢
          refine wpAnyH_take (i := 0) (v := .agg (trc y s2)) rfl (by kernel_rfl) (by kernel_rfl) (by kernel_rfl) (fun _ _ _ h => h) (Or.inl ⟨by rfl, fun w0 hSw => exec_load (x := .tmp 11) rfl rfl (tr_load hSw.1)⟩) (by assumption) ?_
          try simp only [List.getElem_toArray, List.getElem_cons_succ, List.getElem_cons_zero, Act.put, List.setIfInBounds_toArray, List.set_cons_zero, List.set_cons_succ]
          refine wpAnyH_take (i := 1) (v := .agg (trc y s3)) rfl (by kernel_rfl) (by kernel_rfl) (by kernel_rfl) (fun _ _ _ h => h) (Or.inl ⟨by rfl, fun w0 hSw => exec_load (x := .tmp 14) rfl rfl (tr_loadR hSw.2)⟩) (by assumption) ?_
          try simp only [List.getElem_toArray, List.getElem_cons_succ, List.getElem_cons_zero, Act.put, List.setIfInBounds_toArray, List.set_cons_zero, List.set_cons_succ]
          refine wpAnyH_ready (rs := [2]) (by kernel_rfl) (by simp) ?_
          refine AllReadyH.cons rfl (fun K hK => ?_) AllReadyH.nil
          refine step_store_mid (by rfl) 30 (.tmp 7) (.tmp 70) rfl g 0 (trc y s2) rfl rfl (ZA.out.there (Nat.le_refl 13)) (tr_info _ _) TA.out.one ?_
          have R4 := Lib.hid (show Turn (fun k => k = g) V1 (V1.setCells g 0 (trc y s2).toList) from Turn.setCells (S := fun k => k = g) (fun _ => rfl) _ _ _ (Turn.refl _ _))
          have ZA2 := Lib.hid (ZA.out.put (trc y s2) rfl)
          have ZB2 := Lib.hid (ZB.out.turn R4.out (fun e => by have e : gv = g := e; have := HNE.out; omega))
          have TA2 := Lib.hid (TA.out.offB ZA.out R4.out)
          have TB2 := Lib.hid (TB.out.offB ZA.out R4.out)
          have UA2 := Lib.hid (own_offB UA.out ZA.out (by decide) R4.out)
          have UB2 := Lib.hid (own_offB UB.out ZA.out (by decide) R4.out)
          have CB2 := Lib.hid (CB.out.trans (R4.out.below (B := w.heap.size) (fun k hk e => by have := GA.out; omega) CB.out.size))
          have HH2 := Lib.hid (And.intro (hHeld.1.turn R4.out (fun e => by have e : r = g := e; have := HGE.out; omega)) (hHeld.2.turn R4.out (fun e => by have e : r3 = g := e; have := HG3.out; omega)))
          clear R4
          refine hK.out _ _ HH2.out (fun hHeld => ?_)
          clear hK K ZA ZB TA TB UA UB CB HH2
          generalize V1.setCells g 0 (trc y s2).toList = V2 at hHeld ZA2 ZB2 TA2 TB2 UA2 UB2 CB2 ⊢
          try simp only [List.getElem_toArray, List.getElem_cons_succ, List.getElem_cons_zero, Act.put, List.setIfInBounds_toArray, List.set_cons_zero, List.set_cons_succ]
          refine wpAnyH_ready (rs := [3]) (by kernel_rfl) (by simp) ?_
          refine AllReadyH.cons rfl (fun K hK => ?_) AllReadyH.nil
          refine step_store_mid (by rfl) 37 (.tmp 9) (.tmp 71) rfl gv 0 (trc y s3) rfl rfl (ZB2.out.there (Nat.le_refl 13)) (tr_infoR _ _) TB2.out.one ?_
          have R4 := Lib.hid (show Turn (fun k => k = gv) V2 (V2.setCells gv 0 (trc y s3).toList) from Turn.setCells (S := fun k => k = gv) (fun _ => rfl) _ _ _ (Turn.refl _ _))
          have ZB3 := Lib.hid (ZB2.out.put (trc y s3) rfl)
          have ZA3 := Lib.hid (ZA2.out.turn R4.out (fun e => by have e : g = gv := e; have := HNE.out; omega))
          have TA3 := Lib.hid (TA2.out.offBR ZB2.out R4.out)
          have TB3 := Lib.hid (TB2.out.offBR ZB2.out R4.out)
          have UA3 := Lib.hid (own_offB UA2.out ZB2.out (by decide) R4.out)
          have UB3 := Lib.hid (own_offB UB2.out ZB2.out (by decide) R4.out)
          have CB3 := Lib.hid (CB2.out.trans (R4.out.below (B := w.heap.size) (fun k hk e => by have := GB.out; have := GA.out; omega) CB2.out.size))
          have HH2 := Lib.hid (And.intro (hHeld.1.turn R4.out (fun e => by have e : r = gv := e; have := HGE.out; omega)) (hHeld.2.turn R4.out (fun e => by have e : r3 = gv := e; have := HG3.out; omega)))
          clear R4
          refine hK.out _ _ HH2.out (fun hHeld => ?_)
          clear hK K ZA2 ZB2 TA2 TB2 UA2 UB2 CB2 HH2
          generalize V2.setCells gv 0 (trc y s3).toList = V3 at hHeld ZA3 ZB3 TA3 TB3 UA3 UB3 CB3 ⊢
          try simp only [List.getElem_toArray, List.getElem_cons_succ, List.getElem_cons_zero, Act.put, List.setIfInBounds_toArray, List.set_cons_zero, List.set_cons_succ]
          refine wpAnyH_done (by kernel_rfl) ?_ _
          clear hHeld HGE HG3
          try go_simp
          have HSY := Lib.hid (OKY.out.short (by omega))
          go_upto_region 15 with fail
          go_cut [97] from 72 to 97 (fun v wx => v = .bool false ∧ Below V3.heap.size V3 wx)
          case first =>
            have KP := Lib.hid (show ∀ Y, Below V3.heap.size V3 Y → (Blk Y g 30 (trc y s2) ∧ Blk Y gv 37 (trc y s3)) from fun Y hy => ⟨ZA3.out.here hy, ZB3.out.here hy⟩)
            obtain ⟨ag, hag⟩ : ∃ ag, againL y lv = ag := ⟨_, rfl⟩
            have AG1 := Lib.hid (fun (W : World) (h : Tm W 0 y s2) => show Calls Tryz.prog 12 #[.agg (trc y s2), .bool lv] W (MsgP W ag) from by rw [← hag]; exact again_any y s2 lv W h OKY.out.tch OKY.out.vts OKY.out.acks OKY.out.st)
            have AG2 := Lib.hid (fun (W : World) (h : Tm W 0 y s3) => show Calls Tryz.prog 13 #[.agg (trc y s3), .bool lv] W (MsgP W ag) from by rw [← hag]; exact refAgain_any y s3 lv W h (by have := OKY.out.tch.len; omega) (by have := OKY.out.vts.len; omega) (by have := OKY.out.acks.len; omega) OKY.out.st)
            have HAG := Lib.hid (show (∀ q ∈ ag, q.length = 28) ∧ ag.length ≤ 65 from by rw [← hag]; exact ⟨again_28 y lv, again_few65 OKY.out.tch.len lv⟩)
            clear hag
            have B0 := Lib.hid (Below.refl V3.heap.size V3)
            refine wp_region_held_drew (S := fun w' => Blk w' g 30 (trc y s2) ∧ Blk w' gv 37 (trc y s3)) (by kernel_rfl) (KP.out _ (Below.refl _ _).drew) (fun hHeld => ?_)
            have B1 := Lib.hid (show Below V3.heap.size V3 V3.drew from (Below.refl _ _).drew)
            generalize V3.drew = V4 at B1 hHeld ⊢
            refine wpAnyH_take (i := 0) (v := ?_) rfl (by kernel_rfl) (by kernel_rfl) (by kernel_rfl) (fun _ _ _ h => h) (Or.inl ⟨by rfl, ?_⟩) (by assumption) ?_
            rotate_left
            · (intro w0 hSw; (try dsimp only at hSw); go_simp; try with_reducible rfl)
            try simp only [List.getElem_toArray, List.getElem_cons_succ, List.getElem_cons_zero, Act.put, List.setIfInBounds_toArray, List.set_cons_zero, List.set_cons_succ]
            refine wpAnyH_take (i := 1) (v := ?_) rfl (by kernel_rfl) (by kernel_rfl) (by kernel_rfl) (fun _ _ _ h => h) (Or.inl ⟨by rfl, ?_⟩) (by assumption) ?_
            rotate_left
            · (intro w0 hSw; (try dsimp only at hSw); go_simp; try with_reducible rfl)
            try simp only [List.getElem_toArray, List.getElem_cons_succ, List.getElem_cons_zero, Act.put, List.setIfInBounds_toArray, List.set_cons_zero, List.set_cons_succ]
            refine wpAnyH_take (i := 2) (v := ?_) rfl (by kernel_rfl) (by kernel_rfl) (by kernel_rfl) (fun _ _ _ h => h) (Or.inl ⟨by rfl, ?_⟩) (by assumption) ?_
            rotate_left
            · (intro w0 hSw; (try dsimp only at hSw); go_simp; try with_reducible rfl)
            try simp only [List.getElem_toArray, List.getElem_cons_succ, List.getElem_cons_zero, Act.put, List.setIfInBounds_toArray, List.set_cons_zero, List.set_cons_succ]
            refine wpAnyH_take (i := 3) (v := ?_) rfl (by kernel_rfl) (by kernel_rfl) (by kernel_rfl) (fun _ _ _ h => h) (Or.inl ⟨by rfl, ?_⟩) (by assumption) ?_
            rotate_left
            · (intro w0 hSw; (try dsimp only at hSw); go_simp; try with_reducible rfl)
            try simp only [List.getElem_toArray, List.getElem_cons_succ, List.getElem_cons_zero, Act.put, List.setIfInBounds_toArray, List.set_cons_zero, List.set_cons_succ]
            refine wpAnyH_take (i := 4) (v := ?_) rfl (by kernel_rfl) (by kernel_rfl) (by kernel_rfl) (fun _ _ _ h => h) (Or.inl ⟨by rfl, ?_⟩) (by assumption) ?_
            rotate_left
            · (intro w0 hSw; (try dsimp only at hSw); go_simp; try with_reducible rfl)
            try simp only [List.getElem_toArray, List.getElem_cons_succ, List.getElem_cons_zero, Act.put, List.setIfInBounds_toArray, List.set_cons_zero, List.set_cons_succ]
            refine wpAnyH_take (i := 5) (v := ?_) rfl (by kernel_rfl) (by kernel_rfl) (by kernel_rfl) (fun _ _ _ h => h) (Or.inl ⟨by rfl, ?_⟩) (by assumption) ?_
            rotate_left
            · (intro w0 hSw; (try dsimp only at hSw); go_simp; try with_reducible rfl)
            try simp only [List.getElem_toArray, List.getElem_cons_succ, List.getElem_cons_zero, Act.put, List.setIfInBounds_toArray, List.set_cons_zero, List.set_cons_succ]
            refine wpAnyH_ready (rs := [6]) (by kernel_rfl) (by simp) ?_
            refine AllReadyH.cons rfl (fun K hK => ?_) AllReadyH.nil
            go_simp
            obtain ⟨A1', c1', e1', rd1, _, _⟩ := own_rd UA3.out
            obtain ⟨A2', c2', e2', rd2, _, _⟩ := own_rd UB3.out
            injection e1' with e1a _ e1c
            injection e2' with e2a _ e2c
            subst e1a e1c e2a e2c
            refine (msgs_any _ _ _ _ _ _ _ _ ms ms _ (by have := HMS.out.2; omega) rfl rfl HMS.out.1 HMS.out.1 (rd1.below B1.out) (rd2.below B1.out)).mono ?_
            rintro e V5 ⟨rfl, qq, rfl⟩
            try go_simp
            have B2 := Lib.hid (below_drewN B1.out qq)
            clear rd1 rd2
            refine hK.out _ _ (KP.out _ B2.out) (fun hHeld => ?_)
            clear hK K
            generalize V4.drewN qq = V5 at B2 hHeld ⊢
            refine wpAnyH_take (i := 7) (v := ?_) rfl (by kernel_rfl) (by kernel_rfl) (by kernel_rfl) (fun _ _ _ h => h) (Or.inl ⟨by rfl, ?_⟩) (by assumption) ?_
            rotate_left
            · (intro w0 hSw; (try dsimp only at hSw); go_simp; try with_reducible rfl)
            try simp only [List.getElem_toArray, List.getElem_cons_succ, List.getElem_cons_zero, Act.put, List.setIfInBounds_toArray, List.set_cons_zero, List.set_cons_succ]
            refine wpAnyH_take (i := 8) (v := ?_) rfl (by kernel_rfl) (by kernel_rfl) (by kernel_rfl) (fun _ _ _ h => h) (Or.inl ⟨by rfl, ?_⟩) (by assumption) ?_
            rotate_left
            · (intro w0 hSw; (try dsimp only at hSw); go_simp; try with_reducible rfl)
            try simp only [List.getElem_toArray, List.getElem_cons_succ, List.getElem_cons_zero, Act.put, List.setIfInBounds_toArray, List.set_cons_zero, List.set_cons_succ]
            refine wpAnyH_take (i := 9) (v := ?_) rfl (by kernel_rfl) (by kernel_rfl) (by kernel_rfl) (fun _ _ _ h => h) (Or.inl ⟨by rfl, ?_⟩) (by assumption) ?_
            rotate_left
            · (intro w0 hSw; (try dsimp only at hSw); go_simp; try with_reducible rfl)
            try simp only [List.getElem_toArray, List.getElem_cons_succ, List.getElem_cons_zero, Act.put, List.setIfInBounds_toArray, List.set_cons_zero, List.set_cons_succ]
            refine wpAnyH_take (i := 10) (v := .agg (trc y s2)) rfl (by kernel_rfl) (by kernel_rfl) (by kernel_rfl) (fun _ _ _ h => h) (Or.inl ⟨by rfl, fun w0 hSw => exec_load (x := .tmp 7) rfl rfl (tr_load hSw.1)⟩) (by assumption) ?_
            try simp only [List.getElem_toArray, List.getElem_cons_succ, List.getElem_cons_zero, Act.put, List.setIfInBounds_toArray, List.set_cons_zero, List.set_cons_succ]
            refine wpAnyH_take (i := 12) (v := .agg (trc y s3)) rfl (by kernel_rfl) (by kernel_rfl) (by kernel_rfl) (fun _ _ _ h => h) (Or.inl ⟨by rfl, fun w0 hSw => exec_load (x := .tmp 9) rfl rfl (tr_loadR hSw.2)⟩) (by assumption) ?_
            try simp only [List.getElem_toArray, List.getElem_cons_succ, List.getElem_cons_zero, Act.put, List.setIfInBounds_toArray, List.set_cons_zero, List.set_cons_succ]
            refine wpAnyH_ready (rs := [11]) (by kernel_rfl) (by simp) ?_
            refine AllReadyH.cons rfl (fun K hK => ?_) AllReadyH.nil
            go_simp
            refine (plain_any y s2 _ (TA3.out.step B2.out)).mono ?_
            rintro e V6 ⟨rfl, hb⟩
            try go_simp
            have B3 := Lib.hid (B2.out.trans (hb.mono B2.out.size))
            clear hb
            refine hK.out _ _ (KP.out _ B3.out) (fun hHeld => ?_)
            clear hK K
            refine wpAnyH_ready (rs := [13]) (by kernel_rfl) (by simp) ?_
            refine AllReadyH.cons rfl (fun K hK => ?_) AllReadyH.nil
            go_simp
            refine (same_any y s2 s3 _ (TA3.out.step B3.out) (TB3.out.step B3.out) HSY.out).mono ?_
            rintro e V7 ⟨rfl, hb⟩
            try go_simp
            have B4 := Lib.hid (B3.out.trans (hb.mono B3.out.size))
            clear hb
            refine hK.out _ _ (KP.out _ B4.out) (fun hHeld => ?_)
            clear hK K
            refine wpAnyH_take (i := 14) (v := ?_) rfl (by kernel_rfl) (by kernel_rfl) (by kernel_rfl) (fun _ _ _ h => h) (Or.inl ⟨by rfl, ?_⟩) (by assumption) ?_
            rotate_left
            · (intro w0 hSw; (try dsimp only at hSw); go_simp; try with_reducible rfl)
            try simp only [List.getElem_toArray, List.getElem_cons_succ, List.getElem_cons_zero, Act.put, List.setIfInBounds_toArray, List.set_cons_zero, List.set_cons_succ]
            refine wpAnyH_take (i := 15) (v := ?_) rfl (by kernel_rfl) (by kernel_rfl) (by kernel_rfl) (fun _ _ _ h => h) (Or.inl ⟨by rfl, ?_⟩) (by assumption) ?_
            rotate_left
            · (intro w0 hSw; (try dsimp only at hSw); go_simp; try with_reducible rfl)
            try simp only [List.getElem_toArray, List.getElem_cons_succ, List.getElem_cons_zero, Act.put, List.setIfInBounds_toArray, List.set_cons_zero, List.set_cons_succ]
            refine wpAnyH_take (i := 16) (v := ?_) rfl (by kernel_rfl) (by kernel_rfl) (by kernel_rfl) (fun _ _ _ h => h) (Or.inl ⟨by rfl, ?_⟩) (by assumption) ?_
            rotate_left
            · (intro w0 hSw; (try dsimp only at hSw); go_simp; try with_reducible rfl)
            try simp only [List.getElem_toArray, List.getElem_cons_succ, List.getElem_cons_zero, Act.put, List.setIfInBounds_toArray, List.set_cons_zero, List.set_cons_succ]
            refine wpAnyH_take (i := 17) (v := .agg (trc y s2)) rfl (by kernel_rfl) (by kernel_rfl) (by kernel_rfl) (fun _ _ _ h => h) (Or.inl ⟨by rfl, fun w0 hSw => exec_load (x := .tmp 7) rfl rfl (tr_load hSw.1)⟩) (by assumption) ?_
            try simp only [List.getElem_toArray, List.getElem_cons_succ, List.getElem_cons_zero, Act.put, List.setIfInBounds_toArray, List.set_cons_zero, List.set_cons_succ]
            refine wpAnyH_take (i := 18) (v := ?_) rfl (by kernel_rfl) (by kernel_rfl) (by kernel_rfl) (fun _ _ _ h => h) (Or.inl ⟨by rfl, ?_⟩) (by assumption) ?_
            rotate_left
            · (intro w0 hSw; (try dsimp only at hSw); go_simp; try with_reducible rfl)
            try simp only [List.getElem_toArray, List.getElem_cons_succ, List.getElem_cons_zero, Act.put, List.setIfInBounds_toArray, List.set_cons_zero, List.set_cons_succ]
            refine wpAnyH_take (i := 20) (v := .agg (trc y s3)) rfl (by kernel_rfl) (by kernel_rfl) (by kernel_rfl) (fun _ _ _ h => h) (Or.inl ⟨by rfl, fun w0 hSw => exec_load (x := .tmp 9) rfl rfl (tr_loadR hSw.2)⟩) (by assumption) ?_
            try simp only [List.getElem_toArray, List.getElem_cons_succ, List.getElem_cons_zero, Act.put, List.setIfInBounds_toArray, List.set_cons_zero, List.set_cons_succ]
            refine wpAnyH_take (i := 21) (v := ?_) rfl (by kernel_rfl) (by kernel_rfl) (by kernel_rfl) (fun _ _ _ h => h) (Or.inl ⟨by rfl, ?_⟩) (by assumption) ?_
            rotate_left
            · (intro w0 hSw; (try dsimp only at hSw); go_simp; try with_reducible rfl)
            try simp only [List.getElem_toArray, List.getElem_cons_succ, List.getElem_cons_zero, Act.put, List.setIfInBounds_toArray, List.set_cons_zero, List.set_cons_succ]
            refine wpAnyH_ready (rs := [19]) (by kernel_rfl) (by simp) ?_
            refine AllReadyH.cons rfl (fun K hK => ?_) AllReadyH.nil
            go_simp
            refine (AG1.out _ (TA3.out.step B4.out)).mono ?_
            rintro e V8 ⟨u1, rfl, hu1, hb⟩
            try go_simp
            obtain ⟨A8, c8, rfl, rd8, _, _⟩ := own_rd hu1
            have RD8 := Lib.hid rd8
            have B5 := Lib.hid (B4.out.trans (hb.mono B4.out.size))
            clear hb hu1 rd8
            refine hK.out _ _ (KP.out _ B5.out) (fun hHeld => ?_)
            clear hK K
            refine wpAnyH_ready (rs := [22]) (by kernel_rfl) (by simp) ?_
            refine AllReadyH.cons rfl (fun K hK => ?_) AllReadyH.nil
            go_simp
            refine (AG2.out _ (TB3.out.step B5.out)).mono ?_
            rintro e V9 ⟨u2, rfl, hu2, hb⟩
            try go_simp
            obtain ⟨A9, c9, rfl, rd9, _, _⟩ := own_rd hu2
            have RD9 := Lib.hid rd9
            have RD8 := Lib.hid (RD8.out.below hb)
            have B6 := Lib.hid (B5.out.trans (hb.mono B5.out.size))
            clear hb hu2 rd9
            refine hK.out _ _ (KP.out _ B6.out) (fun hHeld => ?_)
            clear hK K
            refine wpAnyH_ready (rs := [23]) (by kernel_rfl) (by simp) ?_
            refine AllReadyH.cons rfl (fun K hK => ?_) AllReadyH.nil
            go_simp
            refine (msgs_any _ _ _ _ _ _ _ _ ag ag _ (by have := HAG.out.2; omega) rfl rfl HAG.out.1 HAG.out.1 RD8.out RD9.out).mono ?_
            rintro e V10 ⟨rfl, qr, rfl⟩
            try go_simp
            have B7 := Lib.hid (below_drewN B6.out qr)
            refine hK.out _ _ (KP.out _ B7.out) (fun hHeld => ?_)
            clear hK K
            refine wpAnyH_take (i := 24) (v := ?_) rfl (by kernel_rfl) (by kernel_rfl) (by kernel_rfl) (fun _ _ _ h => h) (Or.inl ⟨by rfl, ?_⟩) (by assumption) ?_
            rotate_left
            · (intro w0 hSw; (try dsimp only at hSw); go_simp; try with_reducible rfl)
            try simp only [List.getElem_toArray, List.getElem_cons_succ, List.getElem_cons_zero, Act.put, List.setIfInBounds_toArray, List.set_cons_zero, List.set_cons_succ]
            refine wpAnyH_take (i := 25) (v := ?_) rfl (by kernel_rfl) (by kernel_rfl) (by kernel_rfl) (fun _ _ _ h => h) (Or.inl ⟨by rfl, ?_⟩) (by assumption) ?_
            rotate_left
            · (intro w0 hSw; (try dsimp only at hSw); go_simp; try with_reducible rfl)
            try simp only [List.getElem_toArray, List.getElem_cons_succ, List.getElem_cons_zero, Act.put, List.setIfInBounds_toArray, List.set_cons_zero, List.set_cons_succ]
            refine wpAnyH_done (by kernel_rfl) ?_ _
            go_wp2_with fail
            go_meet
            exact ⟨rfl, B7.out⟩
          case rest =>
            obtain ⟨rfl, hb7⟩ := hcut
            have XF := Lib.hid (ZA3.out.here hb7)
            have RF := Lib.hid (ZB3.out.here hb7)
            have TF := Lib.hid (TA3.out.step hb7)
            have SF := Lib.hid (TB3.out.step hb7)
            have BF := Lib.hid (stepB CB3.out hb7)
            clear hb7 ZA3 ZB3 TA3 TB3 UA3 UB3 CB3
            generalize wc = V5 at XF RF TF SF BF ⊢
            go_upto_region 17 with fail
            go_cut [109] from 98 to 109 (fun v wx => v = .bool false ∧ Below V5.heap.size V5 wx)
            case first =>
              have KP := Lib.hid (show ∀ Y, Below V5.heap.size V5 Y → (Blk Y g 30 (trc y s2) ∧ Blk Y gv 37 (trc y s3)) from fun Y hy => ⟨XF.out.here hy, RF.out.here hy⟩)
              obtain ⟨dd, hdd⟩ : ∃ dd, decided y = dd := ⟨_, rfl⟩
              obtain ⟨oo, hoo⟩ : ∃ oo, overB y = oo := ⟨_, rfl⟩
              have HDD := Lib.hid hdd
              have OV1 := Lib.hid (fun (W : World) (h : Tm W 0 y s2) => show Calls Tryz.prog 16 #[.agg (trc y s2)] W (fun e w' => e = .returned (.bool oo) ∧ Below W.heap.size W w') from by rw [← hoo]; exact over_any y s2 W h OKY.out.tch OKY.out.acks)
              have OV2 := Lib.hid (fun (W : World) (h : Tm W 0 y s3) => show Calls Tryz.prog 17 #[.agg (trc y s3)] W (fun e w' => e = .returned (.bool oo) ∧ Below W.heap.size W w') from by rw [← hoo]; exact refOver_any y s3 W h (by have := OKY.out.tch.len; omega) (by have := OKY.out.acks.len; omega))
              clear hdd hoo
              refine wp_region_held_drew (S := fun w' => Blk w' g 30 (trc y s2) ∧ Blk w' gv 37 (trc y s3)) (by kernel_rfl) (KP.out _ (Below.refl _ _).drew) (fun hHeld => ?_)
              have B1 := Lib.hid (show Below V5.heap.size V5 V5.drew from (Below.refl _ _).drew)
              generalize V5.drew = V6 at B1 hHeld ⊢
              refine wpAnyH_take (i := 0) (v := .agg (trc y s2)) rfl (by kernel_rfl) (by kernel_rfl) (by kernel_rfl) (fun _ _ _ h => h) (Or.inl ⟨by rfl, fun w0 hSw => exec_load (x := .tmp 7) rfl rfl (tr_load hSw.1)⟩) (by assumption) ?_
              try simp only [List.getElem_toArray, List.getElem_cons_succ, List.getElem_cons_zero, Act.put, List.setIfInBounds_toArray, List.set_cons_zero, List.set_cons_succ]
              refine wpAnyH_take (i := 2) (v := .agg (trc y s3)) rfl (by kernel_rfl) (by kernel_rfl) (by kernel_rfl) (fun _ _ _ h => h) (Or.inl ⟨by rfl, fun w0 hSw => exec_load (x := .tmp 9) rfl rfl (tr_loadR hSw.2)⟩) (by assumption) ?_
              try simp only [List.getElem_toArray, List.getElem_cons_succ, List.getElem_cons_zero, Act.put, List.setIfInBounds_toArray, List.set_cons_zero, List.set_cons_succ]
              refine wpAnyH_ready (rs := [1]) (by kernel_rfl) (by simp) ?_
              refine AllReadyH.cons rfl (fun K hK => ?_) AllReadyH.nil
              go_simp
              refine (decided_b y s2 _ dd HDD.out).mono ?_
              rintro e V7 ⟨rfl, hb⟩
              try go_simp
              have B2 := Lib.hid (B1.out.trans (hb.mono B1.out.size))
              clear hb
              refine hK.out _ _ (KP.out _ B2.out) (fun hHeld => ?_)
              clear hK K
              refine wpAnyH_ready (rs := [3]) (by kernel_rfl) (by simp) ?_
              refine AllReadyH.cons rfl (fun K hK => ?_) AllReadyH.nil
              go_simp
              refine (refDecided_b y s3 _ dd HDD.out).mono ?_
              rintro e V8 ⟨rfl, hb⟩
              try go_simp
              have B3 := Lib.hid (B2.out.trans (hb.mono B2.out.size))
              clear hb
              refine hK.out _ _ (KP.out _ B3.out) (fun hHeld => ?_)
              clear hK K
              refine wpAnyH_take (i := 4) (v := ?_) rfl (by kernel_rfl) (by kernel_rfl) (by kernel_rfl) (fun _ _ _ h => h) (Or.inl ⟨by rfl, ?_⟩) (by assumption) ?_
              rotate_left
              · (intro w0 hSw; (try dsimp only at hSw); go_simp; try with_reducible rfl)
              try simp only [List.getElem_toArray, List.getElem_cons_succ, List.getElem_cons_zero, Act.put, List.setIfInBounds_toArray, List.set_cons_zero, List.set_cons_succ]
              refine wpAnyH_take (i := 5) (v := ?_) rfl (by kernel_rfl) (by kernel_rfl) (by kernel_rfl) (fun _ _ _ h => h) (Or.inl ⟨by rfl, ?_⟩) (by assumption) ?_
              rotate_left
              · (intro w0 hSw; (try dsimp only at hSw); go_simp; try with_reducible rfl)
              try simp only [List.getElem_toArray, List.getElem_cons_succ, List.getElem_cons_zero, Act.put, List.setIfInBounds_toArray, List.set_cons_zero, List.set_cons_succ]
              refine wpAnyH_take (i := 6) (v := .agg (trc y s2)) rfl (by kernel_rfl) (by kernel_rfl) (by kernel_rfl) (fun _ _ _ h => h) (Or.inl ⟨by rfl, fun w0 hSw => exec_load (x := .tmp 7) rfl rfl (tr_load hSw.1)⟩) (by assumption) ?_
              try simp only [List.getElem_toArray, List.getElem_cons_succ, List.getElem_cons_zero, Act.put, List.setIfInBounds_toArray, List.set_cons_zero, List.set_cons_succ]
              refine wpAnyH_take (i := 8) (v := .agg (trc y s3)) rfl (by kernel_rfl) (by kernel_rfl) (by kernel_rfl) (fun _ _ _ h => h) (Or.inl ⟨by rfl, fun w0 hSw => exec_load (x := .tmp 9) rfl rfl (tr_loadR hSw.2)⟩) (by assumption) ?_
              try simp only [List.getElem_toArray, List.getElem_cons_succ, List.getElem_cons_zero, Act.put, List.setIfInBounds_toArray, List.set_cons_zero, List.set_cons_succ]
              refine wpAnyH_ready (rs := [7]) (by kernel_rfl) (by simp) ?_
              refine AllReadyH.cons rfl (fun K hK => ?_) AllReadyH.nil
              go_simp
              refine (OV1.out _ (TF.out.step B3.out)).mono ?_
              rintro e V9 ⟨rfl, hb⟩
              try go_simp
              have B4 := Lib.hid (B3.out.trans (hb.mono B3.out.size))
              clear hb
              refine hK.out _ _ (KP.out _ B4.out) (fun hHeld => ?_)
              clear hK K
              refine wpAnyH_ready (rs := [9]) (by kernel_rfl) (by simp) ?_
              refine AllReadyH.cons rfl (fun K hK => ?_) AllReadyH.nil
              go_simp
              refine (OV2.out _ (SF.out.step B4.out)).mono ?_
              rintro e V10 ⟨rfl, hb⟩
              try go_simp
              have B5 := Lib.hid (B4.out.trans (hb.mono B4.out.size))
              clear hb
              refine hK.out _ _ (KP.out _ B5.out) (fun hHeld => ?_)
              clear hK K
              refine wpAnyH_take (i := 10) (v := ?_) rfl (by kernel_rfl) (by kernel_rfl) (by kernel_rfl) (fun _ _ _ h => h) (Or.inl ⟨by rfl, ?_⟩) (by assumption) ?_
              rotate_left
              · (intro w0 hSw; (try dsimp only at hSw); go_simp; try with_reducible rfl)
              try simp only [List.getElem_toArray, List.getElem_cons_succ, List.getElem_cons_zero, Act.put, List.setIfInBounds_toArray, List.set_cons_zero, List.set_cons_succ]
              refine wpAnyH_take (i := 11) (v := ?_) rfl (by kernel_rfl) (by kernel_rfl) (by kernel_rfl) (fun _ _ _ h => h) (Or.inl ⟨by rfl, ?_⟩) (by assumption) ?_
              rotate_left
              · (intro w0 hSw; (try dsimp only at hSw); go_simp; try with_reducible rfl)
              try simp only [List.getElem_toArray, List.getElem_cons_succ, List.getElem_cons_zero, Act.put, List.setIfInBounds_toArray, List.set_cons_zero, List.set_cons_succ]
              refine wpAnyH_done (by kernel_rfl) ?_ _
              go_wp2_with fail
              go_meet
              exact ⟨rfl, B5.out⟩
            case rest =>
              obtain ⟨rfl, hb8⟩ := hcut
              have XG := Lib.hid (XF.out.here hb8)
              have RG := Lib.hid (RF.out.here hb8)
              have TG := Lib.hid (TF.out.step hb8)
              have SG := Lib.hid (SF.out.step hb8)
              have BG := Lib.hid (stepB BF.out hb8)
              clear hb8
              go_wp2_with fail
              go_roundw
              case rel => exact ⟨m + 1, y, s2, s3, by omega, by go_num, OKY.out, XG.out, RG.out, TG.out, SG.out, BG.out⟩
              case measure => simp [RowKit.intOf]; omega
    · obtain rfl : m = n := by omega
      have d3 : decide ((m : Int) < (m : Int)) = false := by simp
      have HSX := Lib.hid (OKX.out.short (by omega))
      have KP := Lib.hid (show ∀ Y, Below X.heap.size X Y → (Blk Y g 30 (trc x s) ∧ Blk Y gv 37 (trc x s')) from fun Y hy => ⟨XX.out.here hy, XR.out.here hy⟩)
      go_upto_region 19 with fail
      refine wp_region_held_drew (S := fun w' => Blk w' g 30 (trc x s) ∧ Blk w' gv 37 (trc x s')) (by kernel_rfl) (KP.out _ (Below.refl _ _).drew) (fun hHeld => ?_)
      have B1 := Lib.hid (show Below X.heap.size X X.drew from (Below.refl _ _).drew)
      generalize X.drew = V6 at B1 hHeld ⊢
      refine wpAnyH_take (i := 0) (v := ?_) rfl (by kernel_rfl) (by kernel_rfl) (by kernel_rfl) (fun _ _ _ h => h) (Or.inl ⟨by rfl, ?_⟩) (by assumption) ?_
      rotate_left
      · (intro w0 hSw; (try dsimp only at hSw); go_simp; try with_reducible rfl)
      try simp only [List.getElem_toArray, List.getElem_cons_succ, List.getElem_cons_zero, Act.put, List.setIfInBounds_toArray, List.set_cons_zero, List.set_cons_succ]
      refine wpAnyH_take (i := 1) (v := ?_) rfl (by kernel_rfl) (by kernel_rfl) (by kernel_rfl) (fun _ _ _ h => h) (Or.inl ⟨by rfl, ?_⟩) (by assumption) ?_
      rotate_left
      · (intro w0 hSw; (try dsimp only at hSw); go_simp; try with_reducible rfl)
      try simp only [List.getElem_toArray, List.getElem_cons_succ, List.getElem_cons_zero, Act.put, List.setIfInBounds_toArray, List.set_cons_zero, List.set_cons_succ]
      refine wpAnyH_take (i := 2) (v := ?_) rfl (by kernel_rfl) (by kernel_rfl) (by kernel_rfl) (fun _ _ _ h => h) (Or.inl ⟨by rfl, ?_⟩) (by assumption) ?_
      rotate_left
      · (intro w0 hSw; (try dsimp only at hSw); go_simp; try with_reducible rfl)
      try simp only [List.getElem_toArray, List.getElem_cons_succ, List.getElem_cons_zero, Act.put, List.setIfInBounds_toArray, List.set_cons_zero, List.set_cons_succ]
      refine wpAnyH_take (i := 3) (v := .agg (trc x s)) rfl (by kernel_rfl) (by kernel_rfl) (by kernel_rfl) (fun _ _ _ h => h) (Or.inl ⟨by rfl, fun w0 hSw => exec_load (x := .tmp 7) rfl rfl (tr_load hSw.1)⟩) (by assumption) ?_
      try simp only [List.getElem_toArray, List.getElem_cons_succ, List.getElem_cons_zero, Act.put, List.setIfInBounds_toArray, List.set_cons_zero, List.set_cons_succ]
      refine wpAnyH_take (i := 5) (v := .agg (trc x s')) rfl (by kernel_rfl) (by kernel_rfl) (by kernel_rfl) (fun _ _ _ h => h) (Or.inl ⟨by rfl, fun w0 hSw => exec_load (x := .tmp 9) rfl rfl (tr_loadR hSw.2)⟩) (by assumption) ?_
      try simp only [List.getElem_toArray, List.getElem_cons_succ, List.getElem_cons_zero, Act.put, List.setIfInBounds_toArray, List.set_cons_zero, List.set_cons_succ]
      refine wpAnyH_ready (rs := [4]) (by kernel_rfl) (by simp) ?_
      refine AllReadyH.cons rfl (fun K hK => ?_) AllReadyH.nil
      go_simp
      refine (plain_any x s _ (TX.out.step B1.out)).mono ?_
      rintro e V7 ⟨rfl, hb⟩
      try go_simp
      have B2 := Lib.hid (B1.out.trans (hb.mono B1.out.size))
      clear hb
      refine hK.out _ _ (KP.out _ B2.out) (fun hHeld => ?_)
      clear hK K
      refine wpAnyH_ready (rs := [6]) (by kernel_rfl) (by simp) ?_
      refine AllReadyH.cons rfl (fun K hK => ?_) AllReadyH.nil
      go_simp
      refine (same_any x s s' _ (TX.out.step B2.out) (TR.out.step B2.out) HSX.out).mono ?_
      rintro e V8 ⟨rfl, hb⟩
      try go_simp
      have B3 := Lib.hid (B2.out.trans (hb.mono B2.out.size))
      clear hb
      refine hK.out _ _ (KP.out _ B3.out) (fun hHeld => ?_)
      clear hK K
      refine wpAnyH_take (i := 7) (v := ?_) rfl (by kernel_rfl) (by kernel_rfl) (by kernel_rfl) (fun _ _ _ h => h) (Or.inl ⟨by rfl, ?_⟩) (by assumption) ?_
      rotate_left
      · (intro w0 hSw; (try dsimp only at hSw); go_simp; try with_reducible rfl)
      try simp only [List.getElem_toArray, List.getElem_cons_succ, List.getElem_cons_zero, Act.put, List.setIfInBounds_toArray, List.set_cons_zero, List.set_cons_succ]
      refine wpAnyH_take (i := 8) (v := ?_) rfl (by kernel_rfl) (by kernel_rfl) (by kernel_rfl) (fun _ _ _ h => h) (Or.inl ⟨by rfl, ?_⟩) (by assumption) ?_
      rotate_left
      · (intro w0 hSw; (try dsimp only at hSw); go_simp; try with_reducible rfl)
      try simp only [List.getElem_toArray, List.getElem_cons_succ, List.getElem_cons_zero, Act.put, List.setIfInBounds_toArray, List.set_cons_zero, List.set_cons_succ]
      refine wpAnyH_done (by kernel_rfl) ?_ _
      go_wp2_with fail
      go_ret
      exact ⟨rfl, stepB BX.out B3.out⟩
end Go.Proofs.YthfhhapefjideaaGreat
