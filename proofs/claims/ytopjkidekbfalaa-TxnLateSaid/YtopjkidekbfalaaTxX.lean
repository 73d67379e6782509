/- The walk of TxnLate. -/
import Derived.Test.YtopjkidekbfalaaTxW
namespace Go.Proofs.Ytopjkidekbfalaa
open Go.RowKit
set_option linter.unusedVariables false
set_option linter.unusedSimpArgs false

set_option maxRecDepth 100000 in
set_option maxHeartbeats 32000000 in
theorem txnLate_walk (A : Option Addr) (n c : Nat) (l : List (List Int)) (a : List Int) (haa : a.length = 33) (w : World) (hl : l.length = n) (ha : ∀ x ∈ l, x.length = 33) (hr : Reads w w.heap.size 33 A n (ints l.flatten)) :
    Calls Try.prog 5 #[.slice A n c, .agg (mc a)] w fun e w' => e = .returned (.bool true) ∧ Below w.heap.size w w' := by
  have hnn := fun W => run_neq_nil_nil (P := Try.prog) W 32 Try.underlying32
  have hen := fun W => run_eql_nil_nil (P := Try.prog) W 32 Try.underlying32
  have H := Lib.hid hr
  have HL := Lib.hid hl
  have HAA := Lib.hid haa
  have HA := Lib.hid ha
  clear hr hl ha haa
  by_cases hn : 60 < n
  · have d0 : decide ((60 : Int) < (n : Int)) = true := by simp; omega
    go_enter Try.func5, Try.ntmps5
    go_upto_region 1 with fail
    have P1 := Lib.hid (Blk.new w 44 (mc a))
    have B00 := Lib.hid (Joins.below_alloc1 w (.cells (mc a) 44))
    have H := Lib.hid ((H.out.below B00.out).more B00.out.size)
    have HP0 := Lib.hid (show w.heap.size < (w.alloc (.cells (mc a) 44)).heap.size from P1.out.lt)
    generalize w.alloc (.cells (mc a) 44) = w1 at P1 B00 H HP0 ⊢
    obtain ⟨pa, hpa⟩ : ∃ pa, pa = w.heap.size := ⟨_, rfl⟩
    rw [← hpa] at P1 HP0 ⊢
    clear hpa
    go_wp2_with (go_at_call 7; refine (txnAlive _).mono ?_; rintro e w0 ⟨rfl, hb0⟩; have B0 := Lib.hid hb0; clear hb0)
    go_ret
    exact ⟨rfl, B00.out.trans (B0.out.mono B00.out.size)⟩
  · have d0 : decide ((60 : Int) < (n : Int)) = false := by simp; omega
    go_enter Try.func5, Try.ntmps5
    go_upto_region 1 with fail
    have P1 := Lib.hid (Blk.new w 44 (mc a))
    have B00 := Lib.hid (Joins.below_alloc1 w (.cells (mc a) 44))
    have H := Lib.hid ((H.out.below B00.out).more B00.out.size)
    have HP0 := Lib.hid (show w.heap.size < (w.alloc (.cells (mc a) 44)).heap.size from P1.out.lt)
    generalize w.alloc (.cells (mc a) 44) = w1 at P1 B00 H HP0 ⊢
    obtain ⟨pa, hpa⟩ : ∃ pa, pa = w.heap.size := ⟨_, rfl⟩
    rw [← hpa] at P1 HP0 ⊢
    clear hpa
    go_upto_region 6 with (first
      | (go_at_call 7; refine (txnAlive _).mono ?_; rintro e w0 ⟨rfl, hb0⟩; have B0 := Lib.hid hb0; clear hb0)
      | (go_at_call 8; refine (new_ok 5 (by omega) (by omega) _).mono ?_; rintro e W1 ⟨rfl, hb⟩; have B1 := Lib.hid (stepB B0.out hb); clear hb B0)
      | (refine wpList_store_mid (by rfl) 30 (.tmp 5) (.tmp 21) (by rfl) W1.heap.size 0 (trc (newL 5) noSl) (by rfl) (by rfl) ((show Blk (W1.alloc (.cells zTr 30)) W1.heap.size 30 (trc noTr noSl) from Blk.new W1 _ _).there (Nat.le_refl 13)) (tr_info _ _) (tr_one _ _ rfl rfl rfl rfl) ?_
         have XV := Lib.hid (show Blk ((W1.alloc (.cells zTr 30)).setCells W1.heap.size 0 (trc (newL 5) noSl).toList) W1.heap.size 30 (trc (newL 5) noSl) from (show Blk (W1.alloc (.cells zTr 30)) W1.heap.size 30 (trc noTr noSl) from Blk.new W1 _ _).put _ rfl)
         have BV := Lib.hid (Below.setCells (b := W1.heap.size) (show w1.heap.size ≤ W1.heap.size from B1.out.size) (trc (newL 5) noSl).toList 0 _ (stepA B1.out (.cells zTr 30)))
         have HG := Lib.hid B1.out.size
         generalize (W1.alloc (.cells zTr 30)).setCells W1.heap.size 0 (trc (newL 5) noSl).toList = WV at XV BV ⊢
         generalize W1.heap.size = g at XV HG ⊢))
    clear B1
    go_wp2_with fail
    have PV := Lib.hid (P1.out.below BV.out HP0.out)
    go_loopw [7] (fun i wr => ∃ (m : Nat) (x : Tr) (s : Sl), m ≤ n ∧ i = .int .i64 m ∧ TrOk x m ∧ x.tx = 5 ∧ Blk wr g 30 (trc x s) ∧ Tm wr 0 x s ∧ Below w1.heap.size w1 wr) (fun i _ => n - (RowKit.intOf i).toNat)
    case atStart => exact ⟨0, newL 5, noSl, Nat.zero_le _, rfl, TrOk.new (by omega) 0, rfl, XV.out, Tm.new WV 0 5, BV.out⟩
    case round =>
      rename World => X
      obtain ⟨m, x, s, hm, rfl, hok, htx, hblk, htm, hbel⟩ := hrel
      have OKX := Lib.hid hok
      have HTX := Lib.hid htx
      have XX := Lib.hid hblk
      have TX := Lib.hid htm
      have BX := Lib.hid hbel
      clear hok htx hblk htm hbel XV BV PV
      by_cases hmn : m < n
      · have d3 : decide ((m : Int) < (n : Int)) = true := by simp; omega
        go_upto_region 11 with fail
        obtain ⟨ab, aoff, rfl, hab, ha33, hac⟩ := (H.out.below BX.out).txAct_at HA.out HL.out hmn
        have AC := Lib.hid hac
        have A33 := Lib.hid ha33
        clear hac ha33 hab
        generalize l.getD m [] = ai at AC A33
        have HAI := Lib.hid (act_info A33.out)
        have hgl := XX.out.lt
        refine wp_region_till 10 (fun w' => Blk w' g 30 (trc x s) ∧ ∀ j v, (ints ai)[j]? = some v → w'.cell? ((⟨ab, aoff + m * 33, none⟩ : Addr).add j) = some v) (by kernel_rfl) ⟨XX.out.drew, fun j v hv => AC.out j v hv⟩ (fun hHeld => ?_)
        have BD := Lib.hid (show Below X.heap.size X X.drew from (Below.refl _ _).drew)
        have HCK := Lib.hid (show ∀ Y, Below X.heap.size X Y → ∀ j v, (ints ai)[j]? = some v → Y.cell? ((⟨ab, aoff + m * 33, none⟩ : Addr).add j) = some v from fun Y hy j v hv => (hy.cell (p := (⟨ab, aoff + m * 33, none⟩ : Addr).add j) (by rw [block_of_add]; exact World.block_lt_of_cell? _ _ (AC.out j v hv) |> (by simpa [block_of_add] using ·))).trans (AC.out j v hv))
        generalize X.drew = X1 at BD hHeld ⊢
        refine wpTill_take (i := 0) (v := .agg (trc x s)) rfl (by kernel_rfl) (by kernel_rfl) (by kernel_rfl) (by kernel_rfl) (fun _ _ _ h => h) (Or.inl ⟨by rfl, fun w0 hSw => exec_load (x := .tmp 5) rfl rfl (tr_load hSw.1)⟩) (by assumption) ?_
        try simp only [List.getElem_toArray, List.getElem_cons_succ, List.getElem_cons_zero, Act.put, List.setIfInBounds_toArray, List.set_cons_zero, List.set_cons_succ]
        refine wpTill_take (i := 1) (v := ?_) rfl (by kernel_rfl) (by kernel_rfl) (by kernel_rfl) (by kernel_rfl) (fun _ _ _ h => h) (Or.inl ⟨by rfl, ?_⟩) (by assumption) ?_
        rotate_left
        · (intro w0 hSw; (try dsimp only at hSw); go_simp; try with_reducible rfl)
        try simp only [List.getElem_toArray, List.getElem_cons_succ, List.getElem_cons_zero, Act.put, List.setIfInBounds_toArray, List.set_cons_zero, List.set_cons_succ]
        refine wpTill_take (i := 2) (v := ?_) rfl (by kernel_rfl) (by kernel_rfl) (by kernel_rfl) (by kernel_rfl) (fun _ _ _ h => h) (Or.inl ⟨by rfl, ?_⟩) (by assumption) ?_
        rotate_left
        · (intro w0 hSw; (try dsimp only at hSw); go_simp; try with_reducible rfl)
        try simp only [List.getElem_toArray, List.getElem_cons_succ, List.getElem_cons_zero, Act.put, List.setIfInBounds_toArray, List.set_cons_zero, List.set_cons_succ]
        refine wpTill_take (i := 3) (v := ?_) rfl (by kernel_rfl) (by kernel_rfl) (by kernel_rfl) (by kernel_rfl) (fun _ _ _ h => h) (Or.inl ⟨by rfl, ?_⟩) (by assumption) ?_
        rotate_left
        · (intro w0 hSw; (try dsimp only at hSw); go_simp; try with_reducible rfl)
        try simp only [List.getElem_toArray, List.getElem_cons_succ, List.getElem_cons_zero, Act.put, List.setIfInBounds_toArray, List.set_cons_zero, List.set_cons_succ]
        refine wpTill_take (i := 4) (v := .agg (mc ai)) rfl (by kernel_rfl) (by kernel_rfl) (by kernel_rfl) (by kernel_rfl) (fun _ _ _ h => h) (Or.inl ⟨by rfl, fun w0 hSw => exec_load (x := .tmp 35) rfl (ad := ⟨ab, aoff + m * 33, none⟩) rfl (run_loadVar_cells w0 _ _ (ints ai) _ hSw.2 Try.underlying44 rfl HAI.out)⟩) (by assumption) ?_
        try simp only [List.getElem_toArray, List.getElem_cons_succ, List.getElem_cons_zero, Act.put, List.setIfInBounds_toArray, List.set_cons_zero, List.set_cons_succ]
        refine wpTill_ready (rs := [5]) (by kernel_rfl) (by simp) ?_
        refine AllTill.cons rfl (fun K hK => ?_) AllTill.nil
        go_simp
        refine (act_any x s ai A33.out _ (TX.out.step BD.out) OKX.out (by omega)).mono ?_
        rintro e X2 ⟨s2, u, rfl, ht2, hu2, hb2⟩
        try go_simp
        have OK2 := Lib.hid (OKX.out.act ai)
        have TX2 := Lib.hid (actL_tx x ai)
        obtain ⟨y, ms, cc, hy⟩ : ∃ y ms cc, actL x ai = (y, ms, cc) := ⟨_, _, _, rfl⟩
        rw [hy] at ht2 hu2 OK2 TX2
        simp only [hy]
        have TX2 := Lib.hid (TX2.out.trans HTX.out)
        clear hy
        have T2 := Lib.hid ht2
        have E2 := Lib.hid (BD.out.trans (hb2.mono BD.out.size))
        clear ht2 hu2 hb2
        refine hK.out _ _ ⟨XX.out.here E2.out, HCK.out _ E2.out⟩ (fun hHeld => ?_)
        clear hK K
        refine wpTill_take (i := 6) (v := ?_) rfl (by kernel_rfl) (by kernel_rfl) (by kernel_rfl) (by kernel_rfl) (fun _ _ _ h => h) (Or.inl ⟨by rfl, ?_⟩) (by assumption) ?_
        rotate_left
        · (intro w0 hSw; (try dsimp only at hSw); go_simp; try with_reducible rfl)
        try simp only [List.getElem_toArray, List.getElem_cons_succ, List.getElem_cons_zero, Act.put, List.setIfInBounds_toArray, List.set_cons_zero, List.set_cons_succ]
        refine wpTill_take (i := 7) (v := ?_) rfl (by kernel_rfl) (by kernel_rfl) (by kernel_rfl) (by kernel_rfl) (fun _ _ _ h => h) (Or.inl ⟨by rfl, ?_⟩) (by assumption) ?_
        rotate_left
        · (intro w0 hSw; (try dsimp only at hSw); go_simp; try with_reducible rfl)
        try simp only [List.getElem_toArray, List.getElem_cons_succ, List.getElem_cons_zero, Act.put, List.setIfInBounds_toArray, List.set_cons_zero, List.set_cons_succ]
        refine wpTill_pure (i := 8) (v := ?_) rfl (by kernel_rfl) (by kernel_rfl) (by kernel_rfl) (by kernel_rfl) (fun _ _ _ h => h) (Or.inl ⟨by rfl, ?_⟩) (by first | (exact fun _ => by assumption) | (exact fun hf => by cases hf)) ?_
        rotate_left
        · (intro w0 hSw; clear hSw; go_simp; try with_reducible rfl)
        try simp only [List.getElem_toArray, List.getElem_cons_succ, List.getElem_cons_zero, Act.put, List.setIfInBounds_toArray, List.set_cons_zero, List.set_cons_succ]
        refine wpTill_pure (i := 9) (v := ?_) rfl (by kernel_rfl) (by kernel_rfl) (by kernel_rfl) (by kernel_rfl) (fun _ _ _ h => h) (Or.inl ⟨by rfl, ?_⟩) (by first | (exact fun _ => by assumption) | (exact fun hf => by cases hf)) ?_
        rotate_left
        · (intro w0 hSw; clear hSw; go_simp; try with_reducible rfl)
        try simp only [List.getElem_toArray, List.getElem_cons_succ, List.getElem_cons_zero, Act.put, List.setIfInBounds_toArray, List.set_cons_zero, List.set_cons_succ]
        refine wpTill_ready (rs := [10]) (by kernel_rfl) (by simp) ?_
        refine AllTill.last rfl (of_decide_eq_true (by kernel_rfl)) (fun K hK => ?_)
        refine step_store_mid (by rfl) 30 (.tmp 5) (.tmp 38) rfl g 0 (trc y s2) rfl rfl ((XX.out.here E2.out).there (Nat.le_refl 13)) (tr_info _ _) T2.out.one ?_
        have E3 := Lib.hid (show Turn (fun k => k = g) X2 (X2.setCells g 0 (trc y s2).toList) from Turn.setCells (S := fun k => k = g) (fun _ => rfl) _ _ _ (Turn.refl _ _))
        have XZ := Lib.hid ((XX.out.here E2.out).put (trc y s2) rfl)
        have BZ := Lib.hid ((stepB BX.out E2.out).trans (E3.out.below (B := w1.heap.size) (fun k hk e => by have := HG.out; omega) (Nat.le_trans BX.out.size E2.out.size)))
        have TZ := Lib.hid (T2.out.offB (XX.out.here E2.out) E3.out)
        refine hK.out _ _ ?_
        clear hK K
        generalize X2.setCells g 0 (trc y s2).toList = X3 at XZ BZ TZ ⊢
        refine wpTill_done (by kernel_rfl) ?_ _
        go_wp2_with fail
        go_roundw
        case rel => exact ⟨m + 1, y, s2, by omega, by go_num, OK2.out, TX2.out, XZ.out, TZ.out, BZ.out⟩
        case measure => simp [RowKit.intOf]; omega
      · obtain rfl : m = n := by omega
        have d3 : decide ((m : Int) < (m : Int)) = false := by simp
        have PX := Lib.hid (P1.out.below BX.out HP0.out)
        have HAI := Lib.hid (show (Try.prog.info? 44).map (·.size) = some (mc a).size from by have := act_info HAA.out; simpa [mc] using this)
        obtain ⟨y, ms, cc, hy⟩ : ∃ y ms cc, actL x a = (y, ms, cc) := ⟨_, _, _, rfl⟩
        have OKY := Lib.hid (show TrOk y (m + 1) from by have := OKX.out.act a; rwa [hy] at this)
        have FD := Lib.hid (show decided x = true → fld a 0 ≠ 5 → y = x ∧ ms = [] from fun hd h5 => by have := (actL_dec x a hd).1 h5; rwa [hy] at this)
        obtain ⟨z, ms2, cc2, hz⟩ : ∃ z ms2 cc2, actL y a = (z, ms2, cc2) := ⟨_, _, _, rfl⟩
        have FT := Lib.hid (show fld a 0 ≠ 0 → z = y ∧ ms2 = [] from fun h0 => by have := actL_twice OKX.out a h0; rw [hy] at this; rw [show ((y, ms, cc) : Res3).1 = y from rfl, hz] at this; exact this)
        have HSX := Lib.hid (OKX.out.short (by omega))
        have HSY := Lib.hid (OKY.out.short (by omega))
        have AC1 := Lib.hid (act_any x s a HAA.out X TX.out OKX.out (by omega))
        rw [hy] at AC1
        have AC2 := Lib.hid (fun (W : World) (s2 : Sl) (h : Tm W 0 y s2) => act_any y s2 a HAA.out W h OKY.out (by omega))
        rw [hz] at AC2
        have hgl := XX.out.lt
        have hpl := PX.out.lt
        clear hy hz
        go_upto_region 13 with (first
          | (refine wpList_load_row rfl 30 (.tmp 5) rfl g rfl 30 (trc x s) (0, 0) _ XX.out Try.underlying30 rfl (tr_info _ _) ?_)
          | (refine wpList_load_row rfl 44 (.tmp 3) rfl pa rfl 44 (mc a) (0, 0) _ PX.out Try.underlying44 rfl HAI.out ?_)
          | (go_at_call 9; refine AC1.out.mono ?_; rintro e X2 ⟨s2, u, rfl, ht2, hu2, hb2⟩; obtain ⟨Au, cu, rfl⟩ := own_len hu2; have T2 := Lib.hid ht2; have E2 := Lib.hid hb2; clear ht2 hu2 hb2)
          | (refine wpList_store_mid (by rfl) 30 (.tmp 8) (.tmp 45) (by rfl) X2.heap.size 0 (trc y s2) (by rfl) (by rfl) ((show Blk (X2.alloc (.cells zTr 30)) X2.heap.size 30 (trc noTr noSl) from Blk.new X2 _ _).there (Nat.le_refl 13)) (tr_info _ _) T2.out.one ?_
             have E3 := Lib.hid (show Below X2.heap.size X2 ((X2.alloc (.cells zTr 30)).setCells X2.heap.size 0 (trc y s2).toList) from Below.setCells (b := X2.heap.size) (Nat.le_refl _) _ 0 _ (Joins.below_alloc1 X2 _))
             have YY := Lib.hid (show Blk ((X2.alloc (.cells zTr 30)).setCells X2.heap.size 0 (trc y s2).toList) X2.heap.size 30 (trc y s2) from (show Blk (X2.alloc (.cells zTr 30)) X2.heap.size 30 (trc noTr noSl) from Blk.new X2 _ _).put _ rfl)
             have XY := Lib.hid ((XX.out.here E2.out).here E3.out)
             have PY := Lib.hid ((PX.out.here E2.out).here E3.out)
             have BY := Lib.hid (stepB (stepB BX.out E2.out) E3.out)
             have TY := Lib.hid (T2.out.step E3.out)
             have TXX := Lib.hid ((TX.out.step E2.out).step E3.out)
             clear E3
             generalize (X2.alloc (.cells zTr 30)).setCells X2.heap.size 0 (trc y s2).toList = X3 at YY XY PY BY TY TXX ⊢
             generalize X2.heap.size = r at YY ⊢))
        obtain ⟨f0, hf0⟩ : ∃ f0, fld a 0 = f0 := ⟨_, rfl⟩
        rw [hf0] at FD FT
        have HF0 := Lib.hid hf0
        clear hf0
        have KP := Lib.hid (show ∀ Y, Below X3.heap.size X3 Y → (Blk Y g 30 (trc x s) ∧ Blk Y r 30 (trc y s2) ∧ Y.cell? ⟨pa, 0, none⟩ = some (.int .i64 f0)) from fun Y hy =>
          ⟨XY.out.here hy, YY.out.here hy, by rw [← HF0.out]; exact act_cell HAA.out (PY.out.here hy) (by omega)⟩)
        go_cut [67] (fun v wx => v = .bool false ∧ Below X3.heap.size X3 wx)
        case first =>
          cases hd : decided x with
          | false =>
            have HD := Lib.hid hd
            clear hd
            refine wp_region_held_drew (S := fun w' => Blk w' g 30 (trc x s) ∧ Blk w' r 30 (trc y s2) ∧ w'.cell? ⟨pa, 0, none⟩ = some (.int .i64 f0)) (by kernel_rfl) (KP.out _ (Below.refl _ _).drew) (fun hHeld => ?_)
            have BD := Lib.hid (show Below X3.heap.size X3 X3.drew from (Below.refl _ _).drew)
            generalize X3.drew = V1 at BD hHeld ⊢
            refine wpAnyH_take (i := 0) (v := .agg (trc x s)) rfl (by kernel_rfl) (by kernel_rfl) (by kernel_rfl) (fun _ _ _ h => h) (Or.inl ⟨by rfl, fun w0 hSw => exec_load (x := .tmp 5) rfl rfl (tr_load hSw.1)⟩) (by assumption) ?_
            try simp only [List.getElem_toArray, List.getElem_cons_succ, List.getElem_cons_zero, Act.put, List.setIfInBounds_toArray, List.set_cons_zero, List.set_cons_succ]
            refine wpAnyH_ready (rs := [1]) (by kernel_rfl) (by simp) ?_
            refine AllReadyH.cons rfl (fun K hK => ?_) AllReadyH.nil
            go_simp
            refine (decided_b x s _ false HD.out).mono ?_
            rintro e V2 ⟨rfl, hb⟩
            try go_simp
            have B2 := Lib.hid (BD.out.trans (hb.mono BD.out.size))
            clear hb
            refine hK.out _ _ (KP.out _ B2.out) (fun hHeld => ?_)
            clear hK K
            refine wpAnyH_take (i := 2) (v := ?_) rfl (by kernel_rfl) (by kernel_rfl) (by kernel_rfl) (fun _ _ _ h => h) (Or.inl ⟨by rfl, ?_⟩) (by assumption) ?_
            rotate_left
            · (intro w0 hSw; (try dsimp only at hSw); go_simp; try with_reducible rfl)
            try simp only [List.getElem_toArray, List.getElem_cons_succ, List.getElem_cons_zero, Act.put, List.setIfInBounds_toArray, List.set_cons_zero, List.set_cons_succ]
            refine wpAnyH_take (i := 3) (v := undef) rfl (by kernel_rfl) (by kernel_rfl) (by kernel_rfl) (fun _ _ _ h => h) (Or.inr ⟨by rfl, rfl⟩) (by assumption) ?_
            try simp only [List.getElem_toArray, List.getElem_cons_succ, List.getElem_cons_zero, Act.put, List.setIfInBounds_toArray, List.set_cons_zero, List.set_cons_succ]
            refine wpAnyH_take (i := 4) (v := undef) rfl (by kernel_rfl) (by kernel_rfl) (by kernel_rfl) (fun _ _ _ h => h) (Or.inr ⟨by rfl, rfl⟩) (by assumption) ?_
            try simp only [List.getElem_toArray, List.getElem_cons_succ, List.getElem_cons_zero, Act.put, List.setIfInBounds_toArray, List.set_cons_zero, List.set_cons_succ]
            refine wpAnyH_take (i := 5) (v := undef) rfl (by kernel_rfl) (by kernel_rfl) (by kernel_rfl) (fun _ _ _ h => h) (Or.inr ⟨by rfl, rfl⟩) (by assumption) ?_
            try simp only [List.getElem_toArray, List.getElem_cons_succ, List.getElem_cons_zero, Act.put, List.setIfInBounds_toArray, List.set_cons_zero, List.set_cons_succ]
            refine wpAnyH_take (i := 6) (v := ?_) rfl (by kernel_rfl) (by kernel_rfl) (by kernel_rfl) (fun _ _ _ h => h) (Or.inl ⟨by rfl, ?_⟩) (by assumption) ?_
            rotate_left
            · (intro w0 hSw; (try dsimp only at hSw); go_simp; try with_reducible rfl)
            try simp only [List.getElem_toArray, List.getElem_cons_succ, List.getElem_cons_zero, Act.put, List.setIfInBounds_toArray, List.set_cons_zero, List.set_cons_succ]
            refine wpAnyH_take (i := 7) (v := ?_) rfl (by kernel_rfl) (by kernel_rfl) (by kernel_rfl) (fun _ _ _ h => h) (Or.inl ⟨by rfl, ?_⟩) (by assumption) ?_
            rotate_left
            · (intro w0 hSw; (try dsimp only at hSw); go_simp; try with_reducible rfl)
            try simp only [List.getElem_toArray, List.getElem_cons_succ, List.getElem_cons_zero, Act.put, List.setIfInBounds_toArray, List.set_cons_zero, List.set_cons_succ]
            refine wpAnyH_take (i := 8) (v := undef) rfl (by kernel_rfl) (by kernel_rfl) (by kernel_rfl) (fun _ _ _ h => h) (Or.inr ⟨by rfl, rfl⟩) (by assumption) ?_
            try simp only [List.getElem_toArray, List.getElem_cons_succ, List.getElem_cons_zero, Act.put, List.setIfInBounds_toArray, List.set_cons_zero, List.set_cons_succ]
            refine wpAnyH_take (i := 9) (v := undef) rfl (by kernel_rfl) (by kernel_rfl) (by kernel_rfl) (fun _ _ _ h => h) (Or.inr ⟨by rfl, rfl⟩) (by assumption) ?_
            try simp only [List.getElem_toArray, List.getElem_cons_succ, List.getElem_cons_zero, Act.put, List.setIfInBounds_toArray, List.set_cons_zero, List.set_cons_succ]
            refine wpAnyH_take (i := 10) (v := undef) rfl (by kernel_rfl) (by kernel_rfl) (by kernel_rfl) (fun _ _ _ h => h) (Or.inr ⟨by rfl, rfl⟩) (by assumption) ?_
            try simp only [List.getElem_toArray, List.getElem_cons_succ, List.getElem_cons_zero, Act.put, List.setIfInBounds_toArray, List.set_cons_zero, List.set_cons_succ]
            refine wpAnyH_take (i := 11) (v := undef) rfl (by kernel_rfl) (by kernel_rfl) (by kernel_rfl) (fun _ _ _ h => h) (Or.inr ⟨by rfl, rfl⟩) (by assumption) ?_
            try simp only [List.getElem_toArray, List.getElem_cons_succ, List.getElem_cons_zero, Act.put, List.setIfInBounds_toArray, List.set_cons_zero, List.set_cons_succ]
            refine wpAnyH_take (i := 12) (v := undef) rfl (by kernel_rfl) (by kernel_rfl) (by kernel_rfl) (fun _ _ _ h => h) (Or.inr ⟨by rfl, rfl⟩) (by assumption) ?_
            try simp only [List.getElem_toArray, List.getElem_cons_succ, List.getElem_cons_zero, Act.put, List.setIfInBounds_toArray, List.set_cons_zero, List.set_cons_succ]
            refine wpAnyH_take (i := 13) (v := undef) rfl (by kernel_rfl) (by kernel_rfl) (by kernel_rfl) (fun _ _ _ h => h) (Or.inr ⟨by rfl, rfl⟩) (by assumption) ?_
            try simp only [List.getElem_toArray, List.getElem_cons_succ, List.getElem_cons_zero, Act.put, List.setIfInBounds_toArray, List.set_cons_zero, List.set_cons_succ]
            refine wpAnyH_take (i := 14) (v := undef) rfl (by kernel_rfl) (by kernel_rfl) (by kernel_rfl) (fun _ _ _ h => h) (Or.inr ⟨by rfl, rfl⟩) (by assumption) ?_
            try simp only [List.getElem_toArray, List.getElem_cons_succ, List.getElem_cons_zero, Act.put, List.setIfInBounds_toArray, List.set_cons_zero, List.set_cons_succ]
            refine wpAnyH_take (i := 15) (v := undef) rfl (by kernel_rfl) (by kernel_rfl) (by kernel_rfl) (fun _ _ _ h => h) (Or.inr ⟨by rfl, rfl⟩) (by assumption) ?_
            try simp only [List.getElem_toArray, List.getElem_cons_succ, List.getElem_cons_zero, Act.put, List.setIfInBounds_toArray, List.set_cons_zero, List.set_cons_succ]
            refine wpAnyH_take (i := 16) (v := undef) rfl (by kernel_rfl) (by kernel_rfl) (by kernel_rfl) (fun _ _ _ h => h) (Or.inr ⟨by rfl, rfl⟩) (by assumption) ?_
            try simp only [List.getElem_toArray, List.getElem_cons_succ, List.getElem_cons_zero, Act.put, List.setIfInBounds_toArray, List.set_cons_zero, List.set_cons_succ]
            refine wpAnyH_take (i := 17) (v := undef) rfl (by kernel_rfl) (by kernel_rfl) (by kernel_rfl) (fun _ _ _ h => h) (Or.inr ⟨by rfl, rfl⟩) (by assumption) ?_
            try simp only [List.getElem_toArray, List.getElem_cons_succ, List.getElem_cons_zero, Act.put, List.setIfInBounds_toArray, List.set_cons_zero, List.set_cons_succ]
            refine wpAnyH_take (i := 18) (v := undef) rfl (by kernel_rfl) (by kernel_rfl) (by kernel_rfl) (fun _ _ _ h => h) (Or.inr ⟨by rfl, rfl⟩) (by assumption) ?_
            try simp only [List.getElem_toArray, List.getElem_cons_succ, List.getElem_cons_zero, Act.put, List.setIfInBounds_toArray, List.set_cons_zero, List.set_cons_succ]
            refine wpAnyH_take (i := 19) (v := ?_) rfl (by kernel_rfl) (by kernel_rfl) (by kernel_rfl) (fun _ _ _ h => h) (Or.inl ⟨by rfl, ?_⟩) (by assumption) ?_
            rotate_left
            · (intro w0 hSw; (try dsimp only at hSw); go_simp; try with_reducible rfl)
            try simp only [List.getElem_toArray, List.getElem_cons_succ, List.getElem_cons_zero, Act.put, List.setIfInBounds_toArray, List.set_cons_zero, List.set_cons_succ]
            refine wpAnyH_done (by kernel_rfl) ?_ _
            go_wp2_with fail
            go_meet
            exact ⟨rfl, B2.out⟩
          | true =>
            have HD := Lib.hid hd
            by_cases h5 : f0 = 5
            · have e5 : (f0 != 5) = false := by simpa using h5
              clear hd h5
              refine wp_region_held_drew (S := fun w' => Blk w' g 30 (trc x s) ∧ Blk w' r 30 (trc y s2) ∧ w'.cell? ⟨pa, 0, none⟩ = some (.int .i64 f0)) (by kernel_rfl) (KP.out _ (Below.refl _ _).drew) (fun hHeld => ?_)
              have BD := Lib.hid (show Below X3.heap.size X3 X3.drew from (Below.refl _ _).drew)
              generalize X3.drew = V1 at BD hHeld ⊢
              refine wpAnyH_take (i := 0) (v := .agg (trc x s)) rfl (by kernel_rfl) (by kernel_rfl) (by kernel_rfl) (fun _ _ _ h => h) (Or.inl ⟨by rfl, fun w0 hSw => exec_load (x := .tmp 5) rfl rfl (tr_load hSw.1)⟩) (by assumption) ?_
              try simp only [List.getElem_toArray, List.getElem_cons_succ, List.getElem_cons_zero, Act.put, List.setIfInBounds_toArray, List.set_cons_zero, List.set_cons_succ]
              refine wpAnyH_ready (rs := [1]) (by kernel_rfl) (by simp) ?_
              refine AllReadyH.cons rfl (fun K hK => ?_) AllReadyH.nil
              go_simp
              refine (decided_b x s _ true HD.out).mono ?_
              rintro e V2 ⟨rfl, hb⟩
              try go_simp
              have B2 := Lib.hid (BD.out.trans (hb.mono BD.out.size))
              clear hb
              refine hK.out _ _ (KP.out _ B2.out) (fun hHeld => ?_)
              clear hK K
              refine wpAnyH_take (i := 2) (v := ?_) rfl (by kernel_rfl) (by kernel_rfl) (by kernel_rfl) (fun _ _ _ h => h) (Or.inl ⟨by rfl, ?_⟩) (by assumption) ?_
              rotate_left
              · (intro w0 hSw; (try dsimp only at hSw); go_simp; try with_reducible rfl)
              try simp only [List.getElem_toArray, List.getElem_cons_succ, List.getElem_cons_zero, Act.put, List.setIfInBounds_toArray, List.set_cons_zero, List.set_cons_succ]
              refine wpAnyH_take (i := 3) (v := ?_) rfl (by kernel_rfl) (by kernel_rfl) (by kernel_rfl) (fun _ _ _ h => h) (Or.inl ⟨by rfl, ?_⟩) (by assumption) ?_
              rotate_left
              · (intro w0 hSw; (try dsimp only at hSw); go_simp; try with_reducible rfl)
              try simp only [List.getElem_toArray, List.getElem_cons_succ, List.getElem_cons_zero, Act.put, List.setIfInBounds_toArray, List.set_cons_zero, List.set_cons_succ]
              refine wpAnyH_take (i := 4) (v := ?_) rfl (by kernel_rfl) (by kernel_rfl) (by kernel_rfl) (fun _ _ _ h => h) (Or.inl ⟨by rfl, ?_⟩) (by assumption) ?_
              rotate_left
              · (intro w0 hSw; (try dsimp only at hSw); go_simp; try with_reducible rfl)
              try simp only [List.getElem_toArray, List.getElem_cons_succ, List.getElem_cons_zero, Act.put, List.setIfInBounds_toArray, List.set_cons_zero, List.set_cons_succ]
              refine wpAnyH_take (i := 5) (v := ?_) rfl (by kernel_rfl) (by kernel_rfl) (by kernel_rfl) (fun _ _ _ h => h) (Or.inl ⟨by rfl, ?_⟩) (by assumption) ?_
              rotate_left
              · (intro w0 hSw; (try dsimp only at hSw); go_simp; try with_reducible rfl)
              try simp only [List.getElem_toArray, List.getElem_cons_succ, List.getElem_cons_zero, Act.put, List.setIfInBounds_toArray, List.set_cons_zero, List.set_cons_succ]
              refine wpAnyH_take (i := 6) (v := ?_) rfl (by kernel_rfl) (by kernel_rfl) (by kernel_rfl) (fun _ _ _ h => h) (Or.inl ⟨by rfl, ?_⟩) (by assumption) ?_
              rotate_left
              · (intro w0 hSw; (try dsimp only at hSw); go_simp; try with_reducible rfl)
              try simp only [List.getElem_toArray, List.getElem_cons_succ, List.getElem_cons_zero, Act.put, List.setIfInBounds_toArray, List.set_cons_zero, List.set_cons_succ]
              refine wpAnyH_take (i := 7) (v := ?_) rfl (by kernel_rfl) (by kernel_rfl) (by kernel_rfl) (fun _ _ _ h => h) (Or.inl ⟨by rfl, ?_⟩) (by assumption) ?_
              rotate_left
              · (intro w0 hSw; (try dsimp only at hSw); go_simp; try with_reducible rfl)
              try simp only [List.getElem_toArray, List.getElem_cons_succ, List.getElem_cons_zero, Act.put, List.setIfInBounds_toArray, List.set_cons_zero, List.set_cons_succ]
              refine wpAnyH_take (i := 8) (v := undef) rfl (by kernel_rfl) (by kernel_rfl) (by kernel_rfl) (fun _ _ _ h => h) (Or.inr ⟨by rfl, rfl⟩) (by assumption) ?_
              try simp only [List.getElem_toArray, List.getElem_cons_succ, List.getElem_cons_zero, Act.put, List.setIfInBounds_toArray, List.set_cons_zero, List.set_cons_succ]
              refine wpAnyH_take (i := 9) (v := undef) rfl (by kernel_rfl) (by kernel_rfl) (by kernel_rfl) (fun _ _ _ h => h) (Or.inr ⟨by rfl, rfl⟩) (by assumption) ?_
              try simp only [List.getElem_toArray, List.getElem_cons_succ, List.getElem_cons_zero, Act.put, List.setIfInBounds_toArray, List.set_cons_zero, List.set_cons_succ]
              refine wpAnyH_take (i := 10) (v := undef) rfl (by kernel_rfl) (by kernel_rfl) (by kernel_rfl) (fun _ _ _ h => h) (Or.inr ⟨by rfl, rfl⟩) (by assumption) ?_
              try simp only [List.getElem_toArray, List.getElem_cons_succ, List.getElem_cons_zero, Act.put, List.setIfInBounds_toArray, List.set_cons_zero, List.set_cons_succ]
              refine wpAnyH_take (i := 11) (v := undef) rfl (by kernel_rfl) (by kernel_rfl) (by kernel_rfl) (fun _ _ _ h => h) (Or.inr ⟨by rfl, rfl⟩) (by assumption) ?_
              try simp only [List.getElem_toArray, List.getElem_cons_succ, List.getElem_cons_zero, Act.put, List.setIfInBounds_toArray, List.set_cons_zero, List.set_cons_succ]
              refine wpAnyH_take (i := 12) (v := undef) rfl (by kernel_rfl) (by kernel_rfl) (by kernel_rfl) (fun _ _ _ h => h) (Or.inr ⟨by rfl, rfl⟩) (by assumption) ?_
              try simp only [List.getElem_toArray, List.getElem_cons_succ, List.getElem_cons_zero, Act.put, List.setIfInBounds_toArray, List.set_cons_zero, List.set_cons_succ]
              refine wpAnyH_take (i := 13) (v := undef) rfl (by kernel_rfl) (by kernel_rfl) (by kernel_rfl) (fun _ _ _ h => h) (Or.inr ⟨by rfl, rfl⟩) (by assumption) ?_
              try simp only [List.getElem_toArray, List.getElem_cons_succ, List.getElem_cons_zero, Act.put, List.setIfInBounds_toArray, List.set_cons_zero, List.set_cons_succ]
              refine wpAnyH_take (i := 14) (v := undef) rfl (by kernel_rfl) (by kernel_rfl) (by kernel_rfl) (fun _ _ _ h => h) (Or.inr ⟨by rfl, rfl⟩) (by assumption) ?_
              try simp only [List.getElem_toArray, List.getElem_cons_succ, List.getElem_cons_zero, Act.put, List.setIfInBounds_toArray, List.set_cons_zero, List.set_cons_succ]
              refine wpAnyH_take (i := 15) (v := undef) rfl (by kernel_rfl) (by kernel_rfl) (by kernel_rfl) (fun _ _ _ h => h) (Or.inr ⟨by rfl, rfl⟩) (by assumption) ?_
              try simp only [List.getElem_toArray, List.getElem_cons_succ, List.getElem_cons_zero, Act.put, List.setIfInBounds_toArray, List.set_cons_zero, List.set_cons_succ]
              refine wpAnyH_take (i := 16) (v := undef) rfl (by kernel_rfl) (by kernel_rfl) (by kernel_rfl) (fun _ _ _ h => h) (Or.inr ⟨by rfl, rfl⟩) (by assumption) ?_
              try simp only [List.getElem_toArray, List.getElem_cons_succ, List.getElem_cons_zero, Act.put, List.setIfInBounds_toArray, List.set_cons_zero, List.set_cons_succ]
              refine wpAnyH_take (i := 17) (v := undef) rfl (by kernel_rfl) (by kernel_rfl) (by kernel_rfl) (fun _ _ _ h => h) (Or.inr ⟨by rfl, rfl⟩) (by assumption) ?_
              try simp only [List.getElem_toArray, List.getElem_cons_succ, List.getElem_cons_zero, Act.put, List.setIfInBounds_toArray, List.set_cons_zero, List.set_cons_succ]
              refine wpAnyH_take (i := 18) (v := undef) rfl (by kernel_rfl) (by kernel_rfl) (by kernel_rfl) (fun _ _ _ h => h) (Or.inr ⟨by rfl, rfl⟩) (by assumption) ?_
              try simp only [List.getElem_toArray, List.getElem_cons_succ, List.getElem_cons_zero, Act.put, List.setIfInBounds_toArray, List.set_cons_zero, List.set_cons_succ]
              refine wpAnyH_take (i := 19) (v := ?_) rfl (by kernel_rfl) (by kernel_rfl) (by kernel_rfl) (fun _ _ _ h => h) (Or.inl ⟨by rfl, ?_⟩) (by assumption) ?_
              rotate_left
              · (intro w0 hSw; (try dsimp only at hSw); go_simp; try with_reducible rfl)
              try simp only [List.getElem_toArray, List.getElem_cons_succ, List.getElem_cons_zero, Act.put, List.setIfInBounds_toArray, List.set_cons_zero, List.set_cons_succ]
              refine wpAnyH_done (by kernel_rfl) ?_ _
              go_wp2_with fail
              go_meet
              exact ⟨rfl, B2.out⟩
            · have e5 : (f0 != 5) = true := by simpa using h5
              obtain ⟨hyx, hms⟩ := FD.out hd h5
              have hyx := hyx
              subst hms
              have EYX := Lib.hid hyx
              have TY2 := Lib.hid (show Tm X3 0 x s2 from by rw [← hyx]; exact TY.out)
              have KPC := Lib.hid (show ∀ Y, Below X3.heap.size X3 Y → (Blk Y g 30 (trc x s) ∧ Blk Y r 30 (trc x s2) ∧ Y.cell? ⟨pa, 0, none⟩ = some (.int .i64 f0)) from by have := KP.out; rw [hyx] at this; exact this)
              clear hd h5 hyx
              refine wp_region_held_drew (S := fun w' => Blk w' g 30 (trc x s) ∧ Blk w' r 30 (trc x s2) ∧ w'.cell? ⟨pa, 0, none⟩ = some (.int .i64 f0)) (by kernel_rfl) (KPC.out _ (Below.refl _ _).drew) (fun hHeld => ?_)
              have BD := Lib.hid (show Below X3.heap.size X3 X3.drew from (Below.refl _ _).drew)
              generalize X3.drew = V1 at BD hHeld ⊢
              refine wpAnyH_take (i := 0) (v := .agg (trc x s)) rfl (by kernel_rfl) (by kernel_rfl) (by kernel_rfl) (fun _ _ _ h => h) (Or.inl ⟨by rfl, fun w0 hSw => exec_load (x := .tmp 5) rfl rfl (tr_load hSw.1)⟩) (by assumption) ?_
              try simp only [List.getElem_toArray, List.getElem_cons_succ, List.getElem_cons_zero, Act.put, List.setIfInBounds_toArray, List.set_cons_zero, List.set_cons_succ]
              refine wpAnyH_ready (rs := [1]) (by kernel_rfl) (by simp) ?_
              refine AllReadyH.cons rfl (fun K hK => ?_) AllReadyH.nil
              go_simp
              refine (decided_b x s _ true HD.out).mono ?_
              rintro e V2 ⟨rfl, hb⟩
              try go_simp
              have B2 := Lib.hid (BD.out.trans (hb.mono BD.out.size))
              clear hb
              refine hK.out _ _ (KPC.out _ B2.out) (fun hHeld => ?_)
              clear hK K
              refine wpAnyH_take (i := 2) (v := ?_) rfl (by kernel_rfl) (by kernel_rfl) (by kernel_rfl) (fun _ _ _ h => h) (Or.inl ⟨by rfl, ?_⟩) (by assumption) ?_
              rotate_left
              · (intro w0 hSw; (try dsimp only at hSw); go_simp; try with_reducible rfl)
              try simp only [List.getElem_toArray, List.getElem_cons_succ, List.getElem_cons_zero, Act.put, List.setIfInBounds_toArray, List.set_cons_zero, List.set_cons_succ]
              refine wpAnyH_take (i := 3) (v := ?_) rfl (by kernel_rfl) (by kernel_rfl) (by kernel_rfl) (fun _ _ _ h => h) (Or.inl ⟨by rfl, ?_⟩) (by assumption) ?_
              rotate_left
              · (intro w0 hSw; (try dsimp only at hSw); go_simp; try with_reducible rfl)
              try simp only [List.getElem_toArray, List.getElem_cons_succ, List.getElem_cons_zero, Act.put, List.setIfInBounds_toArray, List.set_cons_zero, List.set_cons_succ]
              refine wpAnyH_take (i := 4) (v := ?_) rfl (by kernel_rfl) (by kernel_rfl) (by kernel_rfl) (fun _ _ _ h => h) (Or.inl ⟨by rfl, ?_⟩) (by assumption) ?_
              rotate_left
              · (intro w0 hSw; (try dsimp only at hSw); go_simp; try with_reducible rfl)
              try simp only [List.getElem_toArray, List.getElem_cons_succ, List.getElem_cons_zero, Act.put, List.setIfInBounds_toArray, List.set_cons_zero, List.set_cons_succ]
              refine wpAnyH_take (i := 5) (v := ?_) rfl (by kernel_rfl) (by kernel_rfl) (by kernel_rfl) (fun _ _ _ h => h) (Or.inl ⟨by rfl, ?_⟩) (by assumption) ?_
              rotate_left
              · (intro w0 hSw; (try dsimp only at hSw); go_simp; try with_reducible rfl)
              try simp only [List.getElem_toArray, List.getElem_cons_succ, List.getElem_cons_zero, Act.put, List.setIfInBounds_toArray, List.set_cons_zero, List.set_cons_succ]
              refine wpAnyH_take (i := 6) (v := ?_) rfl (by kernel_rfl) (by kernel_rfl) (by kernel_rfl) (fun _ _ _ h => h) (Or.inl ⟨by rfl, ?_⟩) (by assumption) ?_
              rotate_left
              · (intro w0 hSw; (try dsimp only at hSw); go_simp; try with_reducible rfl)
              try simp only [List.getElem_toArray, List.getElem_cons_succ, List.getElem_cons_zero, Act.put, List.setIfInBounds_toArray, List.set_cons_zero, List.set_cons_succ]
              refine wpAnyH_take (i := 7) (v := ?_) rfl (by kernel_rfl) (by kernel_rfl) (by kernel_rfl) (fun _ _ _ h => h) (Or.inl ⟨by rfl, ?_⟩) (by assumption) ?_
              rotate_left
              · (intro w0 hSw; (try dsimp only at hSw); go_simp; try with_reducible rfl)
              try simp only [List.getElem_toArray, List.getElem_cons_succ, List.getElem_cons_zero, Act.put, List.setIfInBounds_toArray, List.set_cons_zero, List.set_cons_succ]
              refine wpAnyH_take (i := 8) (v := .agg (trc x s2)) rfl (by kernel_rfl) (by kernel_rfl) (by kernel_rfl) (fun _ _ _ h => h) (Or.inl ⟨by rfl, fun w0 hSw => exec_load (x := .tmp 8) rfl rfl (tr_load hSw.2.1)⟩) (by assumption) ?_
              try simp only [List.getElem_toArray, List.getElem_cons_succ, List.getElem_cons_zero, Act.put, List.setIfInBounds_toArray, List.set_cons_zero, List.set_cons_succ]
              refine wpAnyH_take (i := 10) (v := .agg (trc x s)) rfl (by kernel_rfl) (by kernel_rfl) (by kernel_rfl) (fun _ _ _ h => h) (Or.inl ⟨by rfl, fun w0 hSw => exec_load (x := .tmp 5) rfl rfl (tr_load hSw.1)⟩) (by assumption) ?_
              try simp only [List.getElem_toArray, List.getElem_cons_succ, List.getElem_cons_zero, Act.put, List.setIfInBounds_toArray, List.set_cons_zero, List.set_cons_succ]
              refine wpAnyH_ready (rs := [9]) (by kernel_rfl) (by simp) ?_
              refine AllReadyH.cons rfl (fun K hK => ?_) AllReadyH.nil
              go_simp
              refine (plain_any x s2 _ (TY2.out.step B2.out)).mono ?_
              rintro e V3 ⟨rfl, hb⟩
              try go_simp
              have B3 := Lib.hid (B2.out.trans (hb.mono B2.out.size))
              clear hb
              refine hK.out _ _ (KPC.out _ B3.out) (fun hHeld => ?_)
              clear hK K
              refine wpAnyH_ready (rs := [11]) (by kernel_rfl) (by simp) ?_
              refine AllReadyH.cons rfl (fun K hK => ?_) AllReadyH.nil
              go_simp
              refine (plain_any x s _ (TXX.out.step B3.out)).mono ?_
              rintro e V4 ⟨rfl, hb⟩
              try go_simp
              have B4 := Lib.hid (B3.out.trans (hb.mono B3.out.size))
              clear hb
              refine hK.out _ _ (KPC.out _ B4.out) (fun hHeld => ?_)
              clear hK K
              refine wpAnyH_ready (rs := [12]) (by kernel_rfl) (by simp) ?_
              refine AllReadyH.cons rfl (fun K hK => ?_) AllReadyH.nil
              go_simp
              refine (same_any x s2 s _ (TY2.out.step B4.out) (TXX.out.step B4.out) HSX.out).mono ?_
              rintro e V5 ⟨rfl, hb⟩
              try go_simp
              have B5 := Lib.hid (B4.out.trans (hb.mono B4.out.size))
              clear hb
              refine hK.out _ _ (KPC.out _ B5.out) (fun hHeld => ?_)
              clear hK K
              refine wpAnyH_take (i := 13) (v := ?_) rfl (by kernel_rfl) (by kernel_rfl) (by kernel_rfl) (fun _ _ _ h => h) (Or.inl ⟨by rfl, ?_⟩) (by assumption) ?_
              rotate_left
              · (intro w0 hSw; (try dsimp only at hSw); go_simp; try with_reducible rfl)
              try simp only [List.getElem_toArray, List.getElem_cons_succ, List.getElem_cons_zero, Act.put, List.setIfInBounds_toArray, List.set_cons_zero, List.set_cons_succ]
              refine wpAnyH_take (i := 14) (v := ?_) rfl (by kernel_rfl) (by kernel_rfl) (by kernel_rfl) (fun _ _ _ h => h) (Or.inl ⟨by rfl, ?_⟩) (by assumption) ?_
              rotate_left
              · (intro w0 hSw; (try dsimp only at hSw); go_simp; try with_reducible rfl)
              try simp only [List.getElem_toArray, List.getElem_cons_succ, List.getElem_cons_zero, Act.put, List.setIfInBounds_toArray, List.set_cons_zero, List.set_cons_succ]
              refine wpAnyH_take (i := 15) (v := ?_) rfl (by kernel_rfl) (by kernel_rfl) (by kernel_rfl) (fun _ _ _ h => h) (Or.inl ⟨by rfl, ?_⟩) (by assumption) ?_
              rotate_left
              · (intro w0 hSw; (try dsimp only at hSw); go_simp; try with_reducible rfl)
              try simp only [List.getElem_toArray, List.getElem_cons_succ, List.getElem_cons_zero, Act.put, List.setIfInBounds_toArray, List.set_cons_zero, List.set_cons_succ]
              refine wpAnyH_take (i := 16) (v := ?_) rfl (by kernel_rfl) (by kernel_rfl) (by kernel_rfl) (fun _ _ _ h => h) (Or.inl ⟨by rfl, ?_⟩) (by assumption) ?_
              rotate_left
              · (intro w0 hSw; (try dsimp only at hSw); go_simp; try with_reducible rfl)
              try simp only [List.getElem_toArray, List.getElem_cons_succ, List.getElem_cons_zero, Act.put, List.setIfInBounds_toArray, List.set_cons_zero, List.set_cons_succ]
              refine wpAnyH_take (i := 17) (v := ?_) rfl (by kernel_rfl) (by kernel_rfl) (by kernel_rfl) (fun _ _ _ h => h) (Or.inl ⟨by rfl, ?_⟩) (by assumption) ?_
              rotate_left
              · (intro w0 hSw; (try dsimp only at hSw); go_simp; try with_reducible rfl)
              try simp only [List.getElem_toArray, List.getElem_cons_succ, List.getElem_cons_zero, Act.put, List.setIfInBounds_toArray, List.set_cons_zero, List.set_cons_succ]
              refine wpAnyH_take (i := 18) (v := ?_) rfl (by kernel_rfl) (by kernel_rfl) (by kernel_rfl) (fun _ _ _ h => h) (Or.inl ⟨by rfl, ?_⟩) (by assumption) ?_
              rotate_left
              · (intro w0 hSw; (try dsimp only at hSw); go_simp; try with_reducible rfl)
              try simp only [List.getElem_toArray, List.getElem_cons_succ, List.getElem_cons_zero, Act.put, List.setIfInBounds_toArray, List.set_cons_zero, List.set_cons_succ]
              refine wpAnyH_take (i := 19) (v := ?_) rfl (by kernel_rfl) (by kernel_rfl) (by kernel_rfl) (fun _ _ _ h => h) (Or.inl ⟨by rfl, ?_⟩) (by assumption) ?_
              rotate_left
              · (intro w0 hSw; (try dsimp only at hSw); go_simp; try with_reducible rfl)
              try simp only [List.getElem_toArray, List.getElem_cons_succ, List.getElem_cons_zero, Act.put, List.setIfInBounds_toArray, List.set_cons_zero, List.set_cons_succ]
              refine wpAnyH_done (by kernel_rfl) ?_ _
              go_wp2_with fail
              go_meet
              exact ⟨rfl, B5.out⟩
        case rest =>
          obtain ⟨rfl, hb13⟩ := hcut
          have XW := Lib.hid (XY.out.here hb13)
          have YW := Lib.hid (YY.out.here hb13)
          have PW := Lib.hid (PY.out.here hb13)
          have TW := Lib.hid (TY.out.step hb13)
          have BW := Lib.hid (stepB BY.out hb13)
          clear hb13 XY YY PY TY BY TXX KP
          generalize wc = X4 at XW YW PW TW BW ⊢
          go_upto_region 16 with (first
            | (refine wpList_load_row rfl 30 (.tmp 8) rfl r rfl 30 (trc y s2) (0, 0) _ YW.out Try.underlying30 rfl (tr_info _ _) ?_)
            | (refine wpList_load_row rfl 44 (.tmp 3) rfl pa rfl 44 (mc a) (0, 0) _ PW.out Try.underlying44 rfl HAI.out ?_)
            | (go_at_call 9; refine (AC2.out _ _ TW.out).mono ?_; rintro e X5 ⟨s3, u3, rfl, ht3, hu3, hb3⟩; obtain ⟨Av, cv, rfl⟩ := own_len hu3; have T3 := Lib.hid ht3; have E5 := Lib.hid hb3; clear ht3 hu3 hb3)
            | (refine wpList_store_mid (by rfl) 30 (.tmp 11) (.tmp 72) (by rfl) X5.heap.size 0 (trc z s3) (by rfl) (by rfl) ((show Blk (X5.alloc (.cells zTr 30)) X5.heap.size 30 (trc noTr noSl) from Blk.new X5 _ _).there (Nat.le_refl 13)) (tr_info _ _) T3.out.one ?_
               have E6 := Lib.hid (show Below X5.heap.size X5 ((X5.alloc (.cells zTr 30)).setCells X5.heap.size 0 (trc z s3).toList) from Below.setCells (b := X5.heap.size) (Nat.le_refl _) _ 0 _ (Joins.below_alloc1 X5 _))
               have ZZ := Lib.hid (show Blk ((X5.alloc (.cells zTr 30)).setCells X5.heap.size 0 (trc z s3).toList) X5.heap.size 30 (trc z s3) from (show Blk (X5.alloc (.cells zTr 30)) X5.heap.size 30 (trc noTr noSl) from Blk.new X5 _ _).put _ rfl)
               have YZ := Lib.hid ((YW.out.here E5.out).here E6.out)
               have PZ := Lib.hid ((PW.out.here E5.out).here E6.out)
               have BZ := Lib.hid (stepB (stepB BW.out E5.out) E6.out)
               have TZ := Lib.hid (T3.out.step E6.out)
               have TYZ := Lib.hid ((TW.out.step E5.out).step E6.out)
               clear E6
               generalize (X5.alloc (.cells zTr 30)).setCells X5.heap.size 0 (trc z s3).toList = X6 at ZZ YZ PZ BZ TZ TYZ ⊢
               generalize X5.heap.size = r3 at ZZ ⊢))
          have KQ := Lib.hid (show ∀ Y, Below X6.heap.size X6 Y → (Y.cell? ⟨pa, 0, none⟩ = some (.int .i64 f0) ∧ Blk Y r3 30 (trc z s3) ∧ Blk Y r 30 (trc y s2)) from fun Y hy =>
            ⟨by rw [← HF0.out]; exact act_cell HAA.out (PZ.out.here hy) (by omega), ZZ.out.here hy, YZ.out.here hy⟩)
          by_cases h0 : f0 = 0
          · have e0 : (f0 == 0) = true := by simpa using h0
            clear h0
            refine wp_region_held_drew (S := fun w' => w'.cell? ⟨pa, 0, none⟩ = some (.int .i64 f0) ∧ Blk w' r3 30 (trc z s3) ∧ Blk w' r 30 (trc y s2)) (by kernel_rfl) (KQ.out _ (Below.refl _ _).drew) (fun hHeld => ?_)
            have BD := Lib.hid (show Below X6.heap.size X6 X6.drew from (Below.refl _ _).drew)
            generalize X6.drew = V1 at BD hHeld ⊢
            refine wpAnyH_take (i := 0) (v := ?_) rfl (by kernel_rfl) (by kernel_rfl) (by kernel_rfl) (fun _ _ _ h => h) (Or.inl ⟨by rfl, ?_⟩) (by assumption) ?_
            rotate_left
            · (intro w0 hSw; (try dsimp only at hSw); go_simp; try with_reducible rfl)
            try simp only [List.getElem_toArray, List.getElem_cons_succ, List.getElem_cons_zero, Act.put, List.setIfInBounds_toArray, List.set_cons_zero, List.set_cons_succ]
            refine wpAnyH_take (i := 1) (v := ?_) rfl (by kernel_rfl) (by kernel_rfl) (by kernel_rfl) (fun _ _ _ h => h) (Or.inl ⟨by rfl, ?_⟩) (by assumption) ?_
            rotate_left
            · (intro w0 hSw; (try dsimp only at hSw); go_simp; try with_reducible rfl)
            try simp only [List.getElem_toArray, List.getElem_cons_succ, List.getElem_cons_zero, Act.put, List.setIfInBounds_toArray, List.set_cons_zero, List.set_cons_succ]
            refine wpAnyH_take (i := 2) (v := ?_) rfl (by kernel_rfl) (by kernel_rfl) (by kernel_rfl) (fun _ _ _ h => h) (Or.inl ⟨by rfl, ?_⟩) (by assumption) ?_
            rotate_left
            · (intro w0 hSw; (try dsimp only at hSw); go_simp; try with_reducible rfl)
            try simp only [List.getElem_toArray, List.getElem_cons_succ, List.getElem_cons_zero, Act.put, List.setIfInBounds_toArray, List.set_cons_zero, List.set_cons_succ]
            refine wpAnyH_take (i := 3) (v := ?_) rfl (by kernel_rfl) (by kernel_rfl) (by kernel_rfl) (fun _ _ _ h => h) (Or.inl ⟨by rfl, ?_⟩) (by assumption) ?_
            rotate_left
            · (intro w0 hSw; (try dsimp only at hSw); go_simp; try with_reducible rfl)
            try simp only [List.getElem_toArray, List.getElem_cons_succ, List.getElem_cons_zero, Act.put, List.setIfInBounds_toArray, List.set_cons_zero, List.set_cons_succ]
            refine wpAnyH_take (i := 4) (v := undef) rfl (by kernel_rfl) (by kernel_rfl) (by kernel_rfl) (fun _ _ _ h => h) (Or.inr ⟨by rfl, rfl⟩) (by assumption) ?_
            try simp only [List.getElem_toArray, List.getElem_cons_succ, List.getElem_cons_zero, Act.put, List.setIfInBounds_toArray, List.set_cons_zero, List.set_cons_succ]
            refine wpAnyH_take (i := 5) (v := undef) rfl (by kernel_rfl) (by kernel_rfl) (by kernel_rfl) (fun _ _ _ h => h) (Or.inr ⟨by rfl, rfl⟩) (by assumption) ?_
            try simp only [List.getElem_toArray, List.getElem_cons_succ, List.getElem_cons_zero, Act.put, List.setIfInBounds_toArray, List.set_cons_zero, List.set_cons_succ]
            refine wpAnyH_take (i := 6) (v := undef) rfl (by kernel_rfl) (by kernel_rfl) (by kernel_rfl) (fun _ _ _ h => h) (Or.inr ⟨by rfl, rfl⟩) (by assumption) ?_
            try simp only [List.getElem_toArray, List.getElem_cons_succ, List.getElem_cons_zero, Act.put, List.setIfInBounds_toArray, List.set_cons_zero, List.set_cons_succ]
            refine wpAnyH_take (i := 7) (v := undef) rfl (by kernel_rfl) (by kernel_rfl) (by kernel_rfl) (fun _ _ _ h => h) (Or.inr ⟨by rfl, rfl⟩) (by assumption) ?_
            try simp only [List.getElem_toArray, List.getElem_cons_succ, List.getElem_cons_zero, Act.put, List.setIfInBounds_toArray, List.set_cons_zero, List.set_cons_succ]
            refine wpAnyH_take (i := 8) (v := undef) rfl (by kernel_rfl) (by kernel_rfl) (by kernel_rfl) (fun _ _ _ h => h) (Or.inr ⟨by rfl, rfl⟩) (by assumption) ?_
            try simp only [List.getElem_toArray, List.getElem_cons_succ, List.getElem_cons_zero, Act.put, List.setIfInBounds_toArray, List.set_cons_zero, List.set_cons_succ]
            refine wpAnyH_take (i := 9) (v := undef) rfl (by kernel_rfl) (by kernel_rfl) (by kernel_rfl) (fun _ _ _ h => h) (Or.inr ⟨by rfl, rfl⟩) (by assumption) ?_
            try simp only [List.getElem_toArray, List.getElem_cons_succ, List.getElem_cons_zero, Act.put, List.setIfInBounds_toArray, List.set_cons_zero, List.set_cons_succ]
            refine wpAnyH_take (i := 10) (v := undef) rfl (by kernel_rfl) (by kernel_rfl) (by kernel_rfl) (fun _ _ _ h => h) (Or.inr ⟨by rfl, rfl⟩) (by assumption) ?_
            try simp only [List.getElem_toArray, List.getElem_cons_succ, List.getElem_cons_zero, Act.put, List.setIfInBounds_toArray, List.set_cons_zero, List.set_cons_succ]
            refine wpAnyH_take (i := 11) (v := undef) rfl (by kernel_rfl) (by kernel_rfl) (by kernel_rfl) (fun _ _ _ h => h) (Or.inr ⟨by rfl, rfl⟩) (by assumption) ?_
            try simp only [List.getElem_toArray, List.getElem_cons_succ, List.getElem_cons_zero, Act.put, List.setIfInBounds_toArray, List.set_cons_zero, List.set_cons_succ]
            refine wpAnyH_take (i := 12) (v := undef) rfl (by kernel_rfl) (by kernel_rfl) (by kernel_rfl) (fun _ _ _ h => h) (Or.inr ⟨by rfl, rfl⟩) (by assumption) ?_
            try simp only [List.getElem_toArray, List.getElem_cons_succ, List.getElem_cons_zero, Act.put, List.setIfInBounds_toArray, List.set_cons_zero, List.set_cons_succ]
            refine wpAnyH_take (i := 13) (v := undef) rfl (by kernel_rfl) (by kernel_rfl) (by kernel_rfl) (fun _ _ _ h => h) (Or.inr ⟨by rfl, rfl⟩) (by assumption) ?_
            try simp only [List.getElem_toArray, List.getElem_cons_succ, List.getElem_cons_zero, Act.put, List.setIfInBounds_toArray, List.set_cons_zero, List.set_cons_succ]
            refine wpAnyH_take (i := 14) (v := ?_) rfl (by kernel_rfl) (by kernel_rfl) (by kernel_rfl) (fun _ _ _ h => h) (Or.inl ⟨by rfl, ?_⟩) (by assumption) ?_
            rotate_left
            · (intro w0 hSw; (try dsimp only at hSw); go_simp; try with_reducible rfl)
            try simp only [List.getElem_toArray, List.getElem_cons_succ, List.getElem_cons_zero, Act.put, List.setIfInBounds_toArray, List.set_cons_zero, List.set_cons_succ]
            refine wpAnyH_take (i := 15) (v := ?_) rfl (by kernel_rfl) (by kernel_rfl) (by kernel_rfl) (fun _ _ _ h => h) (Or.inl ⟨by rfl, ?_⟩) (by assumption) ?_
            rotate_left
            · (intro w0 hSw; (try dsimp only at hSw); go_simp; try with_reducible rfl)
            try simp only [List.getElem_toArray, List.getElem_cons_succ, List.getElem_cons_zero, Act.put, List.setIfInBounds_toArray, List.set_cons_zero, List.set_cons_succ]
            refine wpAnyH_done (by kernel_rfl) ?_ _
            go_wp2_with fail
            go_ret
            exact ⟨rfl, B00.out.trans ((stepB BZ.out BD.out).mono B00.out.size)⟩
          · have e0 : (f0 == 0) = false := by simpa using h0
            obtain ⟨hzy, hms2⟩ := FT.out h0
            subst hms2
            have EZY := Lib.hid hzy
            have TZ2 := Lib.hid (show Tm X6 0 y s3 from by rw [← hzy]; exact TZ.out)
            have KQC := Lib.hid (show ∀ Y, Below X6.heap.size X6 Y → (Y.cell? ⟨pa, 0, none⟩ = some (.int .i64 f0) ∧ Blk Y r3 30 (trc y s3) ∧ Blk Y r 30 (trc y s2)) from by have := KQ.out; rw [hzy] at this; exact this)
            clear h0 hzy
            refine wp_region_held_drew (S := fun w' => w'.cell? ⟨pa, 0, none⟩ = some (.int .i64 f0) ∧ Blk w' r3 30 (trc y s3) ∧ Blk w' r 30 (trc y s2)) (by kernel_rfl) (KQC.out _ (Below.refl _ _).drew) (fun hHeld => ?_)
            have BD := Lib.hid (show Below X6.heap.size X6 X6.drew from (Below.refl _ _).drew)
            generalize X6.drew = V1 at BD hHeld ⊢
            refine wpAnyH_take (i := 0) (v := ?_) rfl (by kernel_rfl) (by kernel_rfl) (by kernel_rfl) (fun _ _ _ h => h) (Or.inl ⟨by rfl, ?_⟩) (by assumption) ?_
            rotate_left
            · (intro w0 hSw; (try dsimp only at hSw); go_simp; try with_reducible rfl)
            try simp only [List.getElem_toArray, List.getElem_cons_succ, List.getElem_cons_zero, Act.put, List.setIfInBounds_toArray, List.set_cons_zero, List.set_cons_succ]
            refine wpAnyH_take (i := 1) (v := ?_) rfl (by kernel_rfl) (by kernel_rfl) (by kernel_rfl) (fun _ _ _ h => h) (Or.inl ⟨by rfl, ?_⟩) (by assumption) ?_
            rotate_left
            · (intro w0 hSw; (try dsimp only at hSw); go_simp; try with_reducible rfl)
            try simp only [List.getElem_toArray, List.getElem_cons_succ, List.getElem_cons_zero, Act.put, List.setIfInBounds_toArray, List.set_cons_zero, List.set_cons_succ]
            refine wpAnyH_take (i := 2) (v := ?_) rfl (by kernel_rfl) (by kernel_rfl) (by kernel_rfl) (fun _ _ _ h => h) (Or.inl ⟨by rfl, ?_⟩) (by assumption) ?_
            rotate_left
            · (intro w0 hSw; (try dsimp only at hSw); go_simp; try with_reducible rfl)
            try simp only [List.getElem_toArray, List.getElem_cons_succ, List.getElem_cons_zero, Act.put, List.setIfInBounds_toArray, List.set_cons_zero, List.set_cons_succ]
            refine wpAnyH_take (i := 3) (v := ?_) rfl (by kernel_rfl) (by kernel_rfl) (by kernel_rfl) (fun _ _ _ h => h) (Or.inl ⟨by rfl, ?_⟩) (by assumption) ?_
            rotate_left
            · (intro w0 hSw; (try dsimp only at hSw); go_simp; try with_reducible rfl)
            try simp only [List.getElem_toArray, List.getElem_cons_succ, List.getElem_cons_zero, Act.put, List.setIfInBounds_toArray, List.set_cons_zero, List.set_cons_succ]
            refine wpAnyH_take (i := 4) (v := .agg (trc y s3)) rfl (by kernel_rfl) (by kernel_rfl) (by kernel_rfl) (fun _ _ _ h => h) (Or.inl ⟨by rfl, fun w0 hSw => exec_load (x := .tmp 11) rfl rfl (tr_load hSw.2.1)⟩) (by assumption) ?_
            try simp only [List.getElem_toArray, List.getElem_cons_succ, List.getElem_cons_zero, Act.put, List.setIfInBounds_toArray, List.set_cons_zero, List.set_cons_succ]
            refine wpAnyH_take (i := 6) (v := .agg (trc y s2)) rfl (by kernel_rfl) (by kernel_rfl) (by kernel_rfl) (fun _ _ _ h => h) (Or.inl ⟨by rfl, fun w0 hSw => exec_load (x := .tmp 8) rfl rfl (tr_load hSw.2.2)⟩) (by assumption) ?_
            try simp only [List.getElem_toArray, List.getElem_cons_succ, List.getElem_cons_zero, Act.put, List.setIfInBounds_toArray, List.set_cons_zero, List.set_cons_succ]
            refine wpAnyH_ready (rs := [5]) (by kernel_rfl) (by simp) ?_
            refine AllReadyH.cons rfl (fun K hK => ?_) AllReadyH.nil
            go_simp
            refine (plain_any y s3 _ (TZ2.out.step BD.out)).mono ?_
            rintro e V3 ⟨rfl, hb⟩
            try go_simp
            have B3 := Lib.hid (BD.out.trans (hb.mono BD.out.size))
            clear hb
            refine hK.out _ _ (KQC.out _ B3.out) (fun hHeld => ?_)
            clear hK K
            refine wpAnyH_ready (rs := [7]) (by kernel_rfl) (by simp) ?_
            refine AllReadyH.cons rfl (fun K hK => ?_) AllReadyH.nil
            go_simp
            refine (plain_any y s2 _ (TYZ.out.step B3.out)).mono ?_
            rintro e V4 ⟨rfl, hb⟩
            try go_simp
            have B4 := Lib.hid (B3.out.trans (hb.mono B3.out.size))
            clear hb
            refine hK.out _ _ (KQC.out _ B4.out) (fun hHeld => ?_)
            clear hK K
            refine wpAnyH_ready (rs := [8]) (by kernel_rfl) (by simp) ?_
            refine AllReadyH.cons rfl (fun K hK => ?_) AllReadyH.nil
            go_simp
            refine (same_any y s3 s2 _ (TZ2.out.step B4.out) (TYZ.out.step B4.out) HSY.out).mono ?_
            rintro e V5 ⟨rfl, hb⟩
            try go_simp
            have B5 := Lib.hid (B4.out.trans (hb.mono B4.out.size))
            clear hb
            refine hK.out _ _ (KQC.out _ B5.out) (fun hHeld => ?_)
            clear hK K
            refine wpAnyH_take (i := 9) (v := ?_) rfl (by kernel_rfl) (by kernel_rfl) (by kernel_rfl) (fun _ _ _ h => h) (Or.inl ⟨by rfl, ?_⟩) (by assumption) ?_
            rotate_left
            · (intro w0 hSw; (try dsimp only at hSw); go_simp; try with_reducible rfl)
            try simp only [List.getElem_toArray, List.getElem_cons_succ, List.getElem_cons_zero, Act.put, List.setIfInBounds_toArray, List.set_cons_zero, List.set_cons_succ]
            refine wpAnyH_take (i := 10) (v := ?_) rfl (by kernel_rfl) (by kernel_rfl) (by kernel_rfl) (fun _ _ _ h => h) (Or.inl ⟨by rfl, ?_⟩) (by assumption) ?_
            rotate_left
            · (intro w0 hSw; (try dsimp only at hSw); go_simp; try with_reducible rfl)
            try simp only [List.getElem_toArray, List.getElem_cons_succ, List.getElem_cons_zero, Act.put, List.setIfInBounds_toArray, List.set_cons_zero, List.set_cons_succ]
            refine wpAnyH_take (i := 11) (v := ?_) rfl (by kernel_rfl) (by kernel_rfl) (by kernel_rfl) (fun _ _ _ h => h) (Or.inl ⟨by rfl, ?_⟩) (by assumption) ?_
            rotate_left
            · (intro w0 hSw; (try dsimp only at hSw); go_simp; try with_reducible rfl)
            try simp only [List.getElem_toArray, List.getElem_cons_succ, List.getElem_cons_zero, Act.put, List.setIfInBounds_toArray, List.set_cons_zero, List.set_cons_succ]
            refine wpAnyH_take (i := 12) (v := ?_) rfl (by kernel_rfl) (by kernel_rfl) (by kernel_rfl) (fun _ _ _ h => h) (Or.inl ⟨by rfl, ?_⟩) (by assumption) ?_
            rotate_left
            · (intro w0 hSw; (try dsimp only at hSw); go_simp; try with_reducible rfl)
            try simp only [List.getElem_toArray, List.getElem_cons_succ, List.getElem_cons_zero, Act.put, List.setIfInBounds_toArray, List.set_cons_zero, List.set_cons_succ]
            refine wpAnyH_take (i := 13) (v := ?_) rfl (by kernel_rfl) (by kernel_rfl) (by kernel_rfl) (fun _ _ _ h => h) (Or.inl ⟨by rfl, ?_⟩) (by assumption) ?_
            rotate_left
            · (intro w0 hSw; (try dsimp only at hSw); go_simp; try with_reducible rfl)
            try simp only [List.getElem_toArray, List.getElem_cons_succ, List.getElem_cons_zero, Act.put, List.setIfInBounds_toArray, List.set_cons_zero, List.set_cons_succ]
            refine wpAnyH_take (i := 14) (v := ?_) rfl (by kernel_rfl) (by kernel_rfl) (by kernel_rfl) (fun _ _ _ h => h) (Or.inl ⟨by rfl, ?_⟩) (by assumption) ?_
            rotate_left
            · (intro w0 hSw; (try dsimp only at hSw); go_simp; try with_reducible rfl)
            try simp only [List.getElem_toArray, List.getElem_cons_succ, List.getElem_cons_zero, Act.put, List.setIfInBounds_toArray, List.set_cons_zero, List.set_cons_succ]
            refine wpAnyH_take (i := 15) (v := ?_) rfl (by kernel_rfl) (by kernel_rfl) (by kernel_rfl) (fun _ _ _ h => h) (Or.inl ⟨by rfl, ?_⟩) (by assumption) ?_
            rotate_left
            · (intro w0 hSw; (try dsimp only at hSw); go_simp; try with_reducible rfl)
            try simp only [List.getElem_toArray, List.getElem_cons_succ, List.getElem_cons_zero, Act.put, List.setIfInBounds_toArray, List.set_cons_zero, List.set_cons_succ]
            refine wpAnyH_done (by kernel_rfl) ?_ _
            go_wp2_with fail
            go_ret
            exact ⟨rfl, B00.out.trans ((stepB BZ.out B5.out).mono B00.out.size)⟩
end Go.Proofs.Ytopjkidekbfalaa
