/- The laws' loops: something that happens, one behind the other; the walk of TxnAbort. -/
import Derived.Test.YtopjkidekbfalaaTxT
import Derived.Test.YtopjkidekbfalaaHeld2
namespace Go.Proofs.Ytopjkidekbfalaa
open Go.RowKit
set_option linter.unusedVariables false
set_option linter.unusedSimpArgs false

/-- Something that happens, at a place of a slice. -/
theorem Reads.txAct_at {w : World} {B n : Nat} {A : Option Addr} {ls : List (List Int)} (h : Reads w B 33 A n (ints ls.flatten)) (hall : ∀ l ∈ ls, l.length = 33) (hn : ls.length = n) {i : Nat} (hi : i < n) :
    ∃ b off, A = some ⟨b, off, none⟩ ∧ b < B ∧ (ls.getD i []).length = 33 ∧ ∀ j v, (ints (ls.getD i []))[j]? = some v → w.cell? ((⟨b, off + i * 33, none⟩ : Addr).add j) = some v := by
  obtain ⟨b, off, e, hb, hc, h33⟩ := h.flat_at hall hn (by omega) hi
  refine ⟨b, off, e, hb, h33, fun j v hv => ?_⟩
  have hj : j < 33 := by have := (List.getElem?_eq_some_iff.1 hv).1; rwa [ints_length, h33] at this
  rw [show (⟨b, off + i * 33, none⟩ : Addr).add j = ⟨b, off + i * 33 + j, none⟩ by unfold Addr.add; split <;> simp_all]
  rw [hc j hj, ← hv]
  generalize ls.getD i [] = l at h33
  simp [ints, fld_get (show j < l.length by omega)]
theorem act_info {a : List Int} (hl : a.length = 33) : (Try.prog.info? 44).map (·.size) = some (ints a).length := by
  rw [ints_length, hl]; kernel_rfl
theorem goOnL_tx (x : Tr) : (goOnL x).1.tx = x.tx := by unfold goOnL; split; rfl; split <;> rfl
theorem abtL_tx (x : Tr) (r : Int) : (abtL x r).1.tx = x.tx := by unfold abtL; split; rfl; split <;> rfl
theorem actL_tx (x : Tr) (a : List Int) : (actL x a).1.tx = x.tx := by
  unfold actL
  split
  · unfold askL
    split; rfl
    split; rfl
    split; rfl
    split; rfl
    rfl
  split
  · unfold ansL
    split; rfl
    split; rfl
    split; rfl
    rfl
  split
  · unfold finL
    split; rfl
    split; rfl
    exact goOnL_tx x
  split
  · unfold votL
    split; rfl
    split; rfl
    split; rfl
    split; exact abtL_tx x 2
    exact goOnL_tx _
  split
  · exact abtL_tx x _
  split
  · unfold ackL
    split; rfl
    split; rfl
    split; rfl
    rfl
  rfl
theorem news_abt {x : Tr} {r : Int} (h5 : x.tx = 5) (t : Int) : newsL (abtX x r) t = msgL 6 t 5 0 0 0 0 0 := by rw [newsL_4 (show (abtX x r).st = 4 from rfl)]; rw [show (abtX x r).tx = 5 from h5]
set_option maxRecDepth 100000 in
set_option maxHeartbeats 32000000 in
theorem txnAbort_walk (A : Option Addr) (n c : Nat) (l : List (List Int)) (rz : Int) (hz0 : 0 ≤ rz) (hz1 : rz ≤ 255) (w : World) (hl : l.length = n) (ha : ∀ x ∈ l, x.length = 33) (hr : Reads w w.heap.size 33 A n (ints l.flatten)) :
    Calls Try.prog 6 #[.slice A n c, .int .u8 rz] w fun e w' => e = .returned (.bool true) ∧ Below w.heap.size w w' := by
  have hnn := fun W => run_neq_nil_nil (P := Try.prog) W 32 Try.underlying32
  have hen := fun W => run_eql_nil_nil (P := Try.prog) W 32 Try.underlying32
  have H := Lib.hid hr
  have HL := Lib.hid hl
  have HA := Lib.hid ha
  clear hr hl ha
  by_cases hn : 60 < n
  · have d0 : decide ((60 : Int) < (n : Int)) = true := by simp; omega
    go_enter Try.func6, Try.ntmps6
    go_wp2_with (go_at_call 7; refine (txnAlive _).mono ?_; rintro e w0 ⟨rfl, hb0⟩; have B0 := Lib.hid hb0; clear hb0)
    go_ret
    exact ⟨rfl, B0.out⟩
  · have d0 : decide ((60 : Int) < (n : Int)) = false := by simp; omega
    go_enter Try.func6, Try.ntmps6
    go_upto_region 6 with (first
      | (go_at_call 7; refine (txnAlive _).mono ?_; rintro e w0 ⟨rfl, hb0⟩; have B0 := Lib.hid hb0; clear hb0)
      | (go_at_call 8; refine (new_ok 5 (by omega) (by omega) _).mono ?_; rintro e W1 ⟨rfl, hb⟩; have B1 := Lib.hid (stepB B0.out hb); clear hb B0)
      | (refine wpList_store_mid (by rfl) 30 (.tmp 5) (.tmp 20) (by rfl) W1.heap.size 0 (trc (newL 5) noSl) (by rfl) (by rfl) ((show Blk (W1.alloc (.cells zTr 30)) W1.heap.size 30 (trc noTr noSl) from Blk.new W1 _ _).there (Nat.le_refl 13)) (tr_info _ _) (tr_one _ _ rfl rfl rfl rfl) ?_
         have XV := Lib.hid (show Blk ((W1.alloc (.cells zTr 30)).setCells W1.heap.size 0 (trc (newL 5) noSl).toList) W1.heap.size 30 (trc (newL 5) noSl) from (show Blk (W1.alloc (.cells zTr 30)) W1.heap.size 30 (trc noTr noSl) from Blk.new W1 _ _).put _ rfl)
         have BV := Lib.hid (Below.setCells (b := W1.heap.size) (show w.heap.size ≤ W1.heap.size from B1.out.size) (trc (newL 5) noSl).toList 0 _ (stepA B1.out (.cells zTr 30)))
         have HG := Lib.hid B1.out.size
         generalize (W1.alloc (.cells zTr 30)).setCells W1.heap.size 0 (trc (newL 5) noSl).toList = WV at XV BV ⊢
         generalize W1.heap.size = g at XV HG ⊢))
    clear B1
    go_wp2_with fail
    go_loopw [7] (fun i wr => ∃ (m : Nat) (x : Tr) (s : Sl), m ≤ n ∧ i = .int .i64 m ∧ TrOk x m ∧ x.tx = 5 ∧ Blk wr g 30 (trc x s) ∧ Tm wr 0 x s ∧ Below w.heap.size w wr) (fun i _ => n - (RowKit.intOf i).toNat)
    case atStart => exact ⟨0, newL 5, noSl, Nat.zero_le _, rfl, TrOk.new (by omega) 0, rfl, XV.out, Tm.new WV 0 5, BV.out⟩
    case round =>
      rename World => X
      obtain ⟨m, x, s, hm, rfl, hok, htx, hblk, htm, hbel⟩ := hrel
      have OKX := Lib.hid hok
      have HTX := Lib.hid htx
      have XX := Lib.hid hblk
      have TX := Lib.hid htm
      have BX := Lib.hid hbel
      clear hok htx hblk htm hbel XV BV
      by_cases hmn : m < n
      · have d3 : decide ((m : Int) < (n : Int)) = true := by simp; omega
        go_upto_region 11 with fail
        obtain ⟨ab, aoff, rfl, hab, ha33, hac⟩ := (H.out.below BX.out).txAct_at HA.out HL.out hmn
        have AC := Lib.hid hac
        have A33 := Lib.hid ha33
        clear hac ha33 hab
        generalize l.getD m [] = a at AC A33
        have HAI := Lib.hid (act_info A33.out)
        have hgl := XX.out.lt
        refine wp_region_till 10 (fun w' => Blk w' g 30 (trc x s) ∧ ∀ j v, (ints a)[j]? = some v → w'.cell? ((⟨ab, aoff + m * 33, none⟩ : Addr).add j) = some v) (by kernel_rfl) ⟨XX.out.drew, fun j v hv => AC.out j v hv⟩ (fun hHeld => ?_)
        have BD := Lib.hid (show Below X.heap.size X X.drew from (Below.refl _ _).drew)
        have HCK := Lib.hid (show ∀ Y, Below X.heap.size X Y → ∀ j v, (ints a)[j]? = some v → Y.cell? ((⟨ab, aoff + m * 33, none⟩ : Addr).add j) = some v from fun Y hy j v hv => (hy.cell (p := (⟨ab, aoff + m * 33, none⟩ : Addr).add j) (by rw [block_of_add]; exact World.block_lt_of_cell? _ _ (AC.out j v hv) |> (by simpa [block_of_add] using ·))).trans (AC.out j v hv))
        generalize X.drew = X1 at BD hHeld ⊢
        refine wpTill_take (i := 0) (v := .agg (trc x s)) rfl (by kernel_rfl) (by kernel_rfl) (by kernel_rfl) (by kernel_rfl) (fun _ _ _ h => h) (Or.inl ⟨by rfl, fun w0 hSw => exec_load (x := .tmp 5) rfl rfl (tr_load hSw.1)⟩) (by assumption) ?_
        try simp only [List.getElem_toArray, List.getElem_cons_succ, List.getElem_cons_zero, Act.put, List.setIfInBounds_toArray, List.set_cons_zero, List.set_cons_succ]
        refine wpTill_take (i := 1) (v := ?_) rfl (by kernel_rfl) (by kernel_rfl) (by kernel_rfl) (by kernel_rfl) (fun _ _ _ h => h) (Or.inl ⟨by rfl, ?_⟩) (by assumption) ?_
        rotate_left
        · (intro w0 hSw; (try dsimp only at hSw); go_simp; try with_reducible rfl)
        try simp only [List.getElem_toArray, List.getElem_cons_succ, List.getElem_cons_zero, Act.put, List.setIfInBounds_toArray, List.set_cons_zero, List.set_cons_succ]
        refine wpTill_take (i := 2) (v := ?_) rfl (by kernel_rfl) (by kernel_rfl) (by kernel_rfl) (by kernel_rfl) (fun _ _ _ h => h) (Or.inl ⟨by rfl, ?_⟩) (by assumption) ?_
        rotate_left
        · (intro w0 hSw; (try dsimp only at hSw); go_simp; try with_reducible rfl)
        try simp only [List.getElem_toArray, List.getElem_cons_succ, List.getElem_cons_zero, Act.put, List.setIfInBounds_toArray, List.set_cons_zero, List.set_cons_succ]
        refine wpTill_take (i := 3) (v := ?_) rfl (by kernel_rfl) (by kernel_rfl) (by kernel_rfl) (by kernel_rfl) (fun _ _ _ h => h) (Or.inl ⟨by rfl, ?_⟩) (by assumption) ?_
        rotate_left
        · (intro w0 hSw; (try dsimp only at hSw); go_simp; try with_reducible rfl)
        try simp only [List.getElem_toArray, List.getElem_cons_succ, List.getElem_cons_zero, Act.put, List.setIfInBounds_toArray, List.set_cons_zero, List.set_cons_succ]
        refine wpTill_take (i := 4) (v := .agg (mc a)) rfl (by kernel_rfl) (by kernel_rfl) (by kernel_rfl) (by kernel_rfl) (fun _ _ _ h => h) (Or.inl ⟨by rfl, fun w0 hSw => exec_load (x := .tmp 34) rfl (ad := ⟨ab, aoff + m * 33, none⟩) rfl (run_loadVar_cells w0 _ _ (ints a) _ hSw.2 Try.underlying44 rfl HAI.out)⟩) (by assumption) ?_
        try simp only [List.getElem_toArray, List.getElem_cons_succ, List.getElem_cons_zero, Act.put, List.setIfInBounds_toArray, List.set_cons_zero, List.set_cons_succ]
        refine wpTill_ready (rs := [5]) (by kernel_rfl) (by simp) ?_
        refine AllTill.cons rfl (fun K hK => ?_) AllTill.nil
        go_simp
        refine (act_any x s a A33.out _ (TX.out.step BD.out) OKX.out (by omega)).mono ?_
        rintro e X2 ⟨s2, u, rfl, ht2, hu2, hb2⟩
        try go_simp
        have OK2 := Lib.hid (OKX.out.act a)
        have TX2 := Lib.hid (actL_tx x a)
        obtain ⟨y, ms, cc, hy⟩ : ∃ y ms cc, actL x a = (y, ms, cc) := ⟨_, _, _, rfl⟩
        rw [hy] at ht2 hu2 OK2 TX2
        simp only [hy]
        have TX2 := Lib.hid (TX2.out.trans HTX.out)
        clear hy
        have T2 := Lib.hid ht2
        have E2 := Lib.hid (BD.out.trans (hb2.mono BD.out.size))
        clear ht2 hu2 hb2
        refine hK.out _ _ ⟨XX.out.here E2.out, HCK.out _ E2.out⟩ (fun hHeld => ?_)
        clear hK K
        refine wpTill_take (i := 6) (v := ?_) rfl (by kernel_rfl) (by kernel_rfl) (by kernel_rfl) (by kernel_rfl) (fun _ _ _ h => h) (Or.inl ⟨by rfl, ?_⟩) (by assumption) ?_
        rotate_left
        · (intro w0 hSw; (try dsimp only at hSw); go_simp; try with_reducible rfl)
        try simp only [List.getElem_toArray, List.getElem_cons_succ, List.getElem_cons_zero, Act.put, List.setIfInBounds_toArray, List.set_cons_zero, List.set_cons_succ]
        refine wpTill_take (i := 7) (v := ?_) rfl (by kernel_rfl) (by kernel_rfl) (by kernel_rfl) (by kernel_rfl) (fun _ _ _ h => h) (Or.inl ⟨by rfl, ?_⟩) (by assumption) ?_
        rotate_left
        · (intro w0 hSw; (try dsimp only at hSw); go_simp; try with_reducible rfl)
        try simp only [List.getElem_toArray, List.getElem_cons_succ, List.getElem_cons_zero, Act.put, List.setIfInBounds_toArray, List.set_cons_zero, List.set_cons_succ]
        refine wpTill_pure (i := 8) (v := ?_) rfl (by kernel_rfl) (by kernel_rfl) (by kernel_rfl) (by kernel_rfl) (fun _ _ _ h => h) (Or.inl ⟨by rfl, ?_⟩) (by first | (exact fun _ => by assumption) | (exact fun hf => by cases hf)) ?_
        rotate_left
        · (intro w0 hSw; clear hSw; go_simp; try with_reducible rfl)
        try simp only [List.getElem_toArray, List.getElem_cons_succ, List.getElem_cons_zero, Act.put, List.setIfInBounds_toArray, List.set_cons_zero, List.set_cons_succ]
        refine wpTill_pure (i := 9) (v := ?_) rfl (by kernel_rfl) (by kernel_rfl) (by kernel_rfl) (by kernel_rfl) (fun _ _ _ h => h) (Or.inl ⟨by rfl, ?_⟩) (by first | (exact fun _ => by assumption) | (exact fun hf => by cases hf)) ?_
        rotate_left
        · (intro w0 hSw; clear hSw; go_simp; try with_reducible rfl)
        try simp only [List.getElem_toArray, List.getElem_cons_succ, List.getElem_cons_zero, Act.put, List.setIfInBounds_toArray, List.set_cons_zero, List.set_cons_succ]
        refine wpTill_ready (rs := [10]) (by kernel_rfl) (by simp) ?_
        refine AllTill.last rfl (of_decide_eq_true (by kernel_rfl)) (fun K hK => ?_)
        refine step_store_mid (by rfl) 30 (.tmp 5) (.tmp 37) rfl g 0 (trc y s2) rfl rfl ((XX.out.here E2.out).there (Nat.le_refl 13)) (tr_info _ _) T2.out.one ?_
        have E3 := Lib.hid (show Turn (fun k => k = g) X2 (X2.setCells g 0 (trc y s2).toList) from Turn.setCells (S := fun k => k = g) (fun _ => rfl) _ _ _ (Turn.refl _ _))
        have XZ := Lib.hid ((XX.out.here E2.out).put (trc y s2) rfl)
        have BZ := Lib.hid ((stepB BX.out E2.out).trans (E3.out.below (B := w.heap.size) (fun k hk e => by have := HG.out; omega) (Nat.le_trans BX.out.size E2.out.size)))
        have TZ := Lib.hid (T2.out.offB (XX.out.here E2.out) E3.out)
        refine hK.out _ _ ?_
        clear hK K
        generalize X2.setCells g 0 (trc y s2).toList = X3 at XZ BZ TZ ⊢
        refine wpTill_done (by kernel_rfl) ?_ _
        go_wp2_with fail
        go_roundw
        case rel => exact ⟨m + 1, y, s2, by omega, by go_num, OK2.out, TX2.out, XZ.out, TZ.out, BZ.out⟩
        case measure => simp [RowKit.intOf]; omega
      · obtain rfl : m = n := by omega
        have d3 : decide ((m : Int) < (m : Int)) = false := by simp
        go_upto_region 13 with fail
        have hr5 : 1 ≤ 1 + rz % 5 ∧ 1 + rz % 5 ≤ 5 := by omega
        generalize 1 + rz % 5 = r at hr5 ⊢
        have HR5 := Lib.hid hr5
        have HTC := Lib.hid OKX.out.tch
        have AB := Lib.hid (abort_any x s r X TX.out (OKX.out.short (by omega)))
        have hgl := XX.out.lt
        clear hr5
        cases hd : decided x with
        | true =>
          have HD := Lib.hid hd
          have e : abtL x r = (x, [], 15) := by unfold abtL; rw [if_neg (by have := HR5.out; omega), if_pos hd]
          rw [e] at AB
          clear e hd
          go_upto_region 14 with (first
            | (refine wpList_load_row rfl 30 (.tmp 5) rfl g rfl 30 (trc x s) (0, 0) _ XX.out Try.underlying30 rfl (tr_info _ _) ?_)
            | (go_at_call 16; refine AB.out.mono ?_; rintro e X2 ⟨s2, u, rfl, ht2, hu2, hb2⟩; obtain ⟨Au, cu, rfl⟩ := own_len hu2; have T2 := Lib.hid ht2; have E2 := Lib.hid hb2; clear ht2 hu2 hb2)
            | (refine wpList_store_mid (by rfl) 30 (.tmp 9) (.tmp 48) (by rfl) X2.heap.size 0 (trc x s2) (by rfl) (by rfl) ((show Blk (X2.alloc (.cells zTr 30)) X2.heap.size 30 (trc noTr noSl) from Blk.new X2 _ _).there (Nat.le_refl 13)) (tr_info _ _) T2.out.one ?_
               have XZ := Lib.hid ((((XX.out.here E2.out).alloc (.cells zTr 30)).farCells (b := X2.heap.size) (by have := E2.out.size; omega) (trc x s2).toList 0))
               have BZ := Lib.hid (Below.setCells (b := X2.heap.size) (Nat.le_trans BX.out.size E2.out.size) (trc x s2).toList 0 _ (stepA (stepB BX.out E2.out) (.cells zTr 30)))
               generalize (X2.alloc (.cells zTr 30)).setCells X2.heap.size 0 (trc x s2).toList = X3 at XZ BZ ⊢
               generalize X2.heap.size = r2))
          go_wp2_with (first
            | (refine wpList_load_row rfl 30 (.tmp 5) rfl g rfl 30 (trc x s) (0, 0) _ XZ.out Try.underlying30 rfl (tr_info _ _) ?_)
            | (go_at_call 10; refine (decided_b x s _ true HD.out).mono ?_; rintro e X4 ⟨rfl, hb4⟩; have B4 := Lib.hid (stepB BZ.out hb4); clear hb4)
            | (go_at_call 17; refine (code_errV 15 (.inr rfl) _).mono ?_; rintro e w' ⟨rfl, rfl⟩))
          go_ret
          exact ⟨rfl, B4.out⟩
        | false =>
          have HD := Lib.hid hd
          obtain ⟨ms, hms⟩ : ∃ ms, x.tch.map (newsL (abtX x r)) = ms := ⟨_, rfl⟩
          have e : abtL x r = (abtX x r, ms, 0) := by unfold abtL; rw [if_neg (by have := HR5.out; omega), if_neg (by rw [hd]; simp), hms]
          rw [e] at AB
          have ML := Lib.hid (show ms.length = x.tch.length from by rw [← hms]; simp)
          have MA := Lib.hid (show ∀ q ∈ ms, q.length = 28 from fun q hq => by rw [← hms] at hq; obtain ⟨t, _, rfl⟩ := List.mem_map.1 hq; rfl)
          have MI := Lib.hid (show ∀ i, i < x.tch.length → ms.getD i zM = msgL 6 (gd x.tch i) 5 0 0 0 0 0 from fun i hi => by
            rw [← hms, List.getD_eq_getElem?_getD, List.getElem?_map, List.getElem?_eq_getElem hi, gd_get hi]
            exact news_abt HTX.out _)
          clear e hd hms
          go_upto_region 14 with (first
            | (refine wpList_load_row rfl 30 (.tmp 5) rfl g rfl 30 (trc x s) (0, 0) _ XX.out Try.underlying30 rfl (tr_info _ _) ?_)
            | (go_at_call 16; refine AB.out.mono ?_; rintro e X2 ⟨s2, u, rfl, ht2, hu2, hb2⟩; obtain ⟨Au, cu, rfl⟩ := own_len hu2; have T2 := Lib.hid ht2; have U2 := Lib.hid hu2; have E2 := Lib.hid hb2; clear ht2 hu2 hb2)
            | (refine wpList_store_mid (by rfl) 30 (.tmp 9) (.tmp 48) (by rfl) X2.heap.size 0 (trc (abtX x r) s2) (by rfl) (by rfl) ((show Blk (X2.alloc (.cells zTr 30)) X2.heap.size 30 (trc noTr noSl) from Blk.new X2 _ _).there (Nat.le_refl 13)) (tr_info _ _) T2.out.one ?_
               have E3 := Lib.hid (show Below X2.heap.size X2 ((X2.alloc (.cells zTr 30)).setCells X2.heap.size 0 (trc (abtX x r) s2).toList) from Below.setCells (b := X2.heap.size) (Nat.le_refl _) _ 0 _ (Joins.below_alloc1 X2 _))
               have YZ := Lib.hid (show Blk ((X2.alloc (.cells zTr 30)).setCells X2.heap.size 0 (trc (abtX x r) s2).toList) X2.heap.size 30 (trc (abtX x r) s2) from (show Blk (X2.alloc (.cells zTr 30)) X2.heap.size 30 (trc noTr noSl) from Blk.new X2 _ _).put _ rfl)
               have XZ := Lib.hid ((XX.out.here E2.out).here E3.out)
               have BZ := Lib.hid (stepB (stepB BX.out E2.out) E3.out)
               have UZ := Lib.hid (own_step U2.out E3.out)
               have TZ := Lib.hid ((TX.out.step E2.out).step E3.out)
               clear E3
               generalize (X2.alloc (.cells zTr 30)).setCells X2.heap.size 0 (trc (abtX x r) s2).toList = X3 at XZ YZ BZ UZ TZ ⊢
               generalize X2.heap.size = r2 at YZ ⊢))
          go_upto_region 16 with (first
            | (refine wpList_load_row rfl 30 (.tmp 5) rfl g rfl 30 (trc x s) (0, 0) _ XZ.out Try.underlying30 rfl (tr_info _ _) ?_)
            | (go_at_call 10; refine (decided_b x s _ false HD.out).mono ?_; rintro e X4 ⟨rfl, hb4⟩; have X5 := Lib.hid (XZ.out.here hb4); have Y5 := Lib.hid (YZ.out.here hb4); have B5 := Lib.hid (stepB BZ.out hb4); have U5 := Lib.hid (own_step UZ.out hb4); have T5 := Lib.hid (TZ.out.step hb4); clear hb4))
          have y1 : X4.cell? ⟨r2, 1, none⟩ = some (.int .i64 4) := Y5.out.cell 1
          have y2 : X4.cell? ⟨r2, 2, none⟩ = some (.int .i64 r) := Y5.out.cell 2
          have y4 : X4.cell? ⟨r2, 4, none⟩ = some (.bool false) := Y5.out.cell 4
          obtain ⟨At, ct, et, RT, _, _⟩ := own_rd T5.out.t
          obtain ⟨Am, cm, em, RM, _, _⟩ := own_rd U5.out
          injection em with em1 em2 em3
          subst em1 em3
          have x9 : X4.cell? ⟨g, 9, none⟩ = some (.slice At x.tch.length ct) := by rw [← et]; exact X5.out.cell 9
          have HRT := Lib.hid RT
          have HRM := Lib.hid RM
          have TL := Lib.hid HTC.out.len
          rw [errV_zero]
          rw [ML.out]
          rw [ML.out] at HRM
          clear et RT RM em2
          generalize hN : x.tch.length = N at x9 HRT HRM ML MI TL ⊢
          have HN := Lib.hid hN
          have hN64 := TL.out
          clear hN
          go_upto_region 18 with fail
          go_wp2_with fail
          go_loopw [12] (fun v wr => ∃ i q : Nat, v = .int .i64 i ∧ i ≤ N ∧ wr = X4.drewN q) (fun v _ => N - (RowKit.intOf v).toNat)
          case atStart => exact ⟨0, 0, rfl, Nat.zero_le _, rfl⟩
          case round =>
            obtain ⟨i, q, rfl, hi, rfl⟩ := hrel
            by_cases hin : i < N
            · obtain ⟨bt, ot, rfl, hbt, hct⟩ := int_cells HRT.out (by omega)
              have k1 := hct i (by rw [HN.out]; exact hin)
              obtain ⟨ad, rfl, had, hcm⟩ := HRM.out.msg_at MA.out ML.out hin
              have EI := MI.out i hin
              rw [EI] at hcm
              clear hct hbt had EI
              generalize gd x.tch i = yy at k1 hcm
              have he : ∀ W, (binOp .neq 42 (.agg (mc (msgL 6 yy 5 0 0 0 0 0))) (.agg #[.int .i64 6, .int .i64 0, .int .i64 yy, .int .i64 5, .int .i64 0, .int .i64 0, .int .i64 0, .int .i64 0, .int .i64 0, .int .i64 0, .int .i64 0, .int .i64 0, .int .i64 0, .int .i64 0, .int .i64 0, .int .i64 0, .int .i64 0, .int .i64 0, .int .i64 0, .int .i64 0, .int .i64 0, .int .i64 0, .int .i64 0, .int .i64 0, .int .i64 0, .int .i64 0, .int .i64 0, .int .i64 0])).run Try.prog W = .ok (.bool false) W := fun W => by
                have := neq_msg (a := msgL 6 yy 5 0 0 0 0 0) (b := msgL 6 yy 5 0 0 0 0 0) rfl rfl W
                rwa [decide_eq_true rfl] at this
              obtain ⟨mm, hmm⟩ : ∃ mm, msgL 6 yy 5 0 0 0 0 0 = mm := ⟨_, rfl⟩
              have HMM := Lib.hid (show mm.length = 28 from by rw [← hmm]; rfl)
              rw [hmm] at hcm he
              have HCM := Lib.hid hcm
              clear hmm hcm
              have d5 : decide ((i : Int) < (N : Int)) = true := by simp; omega
              go_upto_region 21 with fail
              refine wp_region_held_drew (S := fun w' => w'.cell? ⟨g, 9, none⟩ = some (.slice (some ⟨bt, ot, none⟩) N ct) ∧ w'.cell? ⟨bt, ot + i, none⟩ = some (.int .i64 yy) ∧ ∀ j v, (ints mm)[j]? = some v → w'.cell? ((ad.add (i * 28)).add j) = some v) (by kernel_rfl) ⟨x9, k1, HCM.out⟩ (fun hHeld => ?_)
              refine wpAnyH_take (i := 0) (v := ?_) rfl (by kernel_rfl) (by kernel_rfl) (by kernel_rfl) (fun _ _ _ h => h) (Or.inl ⟨by rfl, ?_⟩) (by assumption) ?_
              rotate_left
              · (intro w0 hSw; (try dsimp only at hSw); go_simp; try with_reducible rfl)
              try simp only [List.getElem_toArray, List.getElem_cons_succ, List.getElem_cons_zero, Act.put, List.setIfInBounds_toArray, List.set_cons_zero, List.set_cons_succ]
              refine wpAnyH_take (i := 1) (v := ?_) rfl (by kernel_rfl) (by kernel_rfl) (by kernel_rfl) (fun _ _ _ h => h) (Or.inl ⟨by rfl, ?_⟩) (by assumption) ?_
              rotate_left
              · (intro w0 hSw; (try dsimp only at hSw); go_simp; try with_reducible rfl)
              try simp only [List.getElem_toArray, List.getElem_cons_succ, List.getElem_cons_zero, Act.put, List.setIfInBounds_toArray, List.set_cons_zero, List.set_cons_succ]
              refine wpAnyH_take (i := 2) (v := ?_) rfl (by kernel_rfl) (by kernel_rfl) (by kernel_rfl) (fun _ _ _ h => h) (Or.inl ⟨by rfl, ?_⟩) (by assumption) ?_
              rotate_left
              · (intro w0 hSw; (try dsimp only at hSw); go_simp; try with_reducible rfl)
              try simp only [List.getElem_toArray, List.getElem_cons_succ, List.getElem_cons_zero, Act.put, List.setIfInBounds_toArray, List.set_cons_zero, List.set_cons_succ]
              refine wpAnyH_take (i := 3) (v := .agg (mc mm)) rfl (by kernel_rfl) (by kernel_rfl) (by kernel_rfl) (fun _ _ _ h => h) (Or.inl ⟨by rfl, fun w0 hSw => exec_load (x := .tmp 94) rfl (ad := ad.add (i * 28)) rfl (run_load_msg HMM.out hSw.2.2)⟩) (by assumption) ?_
              try simp only [List.getElem_toArray, List.getElem_cons_succ, List.getElem_cons_zero, Act.put, List.setIfInBounds_toArray, List.set_cons_zero, List.set_cons_succ]
              refine wpAnyH_take (i := 4) (v := ?_) rfl (by kernel_rfl) (by kernel_rfl) (by kernel_rfl) (fun _ _ _ h => h) (Or.inl ⟨by rfl, ?_⟩) (by assumption) ?_
              rotate_left
              · (intro w0 hSw; (try dsimp only at hSw); go_simp; try with_reducible rfl)
              try simp only [List.getElem_toArray, List.getElem_cons_succ, List.getElem_cons_zero, Act.put, List.setIfInBounds_toArray, List.set_cons_zero, List.set_cons_succ]
              refine wpAnyH_take (i := 5) (v := ?_) rfl (by kernel_rfl) (by kernel_rfl) (by kernel_rfl) (fun _ _ _ h => h) (Or.inl ⟨by rfl, ?_⟩) (by assumption) ?_
              rotate_left
              · (intro w0 hSw; (try dsimp only at hSw); go_simp; try with_reducible rfl)
              try simp only [List.getElem_toArray, List.getElem_cons_succ, List.getElem_cons_zero, Act.put, List.setIfInBounds_toArray, List.set_cons_zero, List.set_cons_succ]
              refine wpAnyH_take (i := 6) (v := ?_) rfl (by kernel_rfl) (by kernel_rfl) (by kernel_rfl) (fun _ _ _ h => h) (Or.inl ⟨by rfl, ?_⟩) (by assumption) ?_
              rotate_left
              · (intro w0 hSw; (try dsimp only at hSw); go_simp; try with_reducible rfl)
              try simp only [List.getElem_toArray, List.getElem_cons_succ, List.getElem_cons_zero, Act.put, List.setIfInBounds_toArray, List.set_cons_zero, List.set_cons_succ]
              refine wpAnyH_take (i := 7) (v := ?_) rfl (by kernel_rfl) (by kernel_rfl) (by kernel_rfl) (fun _ _ _ h => h) (Or.inl ⟨by rfl, ?_⟩) (by assumption) ?_
              rotate_left
              · (intro w0 hSw; (try dsimp only at hSw); go_simp; try with_reducible rfl)
              try simp only [List.getElem_toArray, List.getElem_cons_succ, List.getElem_cons_zero, Act.put, List.setIfInBounds_toArray, List.set_cons_zero, List.set_cons_succ]
              refine wpAnyH_take (i := 8) (v := ?_) rfl (by kernel_rfl) (by kernel_rfl) (by kernel_rfl) (fun _ _ _ h => h) (Or.inl ⟨by rfl, ?_⟩) (by assumption) ?_
              rotate_left
              · (intro w0 hSw; (try dsimp only at hSw); go_simp; try with_reducible rfl)
              try simp only [List.getElem_toArray, List.getElem_cons_succ, List.getElem_cons_zero, Act.put, List.setIfInBounds_toArray, List.set_cons_zero, List.set_cons_succ]
              refine wpAnyH_take (i := 9) (v := ?_) rfl (by kernel_rfl) (by kernel_rfl) (by kernel_rfl) (fun _ _ _ h => h) (Or.inl ⟨by rfl, ?_⟩) (by assumption) ?_
              rotate_left
              · (intro w0 hSw; (try dsimp only at hSw); go_simp; try with_reducible rfl)
              try simp only [List.getElem_toArray, List.getElem_cons_succ, List.getElem_cons_zero, Act.put, List.setIfInBounds_toArray, List.set_cons_zero, List.set_cons_succ]
              refine wpAnyH_take (i := 10) (v := ?_) rfl (by kernel_rfl) (by kernel_rfl) (by kernel_rfl) (fun _ _ _ h => h) (Or.inl ⟨by rfl, ?_⟩) (by assumption) ?_
              rotate_left
              · (intro w0 hSw; (try dsimp only at hSw); go_simp; try with_reducible rfl)
              try simp only [List.getElem_toArray, List.getElem_cons_succ, List.getElem_cons_zero, Act.put, List.setIfInBounds_toArray, List.set_cons_zero, List.set_cons_succ]
              refine wpAnyH_done (by kernel_rfl) ?_ _
              clear hHeld
              go_wp2_with fail
              go_roundw
              case rel => exact ⟨i + 1, _, by go_num, by omega, rfl⟩
              case measure => simp [RowKit.intOf]; omega
            · obtain rfl : i = N := by omega
              have d5 : decide ((i : Int) < (i : Int)) = false := by simp
              go_wp2_with fail
              go_ret
              exact ⟨rfl, below_drewN B5.out q⟩
end Go.Proofs.Ytopjkidekbfalaa
