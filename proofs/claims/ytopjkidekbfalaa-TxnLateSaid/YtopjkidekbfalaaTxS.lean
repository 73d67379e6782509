/- The law's act: something that happens to a transaction. -/
import Derived.Test.YtopjkidekbfalaaTxR
namespace Go.Proofs.Ytopjkidekbfalaa
open Go.RowKit
set_option linter.unusedVariables false
set_option linter.unusedSimpArgs false

theorem act_cell {w : World} {g : Nat} {t : TypeId} {a : List Int} (hl : a.length = 33) (h : Blk w g t (mc a)) {i : Nat} (hi : i < 33) : w.cell? ⟨g, i, none⟩ = some (.int .i64 (fld a i)) := by
  rw [h.cell i]; simp [mc, ints, fld_get (show i < a.length by omega)]
theorem act_msg {w : World} {g : Nat} {t : TypeId} {a : List Int} (hl : a.length = 33) (h : Blk w g t (mc a)) : ∀ j v, (ints (a.drop 5))[j]? = some v → w.cell? ((⟨g, 5, none⟩ : Addr).add j) = some v := by
  have := Blk.cells_at (l := ints a) h 5 28 (by rw [ints_length]; omega)
  intro j v hj
  refine this j v ?_
  rw [← hj]
  have e : (ints a).drop 5 = ints (a.drop 5) := by simp [ints, List.map_drop]
  rw [e, List.take_of_length_le (by rw [ints_length, List.length_drop]; omega)]
theorem act_drop {a : List Int} (hl : a.length = 33) : (a.drop 5).length = 28 := by rw [List.length_drop]; omega
def ActP (w : World) (y : Res3) (e : Ending) (w' : World) : Prop := ∃ s' u, e = .returned (.tuple #[.agg (trc y.1 s'), u, .int .i64 y.2.2]) ∧ Tm w' 0 y.1 s' ∧ MsgR w' w.heap.size u y.2.1 ∧ Below w.heap.size w w'
set_option maxRecDepth 100000 in
set_option maxHeartbeats 8000000 in
theorem act_0 {B k : Nat} (x : Tr) (s : Sl) (a : List Int) (ha : a.length = 33) (w : World) (h : Tm w B x s) (ok : TrOk x k) (hkk : k ≤ 900) (hk : fld a 0 = 0) (y : Tr) (ms : List (List Int)) (c : Int) (hy : askL x (fld a 1) (fld a 2) (fld a 3) (fld a 4) = (y, ms, c)) (hc : codOk c) :
    Calls Try.prog 9 #[.agg (trc x s), .agg (mc a)] w (ActP w (y, ms, c)) := by
  have X1 := Lib.hid (((Blk.new w 30 (trc x s)).alloc (.cells (mc a) 44)).alloc (.cells zTr 30))
  have A1 := Lib.hid ((Blk.new_at (w := w.alloc (.cells (trc x s) 30)) (n := w.heap.size + 1) (by simp) 44 (mc a)).alloc (.cells zTr 30))
  have Z1 := Lib.hid (Blk.new_at (w := (w.alloc (.cells (trc x s) 30)).alloc (.cells (mc a) 44)) (n := w.heap.size + 2) (by simp) 30 zTr)
  have B1 := Lib.hid (((Joins.below_alloc1 w (.cells (trc x s) 30)).alloc (by simp <;> omega) (.cells (mc a) 44)).alloc (by simp <;> omega) (.cells zTr 30))
  have SZ := Lib.hid (show (((w.alloc (.cells (trc x s) 30)).alloc (.cells (mc a) 44)).alloc (.cells zTr 30)).heap.size = w.heap.size + 3 from by simp)
  have TV := Lib.hid (h.step B1.out)
  have OK := Lib.hid ok
  have HS := Lib.hid (ok.short (by omega))
  have HY := Lib.hid hy
  have HC := Lib.hid hc
  have HA := Lib.hid ha
  have HD := Lib.hid (act_drop ha)
  have HMI := Lib.hid (show (Try.prog.info? 42).map (·.size) = some (ints (a.drop 5)).length from by have := mc_info (act_drop ha); simpa [mc] using this)
  have e0 : (fld a 0 == 0) = true := by simp; omega
  clear h ok hkk hy hc ha hk
  go_enter Try.func9, Try.ntmps9
  go_upto_region 1 with fail
  obtain ⟨g, hg⟩ : ∃ g, g = w.heap.size := ⟨_, rfl⟩
  have HG := Lib.hid hg
  rw [← hg] at X1 A1 Z1 SZ ⊢
  clear hg
  generalize ((w.alloc (.cells (trc x s) 30)).alloc (.cells (mc a) 44)).alloc (.cells zTr 30) = WV at X1 A1 Z1 B1 TV SZ ⊢
  have a0 := act_cell HA.out A1.out (i := 0) (by omega)
  have a1 := act_cell HA.out A1.out (i := 1) (by omega)
  have a2 := act_cell HA.out A1.out (i := 2) (by omega)
  have a3 := act_cell HA.out A1.out (i := 3) (by omega)
  have a4 := act_cell HA.out A1.out (i := 4) (by omega)
  have AM := Lib.hid (act_msg HA.out A1.out)
  have CO := Lib.hid (ask_any x s (fld a 2) (fld a 3) (fld a 1) (fld a 4) WV TV.out HS.out OK.out.tch OK.out.sq.1)
  rw [HY.out] at CO
  clear HY
  go_upto_region 16 with (first
    | (refine wpList_load_row rfl 30 (.tmp 2) rfl g rfl 30 (trc x s) (0, 0) _ X1.out Try.underlying30 rfl (tr_info _ _) ?_)
    | (go_at_call 18; refine CO.out.mono ?_; rintro e W2 ⟨s2, u, rfl, ht2, hu2, hb2⟩; obtain ⟨Au, cu, rfl⟩ := own_len hu2; have T2 := Lib.hid ht2; have U2 := Lib.hid hu2; have E2 := Lib.hid hb2; clear ht2 hu2 hb2)
    | (refine wpList_store_mid (by rfl) 30 (.tmp 2) (.tmp 22) (by rfl) g 0 (trc y s2) (by rfl) (by rfl) ((X1.out.here E2.out).there (Nat.le_refl 13)) (tr_info _ _) T2.out.one ?_
       have E3 := Lib.hid (show Turn (fun k => k = g) W2 (W2.setCells g 0 (trc y s2).toList) from Turn.setCells (S := fun k => k = g) (fun _ => rfl) _ _ _ (Turn.refl _ _))
       have XQ := Lib.hid ((X1.out.here E2.out).put (trc y s2) rfl)
       have hzl := Z1.out.lt
       have ZQ := Lib.hid ((Z1.out.here E2.out).turn E3.out (by omega))
       have BQ := Lib.hid ((stepB B1.out E2.out).trans (E3.out.below (B := w.heap.size) (fun k hk e => by have := HG.out; omega) (Nat.le_trans B1.out.size E2.out.size)))
       have TQ := Lib.hid (T2.out.offB (X1.out.here E2.out) E3.out)
       have UQ := Lib.hid (own_off U2.out E3.out (fun k hk _ e => by have := SZ.out; omega))
       clear E3 hzl
       generalize W2.setCells g 0 (trc y s2).toList = W3 at XQ ZQ BQ TQ UQ ⊢))
  have hxq := XQ.out.lt
  have hzq := ZQ.out.lt
  refine wp_region_held_drew (S := fun w' => Blk w' g 30 (trc y s2)) (by kernel_rfl) XQ.out.drew (fun hHeld => ?_)
  have BD := Lib.hid (show Below W3.heap.size W3 W3.drew from (Below.refl _ _).drew)
  generalize W3.drew = V1 at BD hHeld ⊢
  refine wpAnyH_take (i := 0) (v := .agg (trc y s2)) rfl (by kernel_rfl) (by kernel_rfl) (by kernel_rfl) (fun _ _ _ h => h) (Or.inl ⟨by rfl, fun w0 hSw => exec_load (x := .tmp 2) rfl rfl (tr_load hSw)⟩) (by assumption) ?_
  try simp only [List.getElem_toArray, List.getElem_cons_succ, List.getElem_cons_zero, Act.put, List.setIfInBounds_toArray, List.set_cons_zero, List.set_cons_succ]
  refine wpAnyH_take (i := 1) (v := ?_) rfl (by kernel_rfl) (by kernel_rfl) (by kernel_rfl) (fun _ _ _ h => h) (Or.inl ⟨by rfl, ?_⟩) (by assumption) ?_
  rotate_left
  · (intro w0 hSw; (try dsimp only at hSw); go_simp; try with_reducible rfl)
  try simp only [List.getElem_toArray, List.getElem_cons_succ, List.getElem_cons_zero, Act.put, List.setIfInBounds_toArray, List.set_cons_zero, List.set_cons_succ]
  refine wpAnyH_take (i := 2) (v := ?_) rfl (by kernel_rfl) (by kernel_rfl) (by kernel_rfl) (fun _ _ _ h => h) (Or.inl ⟨by rfl, ?_⟩) (by assumption) ?_
  rotate_left
  · (intro w0 hSw; (try dsimp only at hSw); go_simp; try with_reducible rfl)
  try simp only [List.getElem_toArray, List.getElem_cons_succ, List.getElem_cons_zero, Act.put, List.setIfInBounds_toArray, List.set_cons_zero, List.set_cons_succ]
  refine wpAnyH_ready (rs := [3]) (by kernel_rfl) (by simp) ?_
  refine AllReadyH.cons rfl (fun K hK => ?_) AllReadyH.nil
  go_simp
  refine (code_errV c HC.out _).mono ?_
  rintro e w5 ⟨rfl, rfl⟩
  try go_simp
  refine hK.out _ _ hHeld (fun hHeld => ?_)
  clear hK K
  have Z3 := Lib.hid (ZQ.out.here BD.out)
  refine wpAnyH_ready (rs := [4]) (by kernel_rfl) (by simp) ?_
  refine AllReadyH.cons rfl (fun K hK => ?_) AllReadyH.nil
  refine step_store_mid (by rfl) 30 (.tmp 4) (.tmp 71) rfl (g + 2) 0 (trc y s2) rfl rfl (Z3.out.there (Nat.le_refl 13)) (tr_info _ _) TQ.out.one ?_
  have X4 := Lib.hid (show Blk (V1.setCells (g + 2) 0 (trc y s2).toList) g 30 (trc y s2) from hHeld.farCells (by omega) _ _ _)
  have E4 := Lib.hid (show Turn (fun k => k = g + 2) V1 (V1.setCells (g + 2) 0 (trc y s2).toList) from Turn.setCells (S := fun k => k = g + 2) (fun _ => rfl) _ _ _ (Turn.refl _ _))
  have Z4 := Lib.hid (Z3.out.put (trc y s2) rfl)
  refine hK.out _ _ X4.out (fun hHeld => ?_)
  clear hK K
  generalize V1.setCells (g + 2) 0 (trc y s2).toList = V4 at X4 E4 Z4 hHeld ⊢
  refine wpAnyH_take (i := 5) (v := ?_) rfl (by kernel_rfl) (by kernel_rfl) (by kernel_rfl) (fun _ _ _ h => h) (Or.inl ⟨by rfl, ?_⟩) (by assumption) ?_
  rotate_left
  · (intro w0 hSw; (try dsimp only at hSw); go_simp; try with_reducible rfl)
  try simp only [List.getElem_toArray, List.getElem_cons_succ, List.getElem_cons_zero, Act.put, List.setIfInBounds_toArray, List.set_cons_zero, List.set_cons_succ]
  refine wpAnyH_take (i := 6) (v := ?_) rfl (by kernel_rfl) (by kernel_rfl) (by kernel_rfl) (fun _ _ _ h => h) (Or.inl ⟨by rfl, ?_⟩) (by assumption) ?_
  rotate_left
  · (intro w0 hSw; (try dsimp only at hSw); go_simp; try with_reducible rfl)
  try simp only [List.getElem_toArray, List.getElem_cons_succ, List.getElem_cons_zero, Act.put, List.setIfInBounds_toArray, List.set_cons_zero, List.set_cons_succ]
  refine wpAnyH_done (by kernel_rfl) ?_ _
  clear hHeld
  have T4 := Lib.hid ((TQ.out.step BD.out).offB Z3.out E4.out)
  have U4 := Lib.hid (own_off (own_step UQ.out BD.out) E4.out (fun k hk _ e => by have := SZ.out; omega))
  have F4 := Lib.hid ((stepB BQ.out BD.out).trans (E4.out.below (B := w.heap.size) (fun k hk e => by have := HG.out; omega) (Nat.le_trans BQ.out.size BD.out.size)))
  go_wp2_with fail
  exact bodyPost_ret (v := .tuple #[.agg (trc y s2), (.slice Au ms.length cu), .int .i64 c]) (results_and2 rfl rfl rfl rfl (tr_load Z4.out)) rfl ⟨s2, _, rfl, T4.out, own_less U4.out B1.out.size, F4.out⟩
set_option maxRecDepth 100000 in
set_option maxHeartbeats 8000000 in
theorem act_1 {B k : Nat} (x : Tr) (s : Sl) (a : List Int) (ha : a.length = 33) (w : World) (h : Tm w B x s) (ok : TrOk x k) (hkk : k ≤ 900) (hk : fld a 0 = 1) (y : Tr) (c : Int) (hy : ansL x (a.drop 5) = (y, [], c)) (hc : codOk c) :
    Calls Try.prog 9 #[.agg (trc x s), .agg (mc a)] w (ActP w (y, [], c)) := by
  have X1 := Lib.hid (((Blk.new w 30 (trc x s)).alloc (.cells (mc a) 44)).alloc (.cells zTr 30))
  have A1 := Lib.hid ((Blk.new_at (w := w.alloc (.cells (trc x s) 30)) (n := w.heap.size + 1) (by simp) 44 (mc a)).alloc (.cells zTr 30))
  have Z1 := Lib.hid (Blk.new_at (w := (w.alloc (.cells (trc x s) 30)).alloc (.cells (mc a) 44)) (n := w.heap.size + 2) (by simp) 30 zTr)
  have B1 := Lib.hid (((Joins.below_alloc1 w (.cells (trc x s) 30)).alloc (by simp <;> omega) (.cells (mc a) 44)).alloc (by simp <;> omega) (.cells zTr 30))
  have SZ := Lib.hid (show (((w.alloc (.cells (trc x s) 30)).alloc (.cells (mc a) 44)).alloc (.cells zTr 30)).heap.size = w.heap.size + 3 from by simp)
  have TV := Lib.hid (h.step B1.out)
  have OK := Lib.hid ok
  have HS := Lib.hid (ok.short (by omega))
  have HY := Lib.hid hy
  have HC := Lib.hid hc
  have HA := Lib.hid ha
  have HD := Lib.hid (act_drop ha)
  have HMI := Lib.hid (show (Try.prog.info? 42).map (·.size) = some (ints (a.drop 5)).length from by have := mc_info (act_drop ha); simpa [mc] using this)
  have e0 : (fld a 0 == 0) = false := by simp; omega
  have e1 : (fld a 0 == 1) = true := by simp; omega
  clear h ok hkk hy hc ha hk
  go_enter Try.func9, Try.ntmps9
  go_upto_region 1 with fail
  obtain ⟨g, hg⟩ : ∃ g, g = w.heap.size := ⟨_, rfl⟩
  have HG := Lib.hid hg
  rw [← hg] at X1 A1 Z1 SZ ⊢
  clear hg
  generalize ((w.alloc (.cells (trc x s) 30)).alloc (.cells (mc a) 44)).alloc (.cells zTr 30) = WV at X1 A1 Z1 B1 TV SZ ⊢
  have a0 := act_cell HA.out A1.out (i := 0) (by omega)
  have a1 := act_cell HA.out A1.out (i := 1) (by omega)
  have a2 := act_cell HA.out A1.out (i := 2) (by omega)
  have a3 := act_cell HA.out A1.out (i := 3) (by omega)
  have a4 := act_cell HA.out A1.out (i := 4) (by omega)
  have AM := Lib.hid (act_msg HA.out A1.out)
  have CO := Lib.hid (answered_any x s (a.drop 5) WV TV.out HS.out HD.out)
  rw [HY.out] at CO
  clear HY
  go_upto_region 16 with (first
    | (refine wpList_load_row rfl 30 (.tmp 2) rfl g rfl 30 (trc x s) (0, 0) _ X1.out Try.underlying30 rfl (tr_info _ _) ?_)
    | (refine wpList_load_cells rfl 42 (.tmp 29) rfl ⟨g + 1, 5, none⟩ rfl (ints (a.drop 5)) _ AM.out Try.underlying42 rfl HMI.out ?_)
    | (go_at_call 19; refine CO.out.mono ?_; rintro e W2 ⟨s2, rfl, ht2, hb2⟩; have T2 := Lib.hid ht2; have E2 := Lib.hid hb2; clear ht2 hb2)
    | (refine wpList_store_mid (by rfl) 30 (.tmp 2) (.tmp 32) (by rfl) g 0 (trc y s2) (by rfl) (by rfl) ((X1.out.here E2.out).there (Nat.le_refl 13)) (tr_info _ _) T2.out.one ?_
       have E3 := Lib.hid (show Turn (fun k => k = g) W2 (W2.setCells g 0 (trc y s2).toList) from Turn.setCells (S := fun k => k = g) (fun _ => rfl) _ _ _ (Turn.refl _ _))
       have XQ := Lib.hid ((X1.out.here E2.out).put (trc y s2) rfl)
       have hzl := Z1.out.lt
       have ZQ := Lib.hid ((Z1.out.here E2.out).turn E3.out (by omega))
       have BQ := Lib.hid ((stepB B1.out E2.out).trans (E3.out.below (B := w.heap.size) (fun k hk e => by have := HG.out; omega) (Nat.le_trans B1.out.size E2.out.size)))
       have TQ := Lib.hid (T2.out.offB (X1.out.here E2.out) E3.out)
       clear E3 hzl
       generalize W2.setCells g 0 (trc y s2).toList = W3 at XQ ZQ BQ TQ ⊢))
  have hxq := XQ.out.lt
  have hzq := ZQ.out.lt
  refine wp_region_held_drew (S := fun w' => Blk w' g 30 (trc y s2)) (by kernel_rfl) XQ.out.drew (fun hHeld => ?_)
  have BD := Lib.hid (show Below W3.heap.size W3 W3.drew from (Below.refl _ _).drew)
  generalize W3.drew = V1 at BD hHeld ⊢
  refine wpAnyH_take (i := 0) (v := .agg (trc y s2)) rfl (by kernel_rfl) (by kernel_rfl) (by kernel_rfl) (fun _ _ _ h => h) (Or.inl ⟨by rfl, fun w0 hSw => exec_load (x := .tmp 2) rfl rfl (tr_load hSw)⟩) (by assumption) ?_
  try simp only [List.getElem_toArray, List.getElem_cons_succ, List.getElem_cons_zero, Act.put, List.setIfInBounds_toArray, List.set_cons_zero, List.set_cons_succ]
  refine wpAnyH_take (i := 1) (v := ?_) rfl (by kernel_rfl) (by kernel_rfl) (by kernel_rfl) (fun _ _ _ h => h) (Or.inl ⟨by rfl, ?_⟩) (by assumption) ?_
  rotate_left
  · (intro w0 hSw; (try dsimp only at hSw); go_simp; try with_reducible rfl)
  try simp only [List.getElem_toArray, List.getElem_cons_succ, List.getElem_cons_zero, Act.put, List.setIfInBounds_toArray, List.set_cons_zero, List.set_cons_succ]
  refine wpAnyH_take (i := 2) (v := ?_) rfl (by kernel_rfl) (by kernel_rfl) (by kernel_rfl) (fun _ _ _ h => h) (Or.inl ⟨by rfl, ?_⟩) (by assumption) ?_
  rotate_left
  · (intro w0 hSw; (try dsimp only at hSw); go_simp; try with_reducible rfl)
  try simp only [List.getElem_toArray, List.getElem_cons_succ, List.getElem_cons_zero, Act.put, List.setIfInBounds_toArray, List.set_cons_zero, List.set_cons_succ]
  refine wpAnyH_ready (rs := [3]) (by kernel_rfl) (by simp) ?_
  refine AllReadyH.cons rfl (fun K hK => ?_) AllReadyH.nil
  go_simp
  refine (code_errV c HC.out _).mono ?_
  rintro e w5 ⟨rfl, rfl⟩
  try go_simp
  refine hK.out _ _ hHeld (fun hHeld => ?_)
  clear hK K
  have Z3 := Lib.hid (ZQ.out.here BD.out)
  refine wpAnyH_ready (rs := [4]) (by kernel_rfl) (by simp) ?_
  refine AllReadyH.cons rfl (fun K hK => ?_) AllReadyH.nil
  refine step_store_mid (by rfl) 30 (.tmp 4) (.tmp 71) rfl (g + 2) 0 (trc y s2) rfl rfl (Z3.out.there (Nat.le_refl 13)) (tr_info _ _) TQ.out.one ?_
  have X4 := Lib.hid (show Blk (V1.setCells (g + 2) 0 (trc y s2).toList) g 30 (trc y s2) from hHeld.farCells (by omega) _ _ _)
  have E4 := Lib.hid (show Turn (fun k => k = g + 2) V1 (V1.setCells (g + 2) 0 (trc y s2).toList) from Turn.setCells (S := fun k => k = g + 2) (fun _ => rfl) _ _ _ (Turn.refl _ _))
  have Z4 := Lib.hid (Z3.out.put (trc y s2) rfl)
  refine hK.out _ _ X4.out (fun hHeld => ?_)
  clear hK K
  generalize V1.setCells (g + 2) 0 (trc y s2).toList = V4 at X4 E4 Z4 hHeld ⊢
  refine wpAnyH_take (i := 5) (v := ?_) rfl (by kernel_rfl) (by kernel_rfl) (by kernel_rfl) (fun _ _ _ h => h) (Or.inl ⟨by rfl, ?_⟩) (by assumption) ?_
  rotate_left
  · (intro w0 hSw; (try dsimp only at hSw); go_simp; try with_reducible rfl)
  try simp only [List.getElem_toArray, List.getElem_cons_succ, List.getElem_cons_zero, Act.put, List.setIfInBounds_toArray, List.set_cons_zero, List.set_cons_succ]
  refine wpAnyH_take (i := 6) (v := ?_) rfl (by kernel_rfl) (by kernel_rfl) (by kernel_rfl) (fun _ _ _ h => h) (Or.inl ⟨by rfl, ?_⟩) (by assumption) ?_
  rotate_left
  · (intro w0 hSw; (try dsimp only at hSw); go_simp; try with_reducible rfl)
  try simp only [List.getElem_toArray, List.getElem_cons_succ, List.getElem_cons_zero, Act.put, List.setIfInBounds_toArray, List.set_cons_zero, List.set_cons_succ]
  refine wpAnyH_done (by kernel_rfl) ?_ _
  clear hHeld
  have T4 := Lib.hid ((TQ.out.step BD.out).offB Z3.out E4.out)
  have F4 := Lib.hid ((stepB BQ.out BD.out).trans (E4.out.below (B := w.heap.size) (fun k hk e => by have := HG.out; omega) (Nat.le_trans BQ.out.size BD.out.size)))
  go_wp2_with fail
  exact bodyPost_ret (v := .tuple #[.agg (trc y s2), (.slice none 0 0), .int .i64 c]) (results_and2 rfl rfl rfl rfl (tr_load Z4.out)) rfl ⟨s2, _, rfl, T4.out, World.ownsRow_nil _ _ _ _, F4.out⟩
set_option maxRecDepth 100000 in
set_option maxHeartbeats 8000000 in
theorem act_2 {B k : Nat} (x : Tr) (s : Sl) (a : List Int) (ha : a.length = 33) (w : World) (h : Tm w B x s) (ok : TrOk x k) (hkk : k ≤ 900) (hk : fld a 0 = 2) (y : Tr) (ms : List (List Int)) (c : Int) (hy : finL x = (y, ms, c)) (hc : codOk c) :
    Calls Try.prog 9 #[.agg (trc x s), .agg (mc a)] w (ActP w (y, ms, c)) := by
  have X1 := Lib.hid (((Blk.new w 30 (trc x s)).alloc (.cells (mc a) 44)).alloc (.cells zTr 30))
  have A1 := Lib.hid ((Blk.new_at (w := w.alloc (.cells (trc x s) 30)) (n := w.heap.size + 1) (by simp) 44 (mc a)).alloc (.cells zTr 30))
  have Z1 := Lib.hid (Blk.new_at (w := (w.alloc (.cells (trc x s) 30)).alloc (.cells (mc a) 44)) (n := w.heap.size + 2) (by simp) 30 zTr)
  have B1 := Lib.hid (((Joins.below_alloc1 w (.cells (trc x s) 30)).alloc (by simp <;> omega) (.cells (mc a) 44)).alloc (by simp <;> omega) (.cells zTr 30))
  have SZ := Lib.hid (show (((w.alloc (.cells (trc x s) 30)).alloc (.cells (mc a) 44)).alloc (.cells zTr 30)).heap.size = w.heap.size + 3 from by simp)
  have TV := Lib.hid (h.step B1.out)
  have OK := Lib.hid ok
  have HS := Lib.hid (ok.short (by omega))
  have HY := Lib.hid hy
  have HC := Lib.hid hc
  have HA := Lib.hid ha
  have HD := Lib.hid (act_drop ha)
  have HMI := Lib.hid (show (Try.prog.info? 42).map (·.size) = some (ints (a.drop 5)).length from by have := mc_info (act_drop ha); simpa [mc] using this)
  have e0 : (fld a 0 == 0) = false := by simp; omega
  have e1 : (fld a 0 == 1) = false := by simp; omega
  have e2 : (fld a 0 == 2) = true := by simp; omega
  clear h ok hkk hy hc ha hk
  go_enter Try.func9, Try.ntmps9
  go_upto_region 1 with fail
  obtain ⟨g, hg⟩ : ∃ g, g = w.heap.size := ⟨_, rfl⟩
  have HG := Lib.hid hg
  rw [← hg] at X1 A1 Z1 SZ ⊢
  clear hg
  generalize ((w.alloc (.cells (trc x s) 30)).alloc (.cells (mc a) 44)).alloc (.cells zTr 30) = WV at X1 A1 Z1 B1 TV SZ ⊢
  have a0 := act_cell HA.out A1.out (i := 0) (by omega)
  have a1 := act_cell HA.out A1.out (i := 1) (by omega)
  have a2 := act_cell HA.out A1.out (i := 2) (by omega)
  have a3 := act_cell HA.out A1.out (i := 3) (by omega)
  have a4 := act_cell HA.out A1.out (i := 4) (by omega)
  have AM := Lib.hid (act_msg HA.out A1.out)
  have CO := Lib.hid (finish_any x s WV TV.out HS.out OK.out.tch OK.out.vts)
  rw [HY.out] at CO
  clear HY
  go_upto_region 16 with (first
    | (refine wpList_load_row rfl 30 (.tmp 2) rfl g rfl 30 (trc x s) (0, 0) _ X1.out Try.underlying30 rfl (tr_info _ _) ?_)
    | (go_at_call 20; refine CO.out.mono ?_; rintro e W2 ⟨s2, u, rfl, ht2, hu2, hb2⟩; obtain ⟨Au, cu, rfl⟩ := own_len hu2; have T2 := Lib.hid ht2; have U2 := Lib.hid hu2; have E2 := Lib.hid hb2; clear ht2 hu2 hb2)
    | (refine wpList_store_mid (by rfl) 30 (.tmp 2) (.tmp 39) (by rfl) g 0 (trc y s2) (by rfl) (by rfl) ((X1.out.here E2.out).there (Nat.le_refl 13)) (tr_info _ _) T2.out.one ?_
       have E3 := Lib.hid (show Turn (fun k => k = g) W2 (W2.setCells g 0 (trc y s2).toList) from Turn.setCells (S := fun k => k = g) (fun _ => rfl) _ _ _ (Turn.refl _ _))
       have XQ := Lib.hid ((X1.out.here E2.out).put (trc y s2) rfl)
       have hzl := Z1.out.lt
       have ZQ := Lib.hid ((Z1.out.here E2.out).turn E3.out (by omega))
       have BQ := Lib.hid ((stepB B1.out E2.out).trans (E3.out.below (B := w.heap.size) (fun k hk e => by have := HG.out; omega) (Nat.le_trans B1.out.size E2.out.size)))
       have TQ := Lib.hid (T2.out.offB (X1.out.here E2.out) E3.out)
       have UQ := Lib.hid (own_off U2.out E3.out (fun k hk _ e => by have := SZ.out; omega))
       clear E3 hzl
       generalize W2.setCells g 0 (trc y s2).toList = W3 at XQ ZQ BQ TQ UQ ⊢))
  have hxq := XQ.out.lt
  have hzq := ZQ.out.lt
  refine wp_region_held_drew (S := fun w' => Blk w' g 30 (trc y s2)) (by kernel_rfl) XQ.out.drew (fun hHeld => ?_)
  have BD := Lib.hid (show Below W3.heap.size W3 W3.drew from (Below.refl _ _).drew)
  generalize W3.drew = V1 at BD hHeld ⊢
  refine wpAnyH_take (i := 0) (v := .agg (trc y s2)) rfl (by kernel_rfl) (by kernel_rfl) (by kernel_rfl) (fun _ _ _ h => h) (Or.inl ⟨by rfl, fun w0 hSw => exec_load (x := .tmp 2) rfl rfl (tr_load hSw)⟩) (by assumption) ?_
  try simp only [List.getElem_toArray, List.getElem_cons_succ, List.getElem_cons_zero, Act.put, List.setIfInBounds_toArray, List.set_cons_zero, List.set_cons_succ]
  refine wpAnyH_take (i := 1) (v := ?_) rfl (by kernel_rfl) (by kernel_rfl) (by kernel_rfl) (fun _ _ _ h => h) (Or.inl ⟨by rfl, ?_⟩) (by assumption) ?_
  rotate_left
  · (intro w0 hSw; (try dsimp only at hSw); go_simp; try with_reducible rfl)
  try simp only [List.getElem_toArray, List.getElem_cons_succ, List.getElem_cons_zero, Act.put, List.setIfInBounds_toArray, List.set_cons_zero, List.set_cons_succ]
  refine wpAnyH_take (i := 2) (v := ?_) rfl (by kernel_rfl) (by kernel_rfl) (by kernel_rfl) (fun _ _ _ h => h) (Or.inl ⟨by rfl, ?_⟩) (by assumption) ?_
  rotate_left
  · (intro w0 hSw; (try dsimp only at hSw); go_simp; try with_reducible rfl)
  try simp only [List.getElem_toArray, List.getElem_cons_succ, List.getElem_cons_zero, Act.put, List.setIfInBounds_toArray, List.set_cons_zero, List.set_cons_succ]
  refine wpAnyH_ready (rs := [3]) (by kernel_rfl) (by simp) ?_
  refine AllReadyH.cons rfl (fun K hK => ?_) AllReadyH.nil
  go_simp
  refine (code_errV c HC.out _).mono ?_
  rintro e w5 ⟨rfl, rfl⟩
  try go_simp
  refine hK.out _ _ hHeld (fun hHeld => ?_)
  clear hK K
  have Z3 := Lib.hid (ZQ.out.here BD.out)
  refine wpAnyH_ready (rs := [4]) (by kernel_rfl) (by simp) ?_
  refine AllReadyH.cons rfl (fun K hK => ?_) AllReadyH.nil
  refine step_store_mid (by rfl) 30 (.tmp 4) (.tmp 71) rfl (g + 2) 0 (trc y s2) rfl rfl (Z3.out.there (Nat.le_refl 13)) (tr_info _ _) TQ.out.one ?_
  have X4 := Lib.hid (show Blk (V1.setCells (g + 2) 0 (trc y s2).toList) g 30 (trc y s2) from hHeld.farCells (by omega) _ _ _)
  have E4 := Lib.hid (show Turn (fun k => k = g + 2) V1 (V1.setCells (g + 2) 0 (trc y s2).toList) from Turn.setCells (S := fun k => k = g + 2) (fun _ => rfl) _ _ _ (Turn.refl _ _))
  have Z4 := Lib.hid (Z3.out.put (trc y s2) rfl)
  refine hK.out _ _ X4.out (fun hHeld => ?_)
  clear hK K
  generalize V1.setCells (g + 2) 0 (trc y s2).toList = V4 at X4 E4 Z4 hHeld ⊢
  refine wpAnyH_take (i := 5) (v := ?_) rfl (by kernel_rfl) (by kernel_rfl) (by kernel_rfl) (fun _ _ _ h => h) (Or.inl ⟨by rfl, ?_⟩) (by assumption) ?_
  rotate_left
  · (intro w0 hSw; (try dsimp only at hSw); go_simp; try with_reducible rfl)
  try simp only [List.getElem_toArray, List.getElem_cons_succ, List.getElem_cons_zero, Act.put, List.setIfInBounds_toArray, List.set_cons_zero, List.set_cons_succ]
  refine wpAnyH_take (i := 6) (v := ?_) rfl (by kernel_rfl) (by kernel_rfl) (by kernel_rfl) (fun _ _ _ h => h) (Or.inl ⟨by rfl, ?_⟩) (by assumption) ?_
  rotate_left
  · (intro w0 hSw; (try dsimp only at hSw); go_simp; try with_reducible rfl)
  try simp only [List.getElem_toArray, List.getElem_cons_succ, List.getElem_cons_zero, Act.put, List.setIfInBounds_toArray, List.set_cons_zero, List.set_cons_succ]
  refine wpAnyH_done (by kernel_rfl) ?_ _
  clear hHeld
  have T4 := Lib.hid ((TQ.out.step BD.out).offB Z3.out E4.out)
  have U4 := Lib.hid (own_off (own_step UQ.out BD.out) E4.out (fun k hk _ e => by have := SZ.out; omega))
  have F4 := Lib.hid ((stepB BQ.out BD.out).trans (E4.out.below (B := w.heap.size) (fun k hk e => by have := HG.out; omega) (Nat.le_trans BQ.out.size BD.out.size)))
  go_wp2_with fail
  exact bodyPost_ret (v := .tuple #[.agg (trc y s2), (.slice Au ms.length cu), .int .i64 c]) (results_and2 rfl rfl rfl rfl (tr_load Z4.out)) rfl ⟨s2, _, rfl, T4.out, own_less U4.out B1.out.size, F4.out⟩
set_option maxRecDepth 100000 in
set_option maxHeartbeats 8000000 in
theorem act_3 {B k : Nat} (x : Tr) (s : Sl) (a : List Int) (ha : a.length = 33) (w : World) (h : Tm w B x s) (ok : TrOk x k) (hkk : k ≤ 900) (hk : fld a 0 = 3) (y : Tr) (ms : List (List Int)) (c : Int) (hy : votL x (a.drop 5) = (y, ms, c)) (hc : codOk c) :
    Calls Try.prog 9 #[.agg (trc x s), .agg (mc a)] w (ActP w (y, ms, c)) := by
  have X1 := Lib.hid (((Blk.new w 30 (trc x s)).alloc (.cells (mc a) 44)).alloc (.cells zTr 30))
  have A1 := Lib.hid ((Blk.new_at (w := w.alloc (.cells (trc x s) 30)) (n := w.heap.size + 1) (by simp) 44 (mc a)).alloc (.cells zTr 30))
  have Z1 := Lib.hid (Blk.new_at (w := (w.alloc (.cells (trc x s) 30)).alloc (.cells (mc a) 44)) (n := w.heap.size + 2) (by simp) 30 zTr)
  have B1 := Lib.hid (((Joins.below_alloc1 w (.cells (trc x s) 30)).alloc (by simp <;> omega) (.cells (mc a) 44)).alloc (by simp <;> omega) (.cells zTr 30))
  have SZ := Lib.hid (show (((w.alloc (.cells (trc x s) 30)).alloc (.cells (mc a) 44)).alloc (.cells zTr 30)).heap.size = w.heap.size + 3 from by simp)
  have TV := Lib.hid (h.step B1.out)
  have OK := Lib.hid ok
  have HS := Lib.hid (ok.short (by omega))
  have HY := Lib.hid hy
  have HC := Lib.hid hc
  have HA := Lib.hid ha
  have HD := Lib.hid (act_drop ha)
  have HMI := Lib.hid (show (Try.prog.info? 42).map (·.size) = some (ints (a.drop 5)).length from by have := mc_info (act_drop ha); simpa [mc] using this)
  have e0 : (fld a 0 == 0) = false := by simp; omega
  have e1 : (fld a 0 == 1) = false := by simp; omega
  have e2 : (fld a 0 == 2) = false := by simp; omega
  have e3 : (fld a 0 == 3) = true := by simp; omega
  clear h ok hkk hy hc ha hk
  go_enter Try.func9, Try.ntmps9
  go_upto_region 1 with fail
  obtain ⟨g, hg⟩ : ∃ g, g = w.heap.size := ⟨_, rfl⟩
  have HG := Lib.hid hg
  rw [← hg] at X1 A1 Z1 SZ ⊢
  clear hg
  generalize ((w.alloc (.cells (trc x s) 30)).alloc (.cells (mc a) 44)).alloc (.cells zTr 30) = WV at X1 A1 Z1 B1 TV SZ ⊢
  have a0 := act_cell HA.out A1.out (i := 0) (by omega)
  have a1 := act_cell HA.out A1.out (i := 1) (by omega)
  have a2 := act_cell HA.out A1.out (i := 2) (by omega)
  have a3 := act_cell HA.out A1.out (i := 3) (by omega)
  have a4 := act_cell HA.out A1.out (i := 4) (by omega)
  have AM := Lib.hid (act_msg HA.out A1.out)
  have CO := Lib.hid (vote_any x s (a.drop 5) WV TV.out HS.out HD.out OK.out.tch OK.out.vts)
  rw [HY.out] at CO
  clear HY
  go_upto_region 16 with (first
    | (refine wpList_load_row rfl 30 (.tmp 2) rfl g rfl 30 (trc x s) (0, 0) _ X1.out Try.underlying30 rfl (tr_info _ _) ?_)
    | (refine wpList_load_cells rfl 42 (.tmp 46) rfl ⟨g + 1, 5, none⟩ rfl (ints (a.drop 5)) _ AM.out Try.underlying42 rfl HMI.out ?_)
    | (go_at_call 21; refine CO.out.mono ?_; rintro e W2 ⟨s2, u, rfl, ht2, hu2, hb2⟩; obtain ⟨Au, cu, rfl⟩ := own_len hu2; have T2 := Lib.hid ht2; have U2 := Lib.hid hu2; have E2 := Lib.hid hb2; clear ht2 hu2 hb2)
    | (refine wpList_store_mid (by rfl) 30 (.tmp 2) (.tmp 49) (by rfl) g 0 (trc y s2) (by rfl) (by rfl) ((X1.out.here E2.out).there (Nat.le_refl 13)) (tr_info _ _) T2.out.one ?_
       have E3 := Lib.hid (show Turn (fun k => k = g) W2 (W2.setCells g 0 (trc y s2).toList) from Turn.setCells (S := fun k => k = g) (fun _ => rfl) _ _ _ (Turn.refl _ _))
       have XQ := Lib.hid ((X1.out.here E2.out).put (trc y s2) rfl)
       have hzl := Z1.out.lt
       have ZQ := Lib.hid ((Z1.out.here E2.out).turn E3.out (by omega))
       have BQ := Lib.hid ((stepB B1.out E2.out).trans (E3.out.below (B := w.heap.size) (fun k hk e => by have := HG.out; omega) (Nat.le_trans B1.out.size E2.out.size)))
       have TQ := Lib.hid (T2.out.offB (X1.out.here E2.out) E3.out)
       have UQ := Lib.hid (own_off U2.out E3.out (fun k hk _ e => by have := SZ.out; omega))
       clear E3 hzl
       generalize W2.setCells g 0 (trc y s2).toList = W3 at XQ ZQ BQ TQ UQ ⊢))
  have hxq := XQ.out.lt
  have hzq := ZQ.out.lt
  refine wp_region_held_drew (S := fun w' => Blk w' g 30 (trc y s2)) (by kernel_rfl) XQ.out.drew (fun hHeld => ?_)
  have BD := Lib.hid (show Below W3.heap.size W3 W3.drew from (Below.refl _ _).drew)
  generalize W3.drew = V1 at BD hHeld ⊢
  refine wpAnyH_take (i := 0) (v := .agg (trc y s2)) rfl (by kernel_rfl) (by kernel_rfl) (by kernel_rfl) (fun _ _ _ h => h) (Or.inl ⟨by rfl, fun w0 hSw => exec_load (x := .tmp 2) rfl rfl (tr_load hSw)⟩) (by assumption) ?_
  try simp only [List.getElem_toArray, List.getElem_cons_succ, List.getElem_cons_zero, Act.put, List.setIfInBounds_toArray, List.set_cons_zero, List.set_cons_succ]
  refine wpAnyH_take (i := 1) (v := ?_) rfl (by kernel_rfl) (by kernel_rfl) (by kernel_rfl) (fun _ _ _ h => h) (Or.inl ⟨by rfl, ?_⟩) (by assumption) ?_
  rotate_left
  · (intro w0 hSw; (try dsimp only at hSw); go_simp; try with_reducible rfl)
  try simp only [List.getElem_toArray, List.getElem_cons_succ, List.getElem_cons_zero, Act.put, List.setIfInBounds_toArray, List.set_cons_zero, List.set_cons_succ]
  refine wpAnyH_take (i := 2) (v := ?_) rfl (by kernel_rfl) (by kernel_rfl) (by kernel_rfl) (fun _ _ _ h => h) (Or.inl ⟨by rfl, ?_⟩) (by assumption) ?_
  rotate_left
  · (intro w0 hSw; (try dsimp only at hSw); go_simp; try with_reducible rfl)
  try simp only [List.getElem_toArray, List.getElem_cons_succ, List.getElem_cons_zero, Act.put, List.setIfInBounds_toArray, List.set_cons_zero, List.set_cons_succ]
  refine wpAnyH_ready (rs := [3]) (by kernel_rfl) (by simp) ?_
  refine AllReadyH.cons rfl (fun K hK => ?_) AllReadyH.nil
  go_simp
  refine (code_errV c HC.out _).mono ?_
  rintro e w5 ⟨rfl, rfl⟩
  try go_simp
  refine hK.out _ _ hHeld (fun hHeld => ?_)
  clear hK K
  have Z3 := Lib.hid (ZQ.out.here BD.out)
  refine wpAnyH_ready (rs := [4]) (by kernel_rfl) (by simp) ?_
  refine AllReadyH.cons rfl (fun K hK => ?_) AllReadyH.nil
  refine step_store_mid (by rfl) 30 (.tmp 4) (.tmp 71) rfl (g + 2) 0 (trc y s2) rfl rfl (Z3.out.there (Nat.le_refl 13)) (tr_info _ _) TQ.out.one ?_
  have X4 := Lib.hid (show Blk (V1.setCells (g + 2) 0 (trc y s2).toList) g 30 (trc y s2) from hHeld.farCells (by omega) _ _ _)
  have E4 := Lib.hid (show Turn (fun k => k = g + 2) V1 (V1.setCells (g + 2) 0 (trc y s2).toList) from Turn.setCells (S := fun k => k = g + 2) (fun _ => rfl) _ _ _ (Turn.refl _ _))
  have Z4 := Lib.hid (Z3.out.put (trc y s2) rfl)
  refine hK.out _ _ X4.out (fun hHeld => ?_)
  clear hK K
  generalize V1.setCells (g + 2) 0 (trc y s2).toList = V4 at X4 E4 Z4 hHeld ⊢
  refine wpAnyH_take (i := 5) (v := ?_) rfl (by kernel_rfl) (by kernel_rfl) (by kernel_rfl) (fun _ _ _ h => h) (Or.inl ⟨by rfl, ?_⟩) (by assumption) ?_
  rotate_left
  · (intro w0 hSw; (try dsimp only at hSw); go_simp; try with_reducible rfl)
  try simp only [List.getElem_toArray, List.getElem_cons_succ, List.getElem_cons_zero, Act.put, List.setIfInBounds_toArray, List.set_cons_zero, List.set_cons_succ]
  refine wpAnyH_take (i := 6) (v := ?_) rfl (by kernel_rfl) (by kernel_rfl) (by kernel_rfl) (fun _ _ _ h => h) (Or.inl ⟨by rfl, ?_⟩) (by assumption) ?_
  rotate_left
  · (intro w0 hSw; (try dsimp only at hSw); go_simp; try with_reducible rfl)
  try simp only [List.getElem_toArray, List.getElem_cons_succ, List.getElem_cons_zero, Act.put, List.setIfInBounds_toArray, List.set_cons_zero, List.set_cons_succ]
  refine wpAnyH_done (by kernel_rfl) ?_ _
  clear hHeld
  have T4 := Lib.hid ((TQ.out.step BD.out).offB Z3.out E4.out)
  have U4 := Lib.hid (own_off (own_step UQ.out BD.out) E4.out (fun k hk _ e => by have := SZ.out; omega))
  have F4 := Lib.hid ((stepB BQ.out BD.out).trans (E4.out.below (B := w.heap.size) (fun k hk e => by have := HG.out; omega) (Nat.le_trans BQ.out.size BD.out.size)))
  go_wp2_with fail
  exact bodyPost_ret (v := .tuple #[.agg (trc y s2), (.slice Au ms.length cu), .int .i64 c]) (results_and2 rfl rfl rfl rfl (tr_load Z4.out)) rfl ⟨s2, _, rfl, T4.out, own_less U4.out B1.out.size, F4.out⟩
set_option maxRecDepth 100000 in
set_option maxHeartbeats 8000000 in
theorem act_4 {B k : Nat} (x : Tr) (s : Sl) (a : List Int) (ha : a.length = 33) (w : World) (h : Tm w B x s) (ok : TrOk x k) (hkk : k ≤ 900) (hk : fld a 0 = 4) (y : Tr) (ms : List (List Int)) (c : Int) (hy : abtL x (fld a 1) = (y, ms, c)) (hc : codOk c) :
    Calls Try.prog 9 #[.agg (trc x s), .agg (mc a)] w (ActP w (y, ms, c)) := by
  have X1 := Lib.hid (((Blk.new w 30 (trc x s)).alloc (.cells (mc a) 44)).alloc (.cells zTr 30))
  have A1 := Lib.hid ((Blk.new_at (w := w.alloc (.cells (trc x s) 30)) (n := w.heap.size + 1) (by simp) 44 (mc a)).alloc (.cells zTr 30))
  have Z1 := Lib.hid (Blk.new_at (w := (w.alloc (.cells (trc x s) 30)).alloc (.cells (mc a) 44)) (n := w.heap.size + 2) (by simp) 30 zTr)
  have B1 := Lib.hid (((Joins.below_alloc1 w (.cells (trc x s) 30)).alloc (by simp <;> omega) (.cells (mc a) 44)).alloc (by simp <;> omega) (.cells zTr 30))
  have SZ := Lib.hid (show (((w.alloc (.cells (trc x s) 30)).alloc (.cells (mc a) 44)).alloc (.cells zTr 30)).heap.size = w.heap.size + 3 from by simp)
  have TV := Lib.hid (h.step B1.out)
  have OK := Lib.hid ok
  have HS := Lib.hid (ok.short (by omega))
  have HY := Lib.hid hy
  have HC := Lib.hid hc
  have HA := Lib.hid ha
  have HD := Lib.hid (act_drop ha)
  have HMI := Lib.hid (show (Try.prog.info? 42).map (·.size) = some (ints (a.drop 5)).length from by have := mc_info (act_drop ha); simpa [mc] using this)
  have e0 : (fld a 0 == 0) = false := by simp; omega
  have e1 : (fld a 0 == 1) = false := by simp; omega
  have e2 : (fld a 0 == 2) = false := by simp; omega
  have e3 : (fld a 0 == 3) = false := by simp; omega
  have e4 : (fld a 0 == 4) = true := by simp; omega
  clear h ok hkk hy hc ha hk
  go_enter Try.func9, Try.ntmps9
  go_upto_region 1 with fail
  obtain ⟨g, hg⟩ : ∃ g, g = w.heap.size := ⟨_, rfl⟩
  have HG := Lib.hid hg
  rw [← hg] at X1 A1 Z1 SZ ⊢
  clear hg
  generalize ((w.alloc (.cells (trc x s) 30)).alloc (.cells (mc a) 44)).alloc (.cells zTr 30) = WV at X1 A1 Z1 B1 TV SZ ⊢
  have a0 := act_cell HA.out A1.out (i := 0) (by omega)
  have a1 := act_cell HA.out A1.out (i := 1) (by omega)
  have a2 := act_cell HA.out A1.out (i := 2) (by omega)
  have a3 := act_cell HA.out A1.out (i := 3) (by omega)
  have a4 := act_cell HA.out A1.out (i := 4) (by omega)
  have AM := Lib.hid (act_msg HA.out A1.out)
  have CO := Lib.hid (abort_any x s (fld a 1) WV TV.out HS.out)
  rw [HY.out] at CO
  clear HY
  go_upto_region 16 with (first
    | (refine wpList_load_row rfl 30 (.tmp 2) rfl g rfl 30 (trc x s) (0, 0) _ X1.out Try.underlying30 rfl (tr_info _ _) ?_)
    | (go_at_call 16; refine CO.out.mono ?_; rintro e W2 ⟨s2, u, rfl, ht2, hu2, hb2⟩; obtain ⟨Au, cu, rfl⟩ := own_len hu2; have T2 := Lib.hid ht2; have U2 := Lib.hid hu2; have E2 := Lib.hid hb2; clear ht2 hu2 hb2)
    | (refine wpList_store_mid (by rfl) 30 (.tmp 2) (.tmp 59) (by rfl) g 0 (trc y s2) (by rfl) (by rfl) ((X1.out.here E2.out).there (Nat.le_refl 13)) (tr_info _ _) T2.out.one ?_
       have E3 := Lib.hid (show Turn (fun k => k = g) W2 (W2.setCells g 0 (trc y s2).toList) from Turn.setCells (S := fun k => k = g) (fun _ => rfl) _ _ _ (Turn.refl _ _))
       have XQ := Lib.hid ((X1.out.here E2.out).put (trc y s2) rfl)
       have hzl := Z1.out.lt
       have ZQ := Lib.hid ((Z1.out.here E2.out).turn E3.out (by omega))
       have BQ := Lib.hid ((stepB B1.out E2.out).trans (E3.out.below (B := w.heap.size) (fun k hk e => by have := HG.out; omega) (Nat.le_trans B1.out.size E2.out.size)))
       have TQ := Lib.hid (T2.out.offB (X1.out.here E2.out) E3.out)
       have UQ := Lib.hid (own_off U2.out E3.out (fun k hk _ e => by have := SZ.out; omega))
       clear E3 hzl
       generalize W2.setCells g 0 (trc y s2).toList = W3 at XQ ZQ BQ TQ UQ ⊢))
  have hxq := XQ.out.lt
  have hzq := ZQ.out.lt
  refine wp_region_held_drew (S := fun w' => Blk w' g 30 (trc y s2)) (by kernel_rfl) XQ.out.drew (fun hHeld => ?_)
  have BD := Lib.hid (show Below W3.heap.size W3 W3.drew from (Below.refl _ _).drew)
  generalize W3.drew = V1 at BD hHeld ⊢
  refine wpAnyH_take (i := 0) (v := .agg (trc y s2)) rfl (by kernel_rfl) (by kernel_rfl) (by kernel_rfl) (fun _ _ _ h => h) (Or.inl ⟨by rfl, fun w0 hSw => exec_load (x := .tmp 2) rfl rfl (tr_load hSw)⟩) (by assumption) ?_
  try simp only [List.getElem_toArray, List.getElem_cons_succ, List.getElem_cons_zero, Act.put, List.setIfInBounds_toArray, List.set_cons_zero, List.set_cons_succ]
  refine wpAnyH_take (i := 1) (v := ?_) rfl (by kernel_rfl) (by kernel_rfl) (by kernel_rfl) (fun _ _ _ h => h) (Or.inl ⟨by rfl, ?_⟩) (by assumption) ?_
  rotate_left
  · (intro w0 hSw; (try dsimp only at hSw); go_simp; try with_reducible rfl)
  try simp only [List.getElem_toArray, List.getElem_cons_succ, List.getElem_cons_zero, Act.put, List.setIfInBounds_toArray, List.set_cons_zero, List.set_cons_succ]
  refine wpAnyH_take (i := 2) (v := ?_) rfl (by kernel_rfl) (by kernel_rfl) (by kernel_rfl) (fun _ _ _ h => h) (Or.inl ⟨by rfl, ?_⟩) (by assumption) ?_
  rotate_left
  · (intro w0 hSw; (try dsimp only at hSw); go_simp; try with_reducible rfl)
  try simp only [List.getElem_toArray, List.getElem_cons_succ, List.getElem_cons_zero, Act.put, List.setIfInBounds_toArray, List.set_cons_zero, List.set_cons_succ]
  refine wpAnyH_ready (rs := [3]) (by kernel_rfl) (by simp) ?_
  refine AllReadyH.cons rfl (fun K hK => ?_) AllReadyH.nil
  go_simp
  refine (code_errV c HC.out _).mono ?_
  rintro e w5 ⟨rfl, rfl⟩
  try go_simp
  refine hK.out _ _ hHeld (fun hHeld => ?_)
  clear hK K
  have Z3 := Lib.hid (ZQ.out.here BD.out)
  refine wpAnyH_ready (rs := [4]) (by kernel_rfl) (by simp) ?_
  refine AllReadyH.cons rfl (fun K hK => ?_) AllReadyH.nil
  refine step_store_mid (by rfl) 30 (.tmp 4) (.tmp 71) rfl (g + 2) 0 (trc y s2) rfl rfl (Z3.out.there (Nat.le_refl 13)) (tr_info _ _) TQ.out.one ?_
  have X4 := Lib.hid (show Blk (V1.setCells (g + 2) 0 (trc y s2).toList) g 30 (trc y s2) from hHeld.farCells (by omega) _ _ _)
  have E4 := Lib.hid (show Turn (fun k => k = g + 2) V1 (V1.setCells (g + 2) 0 (trc y s2).toList) from Turn.setCells (S := fun k => k = g + 2) (fun _ => rfl) _ _ _ (Turn.refl _ _))
  have Z4 := Lib.hid (Z3.out.put (trc y s2) rfl)
  refine hK.out _ _ X4.out (fun hHeld => ?_)
  clear hK K
  generalize V1.setCells (g + 2) 0 (trc y s2).toList = V4 at X4 E4 Z4 hHeld ⊢
  refine wpAnyH_take (i := 5) (v := ?_) rfl (by kernel_rfl) (by kernel_rfl) (by kernel_rfl) (fun _ _ _ h => h) (Or.inl ⟨by rfl, ?_⟩) (by assumption) ?_
  rotate_left
  · (intro w0 hSw; (try dsimp only at hSw); go_simp; try with_reducible rfl)
  try simp only [List.getElem_toArray, List.getElem_cons_succ, List.getElem_cons_zero, Act.put, List.setIfInBounds_toArray, List.set_cons_zero, List.set_cons_succ]
  refine wpAnyH_take (i := 6) (v := ?_) rfl (by kernel_rfl) (by kernel_rfl) (by kernel_rfl) (fun _ _ _ h => h) (Or.inl ⟨by rfl, ?_⟩) (by assumption) ?_
  rotate_left
  · (intro w0 hSw; (try dsimp only at hSw); go_simp; try with_reducible rfl)
  try simp only [List.getElem_toArray, List.getElem_cons_succ, List.getElem_cons_zero, Act.put, List.setIfInBounds_toArray, List.set_cons_zero, List.set_cons_succ]
  refine wpAnyH_done (by kernel_rfl) ?_ _
  clear hHeld
  have T4 := Lib.hid ((TQ.out.step BD.out).offB Z3.out E4.out)
  have U4 := Lib.hid (own_off (own_step UQ.out BD.out) E4.out (fun k hk _ e => by have := SZ.out; omega))
  have F4 := Lib.hid ((stepB BQ.out BD.out).trans (E4.out.below (B := w.heap.size) (fun k hk e => by have := HG.out; omega) (Nat.le_trans BQ.out.size BD.out.size)))
  go_wp2_with fail
  exact bodyPost_ret (v := .tuple #[.agg (trc y s2), (.slice Au ms.length cu), .int .i64 c]) (results_and2 rfl rfl rfl rfl (tr_load Z4.out)) rfl ⟨s2, _, rfl, T4.out, own_less U4.out B1.out.size, F4.out⟩
set_option maxRecDepth 100000 in
set_option maxHeartbeats 8000000 in
theorem act_5 {B k : Nat} (x : Tr) (s : Sl) (a : List Int) (ha : a.length = 33) (w : World) (h : Tm w B x s) (ok : TrOk x k) (hkk : k ≤ 900) (hk : fld a 0 = 5) (y : Tr) (c : Int) (hy : ackL x (a.drop 5) = (y, [], c)) (hc : codOk c) :
    Calls Try.prog 9 #[.agg (trc x s), .agg (mc a)] w (ActP w (y, [], c)) := by
  have X1 := Lib.hid (((Blk.new w 30 (trc x s)).alloc (.cells (mc a) 44)).alloc (.cells zTr 30))
  have A1 := Lib.hid ((Blk.new_at (w := w.alloc (.cells (trc x s) 30)) (n := w.heap.size + 1) (by simp) 44 (mc a)).alloc (.cells zTr 30))
  have Z1 := Lib.hid (Blk.new_at (w := (w.alloc (.cells (trc x s) 30)).alloc (.cells (mc a) 44)) (n := w.heap.size + 2) (by simp) 30 zTr)
  have B1 := Lib.hid (((Joins.below_alloc1 w (.cells (trc x s) 30)).alloc (by simp <;> omega) (.cells (mc a) 44)).alloc (by simp <;> omega) (.cells zTr 30))
  have SZ := Lib.hid (show (((w.alloc (.cells (trc x s) 30)).alloc (.cells (mc a) 44)).alloc (.cells zTr 30)).heap.size = w.heap.size + 3 from by simp)
  have TV := Lib.hid (h.step B1.out)
  have OK := Lib.hid ok
  have HS := Lib.hid (ok.short (by omega))
  have HY := Lib.hid hy
  have HC := Lib.hid hc
  have HA := Lib.hid ha
  have HD := Lib.hid (act_drop ha)
  have HMI := Lib.hid (show (Try.prog.info? 42).map (·.size) = some (ints (a.drop 5)).length from by have := mc_info (act_drop ha); simpa [mc] using this)
  have e0 : (fld a 0 == 0) = false := by simp; omega
  have e1 : (fld a 0 == 1) = false := by simp; omega
  have e2 : (fld a 0 == 2) = false := by simp; omega
  have e3 : (fld a 0 == 3) = false := by simp; omega
  have e4 : (fld a 0 == 4) = false := by simp; omega
  have e5 : (fld a 0 == 5) = true := by simp; omega
  clear h ok hkk hy hc ha hk
  go_enter Try.func9, Try.ntmps9
  go_upto_region 1 with fail
  obtain ⟨g, hg⟩ : ∃ g, g = w.heap.size := ⟨_, rfl⟩
  have HG := Lib.hid hg
  rw [← hg] at X1 A1 Z1 SZ ⊢
  clear hg
  generalize ((w.alloc (.cells (trc x s) 30)).alloc (.cells (mc a) 44)).alloc (.cells zTr 30) = WV at X1 A1 Z1 B1 TV SZ ⊢
  have a0 := act_cell HA.out A1.out (i := 0) (by omega)
  have a1 := act_cell HA.out A1.out (i := 1) (by omega)
  have a2 := act_cell HA.out A1.out (i := 2) (by omega)
  have a3 := act_cell HA.out A1.out (i := 3) (by omega)
  have a4 := act_cell HA.out A1.out (i := 4) (by omega)
  have AM := Lib.hid (act_msg HA.out A1.out)
  have CO := Lib.hid (ack_any x s (a.drop 5) WV TV.out HS.out HD.out OK.out.acks)
  rw [HY.out] at CO
  clear HY
  go_upto_region 16 with (first
    | (refine wpList_load_row rfl 30 (.tmp 2) rfl g rfl 30 (trc x s) (0, 0) _ X1.out Try.underlying30 rfl (tr_info _ _) ?_)
    | (refine wpList_load_cells rfl 42 (.tmp 66) rfl ⟨g + 1, 5, none⟩ rfl (ints (a.drop 5)) _ AM.out Try.underlying42 rfl HMI.out ?_)
    | (go_at_call 22; refine CO.out.mono ?_; rintro e W2 ⟨s2, rfl, ht2, hb2⟩; have T2 := Lib.hid ht2; have E2 := Lib.hid hb2; clear ht2 hb2)
    | (refine wpList_store_mid (by rfl) 30 (.tmp 2) (.tmp 69) (by rfl) g 0 (trc y s2) (by rfl) (by rfl) ((X1.out.here E2.out).there (Nat.le_refl 13)) (tr_info _ _) T2.out.one ?_
       have E3 := Lib.hid (show Turn (fun k => k = g) W2 (W2.setCells g 0 (trc y s2).toList) from Turn.setCells (S := fun k => k = g) (fun _ => rfl) _ _ _ (Turn.refl _ _))
       have XQ := Lib.hid ((X1.out.here E2.out).put (trc y s2) rfl)
       have hzl := Z1.out.lt
       have ZQ := Lib.hid ((Z1.out.here E2.out).turn E3.out (by omega))
       have BQ := Lib.hid ((stepB B1.out E2.out).trans (E3.out.below (B := w.heap.size) (fun k hk e => by have := HG.out; omega) (Nat.le_trans B1.out.size E2.out.size)))
       have TQ := Lib.hid (T2.out.offB (X1.out.here E2.out) E3.out)
       clear E3 hzl
       generalize W2.setCells g 0 (trc y s2).toList = W3 at XQ ZQ BQ TQ ⊢))
  have hxq := XQ.out.lt
  have hzq := ZQ.out.lt
  refine wp_region_held_drew (S := fun w' => Blk w' g 30 (trc y s2)) (by kernel_rfl) XQ.out.drew (fun hHeld => ?_)
  have BD := Lib.hid (show Below W3.heap.size W3 W3.drew from (Below.refl _ _).drew)
  generalize W3.drew = V1 at BD hHeld ⊢
  refine wpAnyH_take (i := 0) (v := .agg (trc y s2)) rfl (by kernel_rfl) (by kernel_rfl) (by kernel_rfl) (fun _ _ _ h => h) (Or.inl ⟨by rfl, fun w0 hSw => exec_load (x := .tmp 2) rfl rfl (tr_load hSw)⟩) (by assumption) ?_
  try simp only [List.getElem_toArray, List.getElem_cons_succ, List.getElem_cons_zero, Act.put, List.setIfInBounds_toArray, List.set_cons_zero, List.set_cons_succ]
  refine wpAnyH_take (i := 1) (v := ?_) rfl (by kernel_rfl) (by kernel_rfl) (by kernel_rfl) (fun _ _ _ h => h) (Or.inl ⟨by rfl, ?_⟩) (by assumption) ?_
  rotate_left
  · (intro w0 hSw; (try dsimp only at hSw); go_simp; try with_reducible rfl)
  try simp only [List.getElem_toArray, List.getElem_cons_succ, List.getElem_cons_zero, Act.put, List.setIfInBounds_toArray, List.set_cons_zero, List.set_cons_succ]
  refine wpAnyH_take (i := 2) (v := ?_) rfl (by kernel_rfl) (by kernel_rfl) (by kernel_rfl) (fun _ _ _ h => h) (Or.inl ⟨by rfl, ?_⟩) (by assumption) ?_
  rotate_left
  · (intro w0 hSw; (try dsimp only at hSw); go_simp; try with_reducible rfl)
  try simp only [List.getElem_toArray, List.getElem_cons_succ, List.getElem_cons_zero, Act.put, List.setIfInBounds_toArray, List.set_cons_zero, List.set_cons_succ]
  refine wpAnyH_ready (rs := [3]) (by kernel_rfl) (by simp) ?_
  refine AllReadyH.cons rfl (fun K hK => ?_) AllReadyH.nil
  go_simp
  refine (code_errV c HC.out _).mono ?_
  rintro e w5 ⟨rfl, rfl⟩
  try go_simp
  refine hK.out _ _ hHeld (fun hHeld => ?_)
  clear hK K
  have Z3 := Lib.hid (ZQ.out.here BD.out)
  refine wpAnyH_ready (rs := [4]) (by kernel_rfl) (by simp) ?_
  refine AllReadyH.cons rfl (fun K hK => ?_) AllReadyH.nil
  refine step_store_mid (by rfl) 30 (.tmp 4) (.tmp 71) rfl (g + 2) 0 (trc y s2) rfl rfl (Z3.out.there (Nat.le_refl 13)) (tr_info _ _) TQ.out.one ?_
  have X4 := Lib.hid (show Blk (V1.setCells (g + 2) 0 (trc y s2).toList) g 30 (trc y s2) from hHeld.farCells (by omega) _ _ _)
  have E4 := Lib.hid (show Turn (fun k => k = g + 2) V1 (V1.setCells (g + 2) 0 (trc y s2).toList) from Turn.setCells (S := fun k => k = g + 2) (fun _ => rfl) _ _ _ (Turn.refl _ _))
  have Z4 := Lib.hid (Z3.out.put (trc y s2) rfl)
  refine hK.out _ _ X4.out (fun hHeld => ?_)
  clear hK K
  generalize V1.setCells (g + 2) 0 (trc y s2).toList = V4 at X4 E4 Z4 hHeld ⊢
  refine wpAnyH_take (i := 5) (v := ?_) rfl (by kernel_rfl) (by kernel_rfl) (by kernel_rfl) (fun _ _ _ h => h) (Or.inl ⟨by rfl, ?_⟩) (by assumption) ?_
  rotate_left
  · (intro w0 hSw; (try dsimp only at hSw); go_simp; try with_reducible rfl)
  try simp only [List.getElem_toArray, List.getElem_cons_succ, List.getElem_cons_zero, Act.put, List.setIfInBounds_toArray, List.set_cons_zero, List.set_cons_succ]
  refine wpAnyH_take (i := 6) (v := ?_) rfl (by kernel_rfl) (by kernel_rfl) (by kernel_rfl) (fun _ _ _ h => h) (Or.inl ⟨by rfl, ?_⟩) (by assumption) ?_
  rotate_left
  · (intro w0 hSw; (try dsimp only at hSw); go_simp; try with_reducible rfl)
  try simp only [List.getElem_toArray, List.getElem_cons_succ, List.getElem_cons_zero, Act.put, List.setIfInBounds_toArray, List.set_cons_zero, List.set_cons_succ]
  refine wpAnyH_done (by kernel_rfl) ?_ _
  clear hHeld
  have T4 := Lib.hid ((TQ.out.step BD.out).offB Z3.out E4.out)
  have F4 := Lib.hid ((stepB BQ.out BD.out).trans (E4.out.below (B := w.heap.size) (fun k hk e => by have := HG.out; omega) (Nat.le_trans BQ.out.size BD.out.size)))
  go_wp2_with fail
  exact bodyPost_ret (v := .tuple #[.agg (trc y s2), (.slice none 0 0), .int .i64 c]) (results_and2 rfl rfl rfl rfl (tr_load Z4.out)) rfl ⟨s2, _, rfl, T4.out, World.ownsRow_nil _ _ _ _, F4.out⟩
set_option maxRecDepth 100000 in
set_option maxHeartbeats 8000000 in
theorem act_6 {B k : Nat} (x : Tr) (s : Sl) (a : List Int) (ha : a.length = 33) (w : World) (h : Tm w B x s) (ok : TrOk x k) (hkk : k ≤ 900) (hk : fld a 0 < 0 ∨ 5 < fld a 0) (y : Tr) (ms : List (List Int)) (c : Int) (hy : (x, [], 0) = (y, ms, c)) (hc : codOk c) :
    Calls Try.prog 9 #[.agg (trc x s), .agg (mc a)] w (ActP w (y, ms, c)) := by
  have X1 := Lib.hid (((Blk.new w 30 (trc x s)).alloc (.cells (mc a) 44)).alloc (.cells zTr 30))
  have A1 := Lib.hid ((Blk.new_at (w := w.alloc (.cells (trc x s) 30)) (n := w.heap.size + 1) (by simp) 44 (mc a)).alloc (.cells zTr 30))
  have Z1 := Lib.hid (Blk.new_at (w := (w.alloc (.cells (trc x s) 30)).alloc (.cells (mc a) 44)) (n := w.heap.size + 2) (by simp) 30 zTr)
  have B1 := Lib.hid (((Joins.below_alloc1 w (.cells (trc x s) 30)).alloc (by simp <;> omega) (.cells (mc a) 44)).alloc (by simp <;> omega) (.cells zTr 30))
  have SZ := Lib.hid (show (((w.alloc (.cells (trc x s) 30)).alloc (.cells (mc a) 44)).alloc (.cells zTr 30)).heap.size = w.heap.size + 3 from by simp)
  have TV := Lib.hid (h.step B1.out)
  have OK := Lib.hid ok
  have HS := Lib.hid (ok.short (by omega))
  have HY := Lib.hid hy
  have HC := Lib.hid hc
  have HA := Lib.hid ha
  have HD := Lib.hid (act_drop ha)
  have HMI := Lib.hid (show (Try.prog.info? 42).map (·.size) = some (ints (a.drop 5)).length from by have := mc_info (act_drop ha); simpa [mc] using this)
  have e0 : (fld a 0 == 0) = false := by simp; omega
  have e1 : (fld a 0 == 1) = false := by simp; omega
  have e2 : (fld a 0 == 2) = false := by simp; omega
  have e3 : (fld a 0 == 3) = false := by simp; omega
  have e4 : (fld a 0 == 4) = false := by simp; omega
  have e5 : (fld a 0 == 5) = false := by simp; omega
  clear h ok hkk hy hc ha hk
  go_enter Try.func9, Try.ntmps9
  go_upto_region 1 with fail
  obtain ⟨g, hg⟩ : ∃ g, g = w.heap.size := ⟨_, rfl⟩
  have HG := Lib.hid hg
  rw [← hg] at X1 A1 Z1 SZ ⊢
  clear hg
  generalize ((w.alloc (.cells (trc x s) 30)).alloc (.cells (mc a) 44)).alloc (.cells zTr 30) = WV at X1 A1 Z1 B1 TV SZ ⊢
  have a0 := act_cell HA.out A1.out (i := 0) (by omega)
  have a1 := act_cell HA.out A1.out (i := 1) (by omega)
  have a2 := act_cell HA.out A1.out (i := 2) (by omega)
  have a3 := act_cell HA.out A1.out (i := 3) (by omega)
  have a4 := act_cell HA.out A1.out (i := 4) (by omega)
  have AM := Lib.hid (act_msg HA.out A1.out)
  obtain ⟨rfl, rfl, rfl⟩ : x = y ∧ [] = ms ∧ 0 = c := by have h := HY.out; simpa using h
  go_upto_region 16 with fail
  have XQ := X1
  have ZQ := Z1
  have BQ := B1
  have TQ := Lib.hid (TV.out.less (Nat.zero_le _))
  generalize WV = W3 at XQ ZQ BQ TQ SZ ⊢
  have hxq := XQ.out.lt
  have hzq := ZQ.out.lt
  refine wp_region_held_drew (S := fun w' => Blk w' g 30 (trc x s)) (by kernel_rfl) XQ.out.drew (fun hHeld => ?_)
  have BD := Lib.hid (show Below W3.heap.size W3 W3.drew from (Below.refl _ _).drew)
  generalize W3.drew = V1 at BD hHeld ⊢
  refine wpAnyH_take (i := 0) (v := .agg (trc x s)) rfl (by kernel_rfl) (by kernel_rfl) (by kernel_rfl) (fun _ _ _ h => h) (Or.inl ⟨by rfl, fun w0 hSw => exec_load (x := .tmp 2) rfl rfl (tr_load hSw)⟩) (by assumption) ?_
  try simp only [List.getElem_toArray, List.getElem_cons_succ, List.getElem_cons_zero, Act.put, List.setIfInBounds_toArray, List.set_cons_zero, List.set_cons_succ]
  refine wpAnyH_take (i := 1) (v := ?_) rfl (by kernel_rfl) (by kernel_rfl) (by kernel_rfl) (fun _ _ _ h => h) (Or.inl ⟨by rfl, ?_⟩) (by assumption) ?_
  rotate_left
  · (intro w0 hSw; (try dsimp only at hSw); go_simp; try with_reducible rfl)
  try simp only [List.getElem_toArray, List.getElem_cons_succ, List.getElem_cons_zero, Act.put, List.setIfInBounds_toArray, List.set_cons_zero, List.set_cons_succ]
  refine wpAnyH_take (i := 2) (v := ?_) rfl (by kernel_rfl) (by kernel_rfl) (by kernel_rfl) (fun _ _ _ h => h) (Or.inl ⟨by rfl, ?_⟩) (by assumption) ?_
  rotate_left
  · (intro w0 hSw; (try dsimp only at hSw); go_simp; try with_reducible rfl)
  try simp only [List.getElem_toArray, List.getElem_cons_succ, List.getElem_cons_zero, Act.put, List.setIfInBounds_toArray, List.set_cons_zero, List.set_cons_succ]
  refine wpAnyH_ready (rs := [3]) (by kernel_rfl) (by simp) ?_
  refine AllReadyH.cons rfl (fun K hK => ?_) AllReadyH.nil
  go_simp
  refine (code_nil _).mono ?_
  rintro e w5 ⟨rfl, rfl⟩
  try go_simp
  refine hK.out _ _ hHeld (fun hHeld => ?_)
  clear hK K
  have Z3 := Lib.hid (ZQ.out.here BD.out)
  refine wpAnyH_ready (rs := [4]) (by kernel_rfl) (by simp) ?_
  refine AllReadyH.cons rfl (fun K hK => ?_) AllReadyH.nil
  refine step_store_mid (by rfl) 30 (.tmp 4) (.tmp 71) rfl (g + 2) 0 (trc x s) rfl rfl (Z3.out.there (Nat.le_refl 13)) (tr_info _ _) TQ.out.one ?_
  have X4 := Lib.hid (show Blk (V1.setCells (g + 2) 0 (trc x s).toList) g 30 (trc x s) from hHeld.farCells (by omega) _ _ _)
  have E4 := Lib.hid (show Turn (fun k => k = g + 2) V1 (V1.setCells (g + 2) 0 (trc x s).toList) from Turn.setCells (S := fun k => k = g + 2) (fun _ => rfl) _ _ _ (Turn.refl _ _))
  have Z4 := Lib.hid (Z3.out.put (trc x s) rfl)
  refine hK.out _ _ X4.out (fun hHeld => ?_)
  clear hK K
  generalize V1.setCells (g + 2) 0 (trc x s).toList = V4 at X4 E4 Z4 hHeld ⊢
  refine wpAnyH_take (i := 5) (v := ?_) rfl (by kernel_rfl) (by kernel_rfl) (by kernel_rfl) (fun _ _ _ h => h) (Or.inl ⟨by rfl, ?_⟩) (by assumption) ?_
  rotate_left
  · (intro w0 hSw; (try dsimp only at hSw); go_simp; try with_reducible rfl)
  try simp only [List.getElem_toArray, List.getElem_cons_succ, List.getElem_cons_zero, Act.put, List.setIfInBounds_toArray, List.set_cons_zero, List.set_cons_succ]
  refine wpAnyH_take (i := 6) (v := ?_) rfl (by kernel_rfl) (by kernel_rfl) (by kernel_rfl) (fun _ _ _ h => h) (Or.inl ⟨by rfl, ?_⟩) (by assumption) ?_
  rotate_left
  · (intro w0 hSw; (try dsimp only at hSw); go_simp; try with_reducible rfl)
  try simp only [List.getElem_toArray, List.getElem_cons_succ, List.getElem_cons_zero, Act.put, List.setIfInBounds_toArray, List.set_cons_zero, List.set_cons_succ]
  refine wpAnyH_done (by kernel_rfl) ?_ _
  clear hHeld
  have T4 := Lib.hid ((TQ.out.step BD.out).offB Z3.out E4.out)
  have F4 := Lib.hid ((stepB BQ.out BD.out).trans (E4.out.below (B := w.heap.size) (fun k hk e => by have := HG.out; omega) (Nat.le_trans BQ.out.size BD.out.size)))
  go_wp2_with fail
  exact bodyPost_ret (v := .tuple #[.agg (trc x s), (.slice none 0 0), .int .i64 0]) (results_and2 rfl rfl rfl rfl (tr_load Z4.out)) rfl ⟨s, _, rfl, T4.out, World.ownsRow_nil _ _ _ _, F4.out⟩
theorem ansL_nil (x : Tr) (m : List Int) : (ansL x m).2.1 = [] := by
  unfold ansL
  split; rfl
  split; rfl
  split; rfl
  rfl
theorem ackL_nil (x : Tr) (m : List Int) : (ackL x m).2.1 = [] := by
  unfold ackL
  split; rfl
  split; rfl
  split; rfl
  rfl
theorem act_any {B k : Nat} (x : Tr) (s : Sl) (a : List Int) (ha : a.length = 33) (w : World) (h : Tm w B x s) (ok : TrOk x k) (hkk : k ≤ 900) :
    Calls Try.prog 9 #[.agg (trc x s), .agg (mc a)] w (ActP w (actL x a)) := by
  have hc := actL_code x a
  by_cases h0 : fld a 0 = 0
  · have e : actL x a = askL x (fld a 1) (fld a 2) (fld a 3) (fld a 4) := by unfold actL; rw [if_pos h0]
    rw [e] at hc ⊢
    exact act_0 x s a ha w h ok hkk h0 _ _ _ rfl hc
  by_cases h1 : fld a 0 = 1
  · have e : actL x a = ansL x (a.drop 5) := by unfold actL; rw [if_neg h0, if_pos h1]
    rw [e] at hc ⊢
    have e2 : ansL x (a.drop 5) = ((ansL x (a.drop 5)).1, [], (ansL x (a.drop 5)).2.2) := by rw [← ansL_nil x (a.drop 5)]
    rw [e2] at hc ⊢
    exact act_1 x s a ha w h ok hkk h1 _ _ e2 hc
  by_cases h2 : fld a 0 = 2
  · have e : actL x a = finL x := by unfold actL; rw [if_neg h0, if_neg h1, if_pos h2]
    rw [e] at hc ⊢
    exact act_2 x s a ha w h ok hkk h2 _ _ _ rfl hc
  by_cases h3 : fld a 0 = 3
  · have e : actL x a = votL x (a.drop 5) := by unfold actL; rw [if_neg h0, if_neg h1, if_neg h2, if_pos h3]
    rw [e] at hc ⊢
    exact act_3 x s a ha w h ok hkk h3 _ _ _ rfl hc
  by_cases h4 : fld a 0 = 4
  · have e : actL x a = abtL x (fld a 1) := by unfold actL; rw [if_neg h0, if_neg h1, if_neg h2, if_neg h3, if_pos h4]
    rw [e] at hc ⊢
    exact act_4 x s a ha w h ok hkk h4 _ _ _ rfl hc
  by_cases h5 : fld a 0 = 5
  · have e : actL x a = ackL x (a.drop 5) := by unfold actL; rw [if_neg h0, if_neg h1, if_neg h2, if_neg h3, if_neg h4, if_pos h5]
    rw [e] at hc ⊢
    have e2 : ackL x (a.drop 5) = ((ackL x (a.drop 5)).1, [], (ackL x (a.drop 5)).2.2) := by rw [← ackL_nil x (a.drop 5)]
    rw [e2] at hc ⊢
    exact act_5 x s a ha w h ok hkk h5 _ _ e2 hc
  · have e : actL x a = (x, [], 0) := by unfold actL; rw [if_neg h0, if_neg h1, if_neg h2, if_neg h3, if_neg h4, if_neg h5]
    rw [e] at hc ⊢
    exact act_6 x s a ha w h ok hkk (by omega) _ _ _ rfl hc
end Go.Proofs.Ytopjkidekbfalaa
