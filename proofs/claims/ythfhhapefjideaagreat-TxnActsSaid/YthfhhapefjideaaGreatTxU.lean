/- The laws' loops: something that happens, one behind the other; the walk of TxnAbort. -/
import Derived.Test.YthfhhapefjideaaGreatTxQ
import Derived.Test.YthfhhapefjideaaGreatHeld2
import Derived.Deep.CutRange
namespace Go.Proofs.YthfhhapefjideaaGreat
open Go.RowKit
set_option linter.unusedVariables false
set_option linter.unusedSimpArgs false

/-- Something that happens, at a place of a slice. -/
theorem Reads.txAct_at {w : World} {B n : Nat} {A : Option Addr} {ls : List (List Int)} (h : Reads w B 33 A n (ints ls.flatten)) (hall : ∀ l ∈ ls, l.length = 33) (hn : ls.length = n) {i : Nat} (hi : i < n) :
    ∃ b off, A = some ⟨b, off, none⟩ ∧ b < B ∧ (ls.getD i []).length = 33 ∧ ∀ j v, (ints (ls.getD i []))[j]? = some v → w.cell? ((⟨b, off + i * 33, none⟩ : Addr).add j) = some v := by
  obtain ⟨b, off, e, hb, hc, h33⟩ := h.flat_at hall hn (by omega) hi
  refine ⟨b, off, e, hb, h33, fun j v hv => ?_⟩
  have hj : j < 33 := by have := (List.getElem?_eq_some_iff.1 hv).1; rwa [ints_length, h33] at this
  rw [show (⟨b, off + i * 33, none⟩ : Addr).add j = ⟨b, off + i * 33 + j, none⟩ by unfold Addr.add; split <;> simp_all]
  rw [hc j hj, ← hv]
  generalize ls.getD i [] = l at h33
  simp [ints, fld_get (show j < l.length by omega)]
theorem act_info {a : List Int} (hl : a.length = 33) : (Tryz.prog.info? 48).map (·.size) = some (ints a).length := by
  rw [ints_length, hl]; kernel_rfl
end Go.Proofs.YthfhhapefjideaaGreat
/- The walk of TxnOnce. -/
namespace Go.Proofs.YthfhhapefjideaaGreat
open Go.RowKit
set_option linter.unusedVariables false
set_option linter.unusedSimpArgs false

theorem TrOk.full {x : Tr} {k : Nat} (h : TrOk x k) (h3 : x.st = 3) : x.vts.length = x.tch.length ∧ x.op = false := by
  constructor
  · have := h.com h3
    rw [without_nil] at this
    rw [ris_ext h.vts.ris h.tch.ris fun n => ⟨h.sub n, this n⟩]
  · cases ho : x.op with
    | false => rfl
    | true => have := (h.op ho).1; omega
theorem TrOk.four {x : Tr} {k : Nat} (h : TrOk x k) : decide (0 < x.rs) = (x.st == 4) := by
  by_cases h4 : x.st = 4
  · have := h.rs1 h4; rw [decide_eq_true (by omega)]; simp [h4]
  · have h1 := h.st; have := h.rs0 (by omega); rw [decide_eq_false (by omega)]; simp [h4]
end Go.Proofs.YthfhhapefjideaaGreat
/- A transaction as the document's; are two the same; the same thing twice. -/
namespace Go.Proofs.YthfhhapefjideaaGreat
open Go.RowKit
set_option linter.unusedVariables false
set_option linter.unusedSimpArgs false


/-! ### the document's words -/
set_option maxRecDepth 100000 in
set_option maxHeartbeats 4000000 in
theorem plain_any {B : Nat} (x : Tr) (s : Sl) (w : World) (h : Tm w B x s) :
    Calls Tryz.prog 8 #[.agg (trc x s)] w fun e w' => e = .returned (.agg (trc x s)) ∧ Below w.heap.size w w' := by
  have X1 := Lib.hid ((Blk.new w 30 (trc x s)).alloc (.cells zTr 37))
  have Z1 := Lib.hid (show Blk ((w.alloc (.cells (trc x s) 30)).alloc (.cells zTr 37)) (w.heap.size + 1) 37 (trc noTr noSl) from Blk.new_at (by simp) _ _)
  have B1 := Lib.hid ((Joins.below_alloc1 w (.cells (trc x s) 30)).alloc (by simp) (.cells zTr 37))
  have HO := Lib.hid h.one
  obtain ⟨At, ct, et⟩ := own_len h.t
  obtain ⟨Av, cv, ev⟩ := own_len h.v
  obtain ⟨Ak, ck, ek⟩ := own_len h.k
  obtain ⟨Ag, cg, eg⟩ := own_len h.g
  have ES := Lib.hid (show trc x ⟨.slice At x.tch.length ct, .slice Av x.vts.length cv, .slice Ak x.acks.length ck, .slice Ag x.got.length cg⟩ = trc x s from by unfold trc; rw [et, ev, ek, eg])
  clear h
  go_enter Tryz.func8, Tryz.ntmps8
  go_upto_region 1 with fail
  obtain ⟨g, hg⟩ : ∃ g, g = w.heap.size := ⟨_, rfl⟩
  have HG := Lib.hid hg
  rw [← hg] at X1 Z1 ⊢
  clear hg
  generalize (w.alloc (.cells (trc x s) 30)).alloc (.cells zTr 37) = V at X1 Z1 B1 ⊢
  have c0 : V.cell? ⟨g, 0, none⟩ = some (.int .i64 x.tx) := X1.out.cell 0
  have c1 : V.cell? ⟨g, 1, none⟩ = some (.int .i64 x.st) := X1.out.cell 1
  have c2 : V.cell? ⟨g, 2, none⟩ = some (.int .i64 x.rs) := X1.out.cell 2
  have c3 : V.cell? ⟨g, 3, none⟩ = some (.int .i64 x.sq) := X1.out.cell 3
  have c4 : V.cell? ⟨g, 4, none⟩ = some (.bool x.op) := X1.out.cell 4
  have c5 : V.cell? ⟨g, 5, none⟩ = some (.int .i64 x.sh) := X1.out.cell 5
  have c6 : V.cell? ⟨g, 6, none⟩ = some (.int .i64 x.a0) := X1.out.cell 6
  have c7 : V.cell? ⟨g, 7, none⟩ = some (.int .i64 x.a1) := X1.out.cell 7
  have c8 : V.cell? ⟨g, 8, none⟩ = some (.int .i64 x.md) := X1.out.cell 8
  have c9 : V.cell? ⟨g, 9, none⟩ = some (.slice At x.tch.length ct) := by rw [← et]; exact X1.out.cell 9
  have c10 : V.cell? ⟨g, 10, none⟩ = some (.slice Av x.vts.length cv) := by rw [← ev]; exact X1.out.cell 10
  have c11 : V.cell? ⟨g, 11, none⟩ = some (.slice Ak x.acks.length ck) := by rw [← ek]; exact X1.out.cell 11
  have c12 : V.cell? ⟨g, 12, none⟩ = some (.slice Ag x.got.length cg) := by rw [← eg]; exact X1.out.cell 12
  clear et ev ek eg
  rw [← ES.out] at HO
  go_wp2_with (refine wpList_store_mid (by rfl) 37 (.tmp 2) (.tmp 27) (by rfl) (g + 1) 0 (trc x ⟨.slice At x.tch.length ct, .slice Av x.vts.length cv, .slice Ak x.acks.length ck, .slice Ag x.got.length cg⟩) (by rfl) (by rfl) (Z1.out.there (Nat.le_refl 13)) (tr_infoR _ _) HO.out ?_)
  exact bodyPost_ret (v := .agg (trc x ⟨.slice At x.tch.length ct, .slice Av x.vts.length cv, .slice Ak x.acks.length ck, .slice Ag x.got.length cg⟩)) (results_one rfl rfl (tr_loadR (Z1.out.put (trc x ⟨.slice At x.tch.length ct, .slice Av x.vts.length cv, .slice Ak x.acks.length ck, .slice Ag x.got.length cg⟩) rfl))) rfl ⟨by rw [ES.out], Below.setCells (by have := HG.out; omega) _ _ _ B1.out⟩

/-! ### are two the same? -/
theorem info_grant5 : (Tryz.prog.info? 85).map (·.size) = some 5 := by kernel_rfl
theorem flat_grant : flatB Tryz.prog 5 85 = some (true, 5) := by kernel_rfl
theorem guard_grant : Tryz.prog.eqGuardType Tryz.prog.depth 85 = false := by kernel_rfl
set_option maxRecDepth 100000 in
set_option maxHeartbeats 4000000 in
theorem grants_same (A A' : Option Addr) (n c c' B B' : Nat) (ls : List (List Int)) (w : World) (hn : n ≤ 9223372036854775807) (h5 : ∀ m ∈ ls, m.length = 5) (hl : ls.length = n) (h : Reads w B 5 A n (ints ls.flatten)) (h' : Reads w B' 5 A' n (ints ls.flatten)) :
    Calls Tryz.prog 25 #[.slice A n c, .slice A' n c'] w fun e w' => e = .returned (.bool true) ∧ ∃ q, w' = w.drewN q := by
  have H := Lib.hid h
  have H' := Lib.hid h'
  have H5 := Lib.hid h5
  have HL := Lib.hid hl
  have hgg := guard_grant
  clear h h' h5 hl
  go_enter Tryz.func25, Tryz.ntmps25
  go_wp2_with fail
  go_loopw [5] (fun i W => ∃ k q : Nat, k ≤ n ∧ i = .int .i64 k ∧ W = w.drewN q) (fun i _ => n - (RowKit.intOf i).toNat)
  case atStart => exact ⟨0, 0, Nat.zero_le _, rfl, rfl⟩
  case round =>
    obtain ⟨k, q, hk, rfl, rfl⟩ := hrel
    by_cases hlt : k < n
    · obtain ⟨b, off, rfl, hb, hc, h55⟩ := H.out.flat_at H5.out HL.out (by omega) hlt
      obtain ⟨b', off', rfl, hb', hc', _⟩ := H'.out.flat_at H5.out HL.out (by omega) hlt
      generalize ls.getD k [] = m at hc hc' h55
      have CC : ∀ {b off : Nat}, (∀ j, j < 5 → w.cell? ⟨b, off + k * 5 + j, none⟩ = some (.int .i64 (fld m j))) → ∀ j v, (ints m)[j]? = some v → w.cell? ((⟨b, off + k * 5, none⟩ : Addr).add j) = some v := fun hc j v hv => by
        have hj : j < 5 := by have := (List.getElem?_eq_some_iff.1 hv).1; rwa [ints_length, h55] at this
        rw [show ∀ b off : Nat, (⟨b, off + k * 5, none⟩ : Addr).add j = ⟨b, off + k * 5 + j, none⟩ from fun b off => by unfold Addr.add; split <;> simp_all, hc j hj, ← hv]
        simp [ints, fld_get (show j < m.length by omega)]
      have C1 := Lib.hid (CC hc)
      have C2 := Lib.hid (CC hc')
      have he : ∀ W, (binOp .neq 85 (.agg (ints m).toArray) (.agg (ints m).toArray)).run Tryz.prog W = .ok (.bool false) W := fun W => by
        have := neq_flat flat_grant (by omega) h55 h55 W
        rwa [decide_eq_true rfl] at this
      have HGI := Lib.hid (show (Tryz.prog.info? 85).map (·.size) = some (ints m).length from by rw [ints_length, h55]; exact info_grant5)
      clear hc hc' hb hb' h55 CC
      go_upto_region 6 with fail
      refine wp_region_held_drew (S := fun w' => (∀ j v, (ints m)[j]? = some v → w'.cell? ((⟨b, off + k * 5, none⟩ : Addr).add j) = some v) ∧ ∀ j v, (ints m)[j]? = some v → w'.cell? ((⟨b', off' + k * 5, none⟩ : Addr).add j) = some v) (by kernel_rfl) ⟨C1.out, C2.out⟩ (fun hHeld => ?_)
      refine wpAnyH_take (i := 0) (v := ?_) rfl (by kernel_rfl) (by kernel_rfl) (by kernel_rfl) (fun _ _ _ h => h) (Or.inl ⟨by rfl, ?_⟩) (by assumption) ?_
      rotate_left
      · (intro w0 hSw; (try dsimp only at hSw); go_simp; try with_reducible rfl)
      try simp only [List.getElem_toArray, List.getElem_cons_succ, List.getElem_cons_zero, Act.put, List.setIfInBounds_toArray, List.set_cons_zero, List.set_cons_succ]
      refine wpAnyH_take (i := 1) (v := ?_) rfl (by kernel_rfl) (by kernel_rfl) (by kernel_rfl) (fun _ _ _ h => h) (Or.inl ⟨by rfl, ?_⟩) (by assumption) ?_
      rotate_left
      · (intro w0 hSw; (try dsimp only at hSw); go_simp; try with_reducible rfl)
      try simp only [List.getElem_toArray, List.getElem_cons_succ, List.getElem_cons_zero, Act.put, List.setIfInBounds_toArray, List.set_cons_zero, List.set_cons_succ]
      refine wpAnyH_take (i := 2) (v := ?_) rfl (by kernel_rfl) (by kernel_rfl) (by kernel_rfl) (fun _ _ _ h => h) (Or.inl ⟨by rfl, ?_⟩) (by assumption) ?_
      rotate_left
      · (intro w0 hSw; (try dsimp only at hSw); go_simp; try with_reducible rfl)
      try simp only [List.getElem_toArray, List.getElem_cons_succ, List.getElem_cons_zero, Act.put, List.setIfInBounds_toArray, List.set_cons_zero, List.set_cons_succ]
      refine wpAnyH_take (i := 3) (v := .agg (ints m).toArray) rfl (by kernel_rfl) (by kernel_rfl) (by kernel_rfl) (fun _ _ _ h => h) (Or.inl ⟨by rfl, fun w0 hSw => exec_load (x := .tmp 19) rfl (ad := ⟨b, off + k * 5, none⟩) rfl (run_loadVar_cells w0 _ _ (ints m) _ hSw.1 Tryz.underlying85 rfl HGI.out)⟩) (by assumption) ?_
      try simp only [List.getElem_toArray, List.getElem_cons_succ, List.getElem_cons_zero, Act.put, List.setIfInBounds_toArray, List.set_cons_zero, List.set_cons_succ]
      refine wpAnyH_take (i := 4) (v := ?_) rfl (by kernel_rfl) (by kernel_rfl) (by kernel_rfl) (fun _ _ _ h => h) (Or.inl ⟨by rfl, ?_⟩) (by assumption) ?_
      rotate_left
      · (intro w0 hSw; (try dsimp only at hSw); go_simp; try with_reducible rfl)
      try simp only [List.getElem_toArray, List.getElem_cons_succ, List.getElem_cons_zero, Act.put, List.setIfInBounds_toArray, List.set_cons_zero, List.set_cons_succ]
      refine wpAnyH_take (i := 5) (v := ?_) rfl (by kernel_rfl) (by kernel_rfl) (by kernel_rfl) (fun _ _ _ h => h) (Or.inl ⟨by rfl, ?_⟩) (by assumption) ?_
      rotate_left
      · (intro w0 hSw; (try dsimp only at hSw); go_simp; try with_reducible rfl)
      try simp only [List.getElem_toArray, List.getElem_cons_succ, List.getElem_cons_zero, Act.put, List.setIfInBounds_toArray, List.set_cons_zero, List.set_cons_succ]
      refine wpAnyH_take (i := 6) (v := ?_) rfl (by kernel_rfl) (by kernel_rfl) (by kernel_rfl) (fun _ _ _ h => h) (Or.inl ⟨by rfl, ?_⟩) (by assumption) ?_
      rotate_left
      · (intro w0 hSw; (try dsimp only at hSw); go_simp; try with_reducible rfl)
      try simp only [List.getElem_toArray, List.getElem_cons_succ, List.getElem_cons_zero, Act.put, List.setIfInBounds_toArray, List.set_cons_zero, List.set_cons_succ]
      refine wpAnyH_take (i := 7) (v := .agg (ints m).toArray) rfl (by kernel_rfl) (by kernel_rfl) (by kernel_rfl) (fun _ _ _ h => h) (Or.inl ⟨by rfl, fun w0 hSw => exec_load (x := .tmp 23) rfl (ad := ⟨b', off' + k * 5, none⟩) rfl (run_loadVar_cells w0 _ _ (ints m) _ hSw.2 Tryz.underlying85 rfl HGI.out)⟩) (by assumption) ?_
      try simp only [List.getElem_toArray, List.getElem_cons_succ, List.getElem_cons_zero, Act.put, List.setIfInBounds_toArray, List.set_cons_zero, List.set_cons_succ]
      refine wpAnyH_take (i := 8) (v := ?_) rfl (by kernel_rfl) (by kernel_rfl) (by kernel_rfl) (fun _ _ _ h => h) (Or.inl ⟨by rfl, ?_⟩) (by assumption) ?_
      rotate_left
      · (intro w0 hSw; (try dsimp only at hSw); go_simp; try with_reducible rfl)
      try simp only [List.getElem_toArray, List.getElem_cons_succ, List.getElem_cons_zero, Act.put, List.setIfInBounds_toArray, List.set_cons_zero, List.set_cons_succ]
      refine wpAnyH_done (by kernel_rfl) ?_ _
      clear hHeld
      go_wp2_with fail
      go_roundw
      case rel => exact ⟨k + 1, _, by omega, by go_num, rfl⟩
      case measure => simp [RowKit.intOf]; omega
    · go_wp2_with fail
      go_ret
      exact ⟨rfl, q, rfl⟩
set_option maxRecDepth 100000 in
set_option maxHeartbeats 8000000 in
theorem same_any {B B' : Nat} (x : Tr) (s r : Sl) (w : World) (h : Tm w B x s) (h' : Tm w B' x r) (hs : Short x) :
    Calls Tryz.prog 7 #[.agg (trc x s), .agg (trc x r)] w fun e w' => e = .returned (.bool true) ∧ Below w.heap.size w w' := by
  have X1 := Lib.hid ((Blk.new w 37 (trc x s)).alloc (.cells (trc x r) 37))
  have Y1 := Lib.hid (Blk.new_at (w := w.alloc (.cells (trc x s) 37)) (n := w.heap.size + 1) (by simp) 37 (trc x r))
  have B1 := Lib.hid ((Joins.below_alloc1 w (.cells (trc x s) 37)).alloc (by simp) (.cells (trc x r) 37))
  have H1 := Lib.hid (h.step B1.out)
  have H2 := Lib.hid (h'.step B1.out)
  have HS := Lib.hid hs
  clear h h' hs
  go_enter Tryz.func7, Tryz.ntmps7
  go_upto_region 1 with fail
  obtain ⟨g, hg⟩ : ∃ g, g = w.heap.size := ⟨_, rfl⟩
  rw [← hg] at X1 Y1 ⊢
  clear hg
  generalize (w.alloc (.cells (trc x s) 37)).alloc (.cells (trc x r) 37) = V at X1 Y1 B1 H1 H2 ⊢
  have c0 : V.cell? ⟨g, 0, none⟩ = some (.int .i64 x.tx) := X1.out.cell 0
  have c1 : V.cell? ⟨g, 1, none⟩ = some (.int .i64 x.st) := X1.out.cell 1
  have c2 : V.cell? ⟨g, 2, none⟩ = some (.int .i64 x.rs) := X1.out.cell 2
  have c3 : V.cell? ⟨g, 3, none⟩ = some (.int .i64 x.sq) := X1.out.cell 3
  have c4 : V.cell? ⟨g, 4, none⟩ = some (.bool x.op) := X1.out.cell 4
  have c5 : V.cell? ⟨g, 5, none⟩ = some (.int .i64 x.sh) := X1.out.cell 5
  have c6 : V.cell? ⟨g, 6, none⟩ = some (.int .i64 x.a0) := X1.out.cell 6
  have c7 : V.cell? ⟨g, 7, none⟩ = some (.int .i64 x.a1) := X1.out.cell 7
  have c8 : V.cell? ⟨g, 8, none⟩ = some (.int .i64 x.md) := X1.out.cell 8
  have d0 : V.cell? ⟨g + 1, 0, none⟩ = some (.int .i64 x.tx) := Y1.out.cell 0
  have d1 : V.cell? ⟨g + 1, 1, none⟩ = some (.int .i64 x.st) := Y1.out.cell 1
  have d2 : V.cell? ⟨g + 1, 2, none⟩ = some (.int .i64 x.rs) := Y1.out.cell 2
  have d3 : V.cell? ⟨g + 1, 3, none⟩ = some (.int .i64 x.sq) := Y1.out.cell 3
  have d4 : V.cell? ⟨g + 1, 4, none⟩ = some (.bool x.op) := Y1.out.cell 4
  have d5 : V.cell? ⟨g + 1, 5, none⟩ = some (.int .i64 x.sh) := Y1.out.cell 5
  have d6 : V.cell? ⟨g + 1, 6, none⟩ = some (.int .i64 x.a0) := Y1.out.cell 6
  have d7 : V.cell? ⟨g + 1, 7, none⟩ = some (.int .i64 x.a1) := Y1.out.cell 7
  have d8 : V.cell? ⟨g + 1, 8, none⟩ = some (.int .i64 x.md) := Y1.out.cell 8
  obtain ⟨At, ct, et, Rt, _, _⟩ := own_rd H1.out.t
  obtain ⟨Av, cv, ev, Rv, _, _⟩ := own_rd H1.out.v
  obtain ⟨Ak, ck, ek, Rk, _, _⟩ := own_rd H1.out.k
  obtain ⟨Ag, cg, eg, Rg, _, _⟩ := own_rd H1.out.g
  obtain ⟨At', ct', et', Rt', _, _⟩ := own_rd H2.out.t
  obtain ⟨Av', cv', ev', Rv', _, _⟩ := own_rd H2.out.v
  obtain ⟨Ak', ck', ek', Rk', _, _⟩ := own_rd H2.out.k
  obtain ⟨Ag', cg', eg', Rg', _, _⟩ := own_rd H2.out.g
  have c9 : V.cell? ⟨g, 9, none⟩ = some (.slice At x.tch.length ct) := by rw [← et]; exact X1.out.cell 9
  have c10 : V.cell? ⟨g, 10, none⟩ = some (.slice Av x.vts.length cv) := by rw [← ev]; exact X1.out.cell 10
  have c11 : V.cell? ⟨g, 11, none⟩ = some (.slice Ak x.acks.length ck) := by rw [← ek]; exact X1.out.cell 11
  have c12 : V.cell? ⟨g, 12, none⟩ = some (.slice Ag x.got.length cg) := by rw [← eg]; exact X1.out.cell 12
  have d9 : V.cell? ⟨g + 1, 9, none⟩ = some (.slice At' x.tch.length ct') := by rw [← et']; exact Y1.out.cell 9
  have d10 : V.cell? ⟨g + 1, 10, none⟩ = some (.slice Av' x.vts.length cv') := by rw [← ev']; exact Y1.out.cell 10
  have d11 : V.cell? ⟨g + 1, 11, none⟩ = some (.slice Ak' x.acks.length ck') := by rw [← ek']; exact Y1.out.cell 11
  have d12 : V.cell? ⟨g + 1, 12, none⟩ = some (.slice Ag' x.got.length cg') := by rw [← eg']; exact Y1.out.cell 12
  have RR := Lib.hid (And.intro (And.intro Rt Rt') (And.intro (And.intro Rv Rv') (And.intro (And.intro Rk Rk') (And.intro Rg Rg'))))
  clear et ev ek eg et' ev' ek' eg' Rt Rv Rk Rg Rt' Rv' Rk' Rg'
  have he : ∀ W, (binOp .neq 25 (.agg #[.int .i64 x.a0, .int .i64 x.a1]) (.agg #[.int .i64 x.a0, .int .i64 x.a1])).run Tryz.prog W = .ok (.bool false) W := fun W => by rw [neq_res]; simp
  have LT := Lib.hid (And.intro HS.out.t (And.intro HS.out.v (And.intro HS.out.k HS.out.g)))
  go_upto_region 3 with fail
  clear c0 c1 c2 c3 c4 c5 c6 c7 c8 d0 d1 d2 d3 d4 d5 d6 d7 d8 he
  go_wp2_with fail
  refine (ints_same _ _ _ _ _ _ _ x.tch _ (by have := LT.out; omega) RR.out.1.1 RR.out.1.2).mono ?_
  rintro e w1 ⟨rfl, q1, rfl⟩
  have k10 : (V.drewN q1).cell? ⟨g, 10, none⟩ = some (.slice Av x.vts.length cv) := c10
  have l10 : (V.drewN q1).cell? ⟨g + 1, 10, none⟩ = some (.slice Av' x.vts.length cv') := d10
  go_wp2_with fail
  refine (ints_same _ _ _ _ _ _ _ x.vts _ (by have := LT.out; omega) (RR.out.2.1.1.drewN q1) (RR.out.2.1.2.drewN q1)).mono ?_
  rintro e w2 ⟨rfl, q2, rfl⟩
  have k11 : (V.drewN (q1 + q2)).cell? ⟨g, 11, none⟩ = some (.slice Ak x.acks.length ck) := c11
  have l11 : (V.drewN (q1 + q2)).cell? ⟨g + 1, 11, none⟩ = some (.slice Ak' x.acks.length ck') := d11
  go_wp2_with fail
  refine (ints_same _ _ _ _ _ _ _ x.acks _ (by have := LT.out; omega) (RR.out.2.2.1.1.drewN (q1 + q2)) (RR.out.2.2.1.2.drewN (q1 + q2))).mono ?_
  rintro e w3 ⟨rfl, q3, rfl⟩
  have k12 : (V.drewN (q1 + q2 + q3)).cell? ⟨g, 12, none⟩ = some (.slice Ag x.got.length cg) := c12
  have l12 : (V.drewN (q1 + q2 + q3)).cell? ⟨g + 1, 12, none⟩ = some (.slice Ag' x.got.length cg') := d12
  go_wp2_with fail
  refine (grants_same _ _ _ _ _ _ _ x.got _ (by have := LT.out; omega) HS.out.g5 rfl (RR.out.2.2.2.1.drewN (q1 + q2 + q3)) (RR.out.2.2.2.2.drewN (q1 + q2 + q3))).mono ?_
  rintro e w4 ⟨rfl, q4, rfl⟩
  go_wp2_with fail
  go_ret
  first | exact ⟨rfl, below_drewN B1.out _⟩ | exact ⟨rfl, below_drewN (below_drewN B1.out _) _⟩
end Go.Proofs.YthfhhapefjideaaGreat
