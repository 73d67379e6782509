/- The walk of TxnOnce. -/
import Derived.Test.YtopjkidekbfalaaTxU
import Derived.Deep.CutRange
namespace Go.Proofs.Ytopjkidekbfalaa
open Go.RowKit
set_option linter.unusedVariables false
set_option linter.unusedSimpArgs false

theorem abtL_st {x : Tr} {r : Int} : ((abtL x r).2.2 ≠ 0 → (abtL x r).1 = x) ∧ (decided x = true → (abtL x r).1 = x) ∧ ((abtL x r).1.st = x.st ∨ (abtL x r).1.st = 4) := by
  unfold abtL
  split
  · exact ⟨fun _ => rfl, fun _ => rfl, .inl rfl⟩
  · split
    · exact ⟨fun _ => rfl, fun _ => rfl, .inl rfl⟩
    · rename_i h
      exact ⟨fun h => absurd rfl h, fun hd => absurd hd h, .inr rfl⟩
theorem goOnL_st (x : Tr) : (goOnL x).1.st = x.st ∨ (goOnL x).1.st = 2 ∨ (goOnL x).1.st = 3 := by
  unfold goOnL
  split
  · exact .inr (.inl rfl)
  · split
    · exact .inl rfl
    · exact .inr (.inr rfl)
/-- An error changes nothing. -/
theorem actL_bad (x : Tr) (a : List Int) (h : (actL x a).2.2 ≠ 0) : (actL x a).1 = x := by
  unfold actL at h ⊢
  split
  · rename_i h0
    rw [if_pos h0] at h
    unfold askL at h ⊢
    split; rfl
    split; rfl
    split; rfl
    split; rfl
    rename_i h1 h2 h3 h4
    rw [if_neg h1, if_neg h2, if_neg h3, if_neg h4] at h
    exact absurd rfl h
  rename_i h0
  rw [if_neg h0] at h
  split
  · rename_i h0
    rw [if_pos h0] at h
    unfold ansL at h ⊢
    split; rfl
    split; rfl
    split; rfl
    rename_i h1 h2 h3
    rw [if_neg h1, if_neg h2, if_neg h3] at h
    exact absurd rfl h
  rename_i h0
  rw [if_neg h0] at h
  split
  · rename_i h0
    rw [if_pos h0] at h
    unfold finL at h ⊢
    split; rfl
    split; rfl
    rename_i h1 h2
    rw [if_neg h1, if_neg h2] at h
    exact absurd rfl h
  rename_i h0
  rw [if_neg h0] at h
  split
  · rename_i h0
    rw [if_pos h0] at h
    unfold votL at h ⊢
    split; rfl
    split; rfl
    split; rfl
    rename_i h1 h2 h3
    rw [if_neg h1, if_neg h2, if_neg h3] at h
    split
    · rename_i h4
      rw [if_pos h4] at h
      exact abtL_st.1 h
    · rename_i h4
      rw [if_neg h4] at h
      exact absurd rfl h
  rename_i h0
  rw [if_neg h0] at h
  split
  · rename_i h0
    rw [if_pos h0] at h
    exact abtL_st.1 h
  rename_i h0
  rw [if_neg h0] at h
  split
  · rename_i h0
    rw [if_pos h0] at h
    unfold ackL at h ⊢
    split; rfl
    split; rfl
    split; rfl
    rename_i h1 h2 h3
    rw [if_neg h1, if_neg h2, if_neg h3] at h
    exact absurd rfl h
  rfl
theorem dec_iff {x : Tr} : decided x = true ↔ x.st = 3 ∨ x.st = 4 := by unfold decided; simp
/-- What is decided is changed by acknowledgements alone. -/
theorem actL_dec (x : Tr) (a : List Int) (hd : decided x = true) : (fld a 0 ≠ 5 → (actL x a).1 = x ∧ (actL x a).2.1 = []) ∧ (actL x a).1.st = x.st ∧ (actL x a).1.rs = x.rs := by
  have hst := dec_iff.1 hd
  have habt : ∀ r, (abtL x r).1 = x ∧ (abtL x r).2.1 = [] := by
    intro r; unfold abtL
    split
    · exact ⟨rfl, rfl⟩
    · first | exact ⟨rfl, rfl⟩ | (rw [if_pos hd]; exact ⟨rfl, rfl⟩)
  have key : ∀ y : Res3, y.1 = x ∧ y.2.1 = [] → (fld a 0 ≠ 5 → y.1 = x ∧ y.2.1 = []) ∧ y.1.st = x.st ∧ y.1.rs = x.rs := fun y h => ⟨fun _ => h, by rw [h.1], by rw [h.1]⟩
  unfold actL
  split
  · refine key _ ?_
    unfold askL
    split; exact ⟨rfl, rfl⟩
    rw [if_pos (by omega)]; exact ⟨rfl, rfl⟩
  split
  · refine key _ ?_
    unfold ansL
    split; exact ⟨rfl, rfl⟩
    rw [if_pos (by omega)]; exact ⟨rfl, rfl⟩
  split
  · refine key _ ?_
    unfold finL
    rw [if_pos (by omega)]; exact ⟨rfl, rfl⟩
  split
  · refine key _ ?_
    unfold votL
    split; exact ⟨rfl, rfl⟩
    rw [if_pos (by omega)]; exact ⟨rfl, rfl⟩
  split
  · exact key _ (habt _)
  split
  · rename_i h5
    refine ⟨fun h => absurd h5 h, ?_⟩
    unfold ackL
    split; exact ⟨rfl, rfl⟩
    split; exact ⟨rfl, rfl⟩
    split; exact ⟨rfl, rfl⟩
    exact ⟨rfl, rfl⟩
  exact key _ ⟨rfl, rfl⟩
/-- It comes to an end only if it was asked to finish. -/
theorem actL_asked (x : Tr) (a : List Int) (h : (actL x a).1.st = 2 ∨ (actL x a).1.st = 3) : x.st = 2 ∨ x.st = 3 ∨ (fld a 0 = 2 ∧ (actL x a).2.2 = 0) := by
  by_cases hx : x.st = 2 ∨ x.st = 3
  · rcases hx with e | e
    · exact .inl e
    · exact .inr (.inl e)
  have hne : ∀ y : Res3, y.1.st = x.st ∨ y.1.st = 4 → ¬ (y.1.st = 2 ∨ y.1.st = 3) := fun y hy h => by omega
  unfold actL at h ⊢
  split
  · rename_i h0
    rw [if_pos h0] at h
    refine absurd h (hne _ (.inl ?_))
    unfold askL
    split; rfl
    split; rfl
    split; rfl
    split; rfl
    rfl
  rename_i h0
  rw [if_neg h0] at h
  split
  · rename_i h0
    rw [if_pos h0] at h
    refine absurd h (hne _ (.inl ?_))
    unfold ansL
    split; rfl
    split; rfl
    split; rfl
    rfl
  rename_i h0
  rw [if_neg h0] at h
  split
  · rename_i h0
    rw [if_pos h0] at h
    refine .inr (.inr ⟨h0, ?_⟩)
    unfold finL at h ⊢
    split
    · rename_i h1; rw [if_pos h1] at h; exact absurd h hx
    · split
      · rename_i h1 h2; rw [if_neg h1, if_pos h2] at h; exact absurd h hx
      · rfl
  rename_i h0
  rw [if_neg h0] at h
  split
  · rename_i h0
    rw [if_pos h0] at h
    refine absurd h (hne _ ?_)
    unfold votL
    split; exact .inl rfl
    rw [if_pos (by omega)]; exact .inl rfl
  rename_i h0
  rw [if_neg h0] at h
  split
  · rename_i h0
    rw [if_pos h0] at h
    exact absurd h (hne _ abtL_st.2.2)
  rename_i h0
  rw [if_neg h0] at h
  split
  · rename_i h0
    rw [if_pos h0] at h
    refine absurd h (hne _ (.inl ?_))
    unfold ackL
    split; rfl
    split; rfl
    split; rfl
    rfl
  rename_i h0
  rw [if_neg h0] at h
  exact absurd h hx
theorem fin_open (x : Tr) (a : List Int) (h2 : fld a 0 = 2) (h : (actL x a).2.2 = 0) : x.op = false := by
  unfold actL at h
  rw [if_neg (by omega), if_neg (by omega), if_pos h2] at h
  unfold finL at h
  split at h
  · cases h
  · split at h
    · cases h
    · rename_i h3; simpa using h3
theorem TrOk.full {x : Tr} {k : Nat} (h : TrOk x k) (h3 : x.st = 3) : x.vts.length = x.tch.length ∧ x.op = false := by
  constructor
  · have := h.com h3
    rw [without_nil] at this
    rw [ris_ext h.vts.ris h.tch.ris fun n => ⟨h.sub n, this n⟩]
  · cases ho : x.op with
    | false => rfl
    | true => have := (h.op ho).1; omega
theorem TrOk.four {x : Tr} {k : Nat} (h : TrOk x k) : decide (0 < x.rs) = (x.st == 4) := by
  by_cases h4 : x.st = 4
  · have := h.rs1 h4; rw [decide_eq_true (by omega)]; simp [h4]
  · have h1 := h.st; have := h.rs0 (by omega); rw [decide_eq_false (by omega)]; simp [h4]
set_option maxRecDepth 100000 in
set_option maxHeartbeats 32000000 in
theorem txnOnce_walk (A : Option Addr) (n c : Nat) (l : List (List Int)) (w : World) (hl : l.length = n) (ha : ∀ x ∈ l, x.length = 33) (hr : Reads w w.heap.size 33 A n (ints l.flatten)) :
    Calls Try.prog 3 #[.slice A n c] w fun e w' => e = .returned (.bool true) ∧ Below w.heap.size w w' := by
  have hnn := fun W => run_neq_nil_nil (P := Try.prog) W 32 Try.underlying32
  have hen := fun W => run_eql_nil_nil (P := Try.prog) W 32 Try.underlying32
  have H := Lib.hid hr
  have HL := Lib.hid hl
  have HA := Lib.hid ha
  clear hr hl ha
  by_cases hn : 100 < n
  · have d0 : decide ((100 : Int) < (n : Int)) = true := by simp; omega
    go_enter Try.func3, Try.ntmps3
    go_wp2_with (go_at_call 7; refine (txnAlive _).mono ?_; rintro e w0 ⟨rfl, hb0⟩; have B0 := Lib.hid hb0; clear hb0)
    go_ret
    exact ⟨rfl, B0.out⟩
  · have d0 : decide ((100 : Int) < (n : Int)) = false := by simp; omega
    go_enter Try.func3, Try.ntmps3
    go_upto_region 6 with (first
      | (go_at_call 7; refine (txnAlive _).mono ?_; rintro e w0 ⟨rfl, hb0⟩; have B0 := Lib.hid hb0; clear hb0)
      | (go_at_call 8; refine (new_ok 5 (by omega) (by omega) _).mono ?_; rintro e W1 ⟨rfl, hb⟩; have B1 := Lib.hid (stepB B0.out hb); clear hb B0)
      | (refine wpList_store_mid (by rfl) 30 (.tmp 3) (.tmp 17) (by rfl) W1.heap.size 0 (trc (newL 5) noSl) (by rfl) (by rfl) ((show Blk (W1.alloc (.cells zTr 30)) W1.heap.size 30 (trc noTr noSl) from Blk.new W1 _ _).there (Nat.le_refl 13)) (tr_info _ _) (tr_one _ _ rfl rfl rfl rfl) ?_
         have XV := Lib.hid (show Blk ((W1.alloc (.cells zTr 30)).setCells W1.heap.size 0 (trc (newL 5) noSl).toList) W1.heap.size 30 (trc (newL 5) noSl) from (show Blk (W1.alloc (.cells zTr 30)) W1.heap.size 30 (trc noTr noSl) from Blk.new W1 _ _).put _ rfl)
         have BV := Lib.hid (Below.setCells (b := W1.heap.size) (show w.heap.size ≤ W1.heap.size from B1.out.size) (trc (newL 5) noSl).toList 0 _ (stepA B1.out (.cells zTr 30)))
         have HG := Lib.hid B1.out.size
         generalize (W1.alloc (.cells zTr 30)).setCells W1.heap.size 0 (trc (newL 5) noSl).toList = WV at XV BV ⊢
         generalize W1.heap.size = g at XV HG ⊢))
    clear B1
    go_wp2_with fail
    go_loopw [5, 6, 7, 8, 9] (fun v5 i _ _ _ wr => ∃ (m : Nat) (b : Bool) (x : Tr) (s : Sl), m ≤ n ∧ i = .int .i64 m ∧ v5 = .bool b ∧ TrOk x m ∧ (x.st = 2 ∨ x.st = 3 → b = true) ∧ Blk wr g 30 (trc x s) ∧ Tm wr 0 x s ∧ Below w.heap.size w wr) (fun _ i _ _ _ _ => n - (RowKit.intOf i).toNat)
    case atStart => exact ⟨0, false, newL 5, noSl, Nat.zero_le _, rfl, rfl, TrOk.new (by omega) 0, (show (1 : Int) = 2 ∨ (1 : Int) = 3 → false = true from fun h => by omega), XV.out, Tm.new WV 0 5, BV.out⟩
    case round =>
      rename World => X
      obtain ⟨m, b, x, s, hm, rfl, rfl, hok, hask, hblk, htm, hbel⟩ := hrel
      have OKX := Lib.hid hok
      have HSK := Lib.hid hask
      have XX := Lib.hid hblk
      have TX := Lib.hid htm
      have BX := Lib.hid hbel
      clear hok hask hblk htm hbel XV BV
      by_cases hmn : m < n
      · have d3 : decide ((m : Int) < (n : Int)) = true := by simp; omega
        obtain ⟨ab, aoff, rfl, hab, ha33, hac⟩ := (H.out.below BX.out).txAct_at HA.out HL.out hmn
        have AC := Lib.hid hac
        have A33 := Lib.hid ha33
        clear hac ha33 hab
        generalize l.getD m [] = a at AC A33
        have HAI := Lib.hid (act_info A33.out)
        obtain ⟨y, ms, cc, hy⟩ : ∃ y ms cc, actL x a = (y, ms, cc) := ⟨_, _, _, rfl⟩
        have HY := Lib.hid hy
        have OKY := Lib.hid (show TrOk y (m + 1) from by have := OKX.out.act a; rwa [hy] at this)
        have F1 := Lib.hid (show fld a 0 = 2 → cc = 0 → x.op = false from fun h2 h0 => fin_open x a h2 (by rw [hy]; exact h0))
        have F2 := Lib.hid (show decided x = true → y.st = x.st ∧ y.rs = x.rs from fun hd => by have := (actL_dec x a hd).2; rwa [hy] at this)
        have F3 := Lib.hid (show y.st = 2 ∨ y.st = 3 → x.st = 2 ∨ x.st = 3 ∨ (fld a 0 = 2 ∧ cc = 0) from fun h => by have := actL_asked x a (by rw [hy]; exact h); rwa [hy] at this)
        have F5 := Lib.hid (show cc ≠ 0 → y.st = x.st from fun h => by have := actL_bad x a (by rw [hy]; exact h); rw [hy] at this; exact congrArg Tr.st this)
        clear hy
        have hgl := XX.out.lt
        have HCK := Lib.hid (show ∀ Y, Below X.heap.size X Y → ∀ j v, (ints a)[j]? = some v → Y.cell? ((⟨ab, aoff + m * 33, none⟩ : Addr).add j) = some v from fun Y hy j v hv => (hy.cell (p := (⟨ab, aoff + m * 33, none⟩ : Addr).add j) (by rw [block_of_add]; exact World.block_lt_of_cell? _ _ (AC.out j v hv) |> (by simpa [block_of_add] using ·))).trans (AC.out j v hv))
        go_upto_region 12 with fail
        go_cut [7, 8, 9] from 21 to 103 (fun v7 v8 v9 wx => ∃ (r : Nat) (s2 : Sl), v7 = .pointer (some ⟨r, 0, none⟩) ∧ v9 = .int .i64 cc ∧ Blk wx r 30 (trc y s2) ∧ Blk wx g 30 (trc x s) ∧ Tm wx 0 y s2 ∧ Below X.heap.size X wx ∧ r ≠ g)
        case first =>
          refine wp_region_held_drew (S := fun w' => Blk w' g 30 (trc x s) ∧ ∀ j v, (ints a)[j]? = some v → w'.cell? ((⟨ab, aoff + m * 33, none⟩ : Addr).add j) = some v) (by kernel_rfl) ⟨XX.out.drew, fun j v hv => AC.out j v hv⟩ (fun hHeld => ?_)
          have BD := Lib.hid (show Below X.heap.size X X.drew from (Below.refl _ _).drew)
          generalize X.drew = X1 at BD hHeld ⊢
          refine wpAnyH_take (i := 0) (v := .agg (trc x s)) rfl (by kernel_rfl) (by kernel_rfl) (by kernel_rfl) (fun _ _ _ h => h) (Or.inl ⟨by rfl, fun w0 hSw => exec_load (x := .tmp 3) rfl rfl (tr_load hSw.1)⟩) (by assumption) ?_
          try simp only [List.getElem_toArray, List.getElem_cons_succ, List.getElem_cons_zero, Act.put, List.setIfInBounds_toArray, List.set_cons_zero, List.set_cons_succ]
          refine wpAnyH_take (i := 1) (v := ?_) rfl (by kernel_rfl) (by kernel_rfl) (by kernel_rfl) (fun _ _ _ h => h) (Or.inl ⟨by rfl, ?_⟩) (by assumption) ?_
          rotate_left
          · (intro w0 hSw; (try dsimp only at hSw); go_simp; try with_reducible rfl)
          try simp only [List.getElem_toArray, List.getElem_cons_succ, List.getElem_cons_zero, Act.put, List.setIfInBounds_toArray, List.set_cons_zero, List.set_cons_succ]
          refine wpAnyH_take (i := 2) (v := ?_) rfl (by kernel_rfl) (by kernel_rfl) (by kernel_rfl) (fun _ _ _ h => h) (Or.inl ⟨by rfl, ?_⟩) (by assumption) ?_
          rotate_left
          · (intro w0 hSw; (try dsimp only at hSw); go_simp; try with_reducible rfl)
          try simp only [List.getElem_toArray, List.getElem_cons_succ, List.getElem_cons_zero, Act.put, List.setIfInBounds_toArray, List.set_cons_zero, List.set_cons_succ]
          refine wpAnyH_take (i := 3) (v := ?_) rfl (by kernel_rfl) (by kernel_rfl) (by kernel_rfl) (fun _ _ _ h => h) (Or.inl ⟨by rfl, ?_⟩) (by assumption) ?_
          rotate_left
          · (intro w0 hSw; (try dsimp only at hSw); go_simp; try with_reducible rfl)
          try simp only [List.getElem_toArray, List.getElem_cons_succ, List.getElem_cons_zero, Act.put, List.setIfInBounds_toArray, List.set_cons_zero, List.set_cons_succ]
          refine wpAnyH_take (i := 4) (v := .agg (mc a)) rfl (by kernel_rfl) (by kernel_rfl) (by kernel_rfl) (fun _ _ _ h => h) (Or.inl ⟨by rfl, fun w0 hSw => exec_load (x := .tmp 31) rfl (ad := ⟨ab, aoff + m * 33, none⟩) rfl (run_loadVar_cells w0 _ _ (ints a) _ hSw.2 Try.underlying44 rfl HAI.out)⟩) (by assumption) ?_
          try simp only [List.getElem_toArray, List.getElem_cons_succ, List.getElem_cons_zero, Act.put, List.setIfInBounds_toArray, List.set_cons_zero, List.set_cons_succ]
          refine wpAnyH_ready (rs := [5, 10]) (by kernel_rfl) (by simp) ?_
          refine AllReadyH.cons rfl (fun K hK => ?_) (AllReadyH.cons rfl (fun K hK => ?_) AllReadyH.nil)
          · go_simp
            refine (act_any x s a A33.out _ (TX.out.step BD.out) OKX.out (by omega)).mono ?_
            rintro e X2 ⟨s2, u, rfl, ht2, hu2, hb2⟩
            try go_simp
            rw [HY.out] at ht2
            simp only [HY.out]
            have T2 := Lib.hid ht2
            have E2 := Lib.hid (BD.out.trans (hb2.mono BD.out.size))
            have E2s := Lib.hid hb2
            clear ht2 hu2 hb2
            refine hK.out _ _ ⟨XX.out.here E2.out, HCK.out _ E2.out⟩ (fun hHeld => ?_)
            clear hK K

            refine wpAnyH_take (i := 6) (v := ?_) rfl (by kernel_rfl) (by kernel_rfl) (by kernel_rfl) (fun _ _ _ h => h) (Or.inl ⟨by rfl, ?_⟩) (by assumption) ?_
            rotate_left
            · (intro w0 hSw; (try dsimp only at hSw); go_simp; try with_reducible rfl)
            try simp only [List.getElem_toArray, List.getElem_cons_succ, List.getElem_cons_zero, Act.put, List.setIfInBounds_toArray, List.set_cons_zero, List.set_cons_succ]
            refine wpAnyH_take (i := 7) (v := ?_) rfl (by kernel_rfl) (by kernel_rfl) (by kernel_rfl) (fun _ _ _ h => h) (Or.inl ⟨by rfl, ?_⟩) (by assumption) ?_
            rotate_left
            · (intro w0 hSw; (try dsimp only at hSw); go_simp; try with_reducible rfl)
            try simp only [List.getElem_toArray, List.getElem_cons_succ, List.getElem_cons_zero, Act.put, List.setIfInBounds_toArray, List.set_cons_zero, List.set_cons_succ]
            refine wpAnyH_take (i := 8) (v := ?_) rfl (by kernel_rfl) (by kernel_rfl) (by kernel_rfl) (fun _ _ _ h => h) (Or.inl ⟨by rfl, ?_⟩) (by assumption) ?_
            rotate_left
            · (intro w0 hSw; (try dsimp only at hSw); go_simp; try with_reducible rfl)
            try simp only [List.getElem_toArray, List.getElem_cons_succ, List.getElem_cons_zero, Act.put, List.setIfInBounds_toArray, List.set_cons_zero, List.set_cons_succ]
            refine wpAnyH_take (i := 9) (v := ?_) rfl (by kernel_rfl) (by kernel_rfl) (by kernel_rfl) (fun _ _ _ h => h) (Or.inl ⟨by rfl, ?_⟩) (by assumption) ?_
            rotate_left
            · (intro w0 hSw; (try dsimp only at hSw); go_simp; try with_reducible rfl)
            try simp only [List.getElem_toArray, List.getElem_cons_succ, List.getElem_cons_zero, Act.put, List.setIfInBounds_toArray, List.set_cons_zero, List.set_cons_succ]
            refine wpAnyH_ready (rs := [10]) (by kernel_rfl) (by simp) ?_
            refine AllReadyH.cons rfl (fun K hK => ?_) AllReadyH.nil
            go_simp
            have E3 := Lib.hid (show Below X.heap.size X (X2.alloc (.cells zTr 30)) from E2.out.alloc E2.out.size _)
            have Z3 := Lib.hid (Blk.new X2 30 zTr)
            have T3 := Lib.hid (T2.out.step (Joins.below_alloc1 X2 (.cells zTr 30)))
            have GR := Lib.hid E2.out.size
            refine hK.out _ _ ⟨XX.out.here E3.out, HCK.out _ E3.out⟩ (fun hHeld => ?_)
            clear hK K
            generalize X2.alloc (.cells zTr 30) = X3 at E3 Z3 T3 hHeld ⊢
            generalize X2.heap.size = rb at Z3 GR ⊢
            refine wpAnyH_ready (rs := [11]) (by kernel_rfl) (by simp) ?_
            refine AllReadyH.cons rfl (fun K hK => ?_) AllReadyH.nil
            refine step_store_mid (by rfl) 30 (.tmp 7) (.tmp 34) rfl rb 0 (trc y s2) rfl rfl (Z3.out.there (Nat.le_refl 13)) (tr_info _ _) T3.out.one ?_
            have E4 := Lib.hid (show Below X.heap.size X (X3.setCells rb 0 (trc y s2).toList) from Below.setCells GR.out _ _ _ E3.out)
            have Y4 := Lib.hid (Z3.out.put (trc y s2) rfl)
            have T4 := Lib.hid (T3.out.offB Z3.out (show Turn (fun k => k = rb) X3 (X3.setCells rb 0 (trc y s2).toList) from Turn.setCells (S := fun k => k = rb) (fun _ => rfl) _ _ _ (Turn.refl _ _)))
            refine hK.out _ _ ⟨XX.out.here E4.out, HCK.out _ E4.out⟩ (fun hHeld => ?_)
            clear hK K
            generalize X3.setCells rb 0 (trc y s2).toList = X4 at E4 Y4 T4 hHeld ⊢
            refine wpAnyH_take (i := 12) (v := ?_) rfl (by kernel_rfl) (by kernel_rfl) (by kernel_rfl) (fun _ _ _ h => h) (Or.inl ⟨by rfl, ?_⟩) (by assumption) ?_
            rotate_left
            · (intro w0 hSw; (try dsimp only at hSw); go_simp; try with_reducible rfl)
            try simp only [List.getElem_toArray, List.getElem_cons_succ, List.getElem_cons_zero, Act.put, List.setIfInBounds_toArray, List.set_cons_zero, List.set_cons_succ]
            refine wpAnyH_take (i := 13) (v := ?_) rfl (by kernel_rfl) (by kernel_rfl) (by kernel_rfl) (fun _ _ _ h => h) (Or.inl ⟨by rfl, ?_⟩) (by assumption) ?_
            rotate_left
            · (intro w0 hSw; (try dsimp only at hSw); go_simp; try with_reducible rfl)
            try simp only [List.getElem_toArray, List.getElem_cons_succ, List.getElem_cons_zero, Act.put, List.setIfInBounds_toArray, List.set_cons_zero, List.set_cons_succ]
            refine wpAnyH_done (by kernel_rfl) ?_ _
            go_wp2_with fail
            go_meet
            exact ⟨_, s2, rfl, rfl, Y4.out, XX.out.here E4.out, T4.out, E4.out, by have := GR.out; have := XX.out.lt; omega⟩

          · go_simp
            have E3 := Lib.hid (show Below X.heap.size X (X1.alloc (.cells zTr 30)) from BD.out.alloc BD.out.size _)
            have Z0 := Lib.hid (Blk.new X1 30 zTr)
            have GR := Lib.hid BD.out.size
            refine hK.out _ _ ⟨XX.out.here E3.out, HCK.out _ E3.out⟩ (fun hHeld => ?_)
            clear hK K
            generalize X1.alloc (.cells zTr 30) = XA at E3 Z0 hHeld ⊢
            generalize X1.heap.size = rb at Z0 GR ⊢
            refine wpAnyH_ready (rs := [5]) (by kernel_rfl) (by simp) ?_
            refine AllReadyH.cons rfl (fun K hK => ?_) AllReadyH.nil
            go_simp
            refine (act_any x s a A33.out _ (TX.out.step E3.out) OKX.out (by omega)).mono ?_
            rintro e X2 ⟨s2, u, rfl, ht2, hu2, hb2⟩
            try go_simp
            rw [HY.out] at ht2
            simp only [HY.out]
            have T2 := Lib.hid ht2
            have E2 := Lib.hid (E3.out.trans (hb2.mono E3.out.size))
            have E2s := Lib.hid hb2
            clear ht2 hu2 hb2
            refine hK.out _ _ ⟨XX.out.here E2.out, HCK.out _ E2.out⟩ (fun hHeld => ?_)
            clear hK K

            refine wpAnyH_take (i := 6) (v := ?_) rfl (by kernel_rfl) (by kernel_rfl) (by kernel_rfl) (fun _ _ _ h => h) (Or.inl ⟨by rfl, ?_⟩) (by assumption) ?_
            rotate_left
            · (intro w0 hSw; (try dsimp only at hSw); go_simp; try with_reducible rfl)
            try simp only [List.getElem_toArray, List.getElem_cons_succ, List.getElem_cons_zero, Act.put, List.setIfInBounds_toArray, List.set_cons_zero, List.set_cons_succ]
            refine wpAnyH_take (i := 7) (v := ?_) rfl (by kernel_rfl) (by kernel_rfl) (by kernel_rfl) (fun _ _ _ h => h) (Or.inl ⟨by rfl, ?_⟩) (by assumption) ?_
            rotate_left
            · (intro w0 hSw; (try dsimp only at hSw); go_simp; try with_reducible rfl)
            try simp only [List.getElem_toArray, List.getElem_cons_succ, List.getElem_cons_zero, Act.put, List.setIfInBounds_toArray, List.set_cons_zero, List.set_cons_succ]
            refine wpAnyH_take (i := 8) (v := ?_) rfl (by kernel_rfl) (by kernel_rfl) (by kernel_rfl) (fun _ _ _ h => h) (Or.inl ⟨by rfl, ?_⟩) (by assumption) ?_
            rotate_left
            · (intro w0 hSw; (try dsimp only at hSw); go_simp; try with_reducible rfl)
            try simp only [List.getElem_toArray, List.getElem_cons_succ, List.getElem_cons_zero, Act.put, List.setIfInBounds_toArray, List.set_cons_zero, List.set_cons_succ]
            refine wpAnyH_take (i := 9) (v := ?_) rfl (by kernel_rfl) (by kernel_rfl) (by kernel_rfl) (fun _ _ _ h => h) (Or.inl ⟨by rfl, ?_⟩) (by assumption) ?_
            rotate_left
            · (intro w0 hSw; (try dsimp only at hSw); go_simp; try with_reducible rfl)
            try simp only [List.getElem_toArray, List.getElem_cons_succ, List.getElem_cons_zero, Act.put, List.setIfInBounds_toArray, List.set_cons_zero, List.set_cons_succ]
            have Z3 := Lib.hid (Z0.out.here E2s.out)
            have T3 := T2
            have E3 := E2
            generalize X2 = X3 at E3 Z3 T3 hHeld ⊢
            refine wpAnyH_ready (rs := [11]) (by kernel_rfl) (by simp) ?_
            refine AllReadyH.cons rfl (fun K hK => ?_) AllReadyH.nil
            refine step_store_mid (by rfl) 30 (.tmp 7) (.tmp 34) rfl rb 0 (trc y s2) rfl rfl (Z3.out.there (Nat.le_refl 13)) (tr_info _ _) T3.out.one ?_
            have E4 := Lib.hid (show Below X.heap.size X (X3.setCells rb 0 (trc y s2).toList) from Below.setCells GR.out _ _ _ E3.out)
            have Y4 := Lib.hid (Z3.out.put (trc y s2) rfl)
            have T4 := Lib.hid (T3.out.offB Z3.out (show Turn (fun k => k = rb) X3 (X3.setCells rb 0 (trc y s2).toList) from Turn.setCells (S := fun k => k = rb) (fun _ => rfl) _ _ _ (Turn.refl _ _)))
            refine hK.out _ _ ⟨XX.out.here E4.out, HCK.out _ E4.out⟩ (fun hHeld => ?_)
            clear hK K
            generalize X3.setCells rb 0 (trc y s2).toList = X4 at E4 Y4 T4 hHeld ⊢
            refine wpAnyH_take (i := 12) (v := ?_) rfl (by kernel_rfl) (by kernel_rfl) (by kernel_rfl) (fun _ _ _ h => h) (Or.inl ⟨by rfl, ?_⟩) (by assumption) ?_
            rotate_left
            · (intro w0 hSw; (try dsimp only at hSw); go_simp; try with_reducible rfl)
            try simp only [List.getElem_toArray, List.getElem_cons_succ, List.getElem_cons_zero, Act.put, List.setIfInBounds_toArray, List.set_cons_zero, List.set_cons_succ]
            refine wpAnyH_take (i := 13) (v := ?_) rfl (by kernel_rfl) (by kernel_rfl) (by kernel_rfl) (fun _ _ _ h => h) (Or.inl ⟨by rfl, ?_⟩) (by assumption) ?_
            rotate_left
            · (intro w0 hSw; (try dsimp only at hSw); go_simp; try with_reducible rfl)
            try simp only [List.getElem_toArray, List.getElem_cons_succ, List.getElem_cons_zero, Act.put, List.setIfInBounds_toArray, List.set_cons_zero, List.set_cons_succ]
            refine wpAnyH_done (by kernel_rfl) ?_ _
            go_wp2_with fail
            go_meet
            exact ⟨_, s2, rfl, rfl, Y4.out, XX.out.here E4.out, T4.out, E4.out, by have := GR.out; have := XX.out.lt; omega⟩

        case rest =>
          obtain ⟨r, s2, rfl, rfl, hyb, hxb, hym, hbel, hne⟩ := hcut
          have YB := Lib.hid hyb
          have XB := Lib.hid hxb
          have YM := Lib.hid hym
          have EB := Lib.hid hbel
          have NE := Lib.hid hne
          clear hyb hxb hym hbel hne
          have k0 : wc.cell? ⟨ab, aoff + m * 33, none⟩ = some (.int .i64 (fld a 0)) := by
            have h33 := A33.out
            have := HCK.out wc EB.out 0 _ (show (ints a)[0]? = some (.int .i64 (fld a 0)) from by simp [ints, fld_get (show 0 < a.length by omega)])
            simpa [Addr.add] using this
          have x1 : wc.cell? ⟨g, 1, none⟩ = some (.int .i64 x.st) := XB.out.cell 1
          have x2 : wc.cell? ⟨g, 2, none⟩ = some (.int .i64 x.rs) := XB.out.cell 2
          have x4 : wc.cell? ⟨g, 4, none⟩ = some (.bool x.op) := XB.out.cell 4
          obtain ⟨k2, hk2⟩ : ∃ k2, (fld a 0 == 2) = k2 := ⟨_, rfl⟩
          obtain ⟨c0, hc0⟩ : ∃ c0, (cc == 0) = c0 := ⟨_, rfl⟩
          have hc0' : (cc != 0) = !c0 := by rw [← hc0]; rfl
          have G1 := Lib.hid (show (k2 && c0) = true → x.op = false from fun h => by
            rw [Bool.and_eq_true] at h
            exact F1.out (by have := hk2.trans h.1; simpa using this) (by have := hc0.trans h.2; simpa using this))
          have G3 := Lib.hid (show y.st = 2 ∨ y.st = 3 → b = true ∨ (k2 && c0) = true from fun h => by
            rcases F3.out h with e | e | ⟨e1, e2⟩
            · exact .inl (HSK.out (.inl e))
            · exact .inl (HSK.out (.inr e))
            · exact .inr (by rw [← hk2, ← hc0, e1, e2]; rfl))
          have G5 := Lib.hid (show c0 = false → y.st = x.st from fun h => F5.out (by have := hc0.trans h; simpa using this))
          clear F1 F3 F5
          generalize fld a 0 = f0 at k0 hk2
          generalize wc = W0 at YB XB YM EB k0 x1 x2 x4 ⊢
          go_upto_region 13 with fail
          go_cut [46] from 21 to 103 (fun v wx => v = .bool (k2 && c0) ∧ wx = W0)
          case first =>
            cases k2 with
            | false =>
              go_wp2_with fail
              go_meet
              exact ⟨rfl, rfl⟩
            | true =>
              cases c0 with
              | false =>
                go_wp2_with fail
                go_meet
                exact ⟨rfl, rfl⟩
              | true =>
                go_wp2_with fail
                go_meet
                exact ⟨rfl, rfl⟩
          case rest =>
            obtain ⟨hv, hw⟩ := hcut
            subst hw
            rename World => W0
            clear k0
            cases hb : (k2 && c0) with
            | false =>
              rw [hb] at hv
              subst hv
              have GB := Lib.hid (show y.st = 2 ∨ y.st = 3 → b = true from fun h => (G3.out h).elim id fun e => by rw [hb] at e; cases e)
              clear hb G3 G1
              go_upto_region 17 with fail
              go_cut [64] from 21 to 103 (fun v wx => v = .bool false ∧ Below W0.heap.size W0 wx)
              case first =>
                have y1 : W0.cell? ⟨r, 1, none⟩ = some (.int .i64 y.st) := YB.out.cell 1
                have y2 : W0.cell? ⟨r, 2, none⟩ = some (.int .i64 y.rs) := YB.out.cell 2
                cases hd : decided x with
                | false =>
                  have HD := Lib.hid hd
                  have TOK := Lib.hid True.intro
                  clear hd
                  clear y1 y2 x1 x2
                  go_wp2_with (first
                    | (have _t := TOK; refine wpList_load_row rfl 30 (.tmp 3) rfl g rfl 30 (trc x s) (0, 0) _ XB.out Try.underlying30 rfl (tr_info _ _) ?_; clear _t TOK)
                    | (go_at_call 10; refine (decided_b x s _ false HD.out).mono ?_; rintro e W2 ⟨rfl, hb2⟩; have B2 := Lib.hid hb2; clear hb2))
                  go_meet
                  exact ⟨rfl, B2.out⟩
                | true =>
                  have HD := Lib.hid hd
                  have g1 : (y.st != x.st) = false := by rw [(F2.out hd).1]; simp
                  have g2 : (y.rs != x.rs) = false := by rw [(F2.out hd).2]; simp
                  clear hd
                  generalize y.st = ys at y1 g1
                  generalize y.rs = yr at y2 g2
                  generalize x.st = xs at x1 g1
                  generalize x.rs = xr at x2 g2
                  go_wp2_with (first
                    | (refine wpList_load_row rfl 30 (.tmp 3) rfl g rfl 30 (trc x s) (0, 0) _ XB.out Try.underlying30 rfl (tr_info _ _) ?_)
                    | (go_at_call 10; refine (decided_b x s _ true HD.out).mono ?_; rintro e W2 ⟨rfl, hb2⟩; have B2 := Lib.hid hb2; have y1 := (hb2.cell (p := ⟨r, 1, none⟩) YB.out.lt).trans y1; have y2 := (hb2.cell (p := ⟨r, 2, none⟩) YB.out.lt).trans y2; have x1 := (hb2.cell (p := ⟨g, 1, none⟩) XB.out.lt).trans x1; have x2 := (hb2.cell (p := ⟨g, 2, none⟩) XB.out.lt).trans x2; clear hb2))
                  go_meet
                  exact ⟨rfl, B2.out⟩
              case rest =>
                obtain ⟨rfl, hb2⟩ := hcut
                have YC := Lib.hid (YB.out.here hb2)
                have XC := Lib.hid (XB.out.here hb2)
                have YN := Lib.hid (YM.out.step hb2)
                have EC := Lib.hid (EB.out.trans (hb2.mono EB.out.size))
                clear hb2 YB XB YM EB x1 x2 x4
                generalize wc = W1 at YC XC YN EC ⊢
                go_upto_region 19 with fail
                have y1 : W1.cell? ⟨r, 1, none⟩ = some (.int .i64 y.st) := YC.out.cell 1
                go_cut [84] from 21 to 103 (fun v wx => v = .bool false ∧ wx = W1)
                case first =>
                  cases h3 : (y.st == 3) with
                  | false =>
                    generalize y.st = ys at y1 h3
                    go_wp2_with fail
                    go_meet
                    exact ⟨rfl, rfl⟩
                  | true =>
                    have h3' : y.st = 3 := by simpa using h3
                    have hB := GB.out (.inr h3')
                    have hF := OKY.out.full h3'
                    obtain ⟨At, ct, et⟩ := own_len YN.out.t
                    obtain ⟨Av, cv, ev⟩ := own_len YN.out.v
                    have y9 : W1.cell? ⟨r, 9, none⟩ = some (.slice At y.tch.length ct) := by rw [← et]; exact YC.out.cell 9
                    have y10 : W1.cell? ⟨r, 10, none⟩ = some (.slice Av y.vts.length cv) := by rw [← ev]; exact YC.out.cell 10
                    have y4 : W1.cell? ⟨r, 4, none⟩ = some (.bool false) := by rw [← hF.2]; exact YC.out.cell 4
                    have l1 : (y.vts.length != y.tch.length) = false := by rw [hF.1]; simp
                    have l2 : ((y.vts.length : Int) != (y.tch.length : Int)) = false := by rw [hF.1]; simp
                    subst hB
                    clear et ev hF h3'
                    generalize y.st = ys at y1 h3
                    generalize y.tch.length = nt at y9 l1 l2
                    generalize y.vts.length = nv at y10 l1 l2
                    go_wp2_with fail
                    go_meet
                    exact ⟨rfl, rfl⟩
                case rest =>
                  obtain ⟨rfl, hw⟩ := hcut
                  subst hw
                  rename World => W1
                  clear y1
                  go_upto_region 21 with fail
                  have y1 : W1.cell? ⟨r, 1, none⟩ = some (.int .i64 y.st) := YC.out.cell 1
                  have y2 : W1.cell? ⟨r, 2, none⟩ = some (.int .i64 y.rs) := YC.out.cell 2
                  have x1 : W1.cell? ⟨g, 1, none⟩ = some (.int .i64 x.st) := XC.out.cell 1
                  go_cut [102] from 21 to 103 (fun v wx => v = .bool false ∧ wx = W1)
                  case first =>
                    have f4 := OKY.out.four
                    obtain ⟨q4, hq4⟩ : ∃ q4, (y.st == 4) = q4 := ⟨_, rfl⟩
                    rw [hq4] at f4
                    have HG5 := G5.out
                    cases c0 with
                    | false =>
                      have g1 : (y.st != x.st) = false := by rw [HG5 rfl]; simp
                      clear HG5
                      cases q4 with
                      | false =>
                        generalize y.st = ys at y1 hq4 g1
                        generalize y.rs = yr at y2 f4
                        generalize x.st = xs at x1 g1
                        go_wp2_with fail
                        go_meet
                        exact ⟨rfl, rfl⟩
                      | true =>
                        have h4 : y.st = 4 := by simpa using hq4
                        have hx4 : x.st = 4 := by rw [h4] at g1; have : x.st = 4 := by simp at g1; exact g1.symm
                                                  exact this
                        have hrp : 0 < y.rs := by simpa using f4
                        rw [h4] at y1
                        rw [hx4] at x1
                        clear hq4 g1 f4 h4 hx4
                        generalize y.rs = yr at y2 hrp
                        have hrd : decide (0 < yr) = true := by simpa using hrp
                        have hrn : decide (yr ≤ 0) = false := by simp; omega
                        have hrq : ¬ yr ≤ 0 := by omega
                        go_wp2_with fail
                        go_meet
                        exact ⟨rfl, rfl⟩
                    | true =>
                      clear HG5
                      cases q4 with
                      | false =>
                        generalize y.st = ys at y1 hq4
                        generalize y.rs = yr at y2 f4
                        go_wp2_with fail
                        go_meet
                        exact ⟨rfl, rfl⟩
                      | true =>
                        have h4 : y.st = 4 := by simpa using hq4
                        have hrp : 0 < y.rs := by simpa using f4
                        rw [h4] at y1
                        clear hq4 f4 h4
                        generalize y.rs = yr at y2 hrp
                        have hrd : decide (0 < yr) = true := by simpa using hrp
                        have hrn : decide (yr ≤ 0) = false := by simp; omega
                        have hrq : ¬ yr ≤ 0 := by omega
                        go_wp2_with fail
                        go_meet
                        exact ⟨rfl, rfl⟩
                  case rest =>
                    obtain ⟨rfl, hw⟩ := hcut
                    subst hw
                    rename World => W1
                    go_upto_region 11 with (first
                      | (refine wpList_load_row rfl 30 (.tmp 7) rfl r rfl 30 (trc y s2) (0, 0) _ YC.out Try.underlying30 rfl (tr_info _ _) ?_)
                      | (refine wpList_store_mid (by rfl) 30 (.tmp 3) (.tmp 103) (by rfl) g 0 (trc y s2) (by rfl) (by rfl) (XC.out.there (Nat.le_refl 13)) (tr_info _ _) YN.out.one ?_
                         have E3 := Lib.hid (show Turn (fun k => k = g) W1 (W1.setCells g 0 (trc y s2).toList) from Turn.setCells (S := fun k => k = g) (fun _ => rfl) _ _ _ (Turn.refl _ _))
                         have XZ := Lib.hid (XC.out.put (trc y s2) rfl)
                         have TZ := Lib.hid (YN.out.offB XC.out E3.out)
                         have BZ := Lib.hid ((stepB BX.out EC.out).trans (E3.out.below (B := w.heap.size) (fun k hk e => by have := HG.out; omega) (Nat.le_trans BX.out.size EC.out.size)))
                         clear E3
                         generalize W1.setCells g 0 (trc y s2).toList = W4 at XZ TZ BZ ⊢))
                    go_wp2_with fail
                    go_roundw
                    case rel => exact ⟨m + 1, b, y, s2, by omega, by go_num, rfl, OKY.out, GB.out, XZ.out, TZ.out, BZ.out⟩
                    case measure => simp [RowKit.intOf]; omega

            | true =>
              rw [hb] at hv
              subst hv
              rw [G1.out hb] at x4
              have GB := Lib.hid (show y.st = 2 ∨ y.st = 3 → true = true from fun _ => rfl)
              clear hb G3 G1
              go_upto_region 17 with fail
              go_cut [64] from 21 to 103 (fun v wx => v = .bool false ∧ Below W0.heap.size W0 wx)
              case first =>
                have y1 : W0.cell? ⟨r, 1, none⟩ = some (.int .i64 y.st) := YB.out.cell 1
                have y2 : W0.cell? ⟨r, 2, none⟩ = some (.int .i64 y.rs) := YB.out.cell 2
                cases hd : decided x with
                | false =>
                  have HD := Lib.hid hd
                  have TOK := Lib.hid True.intro
                  clear hd
                  clear y1 y2 x1 x2
                  go_wp2_with (first
                    | (have _t := TOK; refine wpList_load_row rfl 30 (.tmp 3) rfl g rfl 30 (trc x s) (0, 0) _ XB.out Try.underlying30 rfl (tr_info _ _) ?_; clear _t TOK)
                    | (go_at_call 10; refine (decided_b x s _ false HD.out).mono ?_; rintro e W2 ⟨rfl, hb2⟩; have B2 := Lib.hid hb2; clear hb2))
                  go_meet
                  exact ⟨rfl, B2.out⟩
                | true =>
                  have HD := Lib.hid hd
                  have g1 : (y.st != x.st) = false := by rw [(F2.out hd).1]; simp
                  have g2 : (y.rs != x.rs) = false := by rw [(F2.out hd).2]; simp
                  clear hd
                  generalize y.st = ys at y1 g1
                  generalize y.rs = yr at y2 g2
                  generalize x.st = xs at x1 g1
                  generalize x.rs = xr at x2 g2
                  go_wp2_with (first
                    | (refine wpList_load_row rfl 30 (.tmp 3) rfl g rfl 30 (trc x s) (0, 0) _ XB.out Try.underlying30 rfl (tr_info _ _) ?_)
                    | (go_at_call 10; refine (decided_b x s _ true HD.out).mono ?_; rintro e W2 ⟨rfl, hb2⟩; have B2 := Lib.hid hb2; have y1 := (hb2.cell (p := ⟨r, 1, none⟩) YB.out.lt).trans y1; have y2 := (hb2.cell (p := ⟨r, 2, none⟩) YB.out.lt).trans y2; have x1 := (hb2.cell (p := ⟨g, 1, none⟩) XB.out.lt).trans x1; have x2 := (hb2.cell (p := ⟨g, 2, none⟩) XB.out.lt).trans x2; clear hb2))
                  go_meet
                  exact ⟨rfl, B2.out⟩
              case rest =>
                obtain ⟨rfl, hb2⟩ := hcut
                have YC := Lib.hid (YB.out.here hb2)
                have XC := Lib.hid (XB.out.here hb2)
                have YN := Lib.hid (YM.out.step hb2)
                have EC := Lib.hid (EB.out.trans (hb2.mono EB.out.size))
                clear hb2 YB XB YM EB x1 x2 x4
                generalize wc = W1 at YC XC YN EC ⊢
                go_upto_region 19 with fail
                have y1 : W1.cell? ⟨r, 1, none⟩ = some (.int .i64 y.st) := YC.out.cell 1
                go_cut [84] from 21 to 103 (fun v wx => v = .bool false ∧ wx = W1)
                case first =>
                  cases h3 : (y.st == 3) with
                  | false =>
                    generalize y.st = ys at y1 h3
                    go_wp2_with fail
                    go_meet
                    exact ⟨rfl, rfl⟩
                  | true =>
                    have h3' : y.st = 3 := by simpa using h3
                    have hB := GB.out (.inr h3')
                    have hF := OKY.out.full h3'
                    obtain ⟨At, ct, et⟩ := own_len YN.out.t
                    obtain ⟨Av, cv, ev⟩ := own_len YN.out.v
                    have y9 : W1.cell? ⟨r, 9, none⟩ = some (.slice At y.tch.length ct) := by rw [← et]; exact YC.out.cell 9
                    have y10 : W1.cell? ⟨r, 10, none⟩ = some (.slice Av y.vts.length cv) := by rw [← ev]; exact YC.out.cell 10
                    have y4 : W1.cell? ⟨r, 4, none⟩ = some (.bool false) := by rw [← hF.2]; exact YC.out.cell 4
                    have l1 : (y.vts.length != y.tch.length) = false := by rw [hF.1]; simp
                    have l2 : ((y.vts.length : Int) != (y.tch.length : Int)) = false := by rw [hF.1]; simp
                    clear hB
                    clear et ev hF h3'
                    generalize y.st = ys at y1 h3
                    generalize y.tch.length = nt at y9 l1 l2
                    generalize y.vts.length = nv at y10 l1 l2
                    go_wp2_with fail
                    go_meet
                    exact ⟨rfl, rfl⟩
                case rest =>
                  obtain ⟨rfl, hw⟩ := hcut
                  subst hw
                  rename World => W1
                  clear y1
                  go_upto_region 21 with fail
                  have y1 : W1.cell? ⟨r, 1, none⟩ = some (.int .i64 y.st) := YC.out.cell 1
                  have y2 : W1.cell? ⟨r, 2, none⟩ = some (.int .i64 y.rs) := YC.out.cell 2
                  have x1 : W1.cell? ⟨g, 1, none⟩ = some (.int .i64 x.st) := XC.out.cell 1
                  go_cut [102] from 21 to 103 (fun v wx => v = .bool false ∧ wx = W1)
                  case first =>
                    have f4 := OKY.out.four
                    obtain ⟨q4, hq4⟩ : ∃ q4, (y.st == 4) = q4 := ⟨_, rfl⟩
                    rw [hq4] at f4
                    have HG5 := G5.out
                    cases c0 with
                    | false =>
                      have g1 : (y.st != x.st) = false := by rw [HG5 rfl]; simp
                      clear HG5
                      cases q4 with
                      | false =>
                        generalize y.st = ys at y1 hq4 g1
                        generalize y.rs = yr at y2 f4
                        generalize x.st = xs at x1 g1
                        go_wp2_with fail
                        go_meet
                        exact ⟨rfl, rfl⟩
                      | true =>
                        have h4 : y.st = 4 := by simpa using hq4
                        have hx4 : x.st = 4 := by rw [h4] at g1; have : x.st = 4 := by simp at g1; exact g1.symm
                                                  exact this
                        have hrp : 0 < y.rs := by simpa using f4
                        rw [h4] at y1
                        rw [hx4] at x1
                        clear hq4 g1 f4 h4 hx4
                        generalize y.rs = yr at y2 hrp
                        have hrd : decide (0 < yr) = true := by simpa using hrp
                        have hrn : decide (yr ≤ 0) = false := by simp; omega
                        have hrq : ¬ yr ≤ 0 := by omega
                        go_wp2_with fail
                        go_meet
                        exact ⟨rfl, rfl⟩
                    | true =>
                      clear HG5
                      cases q4 with
                      | false =>
                        generalize y.st = ys at y1 hq4
                        generalize y.rs = yr at y2 f4
                        go_wp2_with fail
                        go_meet
                        exact ⟨rfl, rfl⟩
                      | true =>
                        have h4 : y.st = 4 := by simpa using hq4
                        have hrp : 0 < y.rs := by simpa using f4
                        rw [h4] at y1
                        clear hq4 f4 h4
                        generalize y.rs = yr at y2 hrp
                        have hrd : decide (0 < yr) = true := by simpa using hrp
                        have hrn : decide (yr ≤ 0) = false := by simp; omega
                        have hrq : ¬ yr ≤ 0 := by omega
                        go_wp2_with fail
                        go_meet
                        exact ⟨rfl, rfl⟩
                  case rest =>
                    obtain ⟨rfl, hw⟩ := hcut
                    subst hw
                    rename World => W1
                    go_upto_region 11 with (first
                      | (refine wpList_load_row rfl 30 (.tmp 7) rfl r rfl 30 (trc y s2) (0, 0) _ YC.out Try.underlying30 rfl (tr_info _ _) ?_)
                      | (refine wpList_store_mid (by rfl) 30 (.tmp 3) (.tmp 103) (by rfl) g 0 (trc y s2) (by rfl) (by rfl) (XC.out.there (Nat.le_refl 13)) (tr_info _ _) YN.out.one ?_
                         have E3 := Lib.hid (show Turn (fun k => k = g) W1 (W1.setCells g 0 (trc y s2).toList) from Turn.setCells (S := fun k => k = g) (fun _ => rfl) _ _ _ (Turn.refl _ _))
                         have XZ := Lib.hid (XC.out.put (trc y s2) rfl)
                         have TZ := Lib.hid (YN.out.offB XC.out E3.out)
                         have BZ := Lib.hid ((stepB BX.out EC.out).trans (E3.out.below (B := w.heap.size) (fun k hk e => by have := HG.out; omega) (Nat.le_trans BX.out.size EC.out.size)))
                         clear E3
                         generalize W1.setCells g 0 (trc y s2).toList = W4 at XZ TZ BZ ⊢))
                    go_wp2_with fail
                    go_roundw
                    case rel => exact ⟨m + 1, true, y, s2, by omega, by go_num, rfl, OKY.out, GB.out, XZ.out, TZ.out, BZ.out⟩
                    case measure => simp [RowKit.intOf]; omega

      · obtain rfl : m = n := by omega
        have d3 : decide ((m : Int) < (m : Int)) = false := by simp
        go_wp2_with fail
        go_ret
        exact ⟨rfl, BX.out⟩
end Go.Proofs.Ytopjkidekbfalaa
