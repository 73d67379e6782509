/- The document's line: Leave. -/
import Derived.Test.YtflnjechinfcdaaRef7H
namespace Go.Proofs.Ytflnjechinfcdaa
open Go.RowKit
set_option linter.unusedVariables false
set_option linter.unusedSimpArgs false

theorem results_mid {P : Program} {fn : Func} {p q r : Tmp} {ty : TypeId} (h : fn.results = #[.tmp p, .cell q ty, .tmp r]) {tmps : Array Value} {w : World} {a : Addr} {u v x : Value} (hp : tmps.getD p undef = u) (hq : tmps.getD q undef = .pointer (some a)) (hr : tmps.getD r undef = x)
    (hv : (loadVar ty a).run P w = .ok v w) : (results fn tmps).run P w = .ok (.tuple #[u, v, x]) w := by
  have hp' : tmps[p]?.getD undef = u := by simpa using hp
  have hq' : tmps[q]?.getD undef = .pointer (some a) := by simpa using hq
  have hr' : tmps[r]?.getD undef = x := by simpa using hr
  simp [results, h, hp', hq', hr', asAddr, hv]
set_option maxRecDepth 100000 in
set_option maxHeartbeats 4000000 in
theorem refLeave_none (A : Option Addr) (n cc B : Nat) (L : List Wt) (tx : Int) (w : World) (h : Reads w B 4 A n (wvs L)) (hB : B ≤ w.heap.size) (hn : n ≤ 1000) (hx : idx tx L = none) :
    Calls Try.prog 12 #[.slice A n cc, .int .i64 tx] w fun e w' => e = .returned (.tuple #[.slice A n cc, .agg (wc zW), .int .i64 10]) ∧ Below w.heap.size w w' := by
  have H := Lib.hid h
  have HB := Lib.hid hB
  have HF := Lib.hid (show refF tx L = -1 by unfold refF; rw [hx])
  have H0 := Lib.hid (Blk.new w 33 (wc zW))
  have R0 := Lib.hid ((h.alloc hB (.cells (wc zW) 33)).more (show B ≤ (w.alloc (.cells (wc zW) 33)).heap.size by simp; omega))
  clear h hx hB
  go_enter Try.func12, Try.ntmps12
  rw [wc_zero] at H0 R0
  go_wp2_with fail
  refine (refFind_any A n cc _ _ tx _ (by omega) R0.out).mono ?_
  rintro e w' ⟨rfl, rfl⟩
  rw [HF.out]
  go_wp2_with (refine wpList_store_mid (by rfl) 33 (.tmp 5) (.tmp 14) (by rfl) w.heap.size 0 (wc zW) (by rfl) (by rfl) (wc_there (p := zW) zW H0.out) (wc_info _) (wc_one _) ?_)
  exact bodyPost_ret (v := .tuple #[.slice A n cc, .agg (wc zW), .int .i64 10]) (results_mid rfl rfl rfl rfl (loadW (wc_put (p := zW) zW H0.out))) rfl ⟨rfl, Below.setCells (Nat.le_refl _) _ _ _ (Joins.below_alloc1 _ _)⟩
set_option maxRecDepth 100000 in
set_option maxHeartbeats 8000000 in
theorem refLeave_some (A : Option Addr) (n cc B : Nat) (L : List Wt) (tx : Int) (w : World) (h : Reads w B 4 A n (wvs L)) (hB : B ≤ w.heap.size) (hcc : n ≤ cc) (hn : n ≤ 1000) {k : Nat} (hx : idx tx L = some k) (hk : k < L.length) :
    Calls Try.prog 12 #[.slice A n cc, .int .i64 tx] w fun e w' => ∃ A' c', e = .returned (.tuple #[.slice A' (n - 1) c', .agg (wc L[k]), .int .i64 0]) ∧ Reads w' w'.heap.size 4 A' (n - 1) (wvs (L.eraseIdx k)) ∧ Below w.heap.size w w' ∧ n - 1 ≤ c' ∧ Kin w w' A A' := by
  have hl := h.w_len
  have hkn : k < n := by omega
  have HL := Lib.hid hl
  have HF := Lib.hid (show refF tx L = (k : Int) by unfold refF; rw [hx])
  have H0 := Lib.hid (Blk.new w 33 (wc zW))
  have R0 := Lib.hid ((h.alloc hB (.cells (wc zW) 33)).more (show B ≤ (w.alloc (.cells (wc zW) 33)).heap.size by simp; omega))
  have HR := Lib.hid (h.more hB)
  have s1 : IntKind.i64.wrap ((k : Int) + 1) = (k : Int) + 1 := IntWalk.i64_in _ (by omega)
  have d1 : decide ((k : Int) < 0) = false := by simp
  obtain ⟨i0, hi0, hz0, hz1, hz2⟩ := info_parts info_wait
  clear h hx hB
  go_enter Try.func12, Try.ntmps12
  rw [wc_zero] at H0 R0
  go_wp2_with fail
  refine (refFind_any A n cc _ _ tx _ (by omega) R0.out).mono ?_
  rintro e w' ⟨rfl, rfl⟩
  rw [HF.out]
  go_wp2_with fail
  have BV := Lib.hid (below_drewN (Joins.below_alloc1 w (.cells #[.int .i64 0, .int .i64 0, .int .i64 0, .bool false] 33)) 1)
  have XV := Lib.hid (H0.out.drewN 1)
  have RV := Lib.hid (R0.out.drewN 1)
  have HSZ := Lib.hid (show w.heap.size < ((w.alloc (.cells #[.int .i64 0, .int .i64 0, .int .i64 0, .bool false] 33)).drewN 1).heap.size from XV.out.lt)
  rw [show (w.alloc (.cells #[.int .i64 0, .int .i64 0, .int .i64 0, .bool false] 33)).heap.size = ((w.alloc (.cells #[.int .i64 0, .int .i64 0, .int .i64 0, .bool false] 33)).drewN 1).heap.size from rfl] at RV
  obtain ⟨AD, hAD⟩ : ∃ AD, AD = (if cc = k + 1 then A else A.map (·.add ((k + 1) * 4))) := ⟨_, rfl⟩
  have DK := Lib.hid (RV.out.w_drop (show k + 1 ≤ n from hkn) hcc)
  rw [← hAD] at DK
  have hkc : k ≤ cc := by omega
  have hkn1 : k + 1 ≤ n := hkn
  obtain ⟨ab, off, rfl, hbl, hc⟩ := HR.out.w_cells hk
  have HC := Lib.hid (fun X (hb : Below w.heap.size w X) => fun (j : Nat) (v : Value) hv => ((congrArg X.cell? (add_lit ab (off + k * 4) j)).trans ((hb.cell (p := ⟨ab, off + k * 4 + j, none⟩) hbl).trans (hc j v hv))))
  have TK := Lib.hid (RV.out.w_take (Nat.le_of_lt hkn))
  clear hc hbl
  generalize hq : L[k] = q at HC ⊢
  have HQ := Lib.hid hq
  clear hq
  refine wp_region_held_drew (S := fun w' => ∀ j v, (wv q)[j]? = some v → w'.cell? ((⟨ab, off + k * 4, none⟩ : Addr).add j) = some v) (by kernel_rfl) (HC.out _ BV.out) (fun hHeld => ?_)
  refine wpAnyH_take (i := 1) (v := ?_) rfl (by kernel_rfl) (by kernel_rfl) (by kernel_rfl) (fun _ _ _ h => h) (Or.inl ⟨by rfl, ?_⟩) (by assumption) ?_
  rotate_left
  · (intro w0 hSw; (try dsimp only at hSw); go_simp; try with_reducible rfl)
  try simp only [List.getElem_toArray, List.getElem_cons_succ, List.getElem_cons_zero, Act.put, List.setIfInBounds_toArray, List.set_cons_zero, List.set_cons_succ]
  refine wpAnyH_take (i := 2) (v := ?_) rfl (by kernel_rfl) (by kernel_rfl) (by kernel_rfl) (fun _ _ _ h => h) (Or.inl ⟨by rfl, ?_⟩) (by assumption) ?_
  rotate_left
  · (intro w0 hSw; (try dsimp only at hSw); go_simp; try with_reducible rfl)
  try simp only [List.getElem_toArray, List.getElem_cons_succ, List.getElem_cons_zero, Act.put, List.setIfInBounds_toArray, List.set_cons_zero, List.set_cons_succ]
  refine wpAnyH_take (i := 3) (v := ?_) rfl (by kernel_rfl) (by kernel_rfl) (by kernel_rfl) (fun _ _ _ h => h) (Or.inl ⟨by rfl, ?_⟩) (by assumption) ?_
  rotate_left
  · (intro w0 hSw; (try dsimp only at hSw); go_simp; try with_reducible rfl)
  try simp only [List.getElem_toArray, List.getElem_cons_succ, List.getElem_cons_zero, Act.put, List.setIfInBounds_toArray, List.set_cons_zero, List.set_cons_succ]
  refine wpAnyH_take (i := 5) (v := ?_) rfl (by kernel_rfl) (by kernel_rfl) (by kernel_rfl) (fun _ _ _ h => h) (Or.inl ⟨by rfl, ?_⟩) (by assumption) ?_
  rotate_left
  · (intro w0 hSw; (try dsimp only at hSw); go_simp; try with_reducible rfl)
  try simp only [List.getElem_toArray, List.getElem_cons_succ, List.getElem_cons_zero, Act.put, List.setIfInBounds_toArray, List.set_cons_zero, List.set_cons_succ]
  refine wpAnyH_take (i := 6) (v := ?_) rfl (by kernel_rfl) (by kernel_rfl) (by kernel_rfl) (fun _ _ _ h => h) (Or.inl ⟨by rfl, ?_⟩) (by assumption) ?_
  rotate_left
  · (intro w0 hSw; (try dsimp only at hSw); go_simp; try with_reducible rfl)
  try simp only [List.getElem_toArray, List.getElem_cons_succ, List.getElem_cons_zero, Act.put, List.setIfInBounds_toArray, List.set_cons_zero, List.set_cons_succ]
  refine wpAnyH_take (i := 7) (v := ?_) rfl (by kernel_rfl) (by kernel_rfl) (by kernel_rfl) (fun _ _ _ h => h) (Or.inl ⟨by rfl, ?_⟩) (by assumption) ?_
  rotate_left
  · (intro w0 hSw; (try dsimp only at hSw); go_simp; try with_reducible rfl)
  try simp only [List.getElem_toArray, List.getElem_cons_succ, List.getElem_cons_zero, Act.put, List.setIfInBounds_toArray, List.set_cons_zero, List.set_cons_succ]
  refine wpAnyH_take (i := 8) (v := .slice AD (n - (k + 1)) (cc - (k + 1))) rfl (by kernel_rfl) (by kernel_rfl) (by kernel_rfl) (fun _ _ _ h => h) (Or.inl ⟨by rfl, ?_⟩) (by assumption) ?_
  · intro w0 hSw
    rw [hAD]
    clear hSw
    go_simp
    intro h9
    exact absurd (h9 (by omega)) (by omega)
  try simp only [List.getElem_toArray, List.getElem_cons_succ, List.getElem_cons_zero, Act.put, List.setIfInBounds_toArray, List.set_cons_zero, List.set_cons_succ]
  clear hAD
  refine wpAnyH_take (i := 10) (v := ?_) rfl (by kernel_rfl) (by kernel_rfl) (by kernel_rfl) (fun _ _ _ h => h) (Or.inl ⟨by rfl, ?_⟩) (by assumption) ?_
  rotate_left
  · (intro w0 hSw; (try dsimp only at hSw); go_simp; try with_reducible rfl)
  try simp only [List.getElem_toArray, List.getElem_cons_succ, List.getElem_cons_zero, Act.put, List.setIfInBounds_toArray, List.set_cons_zero, List.set_cons_succ]
  refine wpAnyH_take (i := 11) (v := ?_) rfl (by kernel_rfl) (by kernel_rfl) (by kernel_rfl) (fun _ _ _ h => h) (Or.inl ⟨by rfl, ?_⟩) (by assumption) ?_
  rotate_left
  · (intro w0 hSw; (try dsimp only at hSw); go_simp; try with_reducible rfl)
  try simp only [List.getElem_toArray, List.getElem_cons_succ, List.getElem_cons_zero, Act.put, List.setIfInBounds_toArray, List.set_cons_zero, List.set_cons_succ]
  refine wpAnyH_take (i := 12) (v := ?_) rfl (by kernel_rfl) (by kernel_rfl) (by kernel_rfl) (fun _ _ _ h => h) (Or.inl ⟨by rfl, ?_⟩) (by assumption) ?_
  rotate_left
  · (intro w0 hSw; (try dsimp only at hSw); go_simp; try with_reducible rfl)
  try simp only [List.getElem_toArray, List.getElem_cons_succ, List.getElem_cons_zero, Act.put, List.setIfInBounds_toArray, List.set_cons_zero, List.set_cons_succ]
  refine wpAnyH_take (i := 13) (v := .agg (wc q)) rfl (by kernel_rfl) (by kernel_rfl) (by kernel_rfl) (fun _ _ _ h => h) (Or.inl ⟨by rfl, fun w0 hSw => exec_load (x := .tmp 27) rfl (ad := ⟨ab, off + k * 4, none⟩) rfl (run_load_w hSw)⟩) (by assumption) ?_
  try simp only [List.getElem_toArray, List.getElem_cons_succ, List.getElem_cons_zero, Act.put, List.setIfInBounds_toArray, List.set_cons_zero, List.set_cons_succ]
  rw [show (w.alloc (.cells #[.int .i64 0, .int .i64 0, .int .i64 0, .bool false] 33)).drew = (w.alloc (.cells #[.int .i64 0, .int .i64 0, .int .i64 0, .bool false] 33)).drewN 1 from rfl] at hHeld ⊢
  generalize (w.alloc (.cells #[.int .i64 0, .int .i64 0, .int .i64 0, .bool false] 33)).drewN 1 = V at BV XV RV TK DK HSZ hHeld ⊢
  have KV := Lib.hid (fun X (hb : Below V.heap.size V X) => stepB BV.out hb)
  have K0 := Lib.hid (Below.refl V.heap.size V)
  refine wpAnyH_ready (rs := [0]) (by kernel_rfl) (by simp) ?_
  refine AllReadyH.cons rfl (fun K hK => ?_) AllReadyH.nil
  refine step_build_w (by rfl) 0 _ rfl builds0 (by rfl) ?_
  have K1 := Lib.hid (K0.out.alloc K0.out.size (.cells #[] 33))
  have O1 := Lib.hid (own_made0 (w := V) K0.out.size)
  refine hK.out _ _ (HC.out _ (KV.out _ K1.out)) (fun hHeld => ?_)
  clear hK K hHeld
  have hHeld := HC.out _ (KV.out _ K1.out)
  generalize (Value.slice (some ⟨V.heap.size, 0, none⟩) 0 0) = v0 at O1 ⊢
  generalize V.alloc (.cells #[] 33) = X1 at K1 O1 hHeld ⊢
  refine wpAnyH_ready (rs := [4]) (by kernel_rfl) (by simp) ?_
  refine AllReadyH.cons rfl (fun K hK => ?_) AllReadyH.nil
  refine step_append_any _ rfl (.tmp 15) (.tmp 18) _ rfl V.heap.size 33 i0 _ 4 32 Try.underlying30 hi0 hz0 hz1 hz2 rfl (by omega) v0 0 [] rfl
    O1.out X1.heap.size (some ⟨ab, off, none⟩) k cc (wvs (L.take k)) rfl ((TK.out.below K1.out).more K1.out.size) (wvs_one _) (by simp only [maxLen]; omega) (by omega) K1.out.size ?_
  intro v4 X2 hown hg hv
  have K2 := Lib.hid (below_app K1.out hg O1.out (Nat.le_refl _) K1.out.size)
  have O2 := Lib.hid hown
  clear hown hg hv
  refine hK.out _ _ (HC.out _ (KV.out _ K2.out)) (fun hHeld => ?_)
  clear hK K hHeld
  have hHeld := HC.out _ (KV.out _ K2.out)
  refine wpAnyH_ready (rs := [9]) (by kernel_rfl) (by simp) ?_
  refine AllReadyH.cons rfl (fun K hK => ?_) AllReadyH.nil
  refine step_append_any _ rfl (.tmp 19) (.tmp 23) _ rfl V.heap.size 33 i0 _ 4 32 Try.underlying30 hi0 hz0 hz1 hz2 rfl (by omega) v4 (0 + k) ([] ++ wvs (L.take k)) rfl
    O2.out X2.heap.size AD (n - (k + 1)) (cc - (k + 1)) (wvs (L.drop (k + 1))) rfl ((DK.out.below K2.out).more K2.out.size) (wvs_one _) (by simp only [maxLen]; omega) (by omega) K2.out.size ?_
  intro v9 X3 hown hg hv
  have K3 := Lib.hid (below_app K2.out hg O2.out (Nat.le_refl _) K2.out.size)
  obtain ⟨A9, c9, rfl, hr9, hc9, hA9⟩ := own_w' hown (L := L.eraseIdx k) (by rw [List.nil_append, ← wvs_append, List.eraseIdx_eq_take_drop_succ])
  rw [show 0 + k + (n - (k + 1)) = n - 1 by omega] at hr9 hc9 hA9 ⊢
  have R9 := Lib.hid hr9
  have C9 := Lib.hid (And.intro hc9 hA9)
  clear hown hg hv hr9 hc9 hA9
  refine hK.out _ _ (HC.out _ (KV.out _ K3.out)) (fun hHeld => ?_)
  clear hK K hHeld
  have hHeld := HC.out _ (KV.out _ K3.out)
  have X3B := Lib.hid (XV.out.here K3.out)
  refine wpAnyH_take (i := 14) (v := ?_) rfl (by kernel_rfl) (by kernel_rfl) (by kernel_rfl) (fun _ _ _ h => h) (Or.inl ⟨by rfl, ?_⟩) (by assumption) ?_
  rotate_left
  · (intro w0 hSw; (try dsimp only at hSw); go_simp; try with_reducible rfl)
  try simp only [List.getElem_toArray, List.getElem_cons_succ, List.getElem_cons_zero, Act.put, List.setIfInBounds_toArray, List.set_cons_zero, List.set_cons_succ]
  refine wpAnyH_ready (rs := [15]) (by kernel_rfl) (by simp) ?_
  refine AllReadyH.cons rfl (fun K hK => ?_) AllReadyH.nil
  refine step_store_mid (by rfl) 33 (.tmp 5) (.tmp 28) (by rfl) w.heap.size 0 (wc q) (by rfl) (by rfl) (wc_there (p := zW) q X3B.out) (wc_info _) (wc_one _) ?_
  have BE := Lib.hid (show Below w.heap.size w (X3.setCells w.heap.size 0 (wc q).toList) from Below.setCells (Nat.le_refl _) _ _ _ (KV.out _ K3.out))
  have XE := Lib.hid (wc_put (p := zW) q X3B.out)
  have RE := Lib.hid (show Reads (X3.setCells w.heap.size 0 (wc q).toList) (X3.setCells w.heap.size 0 (wc q).toList).heap.size 4 A9 (n - 1) (wvs (L.eraseIdx k)) from
    (R9.out.turn (S := fun x => x = w.heap.size) (Turn.setCells (S := fun x => x = w.heap.size) (fun _ => rfl) _ _ _ (Turn.refl _ _)) (Nat.le_refl _) (fun ad he e => by have := (C9.out.2 ad he).1; have := HSZ.out; omega)).more (by have := (Turn.setCells (S := fun x => x = w.heap.size) (fun _ => rfl) (wc q).toList 0 _ (Turn.refl _ X3)).size; exact this))
  have Z9 := Lib.hid (show ∀ ad, A9 = some ad → ad.block < (X3.setCells w.heap.size 0 (wc q).toList).heap.size from fun ad he => Nat.lt_of_lt_of_le (C9.out.2 ad he).2.1 (Turn.setCells (S := fun x => x = w.heap.size) (fun _ => rfl) (wc q).toList 0 _ (Turn.refl _ X3)).size)
  refine hK.out _ _ (HC.out _ BE.out) (fun hHeld => ?_)
  clear hK K hHeld
  have hHeld := HC.out _ BE.out
  generalize X3.setCells w.heap.size 0 (wc q).toList = X4 at BE XE RE Z9 hHeld ⊢
  refine wpAnyH_take (i := 16) (v := ?_) rfl (by kernel_rfl) (by kernel_rfl) (by kernel_rfl) (fun _ _ _ h => h) (Or.inl ⟨by rfl, ?_⟩) (by assumption) ?_
  rotate_left
  · (intro w0 hSw; (try dsimp only at hSw); go_simp; try with_reducible rfl)
  try simp only [List.getElem_toArray, List.getElem_cons_succ, List.getElem_cons_zero, Act.put, List.setIfInBounds_toArray, List.set_cons_zero, List.set_cons_succ]
  refine wpAnyH_done (by kernel_rfl) ?_ _
  clear hHeld
  go_wp2_with fail
  exact bodyPost_ret (v := .tuple #[.slice A9 (n - 1) c9, .agg (wc q), .int .i64 0]) (results_mid rfl rfl rfl rfl (loadW XE.out)) rfl ⟨A9, c9, by rw [HQ.out], RE.out, BE.out, by have := C9.out.1; omega, .inr fun ad he => ⟨Nat.le_trans (Nat.le_of_lt HSZ.out) (C9.out.2 ad he).1, Z9.out ad he⟩⟩
end Go.Proofs.Ytflnjechinfcdaa
