/- The document's line: Find, Same. -/
import Derived.Test.YtflnjechinfcdaaLineW
import Derived.Test.YtflnjechinfcdaaLineY
import Derived.Deep.RegionHeld
namespace Go.Proofs.Ytflnjechinfcdaa
open Go.RowKit
set_option linter.unusedVariables false
set_option linter.unusedSimpArgs false

/-- What the document's Find answers. -/
def refF (tx : Int) (L : List Wt) : Int := match idx tx L with | some k => (k : Int) | none => -1
set_option maxRecDepth 100000 in
set_option maxHeartbeats 4000000 in
theorem refFind_any (A : Option Addr) (n c B : Nat) (L : List Wt) (tx : Int) (w : World) (hn : n ≤ 1000000) (h : Reads w B 4 A n (wvs L)) : Calls Try.prog 15 #[.slice A n c, .int .i64 tx] w fun e w' => e = .returned (.int .i64 (refF tx L)) ∧ w = w' := by
  have H := Lib.hid h
  have HL := Lib.hid h.w_len
  clear h
  go_enter Try.func15, Try.ntmps15
  go_wp2_with fail
  go_loopw [5] (fun i W => ∃ k : Nat, k ≤ n ∧ i = .int .i64 k ∧ (∀ q ∈ L.take k, q.tx ≠ tx) ∧ W = w) (fun i _ => n - (RowKit.intOf i).toNat)
  case atStart => exact ⟨0, Nat.zero_le _, rfl, by simp, rfl⟩
  case round =>
    obtain ⟨k, hk, rfl, hall, rfl⟩ := hrel
    have HA := Lib.hid hall
    clear hall
    by_cases hlt : k < n
    · have hkl : k < L.length := by rw [HL.out]; exact hlt
      obtain ⟨b, off, rfl, hb, hc0, _⟩ := H.out.w_at hkl
      have HX := Lib.hid (show L[k].tx = tx → refF tx L = k from fun he => by unfold refF; rw [idx_hit hkl HA.out he])
      have HY := Lib.hid (show L[k].tx ≠ tx → ∀ q ∈ L.take (k + 1), q.tx ≠ tx from fun hne q hq => by
        rw [List.take_add_one, List.getElem?_eq_getElem hkl, Option.toList_some] at hq
        rcases List.mem_append.1 hq with hq | hq
        · exact HA.out q hq
        · rw [List.mem_singleton.1 hq]; exact hne)
      generalize L[k].tx = x at hc0 HX HY
      have d0 : decide ((k : Int) < (n : Int)) = true := by simp; omega
      clear hb
      by_cases he : x = tx
      · have e1 : (x == tx) = true := by simpa using he
        have HZ := Lib.hid (HX.out he)
        clear he HX HY
        go_wp2_with fail
        go_ret
        exact ⟨by rw [HZ.out]; rfl, rfl⟩
      · have e1 : (x == tx) = false := by simpa using he
        have HZ := Lib.hid (HY.out he)
        clear he HX HY
        go_wp2_with fail
        go_roundw
        case rel => exact ⟨k + 1, by omega, by go_num, HZ.out, trivial⟩
        case measure => simp [RowKit.intOf]; omega
    · obtain rfl : k = n := by omega
      rw [List.take_of_length_le (by rw [HL.out]; exact Nat.le_refl _)] at HA
      have HZ := Lib.hid (show refF tx L = -1 by unfold refF; rw [idx_miss HA.out])
      have d0 : decide ((k : Int) < (k : Int)) = false := by simp
      clear HA
      go_wp2_with fail
      go_ret
      exact ⟨by rw [HZ.out]; rfl, rfl⟩

theorem run_load_w {w : World} {b off : Nat} {q : Wt} (hc : ∀ (j : Nat) (v : Value), (wv q)[j]? = some v → w.cell? ((⟨b, off, none⟩ : Addr).add j) = some v) : (loadVar 33 ⟨b, off, none⟩).run Try.prog w = .ok (.agg (wc q)) w :=
  run_loadVar_cells w _ _ (wv q) _ hc Try.underlying33 rfl info_wait4
theorem take_succ_w {L M : List Wt} {k : Nat} (h : k < L.length) (h' : k < M.length) (ht : L.take k = M.take k) : L.take (k + 1) = M.take (k + 1) ↔ L[k] = M[k] := by
  rw [List.take_succ_eq_append_getElem h, List.take_succ_eq_append_getElem h', ht, List.append_cancel_left_eq]
  simp
set_option maxRecDepth 100000 in
set_option maxHeartbeats 4000000 in
theorem same_any (A A' : Option Addr) (n n' c c' B B' : Nat) (L M : List Wt) (w : World) (hn : n ≤ 1000000) (hn' : n' ≤ 1000000) (h : Reads w B 4 A n (wvs L)) (h' : Reads w B' 4 A' n' (wvs M)) :
    Calls Try.prog 13 #[.slice A n c, .slice A' n' c'] w fun e w' => e = .returned (.bool (decide (L = M))) ∧ ∃ q, w' = w.drewN q := by
  have hl := h.w_len
  have hl' := h'.w_len
  by_cases hnn : n = n'
  · subst hnn
    have e1 : ((n : Int) == (n : Int)) = true := by simp
    have H := Lib.hid h
    have H' := Lib.hid h'
    have HL := Lib.hid hl
    have HL' := Lib.hid hl'
    clear h h' hl hl' hn'
    go_enter Try.func13, Try.ntmps13
    go_wp2_with fail
    go_loopw [5] (fun i W => ∃ k q : Nat, k ≤ n ∧ i = .int .i64 k ∧ W = w.drewN q ∧ L.take k = M.take k) (fun i _ => n - (RowKit.intOf i).toNat)
    case atStart => exact ⟨0, 0, Nat.zero_le _, rfl, rfl, by simp⟩
    case round =>
      obtain ⟨k, q, hk, rfl, rfl, htk⟩ := hrel
      have HT := Lib.hid htk
      clear htk
      by_cases hlt : k < n
      · have hkl : k < L.length := by rw [HL.out]; exact hlt
        have hkm : k < M.length := by rw [HL'.out]; exact hlt
        have HX := Lib.hid (take_succ_w hkl hkm HT.out)
        have HNE := Lib.hid (show L[k] ≠ M[k] → L ≠ M from fun hne e => hne (by subst e; rfl))
        obtain ⟨b, off, rfl, hb, hc⟩ := H.out.w_cells hkl
        obtain ⟨b', off', rfl, hb', hc'⟩ := H'.out.w_cells hkm
        have HC := Lib.hid (fun (j : Nat) (v : Value) hv => (congrArg w.cell? (add_lit b (off + k * 4) j)).trans (hc j v hv))
        have HC' := Lib.hid (fun (j : Nat) (v : Value) hv => (congrArg w.cell? (add_lit b' (off' + k * 4) j)).trans (hc' j v hv))
        clear hc hc' hb hb'
        generalize L[k] = p at HX HNE HC
        generalize M[k] = p' at HX HNE HC'
        have d0 : decide ((k : Int) < (n : Int)) = true := by simp; omega
        obtain ⟨d, hd⟩ : ∃ d, d = !decide (p = p') := ⟨_, rfl⟩
        have he : ∀ W, (binOp .neq 33 (.agg (wc p)) (.agg (wc p'))).run Try.prog W = .ok (.bool d) W := fun W => by rw [hd]; exact neq_wait p p' W
        have HDD := Lib.hid hd
        clear hd
        go_wp2_with fail
        refine wp_region_held_drew (S := fun w' => ∃ q, w' = w.drewN q) (by kernel_rfl) ?_ (fun hHeld => ?_)
        · exact ⟨q + 1, rfl⟩
        refine wpAnyH_take (i := 0) (v := ?_) rfl (by kernel_rfl) (by kernel_rfl) (by kernel_rfl) (fun _ _ _ h => h) (Or.inl ⟨by rfl, ?_⟩) (by assumption) ?_
        rotate_left
        · (intro w0 hSw; (try dsimp only at hSw); go_simp; try with_reducible rfl)
        try simp only [List.getElem_toArray, List.getElem_cons_succ, List.getElem_cons_zero, Act.put, List.setIfInBounds_toArray, List.set_cons_zero, List.set_cons_succ]
        refine wpAnyH_take (i := 1) (v := ?_) rfl (by kernel_rfl) (by kernel_rfl) (by kernel_rfl) (fun _ _ _ h => h) (Or.inl ⟨by rfl, ?_⟩) (by assumption) ?_
        rotate_left
        · (intro w0 hSw; (try dsimp only at hSw); go_simp; try with_reducible rfl)
        try simp only [List.getElem_toArray, List.getElem_cons_succ, List.getElem_cons_zero, Act.put, List.setIfInBounds_toArray, List.set_cons_zero, List.set_cons_succ]
        refine wpAnyH_take (i := 2) (v := ?_) rfl (by kernel_rfl) (by kernel_rfl) (by kernel_rfl) (fun _ _ _ h => h) (Or.inl ⟨by rfl, ?_⟩) (by assumption) ?_
        rotate_left
        · (intro w0 hSw; (try dsimp only at hSw); go_simp; try with_reducible rfl)
        try simp only [List.getElem_toArray, List.getElem_cons_succ, List.getElem_cons_zero, Act.put, List.setIfInBounds_toArray, List.set_cons_zero, List.set_cons_succ]
        refine wpAnyH_take (i := 3) (v := .agg (wc p)) rfl (by kernel_rfl) (by kernel_rfl) (by kernel_rfl) (fun _ _ _ h => h) (Or.inl ⟨by rfl, ?_⟩) (by assumption) ?_
        · intro w0 hSw
          obtain ⟨q1, rfl⟩ := hSw
          exact exec_load (x := .tmp 19) rfl (ad := ⟨b, off + k * 4, none⟩) rfl (run_load_w (w := w.drewN q1) (fun j v hv => HC.out j v hv))
        try simp only [List.getElem_toArray, List.getElem_cons_succ, List.getElem_cons_zero, Act.put, List.setIfInBounds_toArray, List.set_cons_zero, List.set_cons_succ]
        go_simp
        refine wpAnyH_take (i := 4) (v := ?_) rfl (by kernel_rfl) (by kernel_rfl) (by kernel_rfl) (fun _ _ _ h => h) (Or.inl ⟨by rfl, ?_⟩) (by assumption) ?_
        rotate_left
        · (intro w0 hSw; (try dsimp only at hSw); go_simp; try with_reducible rfl)
        try simp only [List.getElem_toArray, List.getElem_cons_succ, List.getElem_cons_zero, Act.put, List.setIfInBounds_toArray, List.set_cons_zero, List.set_cons_succ]
        refine wpAnyH_take (i := 5) (v := ?_) rfl (by kernel_rfl) (by kernel_rfl) (by kernel_rfl) (fun _ _ _ h => h) (Or.inl ⟨by rfl, ?_⟩) (by assumption) ?_
        rotate_left
        · (intro w0 hSw; (try dsimp only at hSw); go_simp; try with_reducible rfl)
        try simp only [List.getElem_toArray, List.getElem_cons_succ, List.getElem_cons_zero, Act.put, List.setIfInBounds_toArray, List.set_cons_zero, List.set_cons_succ]
        refine wpAnyH_take (i := 6) (v := ?_) rfl (by kernel_rfl) (by kernel_rfl) (by kernel_rfl) (fun _ _ _ h => h) (Or.inl ⟨by rfl, ?_⟩) (by assumption) ?_
        rotate_left
        · (intro w0 hSw; (try dsimp only at hSw); go_simp; try with_reducible rfl)
        try simp only [List.getElem_toArray, List.getElem_cons_succ, List.getElem_cons_zero, Act.put, List.setIfInBounds_toArray, List.set_cons_zero, List.set_cons_succ]
        refine wpAnyH_take (i := 7) (v := .agg (wc p')) rfl (by kernel_rfl) (by kernel_rfl) (by kernel_rfl) (fun _ _ _ h => h) (Or.inl ⟨by rfl, ?_⟩) (by assumption) ?_
        · intro w0 hSw
          obtain ⟨q1, rfl⟩ := hSw
          exact exec_load (x := .tmp 23) rfl (ad := ⟨b', off' + k * 4, none⟩) rfl (run_load_w (w := w.drewN q1) (fun j v hv => HC'.out j v hv))
        try simp only [List.getElem_toArray, List.getElem_cons_succ, List.getElem_cons_zero, Act.put, List.setIfInBounds_toArray, List.set_cons_zero, List.set_cons_succ]
        go_simp
        refine wpAnyH_take (i := 8) (v := ?_) rfl (by kernel_rfl) (by kernel_rfl) (by kernel_rfl) (fun _ _ _ h => h) (Or.inl ⟨by rfl, ?_⟩) (by assumption) ?_
        rotate_left
        · (intro w0 hSw; (try dsimp only at hSw); go_simp; try with_reducible rfl)
        try simp only [List.getElem_toArray, List.getElem_cons_succ, List.getElem_cons_zero, Act.put, List.setIfInBounds_toArray, List.set_cons_zero, List.set_cons_succ]
        refine wpAnyH_done (by kernel_rfl) ?_ _
        clear hHeld
        cases d
        · have HXT := Lib.hid (HX.out.2 (by have := HDD.out; simpa using this))
          go_wp2_with fail
          go_roundw
          case rel => exact ⟨k + 1, _, by omega, by go_num, rfl, HXT.out⟩
          case measure => simp [RowKit.intOf]; omega
        · have HXT := Lib.hid (show decide (L = M) = false from decide_eq_false (HNE.out (by have := HDD.out; simpa using this)))
          go_wp2_with fail
          go_ret
          exact ⟨by rw [HXT.out]; rfl, _, rfl⟩
      · obtain rfl : k = n := by omega
        have HXT := Lib.hid (show decide (L = M) = true from decide_eq_true (by
          have := HT.out
          rwa [List.take_of_length_le (by rw [HL.out]; exact Nat.le_refl _), List.take_of_length_le (by rw [HL'.out]; exact Nat.le_refl _)] at this))
        have d0 : decide ((k : Int) < (k : Int)) = false := by simp
        go_wp2_with fail
        go_ret
        exact ⟨by rw [HXT.out]; rfl, q, rfl⟩
  · have d1 : ((n : Int) == (n' : Int)) = false := by rw [beq_eq_false_iff_ne]; omega
    have d2 : (n == n') = false := by rw [beq_eq_false_iff_ne]; omega
    have d3 : decide ((n : Int) = n') = false := by simp; omega
    have d4 : decide (n = n') = false := by simp [hnn]
    have HD := Lib.hid (show decide (L = M) = false from decide_eq_false (fun e => by subst e; omega))
    clear h h' hl hl'
    go_enter Try.func13, Try.ntmps13
    have d5 : ((n : Int) != (n' : Int)) = true := by simp; omega
    have d6 : (n != n') = true := by simp [hnn]
    go_wp2_with fail
    go_ret
    exact ⟨by rw [HD.out]; rfl, 0, rfl⟩
end Go.Proofs.Ytflnjechinfcdaa
