/- The document's Renew and End. -/
import Derived.Test.YthbjcaenkgjfaaaRefL
namespace Go.Proofs.Ythbjcaenkgjfaaa
open Go.RowKit
set_option linter.unusedVariables false
set_option linter.unusedSimpArgs false

/-- A pair at an address is loaded whole. -/
theorem load_pair {X : World} {b o : Nat} {x y : Int} (h0 : X.cell? ⟨b, o, none⟩ = some (.int .i64 x)) (h1 : X.cell? ⟨b, o + 1, none⟩ = some (.int .i64 y)) : (loadVar 33 ⟨b, o, none⟩).run Try.prog X = .ok (.agg #[.int .i64 x, .int .i64 y]) X := by
  refine run_loadVar_cells X _ _ [.int .i64 x, .int .i64 y] _ (fun j v hj => ?_) Try.underlying33 rfl (by kernel_rfl)
  rcases j with _ | _ | j
  · simp at hj; subst hj; exact h0
  · simp at hj; subst hj; exact h1
  · simp at hj
theorem pair_cells {X : World} {b o : Nat} {x y : Int} (h0 : X.cell? ⟨b, o, none⟩ = some (.int .i64 x)) (h1 : X.cell? ⟨b, o + 1, none⟩ = some (.int .i64 y)) : ∀ j v, [Value.int .i64 x, .int .i64 y][j]? = some v → X.cell? ((⟨b, o, none⟩ : Addr).add j) = some v := by
  intro j v hj
  rcases j with _ | _ | j
  · simp at hj; subst hj; exact h0
  · simp at hj; subst hj; exact h1
  · simp at hj
/-- What Renew leaves. -/
def rnOk (k now : Int) : Bool := decide (1 ≤ k) && isT now
def rnL (k now : Int) (L : List IP) : List IP := if rnOk k now then renL k now L else L
def rnC (k now : Int) : Int := if rnOk k now then 0 else 1
set_option maxRecDepth 100000 in
set_option maxHeartbeats 8000000 in
theorem refRenew_any {L : List IP} (hris : Rising L) (hL : L.length ≤ 1000000) (A : Option Addr) (n c B : Nat) (k now : Int) (w : World) (h : Reads w B 2 A n (prs L)) (hB : B ≤ w.heap.size) :
    Calls Try.prog 15 #[.slice A n c, .int .i64 k, .int .i64 now] w fun e w' => ∃ A' n' c', e = .returned (.tuple #[.slice A' n' c', .int .i64 (rnC k now)]) ∧ Reads w' w'.heap.size 2 A' n' (prs (rnL k now L)) ∧ Below w.heap.size w w' := by
  have hl := h.prs_len
  have H := Lib.hid h
  have HL := Lib.hid hl
  have HRI := Lib.hid hris
  have hn : n ≤ 1000000 := by omega
  obtain ⟨i0, hi0, hz0, hz1, hz2⟩ := info_parts info_lease
  clear h hl hL hris
  by_cases hk : k < 1
  · have d1 : decide (k < 1) = true := by simpa using hk
    have e0 : rnOk k now = false := by unfold rnOk; simp; omega
    have e1 : rnC k now = 1 := by unfold rnC; rw [e0]; rfl
    have e2 : rnL k now L = L := by unfold rnL; rw [e0]; rfl
    rw [e1, e2]
    clear e0 e1 e2 hk
    go_enter Try.func15, Try.ntmps15
    go_wp2_with fail
    go_ret2
    exact ⟨_, _, _, rfl, H.out.more hB, Below.refl _ _⟩
  · have d1 : decide (k < 1) = false := by simpa using hk
    cases ht : isT now
    · have e0 : rnOk k now = false := by unfold rnOk; rw [ht]; simp
      have e1 : rnC k now = 1 := by unfold rnC; rw [e0]; rfl
      have e2 : rnL k now L = L := by unfold rnL; rw [e0]; rfl
      rw [e1, e2]
      have HN := Lib.hid ht
      clear e0 e1 e2 hk ht
      go_enter Try.func15, Try.ntmps15
      go_wp2_with (go_at_call 24; refine (refTime_any _ _).mono ?_; rintro e w' ⟨rfl, rfl⟩; rw [HN.out])
      go_ret2
      exact ⟨_, _, _, rfl, H.out.more hB, Below.refl _ _⟩
    · have e0 : rnOk k now = true := by unfold rnOk; rw [ht]; simp; omega
      have e1 : rnC k now = 0 := by unfold rnC; rw [e0]; rfl
      have e2 : rnL k now L = renL k now L := by unfold rnL; rw [e0]; rfl
      rw [e1, e2]
      have hT := isT_iff.1 ht
      have HN := Lib.hid ht
      clear e0 e1 e2 hk ht
      go_enter Try.func15, Try.ntmps15
      go_wp2_with (go_at_call 24; refine (refTime_any _ _).mono ?_; rintro e w' ⟨rfl, rfl⟩; rw [HN.out])
      go_loopw [8, 9, 10] (fun v u i wr => ∃ m : Nat, m ≤ n ∧ i = .int .i64 m ∧ u = .bool (foldR k now (L.take m)).2 ∧ wr.ownsRow w.heap.size 33 2 v (foldR k now (L.take m)).1.length (prs (foldR k now (L.take m)).1) ∧ Below w.heap.size w wr) (fun _ _ i _ => n - (RowKit.intOf i).toNat)
      case atStart => exact ⟨0, Nat.zero_le _, rfl, rfl, World.ownsRow_nil _ _ _ _, Below.refl _ _⟩
      case round =>
        obtain ⟨m, hm, rfl, rfl, hrow, hbel⟩ := hrel
        have HR := Lib.hid hrow
        have HX := Lib.hid hbel
        clear hrow hbel
        have HF := Lib.hid (foldR_len k now (L.take m))
        by_cases hlt : m < n
        · have hkl : m < L.length := by rw [HL.out]; exact hlt
          have hlen : (foldR k now (L.take m)).1.length ≤ 2000000 := by have := HF.out; rw [List.length_take] at this; omega
          obtain ⟨b, off, rfl, hb, hc1, hc2⟩ := ((H.out.more hB).below HX.out).pair_at hkl
          have HS := Lib.hid (foldR_succ k now hkl)
          have d0 : decide ((m : Int) < (n : Int)) = true := by simp; omega
          generalize L[m] = p at hc1 hc2 HS
          obtain ⟨x, s⟩ := p
          simp only at hc1 hc2
          generalize foldR k now (L.take m) = z at HR HS hlen
          obtain ⟨O, f⟩ := z
          simp only at HR hlen
          by_cases he : x = k
          · subst he
            have d2 : decide (x < x) = false := by simp
            have d3 : (x == x) = true := by simp
            by_cases hs : now < s
            · have d4 : decide (now < s) = true := by simpa using hs
              have HS2 := Lib.hid (HS.out.trans (show stepR x now (O, f) (x, s) = (O ++ [(x, s)], true) by unfold stepR; rw [if_pos rfl, if_pos hs]))
              go_wp2_with (first
                | (refine wpList_load_cells rfl 33 (.tmp 59) rfl ⟨b, off + m * 2, none⟩ rfl [.int .i64 x, .int .i64 s] _ (pair_cells hc1 hc2) Try.underlying33 rfl (by kernel_rfl) ?_)
                | (at_builtin; refine wpList_append_wide _ rfl (.tmp 56) (.tmp 61) _ rfl w.heap.size 33 i0 _ 2 16 Try.underlying30 hi0 hz0 hz1 hz2 rfl (by omega) _ (O).length (prs (O)) rfl (HR.out.alloc _) _ (some ⟨_, 0, none⟩) 1 1 (prs [(x, s)]) rfl (reads_newPair _ _ _ _) (prs_one _) (by (try simp only [List.length_append, List.length_cons, List.length_nil]); simp only [maxLen]; omega) (by (try simp only [List.length_append, List.length_cons, List.length_nil]); omega) (by have := HX.out.size; simp; omega) ?_; intro v9 w9 hown9 hg9; have O9 := Lib.hid hown9; have B9 := Lib.hid (below_own (HX.out.alloc HX.out.size _) hg9 (HR.out.alloc _) (Nat.le_refl _) (by have := HX.out.size; simp; omega)); clear hown9 hg9))
              go_roundw
              case rel =>
                refine ⟨m + 1, by omega, by go_num, by rw [HS2.out], ?_, B9.out⟩
                rw [HS2.out, prs_append, List.length_append]
                exact O9.out
              case measure => simp [RowKit.intOf]; omega
            · have d4 : decide (now < s) = false := by simpa using hs
              have HS2 := Lib.hid (HS.out.trans (show stepR x now (O, f) (x, s) = (O ++ [(x, now)], true) by unfold stepR; rw [if_pos rfl, if_neg hs]))
              go_wp2_with (at_builtin; refine wpList_append_wide _ rfl (.tmp 63) (.tmp 67) _ rfl w.heap.size 33 i0 _ 2 16 Try.underlying30 hi0 hz0 hz1 hz2 rfl (by omega) _ (O).length (prs (O)) rfl (HR.out.alloc _) _ (some ⟨_, 0, none⟩) 1 1 (prs [(x, now)]) rfl (reads_newPair _ _ _ _) (prs_one _) (by (try simp only [List.length_append, List.length_cons, List.length_nil]); simp only [maxLen]; omega) (by (try simp only [List.length_append, List.length_cons, List.length_nil]); omega) (by have := HX.out.size; simp; omega) ?_; intro v9 w9 hown9 hg9; have O9 := Lib.hid hown9; have B9 := Lib.hid (below_own (HX.out.alloc HX.out.size _) hg9 (HR.out.alloc _) (Nat.le_refl _) (by have := HX.out.size; simp; omega)); clear hown9 hg9)
              go_roundw
              case rel =>
                refine ⟨m + 1, by omega, by go_num, by rw [HS2.out], ?_, B9.out⟩
                rw [HS2.out, prs_append, List.length_append]
                exact O9.out
              case measure => simp [RowKit.intOf]; omega
          · have d3 : (x == k) = false := by simpa using he
            by_cases hgt : k < x
            · have d2 : decide (k < x) = true := by simpa using hgt
              cases f
              · have HS2 := Lib.hid (HS.out.trans (show stepR k now (O, false) (x, s) = (O ++ [(k, now)] ++ [(x, s)], true) by unfold stepR; rw [if_neg he, if_pos ⟨hgt, rfl⟩]))
                go_wp2_with (first
                | (at_builtin; refine wpList_append_wide _ rfl (.tmp 36) (.tmp 40) _ rfl w.heap.size 33 i0 _ 2 16 Try.underlying30 hi0 hz0 hz1 hz2 rfl (by omega) _ (O).length (prs (O)) rfl (HR.out.alloc _) _ (some ⟨_, 0, none⟩) 1 1 (prs [(k, now)]) rfl (reads_newPair _ _ _ _) (prs_one _) (by (try simp only [List.length_append, List.length_cons, List.length_nil]); simp only [maxLen]; omega) (by (try simp only [List.length_append, List.length_cons, List.length_nil]); omega) (by have := HX.out.size; simp; omega) ?_; intro v9 w9 hown9 hg9; have O9 := Lib.hid hown9; have B9 := Lib.hid (below_own (HX.out.alloc HX.out.size _) hg9 (HR.out.alloc _) (Nat.le_refl _) (by have := HX.out.size; simp; omega)); have c91 := (B9.out.cell (p := ⟨b, off + m * 2, none⟩) hb).trans ((HX.out.cell (p := ⟨b, off + m * 2, none⟩) hb).symm.trans hc1); have c92 := (B9.out.cell (p := ⟨b, off + m * 2 + 1, none⟩) hb).trans ((HX.out.cell (p := ⟨b, off + m * 2 + 1, none⟩) hb).symm.trans hc2); have P9 := Lib.hid (show w9.ownsRow w.heap.size 33 2 v9 (O ++ [(k, now)]).length (prs (O ++ [(k, now)])) by rw [prs_append, List.length_append]; exact O9.out); clear hown9 hg9)
                | (refine wpList_load_cells rfl 33 (.tmp 72) rfl ⟨b, off + m * 2, none⟩ rfl [.int .i64 x, .int .i64 s] _ (pair_cells c91 c92) Try.underlying33 rfl (by kernel_rfl) ?_)
                | (at_builtin; refine wpList_append_wide _ rfl (.tmp 69) (.tmp 74) _ rfl w.heap.size 33 i0 _ 2 16 Try.underlying30 hi0 hz0 hz1 hz2 rfl (by omega) _ (O ++ [(k, now)]).length (prs (O ++ [(k, now)])) rfl (P9.out.alloc _) _ (some ⟨_, 0, none⟩) 1 1 (prs [(x, s)]) rfl (reads_newPair _ _ _ _) (prs_one _) (by (try simp only [List.length_append, List.length_cons, List.length_nil]); simp only [maxLen]; omega) (by (try simp only [List.length_append, List.length_cons, List.length_nil]); omega) (by have := B9.out.size; simp; omega) ?_; intro v10 w10 hown10 hg10; have O10 := Lib.hid hown10; have B10 := Lib.hid (below_own (B9.out.alloc B9.out.size _) hg10 (P9.out.alloc _) (Nat.le_refl _) (by have := B9.out.size; simp; omega)); clear hown10 hg10))
                go_roundw
                case rel =>
                  refine ⟨m + 1, by omega, by go_num, by rw [HS2.out], ?_, B10.out⟩
                  rw [HS2.out, prs_append, List.length_append]
                  exact O10.out
                case measure => simp [RowKit.intOf]; omega
              · have HS2 := Lib.hid (HS.out.trans (show stepR k now (O, true) (x, s) = (O ++ [(x, s)], true) by unfold stepR; rw [if_neg he, if_neg (by simp)]))
                go_wp2_with (first
                | (refine wpList_load_cells rfl 33 (.tmp 72) rfl ⟨b, off + m * 2, none⟩ rfl [.int .i64 x, .int .i64 s] _ (pair_cells hc1 hc2) Try.underlying33 rfl (by kernel_rfl) ?_)
                | (at_builtin; refine wpList_append_wide _ rfl (.tmp 69) (.tmp 74) _ rfl w.heap.size 33 i0 _ 2 16 Try.underlying30 hi0 hz0 hz1 hz2 rfl (by omega) _ (O).length (prs (O)) rfl (HR.out.alloc _) _ (some ⟨_, 0, none⟩) 1 1 (prs [(x, s)]) rfl (reads_newPair _ _ _ _) (prs_one _) (by (try simp only [List.length_append, List.length_cons, List.length_nil]); simp only [maxLen]; omega) (by (try simp only [List.length_append, List.length_cons, List.length_nil]); omega) (by have := HX.out.size; simp; omega) ?_; intro v9 w9 hown9 hg9; have O9 := Lib.hid hown9; have B9 := Lib.hid (below_own (HX.out.alloc HX.out.size _) hg9 (HR.out.alloc _) (Nat.le_refl _) (by have := HX.out.size; simp; omega)); clear hown9 hg9))
                go_roundw
                case rel =>
                  refine ⟨m + 1, by omega, by go_num, by rw [HS2.out], ?_, B9.out⟩
                  rw [HS2.out, prs_append, List.length_append]
                  exact O9.out
                case measure => simp [RowKit.intOf]; omega
            · have d2 : decide (k < x) = false := by simpa using hgt
              have HS2 := Lib.hid (HS.out.trans (show stepR k now (O, f) (x, s) = (O ++ [(x, s)], f) by unfold stepR; rw [if_neg he, if_neg (by omega)]))
              go_wp2_with (first
                | (refine wpList_load_cells rfl 33 (.tmp 72) rfl ⟨b, off + m * 2, none⟩ rfl [.int .i64 x, .int .i64 s] _ (pair_cells hc1 hc2) Try.underlying33 rfl (by kernel_rfl) ?_)
                | (at_builtin; refine wpList_append_wide _ rfl (.tmp 69) (.tmp 74) _ rfl w.heap.size 33 i0 _ 2 16 Try.underlying30 hi0 hz0 hz1 hz2 rfl (by omega) _ (O).length (prs (O)) rfl (HR.out.alloc _) _ (some ⟨_, 0, none⟩) 1 1 (prs [(x, s)]) rfl (reads_newPair _ _ _ _) (prs_one _) (by (try simp only [List.length_append, List.length_cons, List.length_nil]); simp only [maxLen]; omega) (by (try simp only [List.length_append, List.length_cons, List.length_nil]); omega) (by have := HX.out.size; simp; omega) ?_; intro v9 w9 hown9 hg9; have O9 := Lib.hid hown9; have B9 := Lib.hid (below_own (HX.out.alloc HX.out.size _) hg9 (HR.out.alloc _) (Nat.le_refl _) (by have := HX.out.size; simp; omega)); clear hown9 hg9))
              go_roundw
              case rel =>
                refine ⟨m + 1, by omega, by go_num, by rw [HS2.out], ?_, B9.out⟩
                rw [HS2.out, prs_append, List.length_append]
                exact O9.out
              case measure => simp [RowKit.intOf]; omega
        · obtain rfl : m = n := by omega
          have hlen : (foldR k now (L.take m)).1.length ≤ 2000000 := by have := HF.out; rw [List.length_take] at this; omega
          have hend := foldR_end k now hT.1 HRI.out
          rw [List.take_of_length_le (by rw [HL.out]; omega)] at HR hlen ⊢
          have HE := Lib.hid hend
          clear hend HF
          generalize foldR k now L = z at HR HE hlen ⊢
          obtain ⟨O, f⟩ := z
          simp only at HR HE hlen
          have d0 : decide ((m : Int) < (m : Int)) = false := by simp
          cases f
          · go_wp2_with (at_builtin; refine wpList_append_wide _ rfl (.tmp 78) (.tmp 82) _ rfl w.heap.size 33 i0 _ 2 16 Try.underlying30 hi0 hz0 hz1 hz2 rfl (by omega) _ (O).length (prs (O)) rfl (HR.out.alloc _) _ (some ⟨_, 0, none⟩) 1 1 (prs [(k, now)]) rfl (reads_newPair _ _ _ _) (prs_one _) (by (try simp only [List.length_append, List.length_cons, List.length_nil]); simp only [maxLen]; omega) (by (try simp only [List.length_append, List.length_cons, List.length_nil]); omega) (by have := HX.out.size; simp; omega) ?_; intro v9 w9 hown9 hg9; have O9 := Lib.hid hown9; have B9 := Lib.hid (below_own (HX.out.alloc HX.out.size _) hg9 (HR.out.alloc _) (Nat.le_refl _) (by have := HX.out.size; simp; omega)); clear hown9 hg9)
            go_ret2
            have he := HE.out
            rw [if_neg (by simp)] at he
            rw [← he, prs_append]
            have O10 : w9.ownsRow w.heap.size 33 2 v9 (O.length + 1) (prs (O ++ [(k, now)])) := by rw [prs_append]; exact O9.out
            obtain ⟨A', c', rfl, hR⟩ := own_pairs O10
            rw [prs_append] at hR
            exact ⟨_, _, _, rfl, hR, B9.out⟩
          · have he := HE.out
            rw [if_pos rfl] at he
            obtain ⟨A', c', rfl, hR⟩ := own_pairs HR.out
            have HRR := Lib.hid hR
            clear hR
            go_wp2_with fail
            go_ret2
            rw [← he]
            first | exact ⟨_, _, _, rfl, HRR.out, HX.out⟩ | exact ⟨_, _, ⟨_, rfl⟩, HRR.out, HX.out⟩

/-! ### End -/
def enC (k : Int) (L : List IP) : Int := match atL k L with | some _ => 0 | none => 10
theorem del_at {k s : Int} : ∀ {L : List IP}, atL k L = some s → (delL k L).length ≠ L.length
  | [], h => by cases h
  | p :: r, h => by
    unfold delL
    rw [List.filter_cons]
    by_cases he : p.1 = k
    · rw [if_neg (by simp [he])]
      have := List.length_filter_le (fun p : IP => decide (p.1 ≠ k)) r
      simp only [List.length_cons]; omega
    · rw [if_pos (by simp [he])]
      have h2 : atL k r = some s := by unfold atL at h; rwa [if_neg he] at h
      have := del_at h2
      unfold delL at this
      simp only [List.length_cons]; omega
theorem delL_succ (k : Int) {L : List IP} {i : Nat} (h : i < L.length) : delL k (L.take (i + 1)) = delL k (L.take i) ++ (if L[i].1 ≠ k then [L[i]] else []) := by
  unfold delL
  rw [List.take_add_one, List.getElem?_eq_getElem h, Option.toList_some, List.filter_append, List.filter_cons]
  by_cases hd : L[i].1 = k <;> simp [hd]
set_option maxRecDepth 100000 in
set_option maxHeartbeats 8000000 in
theorem refEnd_any {L : List IP} (hL : L.length ≤ 1000000) (A : Option Addr) (n c B : Nat) (k : Int) (w : World) (h : Reads w B 2 A n (prs L)) (hB : B ≤ w.heap.size) :
    Calls Try.prog 17 #[.slice A n c, .int .i64 k] w fun e w' => ∃ A' n' c', e = .returned (.tuple #[.slice A' n' c', .int .i64 (enC k L)]) ∧ Reads w' w'.heap.size 2 A' n' (prs (delL k L)) ∧ Below w.heap.size w w' := by
  have hl := h.prs_len
  have H := Lib.hid h
  have HL := Lib.hid hl
  have hn : n ≤ 1000000 := by omega
  obtain ⟨i0, hi0, hz0, hz1, hz2⟩ := info_parts info_lease
  clear h hl hL
  generalize hec : enC k L = ec
  have HEC := Lib.hid hec
  clear hec
  go_enter Try.func17, Try.ntmps17
  go_wp2_with fail
  go_loopw [6, 7] (fun v i wr => ∃ m : Nat, m ≤ n ∧ i = .int .i64 m ∧ wr.ownsRow w.heap.size 33 2 v (delL k (L.take m)).length (prs (delL k (L.take m))) ∧ Below w.heap.size w wr) (fun _ i _ => n - (RowKit.intOf i).toNat)
  case atStart => exact ⟨0, Nat.zero_le _, rfl, World.ownsRow_nil _ _ _ _, Below.refl _ _⟩
  case round =>
    obtain ⟨m, hm, rfl, hrow, hbel⟩ := hrel
    have HR := Lib.hid hrow
    have HX := Lib.hid hbel
    clear hrow hbel
    by_cases hlt : m < n
    · have hkl : m < L.length := by rw [HL.out]; exact hlt
      have hlen : (delL k (L.take m)).length ≤ 1000000 := Nat.le_trans (List.length_filter_le _ _) (by rw [List.length_take]; omega)
      obtain ⟨b, off, rfl, hb, hc1, hc2⟩ := ((H.out.more hB).below HX.out).pair_at hkl
      have HS := Lib.hid (delL_succ k hkl)
      have d0 : decide ((m : Int) < (n : Int)) = true := by simp; omega
      generalize L[m] = p at hc1 hc2 HS
      obtain ⟨x, s⟩ := p
      simp only at hc1 hc2
      generalize delL k (L.take m) = O at HR HS hlen
      by_cases he : x = k
      · have d3 : (x == k) = true := by simpa using he
        have HS2 := Lib.hid (HS.out.trans (by rw [if_neg (by simp [he]), List.append_nil]))
        clear he
        go_wp2_with fail
        go_roundw
        case rel => exact ⟨m + 1, by omega, by go_num, by rw [HS2.out]; exact HR.out, HX.out⟩
        case measure => simp [RowKit.intOf]; omega
      · have d3 : (x == k) = false := by simpa using he
        have HS2 := Lib.hid (HS.out.trans (show _ = O ++ [(x, s)] by rw [if_pos (by simpa using he)]))
        clear he
        go_wp2_with (first
                | (refine wpList_load_cells rfl 33 (.tmp 24) rfl ⟨b, off + m * 2, none⟩ rfl [.int .i64 x, .int .i64 s] _ (pair_cells hc1 hc2) Try.underlying33 rfl (by kernel_rfl) ?_)
                | (at_builtin; refine wpList_append_wide _ rfl (.tmp 21) (.tmp 26) _ rfl w.heap.size 33 i0 _ 2 16 Try.underlying30 hi0 hz0 hz1 hz2 rfl (by omega) _ (O).length (prs (O)) rfl (HR.out.alloc _) _ (some ⟨_, 0, none⟩) 1 1 (prs [(x, s)]) rfl (reads_newPair _ _ _ _) (prs_one _) (by simp only [maxLen]; omega) (by omega) (by have := HX.out.size; simp; omega) ?_; intro v9 w9 hown9 hg9; have O9 := Lib.hid hown9; have B9 := Lib.hid (below_own (HX.out.alloc HX.out.size _) hg9 (HR.out.alloc _) (Nat.le_refl _) (by have := HX.out.size; simp; omega)); clear hown9 hg9))
        go_roundw
        case rel =>
          refine ⟨m + 1, by omega, by go_num, ?_, B9.out⟩
          rw [HS2.out, prs_append, List.length_append]
          exact O9.out
        case measure => simp [RowKit.intOf]; omega
    · obtain rfl : m = n := by omega
      have d0 : decide ((m : Int) < (m : Int)) = false := by simp
      rw [List.take_of_length_le (by rw [HL.out]; omega)] at HR
      obtain ⟨A', c', rfl, hR⟩ := own_pairs HR.out
      have HRR := Lib.hid hR
      clear hR
      cases hs : atL k L with
      | none =>
        obtain rfl : ec = 10 := HEC.out.symm.trans (by unfold enC; rw [hs])
        have e2 := del_none hs
        have d5 : (((delL k L).length : Int) == (m : Int)) = true := by
          have := HL.out
          rw [e2]; simp; omega
        have E2 := Lib.hid e2
        clear e2 hs
        have H2 := Lib.hid ((H.out.more hB).below HX.out)
        go_wp2_with fail
        go_ret2
        rw [E2.out]
        first | exact ⟨_, _, _, rfl, H2.out.more HX.out.size, HX.out⟩ | exact ⟨_, _, ⟨_, rfl⟩, H2.out.more HX.out.size, HX.out⟩
      | some s =>
        obtain rfl : ec = 0 := HEC.out.symm.trans (by unfold enC; rw [hs])
        have d5 : (((delL k L).length : Int) == (m : Int)) = false := by
          have := del_at hs
          rw [HL.out] at this
          simp; omega
        clear hs
        go_wp2_with fail
        go_ret2
        first | exact ⟨_, _, _, rfl, HRR.out, HX.out⟩ | exact ⟨_, _, ⟨_, rfl⟩, HRR.out, HX.out⟩
end Go.Proofs.Ythbjcaenkgjfaaa
