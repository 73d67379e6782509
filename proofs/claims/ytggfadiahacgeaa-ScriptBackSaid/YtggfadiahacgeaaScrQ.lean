/- The walk of ScriptBack. -/
import Derived.Test.YtggfadiahacgeaaScrP
namespace Go.Proofs.Ytggfadiahacgeaa
open Go.RowKit
set_option linter.unusedVariables false
set_option linter.unusedSimpArgs false

/-- Two rows of entries that read alike, and what else lies in memory. -/
structure TwoS (w W : World) (A A' : Option Addr) (n : Nat) (ls : List (List Int)) : Prop where
  a : Reads W W.heap.size 6 A n (ints ls.flatten)
  b : Reads W W.heap.size 6 A' n (ints ls.flatten)
  bel : Below w.heap.size w W
theorem TwoS.step {w W W' : World} {A A' : Option Addr} {n : Nat} {ls : List (List Int)} (h : TwoS w W A A' n ls) (hb : Below W.heap.size W W') : TwoS w W' A A' n ls := ⟨reads_stepE h.a hb, reads_stepE h.b hb, stepB h.bel hb⟩
theorem TwoS.drewN {w W : World} {A A' : Option Addr} {n : Nat} {ls : List (List Int)} (h : TwoS w W A A' n ls) (q : Nat) : TwoS w (W.drewN q) A A' n ls := ⟨h.a, h.b, below_drewN h.bel q⟩
theorem info_ent9L (a b c d e f : Value) : (Try.prog.info? 31).map (·.size) = some [a, b, c, d, e, f].length := by kernel_rfl
theorem own_rowE {w : World} {base n : Nat} {t : TypeId} {v : Value} {xs : List Value} (h : w.ownsRow base t 1 v n xs) : ∃ A cap, v = .slice A n cap ∧ Reads w w.heap.size 1 A n xs ∧ n ≤ cap := by
  obtain ⟨A, cap, e, hr, hc, _⟩ := own_el h
  exact ⟨A, cap, e, hr, hc⟩
theorem flat_take_succ {L : List (List Int)} {k : Nat} (h : k < L.length) : ints (L.take (k + 1)).flatten = ints (L.take k).flatten ++ ints (L.getD k []) := by
  rw [List.take_add_one, List.getElem?_eq_getElem h, List.getD_eq_getElem?_getD, List.getElem?_eq_getElem h, List.flatten_append, ints_app]
  simp

theorem FirstBadE.none {L : List (List Int)} {j : Nat} (h : FirstBadE L j) (ho : ∀ x ∈ L, okL x = true) : False := by
  have h1 := h.bad
  have hl := h.lt
  rw [List.getD_eq_getElem?_getD, List.getElem?_eq_getElem hl] at h1
  have := ho _ (List.getElem_mem hl)
  rw [show ((some (L[j]'hl)).getD [] : List Int) = L[j]'hl from rfl, this] at h1
  cases h1
set_option maxRecDepth 100000 in
set_option maxHeartbeats 8000000 in
theorem scriptBack_walk (A : Option Addr) (n cap : Nat) (l : List UInt8) (A' : Option Addr) (m cap' : Nat) (L : List (List Int)) (hcap : n ≤ cap) (w : World) (h : Reads w w.heap.size 1 A n (u8s l)) (h' : Reads w w.heap.size 6 A' m (ints L.flatten)) (hall : ∀ x ∈ L, x.length = 6) (hL : L.length = m) :
    Calls Try.prog 4 #[.slice A n cap, .slice A' m cap'] w fun e w' => e = .returned (.bool true) ∧ Below w.heap.size w w' := by
  by_cases hbig : 5000 < n
  · have d1 : decide ((5000 : Int) < (n : Int)) = true := decide_eq_true (by omega)
    have d2 : decide (5000 < n) = true := decide_eq_true hbig
    clear h h' hall hL
    go_enter Try.func4, Try.ntmps4
    go_wp2_with (go_at_call 6; refine (scrAlive _).mono ?_; rintro e w1 ⟨rfl, hb⟩; have B1 := Lib.hid hb; clear hb)
    go_ret
    exact ⟨rfl, B1.out⟩
  have d1 : decide ((5000 : Int) < (n : Int)) = false := decide_eq_false (by omega)
  have d2 : decide (5000 < n) = false := decide_eq_false hbig
  by_cases hbig' : 500 < m
  · have d3 : decide ((500 : Int) < (m : Int)) = true := decide_eq_true (by omega)
    have d4 : decide (500 < m) = true := decide_eq_true hbig'
    clear h h' hall hL
    go_enter Try.func4, Try.ntmps4
    go_wp2_with (go_at_call 6; refine (scrAlive _).mono ?_; rintro e w1 ⟨rfl, hb⟩; have B1 := Lib.hid hb; clear hb)
    go_ret
    exact ⟨rfl, B1.out⟩
  have d3 : decide ((500 : Int) < (m : Int)) = false := decide_eq_false (by omega)
  have d4 : decide (500 < m) = false := decide_eq_false hbig'
  obtain ⟨i1, hi1, hy0, hy1, hy2⟩ := info_parts info_entry
  obtain ⟨N, hN⟩ : ∃ N, N = (n + 4) / 5 := ⟨_, rfl⟩
  have HM := Lib.hid (show n ≤ 5000 ∧ m ≤ 500 ∧ N ≤ 1001 ∧ n ≤ cap from ⟨by omega, by omega, by omega, hcap⟩)
  have hn2 : n ≤ 5000 := HM.out.1
  have hm2 : m ≤ 500 := HM.out.2.1
  have hN2 : N ≤ 1001 := HM.out.2.2.1
  have HEN := Lib.hid (show (entsL l).length = N from by rw [entsL_length, h.u8_len, hN])
  have t1 : IntKind.i64.wrap ((n : Int) + 4) = (n : Int) + 4 := IntWalk.i64_in _ (by omega)
  have t2 : ((n : Int) + 4).tdiv 5 = (N : Int) := by rw [Int.tdiv_eq_ediv_of_nonneg (by omega)]; omega
  have t3 : IntKind.i64.wrap (N : Int) = (N : Int) := IntWalk.i64_in _ (by omega)
  have H := Lib.hid h
  have H' := Lib.hid h'
  have HA := Lib.hid hall
  have HL := Lib.hid hL
  have hn0 := fun W => run_neq_nil_nil (P := Try.prog) W 38 Try.underlying38
  clear h h' hall hL hbig hbig' hN hcap
  go_enter Try.func4, Try.ntmps4
  go_upto_region 6 with (first
    | (go_at_call 6; refine (scrAlive _).mono ?_; rintro e w1 ⟨rfl, hb⟩; have B1 := Lib.hid hb; have H1 := Lib.hid (reads_stepE H.out hb); clear hb)
    | (go_at_call 7; refine (parse_any A n cap l HM.out.2.2.2 (by have := HM.out; omega) _ H1.out).mono ?_; rintro e w2 ⟨v2, rfl, hown, hb⟩; obtain ⟨A2, c2, rfl, hr2, _⟩ := own_ents hown; have B2 := Lib.hid (stepB B1.out hb); have R2 := Lib.hid hr2; clear hown hb hr2))
  have HE := Lib.hid (show (∀ x ∈ entsL l, x.length = 6) ∧ (∀ x ∈ entsL l, okL x = true) from ⟨entN_all _ _, entN_ok _ _⟩)
  rw [HEN.out] at R2 ⊢
  go_wp2_with fail
  refine (encode_any A2 N c2 (entsL l) _ R2.out HE.out.1 HEN.out (by omega)).mono ?_
  rintro e w3 (⟨v3, hk, rfl, ho3, hb3⟩ | ⟨j, b, hj, _, _, _, _⟩)
  case no =>
    exact (hj.none HE.out.2).elim
  obtain ⟨A3, c3, rfl, hr3, hc3⟩ := own_rowE ho3
  have B3 := Lib.hid (stepB B2.out hb3)
  have R3 := Lib.hid hr3
  have C3 := Lib.hid hc3
  have R32 := Lib.hid (reads_stepE R2.out hb3)
  clear ho3 hb3 hr3 hc3 hk
  have EW := Lib.hid (ents_wr HE.out.1 HE.out.2)
  go_wp2_with (go_at_call 7; refine (parse_any A3 (N * 5) c3 (wrL (entsL l)) C3.out (by omega) _ R3.out).mono ?_; rintro e w4 ⟨v4, rfl, hown, hb⟩; rw [EW.out, HEN.out] at hown; obtain ⟨A4, c4, rfl, hr4, _⟩ := own_ents hown; have T4 := Lib.hid (show TwoS w w4 A2 A4 N (entsL l) from ⟨reads_stepE R32.out hb, hr4, stepB B3.out hb⟩); clear hown hb hr4)
  go_loopw [9] (fun i W => ∃ k : Nat, k ≤ N ∧ i = .int .i64 k ∧ TwoS w W A2 A4 N (entsL l)) (fun i _ => N - (intOf i).toNat)
  case atStart => exact ⟨0, Nat.zero_le _, rfl, T4.out⟩
  case round =>
    obtain ⟨k, hk, rfl, ht⟩ := hrel
    rename World => W
    have T := Lib.hid ht
    clear ht
    have hk2 : k ≤ 2000 := by omega
    by_cases hlt : k < N
    · obtain ⟨b, off, rfl, hb, hc⟩ := ent_cells T.out.a HE.out.1 HEN.out hlt
      obtain ⟨b', off', rfl, hb', hc'⟩ := ent_cells T.out.b HE.out.1 HEN.out hlt
      have hg : (entsL l).getD k [] = entAt l k := entN_getD (by have := HEN.out; rw [entsL_length] at this; omega)
      have hok := entAt_ok l k
      rw [hg] at hc hc'
      obtain ⟨e0, e1, e2, e3, e4, e5, hee⟩ := six_ints (entAt_length l k)
      rw [hee, ok_lit] at hok
      have HOK := Lib.hid hok
      have KA := Lib.hid (hc _ _ _ _ _ _ hee)
      have KB := Lib.hid (hc' _ _ _ _ _ _ hee)
      have q := neq_entS e0 e1 e2 e3 e4 e5 e0 e1 e2 e3 e4 e5 false (by simp)
      have gq := guard_ent
      have d5 : decide ((k : Int) < (N : Int)) = true := decide_eq_true (by omega)
      have d6 : decide (k < N) = true := decide_eq_true hlt
      have KY := Lib.hid (show ∀ Y, Below W.heap.size W Y → _ from fun Y hy => And.intro ((hy.cell (p := ⟨b, off + k * 6, none⟩) hb).trans KA.out.1) (And.intro ((hy.cell (p := ⟨b, off + k * 6 + 1, none⟩) hb).trans KA.out.2.1) (And.intro ((hy.cell (p := ⟨b, off + k * 6 + 2, none⟩) hb).trans KA.out.2.2.1) (And.intro ((hy.cell (p := ⟨b, off + k * 6 + 3, none⟩) hb).trans KA.out.2.2.2.1) (And.intro ((hy.cell (p := ⟨b, off + k * 6 + 4, none⟩) hb).trans KA.out.2.2.2.2.1) (And.intro ((hy.cell (p := ⟨b, off + k * 6 + 5, none⟩) hb).trans KA.out.2.2.2.2.2)
        (And.intro ((hy.cell (p := ⟨b', off' + k * 6, none⟩) hb').trans KB.out.1) (And.intro ((hy.cell (p := ⟨b', off' + k * 6 + 1, none⟩) hb').trans KB.out.2.1) (And.intro ((hy.cell (p := ⟨b', off' + k * 6 + 2, none⟩) hb').trans KB.out.2.2.1) (And.intro ((hy.cell (p := ⟨b', off' + k * 6 + 3, none⟩) hb').trans KB.out.2.2.2.1) (And.intro ((hy.cell (p := ⟨b', off' + k * 6 + 4, none⟩) hb').trans KB.out.2.2.2.2.1) ((hy.cell (p := ⟨b', off' + k * 6 + 5, none⟩) hb').trans KB.out.2.2.2.2.2))))))))))))
      clear hc hc' hg hee KA KB hb hb' hok
      go_upto_region 13 with fail
      refine wp_region_held_drew (S := fun Y => Y.cell? ⟨b, off + k * 6, none⟩ = some (.int .i64 e0) ∧ Y.cell? ⟨b, off + k * 6 + 1, none⟩ = some (.int .i64 e1) ∧ Y.cell? ⟨b, off + k * 6 + 2, none⟩ = some (.int .i64 e2) ∧ Y.cell? ⟨b, off + k * 6 + 3, none⟩ = some (.int .i64 e3) ∧ Y.cell? ⟨b, off + k * 6 + 4, none⟩ = some (.int .i64 e4) ∧ Y.cell? ⟨b, off + k * 6 + 5, none⟩ = some (.int .i64 e5) ∧
        Y.cell? ⟨b', off' + k * 6, none⟩ = some (.int .i64 e0) ∧ Y.cell? ⟨b', off' + k * 6 + 1, none⟩ = some (.int .i64 e1) ∧ Y.cell? ⟨b', off' + k * 6 + 2, none⟩ = some (.int .i64 e2) ∧ Y.cell? ⟨b', off' + k * 6 + 3, none⟩ = some (.int .i64 e3) ∧ Y.cell? ⟨b', off' + k * 6 + 4, none⟩ = some (.int .i64 e4) ∧ Y.cell? ⟨b', off' + k * 6 + 5, none⟩ = some (.int .i64 e5)) (by kernel_rfl) ?_ (fun hHeld => ?_)
      · exact KY.out _ (Below.refl _ _).drew
      refine wpAnyH_take (i := 0) (v := ?_) rfl (by kernel_rfl) (by kernel_rfl) (by kernel_rfl) (fun _ _ _ h => h) (Or.inl ⟨by rfl, ?_⟩) (by assumption) ?_
      rotate_left
      · (intro w0 hSw; (try dsimp only at hSw); go_simp; try with_reducible rfl)
      try simp only [List.getElem_toArray, List.getElem_cons_succ, List.getElem_cons_zero, Act.put, List.setIfInBounds_toArray, List.set_cons_zero, List.set_cons_succ]
      refine wpAnyH_take (i := 1) (v := ?_) rfl (by kernel_rfl) (by kernel_rfl) (by kernel_rfl) (fun _ _ _ h => h) (Or.inl ⟨by rfl, ?_⟩) (by assumption) ?_
      rotate_left
      · (intro w0 hSw; (try dsimp only at hSw); go_simp; try with_reducible rfl)
      try simp only [List.getElem_toArray, List.getElem_cons_succ, List.getElem_cons_zero, Act.put, List.setIfInBounds_toArray, List.set_cons_zero, List.set_cons_succ]
      refine wpAnyH_take (i := 2) (v := ?_) rfl (by kernel_rfl) (by kernel_rfl) (by kernel_rfl) (fun _ _ _ h => h) (Or.inl ⟨by rfl, ?_⟩) (by assumption) ?_
      rotate_left
      · (intro w0 hSw; (try dsimp only at hSw); go_simp; try with_reducible rfl)
      try simp only [List.getElem_toArray, List.getElem_cons_succ, List.getElem_cons_zero, Act.put, List.setIfInBounds_toArray, List.set_cons_zero, List.set_cons_succ]
      refine wpAnyH_take (i := 3) (v := ?_) rfl (by kernel_rfl) (by kernel_rfl) (by kernel_rfl) (fun _ _ _ h => h) (Or.inl ⟨by rfl, ?_⟩) (by assumption) ?_
      rotate_left
      · (intro w0 hSw; (try dsimp only at hSw); go_simp; try with_reducible rfl)
      try simp only [List.getElem_toArray, List.getElem_cons_succ, List.getElem_cons_zero, Act.put, List.setIfInBounds_toArray, List.set_cons_zero, List.set_cons_succ]
      refine wpAnyH_take (i := 4) (v := ?_) rfl (by kernel_rfl) (by kernel_rfl) (by kernel_rfl) (fun _ _ _ h => h) (Or.inl ⟨by rfl, ?_⟩) (by assumption) ?_
      rotate_left
      · (intro w0 hSw; (try dsimp only at hSw); go_simp; try with_reducible rfl)
      try simp only [List.getElem_toArray, List.getElem_cons_succ, List.getElem_cons_zero, Act.put, List.setIfInBounds_toArray, List.set_cons_zero, List.set_cons_succ]
      refine wpAnyH_take (i := 5) (v := ?_) rfl (by kernel_rfl) (by kernel_rfl) (by kernel_rfl) (fun _ _ _ h => h) (Or.inl ⟨by rfl, ?_⟩) (by assumption) ?_
      rotate_left
      · (intro w0 hSw; (try dsimp only at hSw); go_simp; try with_reducible rfl)
      try simp only [List.getElem_toArray, List.getElem_cons_succ, List.getElem_cons_zero, Act.put, List.setIfInBounds_toArray, List.set_cons_zero, List.set_cons_succ]
      refine wpAnyH_take (i := 6) (v := ?_) rfl (by kernel_rfl) (by kernel_rfl) (by kernel_rfl) (fun _ _ _ h => h) (Or.inl ⟨by rfl, ?_⟩) (by assumption) ?_
      rotate_left
      · (intro w0 hSw; (try dsimp only at hSw); go_simp; try with_reducible rfl)
      try simp only [List.getElem_toArray, List.getElem_cons_succ, List.getElem_cons_zero, Act.put, List.setIfInBounds_toArray, List.set_cons_zero, List.set_cons_succ]
      refine wpAnyH_take (i := 7) (v := ?_) rfl (by kernel_rfl) (by kernel_rfl) (by kernel_rfl) (fun _ _ _ h => h) (Or.inl ⟨by rfl, ?_⟩) (by assumption) ?_
      rotate_left
      · (intro w0 hSw; (try dsimp only at hSw); go_simp; try with_reducible rfl)
      try simp only [List.getElem_toArray, List.getElem_cons_succ, List.getElem_cons_zero, Act.put, List.setIfInBounds_toArray, List.set_cons_zero, List.set_cons_succ]
      refine wpAnyH_take (i := 8) (v := ?_) rfl (by kernel_rfl) (by kernel_rfl) (by kernel_rfl) (fun _ _ _ h => h) (Or.inl ⟨by rfl, ?_⟩) (by assumption) ?_
      rotate_left
      · (intro w0 hSw; (try dsimp only at hSw); go_simp; try with_reducible rfl)
      try simp only [List.getElem_toArray, List.getElem_cons_succ, List.getElem_cons_zero, Act.put, List.setIfInBounds_toArray, List.set_cons_zero, List.set_cons_succ]
      refine wpAnyH_take (i := 9) (v := ?_) rfl (by kernel_rfl) (by kernel_rfl) (by kernel_rfl) (fun _ _ _ h => h) (Or.inl ⟨by rfl, ?_⟩) (by assumption) ?_
      rotate_left
      · (intro w0 hSw; (try dsimp only at hSw); go_simp; try with_reducible rfl)
      try simp only [List.getElem_toArray, List.getElem_cons_succ, List.getElem_cons_zero, Act.put, List.setIfInBounds_toArray, List.set_cons_zero, List.set_cons_succ]
      refine wpAnyH_take (i := 10) (v := ?_) rfl (by kernel_rfl) (by kernel_rfl) (by kernel_rfl) (fun _ _ _ h => h) (Or.inl ⟨by rfl, ?_⟩) (by assumption) ?_
      rotate_left
      · (intro w0 hSw; (try dsimp only at hSw); go_simp; try with_reducible rfl)
      try simp only [List.getElem_toArray, List.getElem_cons_succ, List.getElem_cons_zero, Act.put, List.setIfInBounds_toArray, List.set_cons_zero, List.set_cons_succ]
      refine wpAnyH_take (i := 11) (v := ?_) rfl (by kernel_rfl) (by kernel_rfl) (by kernel_rfl) (fun _ _ _ h => h) (Or.inl ⟨by rfl, ?_⟩) (by assumption) ?_
      rotate_left
      · (intro w0 hSw; (try dsimp only at hSw); go_simp; try with_reducible rfl)
      try simp only [List.getElem_toArray, List.getElem_cons_succ, List.getElem_cons_zero, Act.put, List.setIfInBounds_toArray, List.set_cons_zero, List.set_cons_succ]
      refine wpAnyH_take (i := 12) (v := ?_) rfl (by kernel_rfl) (by kernel_rfl) (by kernel_rfl) (fun _ _ _ h => h) (Or.inl ⟨by rfl, ?_⟩) (by assumption) ?_
      rotate_left
      · (intro w0 hSw; (try dsimp only at hSw); go_simp; try with_reducible rfl)
      try simp only [List.getElem_toArray, List.getElem_cons_succ, List.getElem_cons_zero, Act.put, List.setIfInBounds_toArray, List.set_cons_zero, List.set_cons_succ]
      refine wpAnyH_take (i := 13) (v := ?_) rfl (by kernel_rfl) (by kernel_rfl) (by kernel_rfl) (fun _ _ _ h => h) (Or.inl ⟨by rfl, ?_⟩) (by assumption) ?_
      rotate_left
      · (intro w0 hSw; (try dsimp only at hSw); go_simp; try with_reducible rfl)
      try simp only [List.getElem_toArray, List.getElem_cons_succ, List.getElem_cons_zero, Act.put, List.setIfInBounds_toArray, List.set_cons_zero, List.set_cons_succ]
      refine wpAnyH_ready (rs := [14]) (by kernel_rfl) (by simp) ?_
      refine AllReadyH.cons rfl (fun K hK => ?_) AllReadyH.nil
      go_simp
      refine (sOk_any e0 e1 e2 e3 e4 e5 _ HOK.out _).mono ?_
      rintro x9 w9 ⟨rfl, hb9⟩
      have hbW : Below W.heap.size W w9 := ⟨hb9.os, hb9.tape, hb9.output, hb9.size, hb9.block⟩
      have T9 := Lib.hid (T.out.step hbW)
      try go_simp
      refine hK.out _ _ (KY.out _ hbW) (fun hHeld => ?_)
      clear hK K hb9 hbW
      refine wpAnyH_take (i := 15) (v := ?_) rfl (by kernel_rfl) (by kernel_rfl) (by kernel_rfl) (fun _ _ _ h => h) (Or.inl ⟨by rfl, ?_⟩) (by assumption) ?_
      rotate_left
      · (intro w0 hSw; (try dsimp only at hSw); go_simp; try with_reducible rfl)
      try simp only [List.getElem_toArray, List.getElem_cons_succ, List.getElem_cons_zero, Act.put, List.setIfInBounds_toArray, List.set_cons_zero, List.set_cons_succ]
      refine wpAnyH_take (i := 16) (v := ?_) rfl (by kernel_rfl) (by kernel_rfl) (by kernel_rfl) (fun _ _ _ h => h) (Or.inl ⟨by rfl, ?_⟩) (by assumption) ?_
      rotate_left
      · (intro w0 hSw; (try dsimp only at hSw); go_simp; try with_reducible rfl)
      try simp only [List.getElem_toArray, List.getElem_cons_succ, List.getElem_cons_zero, Act.put, List.setIfInBounds_toArray, List.set_cons_zero, List.set_cons_succ]
      refine wpAnyH_done (by kernel_rfl) ?_ _
      clear hHeld
      go_wp2_with fail
      go_roundw
      case rel => exact ⟨k + 1, by omega, by go_num, T9.out⟩
      case measure => simp [intOf]; omega
    · have d5 : decide ((k : Int) < (N : Int)) = false := decide_eq_false (by omega)
      have d6 : decide (k < N) = false := decide_eq_false hlt
      have BW := Lib.hid T.out.bel
      clear T hlt hk hk2 B1 H1 B2 R2 B3 R3 C3 R32 T4 EW
      go_wp2_with fail
      go_loopw [10, 11] (fun v i U => ∃ k : Nat, k ≤ m ∧ i = .int .i64 k ∧ U.ownsRow w.heap.size 35 6 v k (ints (L.take k).flatten) ∧ Below w.heap.size w U) (fun _ i _ => m - (intOf i).toNat)
      case atStart => exact ⟨0, Nat.zero_le _, rfl, World.ownsRow_nil _ _ _ _, BW.out⟩
      case round =>
        obtain ⟨k, hk, rfl, ho, hb⟩ := hrel
        rename World => U
        have O := Lib.hid ho
        have B := Lib.hid hb
        have hk2 : k ≤ 500 := by omega
        clear ho hb
        by_cases hlt : k < m
        · obtain ⟨b, off, rfl, hbb, hc⟩ := ent_cells H'.out HA.out HL.out hlt
          have hkl : k < L.length := by rw [HL.out]; exact hlt
          have hl6 : (L.getD k []).length = 6 := by rw [List.getD_eq_getElem?_getD, List.getElem?_eq_getElem hkl]; exact HA.out _ (List.getElem_mem hkl)
          obtain ⟨e0, e1, e2, e3, e4, e5, hee⟩ := six_ints hl6
          have KC := Lib.hid (ex_cells (w := U) (by obtain ⟨h0, h1, h2, h3, h4, h5⟩ := hc _ _ _ _ _ _ hee; exact ⟨(B.out.cell (p := ⟨b, off + k * 6, none⟩) hbb).trans h0, (B.out.cell (p := ⟨b, off + k * 6 + 1, none⟩) hbb).trans h1, (B.out.cell (p := ⟨b, off + k * 6 + 2, none⟩) hbb).trans h2, (B.out.cell (p := ⟨b, off + k * 6 + 3, none⟩) hbb).trans h3, (B.out.cell (p := ⟨b, off + k * 6 + 4, none⟩) hbb).trans h4, (B.out.cell (p := ⟨b, off + k * 6 + 5, none⟩) hbb).trans h5⟩))
          have HS := Lib.hid (flat_take_succ hkl)
          rw [hee] at HS
          have d7 : decide ((k : Int) < (m : Int)) = true := decide_eq_true (by omega)
          have d8 : decide (k < m) = true := decide_eq_true hlt
          have d9 : (k : Int) < (m : Int) := by omega
          have TKa := True.intro
          clear hc hl6 hee hkl hbb
          go_wp2_with (first
            | (have _t := TKa; refine wpList_load_cells_g (by rfl) 31 (.tmp 93) rfl ⟨b, off + k * 6, none⟩ rfl _ _ KC.out Try.underlying31 rfl (info_ent9L _ _ _ _ _ _) ?_; clear _t TKa)
            | (go_at_call 12; refine (of_any e0 e1 e2 e3 e4 e5 _).mono ?_; rintro e w6 ⟨rfl, hb⟩; have O6 := Lib.hid (own_stepS O.out hb); have B6 := Lib.hid (stepB B.out hb); have hbs := run_build_ent e0 e1 e2 e3 e4 e5 w6; clear hb)
            | (at_builtin
               have y3 : k + 1 ≤ maxLen := by simp only [maxLen]; omega
               have y4 : (k + 1) * 48 ≤ 140737488355328 := by omega
               have y5 : w.heap.size ≤ (w6.alloc (.cells #[.int .i64 e0, .int .i64 e1, .int .i64 e2, .int .i64 e3, .int .i64 e4, .int .i64 e5] 35)).heap.size := by have := B6.out.size; simp; omega
               refine wpList_append_any _ rfl (.tmp 90) (.tmp 96) _ rfl w.heap.size 35 i1 _ 6 48 Try.underlying24 hi1 hy0 hy1 hy2 rfl (by omega) _ k _ rfl (World.ownsRow.alloc O6.out _) _ _ 1 1 _ rfl (reads_ent w6 e0 e1 e2 e3 e4 e5) (ints_one6 _) y3 y4 y5 ?_
               intro v9 w9 hown9 hg9 hv9
               have B9 := Lib.hid (below_own (B6.out.alloc B6.out.size _) hg9 (World.ownsRow.alloc O6.out _) (Nat.le_refl _) y5)
               have O9 := Lib.hid hown9
               clear hown9 hg9 hv9 y3 y4 y5))
          go_roundw
          case rel => exact ⟨k + 1, by omega, by go_num, by rw [HS.out]; exact O9.out, B9.out⟩
          case measure => simp [intOf]; omega
        · obtain rfl : k = m := by omega
          have d7 : decide ((k : Int) < (k : Int)) = false := decide_eq_false (by omega)
          have d8 : decide (k < k) = false := decide_eq_false (by omega)
          have O5 := Lib.hid (show U.ownsRow w.heap.size 35 6 _ k (ints L.flatten) from by have := O.out; rwa [List.take_of_length_le (by have := HL.out; omega)] at this)
          obtain ⟨A5, c5, rfl, hr5, _⟩ := own_ents O5.out
          have R5 := Lib.hid hr5
          clear hr5 O O5
          go_wp2_with fail
          refine (encode_any A5 k c5 L _ R5.out HA.out HL.out (by omega)).mono ?_
          rintro e w7 (⟨v7, hok, rfl, ho7, hb7⟩ | ⟨j, bf, hj, rfl, hf, hlf, hb7⟩)
          · obtain ⟨A7, c7, rfl, hr7, hc7⟩ := own_rowE ho7
            have B7 := Lib.hid (stepB B.out hb7)
            have R7 := Lib.hid hr7
            have C7 := Lib.hid hc7
            have R57 := Lib.hid (reads_stepE R5.out hb7)
            have EL := Lib.hid (ents_wr HA.out hok)
            clear ho7 hb7 hr7 hc7 hok
            go_wp2_with (go_at_call 7; refine (parse_any A7 (k * 5) c7 (wrL L) C7.out (by omega) _ R7.out).mono ?_; rintro e w8 ⟨v8, rfl, hown, hb⟩; rw [EL.out, HL.out] at hown; obtain ⟨A8, c8, rfl, hr8, _⟩ := own_ents hown; have T8 := Lib.hid (show TwoS w w8 A8 A5 k L from ⟨hr8, reads_stepE R57.out hb, stepB B7.out hb⟩); clear hown hb hr8)
            go_loopw [15] (fun i X => ∃ q : Nat, q ≤ k ∧ i = .int .i64 q ∧ TwoS w X A8 A5 k L) (fun i _ => k - (intOf i).toNat)
            case atStart => exact ⟨0, Nat.zero_le _, rfl, T8.out⟩
            case round =>
              obtain ⟨q, hq, rfl, ht⟩ := hrel
              rename World => X
              have T := Lib.hid ht
              clear ht
              have hq2 : q ≤ 500 := by omega
              by_cases hlt2 : q < k
              · obtain ⟨b, off, rfl, hb, hc⟩ := ent_cells T.out.a HA.out HL.out hlt2
                obtain ⟨b', off', rfl, hb', hc'⟩ := ent_cells T.out.b HA.out HL.out hlt2
                have hkl : q < L.length := by rw [HL.out]; exact hlt2
                have hl6 : (L.getD q []).length = 6 := by rw [List.getD_eq_getElem?_getD, List.getElem?_eq_getElem hkl]; exact HA.out _ (List.getElem_mem hkl)
                obtain ⟨e0, e1, e2, e3, e4, e5, hee⟩ := six_ints hl6
                obtain ⟨x0, x1, x2, x3, x4, x5⟩ := hc _ _ _ _ _ _ hee
                obtain ⟨z0, z1, z2, z3, z4, z5⟩ := hc' _ _ _ _ _ _ hee
                have qe := neq_entS e0 e1 e2 e3 e4 e5 e0 e1 e2 e3 e4 e5 false (by simp)
                have gq := guard_ent
                have d9 : decide ((q : Int) < (k : Int)) = true := decide_eq_true (by omega)
                have d10 : decide (q < k) = true := decide_eq_true hlt2
                have d11 : (q : Int) < (k : Int) := by omega
                clear hc hc' hl6 hee hb hb' hkl
                go_upto_region 29 with fail
                go_quiet (fail)
                go_wp2_with fail
                go_roundw
                case rel => exact ⟨q + 1, by omega, by go_num, T.out.drewN _⟩
                case measure => simp [intOf]; omega
              · have d9 : decide ((q : Int) < (k : Int)) = false := decide_eq_false (by omega)
                have d10 : decide (q < k) = false := decide_eq_false hlt2
                go_wp2_with fail
                go_ret
                exact ⟨rfl, T.out.bel⟩
          · have B7 := Lib.hid (stepB B.out hb7)
            have hnn := fun W => run_neq_held_nil (P := Try.prog) W 38 50 (.pointer (some ⟨bf, 0, none⟩)) Try.underlying38
            clear hj hf hlf hb7
            go_wp2_with fail
            go_ret
            exact ⟨rfl, B7.out⟩
end Go.Proofs.Ytggfadiahacgeaa
