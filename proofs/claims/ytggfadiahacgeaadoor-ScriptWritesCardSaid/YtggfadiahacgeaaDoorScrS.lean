/- The walk of ScriptWrites. -/
import Derived.Test.YtggfadiahacgeaaDoorScrR
import Derived.Test.YtggfadiahacgeaaDoorErr
namespace Go.Proofs.YtggfadiahacgeaaDoor
open Go.RowKit Go.ChangeShapes Go.WideShapes Go.Deep
set_option linter.unusedVariables false
set_option linter.unusedSimpArgs false

/-- The first entry that may not be, of those ahead of a place; -1: none. -/
def badN (L : List (List Int)) : Nat → Int
  | 0 => -1
  | k + 1 => if badN L k < 0 ∧ okL (L.getD k []) = false then (k : Int) else badN L k
theorem badN_no {L : List (List Int)} : ∀ {k : Nat}, badN L k < 0 → badN L k = -1 ∧ ∀ i, i < k → okL (L.getD i []) = true
  | 0, _ => ⟨rfl, fun i hi => absurd hi (by omega)⟩
  | k + 1, h => by
    unfold badN at h ⊢
    by_cases hc : badN L k < 0 ∧ okL (L.getD k []) = false
    · rw [if_pos hc] at h; omega
    · rw [if_neg hc] at h ⊢
      obtain ⟨e, ih⟩ := badN_no h
      refine ⟨e, fun i hi => ?_⟩
      by_cases hik : i = k
      · rw [hik]
        cases ho : okL (L.getD k []) with
        | true => rfl
        | false => exact absurd ⟨h, ho⟩ hc
      · exact ih i (by omega)
theorem badN_yes {L : List (List Int)} : ∀ {k : Nat}, 0 ≤ badN L k → ∃ j : Nat, badN L k = (j : Int) ∧ j < k ∧ okL (L.getD j []) = false ∧ ∀ i, i < j → okL (L.getD i []) = true
  | 0, h => by unfold badN at h; omega
  | k + 1, h => by
    unfold badN at h ⊢
    by_cases hc : badN L k < 0 ∧ okL (L.getD k []) = false
    · rw [if_pos hc]
      exact ⟨k, rfl, by omega, hc.2, (badN_no hc.1).2⟩
    · rw [if_neg hc] at h ⊢
      obtain ⟨j, e, hj, h1, h2⟩ := badN_yes h
      exact ⟨j, e, by omega, h1, h2⟩
theorem badN_ge (L : List (List Int)) : ∀ k : Nat, -1 ≤ badN L k
  | 0 => Int.le_refl _
  | k + 1 => by unfold badN; split; omega; exact badN_ge L k
theorem FirstBadE.one {L : List (List Int)} {i j : Nat} (h : FirstBadE L i) (h' : FirstBadE L j) : i = j := by
  rcases Nat.lt_trichotomy i j with h1 | h1 | h1
  · have := h'.ok i h1; rw [h.bad] at this; cases this
  · exact h1
  · have := h.ok j h1; rw [h'.bad] at this; cases this
/-- The bytes of those that may be. -/
def wantL (l : List (List Int)) : List UInt8 := l.flatMap fun x => if okL x = true then wrE x else []
theorem wantL_le : ∀ l : List (List Int), (wantL l).length ≤ l.length * 5
  | [] => Nat.le_refl _
  | x :: l => by
    have h := wantL_le l
    unfold wantL at h ⊢
    rw [List.flatMap_cons, List.length_append, List.length_cons]
    split
    · rw [wrE_length]; omega
    · rw [List.length_nil]; omega
theorem wantL_succ {L : List (List Int)} {k : Nat} (h : k < L.length) : wantL (L.take (k + 1)) = wantL (L.take k) ++ (if okL (L.getD k []) = true then wrE (L.getD k []) else []) := by
  rw [List.take_add_one, List.getElem?_eq_getElem h, List.getD_eq_getElem?_getD, List.getElem?_eq_getElem h]
  unfold wantL
  rw [List.flatMap_append]
  simp
theorem wantL_all {l : List (List Int)} (h : ∀ x ∈ l, okL x = true) : wantL l = wrL l := by
  induction l with
  | nil => rfl
  | cons x l ih =>
    have h1 := ih fun y hy => h y (by simp [hy])
    unfold wantL wrL at h1 ⊢
    rw [List.flatMap_cons, List.flatMap_cons, h1, if_pos (h x (by simp))]
theorem own_other {w w' : World} {B B' n n' size size' : Nat} {t t' : TypeId} {v v' : Value} {xs ys : List Value} (h : w.ownsRow B t size v n xs) (h' : w.ownsRow B' t' size' v' n' ys) (ht : t ≠ t') (hg : w.grownBy w' v'.ownBlock) : w'.ownsRow B t size v n xs := by
  refine own_turn h ((Turn.refl (fun k => v'.ownBlock = some k) w).grown hg (fun k hk _ => hk)) fun k hk hk' => ?_
  obtain ⟨c, hh, _⟩ := own_heap h k hk
  obtain ⟨c', hh', _⟩ := own_heap h' k hk'
  exact heap_ne hh hh' ht rfl
theorem info_ent9L (a b c d e f : Value) : (Tryd.prog.info? 33).map (·.size) = some [a, b, c, d, e, f].length := by kernel_rfl
theorem own_rowE {w : World} {base n : Nat} {t : TypeId} {v : Value} {xs : List Value} (h : w.ownsRow base t 1 v n xs) : ∃ A cap, v = .slice A n cap ∧ Reads w w.heap.size 1 A n xs ∧ n ≤ cap := by
  obtain ⟨A, cap, e, hr, hc, _⟩ := own_el h
  exact ⟨A, cap, e, hr, hc⟩
theorem flat_take_succ {L : List (List Int)} {k : Nat} (h : k < L.length) : ints (L.take (k + 1)).flatten = ints (L.take k).flatten ++ ints (L.getD k []) := by
  rw [List.take_add_one, List.getElem?_eq_getElem h, List.getD_eq_getElem?_getD, List.getElem?_eq_getElem h, List.flatten_append, ints_app]
  simp
theorem FirstBadE.none {L : List (List Int)} {j : Nat} (h : FirstBadE L j) (ho : ∀ x ∈ L, okL x = true) : False := by
  have h1 := h.bad
  have hl := h.lt
  rw [List.getD_eq_getElem?_getD, List.getElem?_eq_getElem hl] at h1
  have := ho _ (List.getElem_mem hl)
  rw [show ((some (L[j]'hl)).getD [] : List Int) = L[j]'hl from rfl, this] at h1
  cases h1
theorem reads_none (w : World) : Reads w w.heap.size 1 none 0 (u8s []) := by
  obtain ⟨A, c, e, hr, _⟩ := own_el (World.ownsRow_nil w w.heap.size 5 1)
  cases e
  exact hr
theorem wrL_len5 : ∀ l : List (List Int), (wrL l).length = l.length * 5
  | [] => rfl
  | x :: l => by
    have h := wrL_len5 l
    unfold wrL at h ⊢
    rw [List.flatMap_cons, List.length_append, List.length_cons, wrE_length, h]; omega
theorem bad_or {L : List (List Int)} {n : Nat} (h : L.length = n) : (badN L n = -1 ∧ ∀ x ∈ L, okL x = true) ∨ ∃ j : Nat, badN L n = (j : Int) ∧ FirstBadE L j := by
  by_cases hc : badN L n < 0
  · obtain ⟨e, h1⟩ := badN_no hc
    refine .inl ⟨e, fun x hx => ?_⟩
    obtain ⟨i, hi, rfl⟩ := List.getElem_of_mem hx
    have := h1 i (by omega)
    rwa [List.getD_eq_getElem?_getD, List.getElem?_eq_getElem hi] at this
  · obtain ⟨j, e, hj, h1, h2⟩ := badN_yes (by omega : 0 ≤ badN L n)
    exact .inr ⟨j, e, by rw [h]; exact hj, h1, h2⟩
theorem badN_same {L : List (List Int)} {k : Nat} {o : Bool} {x : Int} (h : x = if badN L k < 0 ∧ o = false then (k : Int) else badN L k) (hc : ¬ (badN L k < 0 ∧ o = false)) : badN L k = x := by rw [h, if_neg hc]
theorem badN_new {L : List (List Int)} {k : Nat} {o : Bool} {x : Int} (h : x = if badN L k < 0 ∧ o = false then (k : Int) else badN L k) (hc : badN L k < 0 ∧ o = false) : (k : Int) = x := by rw [h, if_pos hc]
theorem want_ok {w : World} {B : Nat} {v : Value} {l l' : List UInt8} {x : List Int} (hs : l' = l ++ (if okL x = true then wrE x else [])) (hx : okL x = true) (h : w.ownsRow B 5 1 v (l.length + 5) (u8s l ++ u8s (wrE x))) : w.ownsRow B 5 1 v l'.length (u8s l') := by
  rw [hs, if_pos hx, List.length_append, wrE_length, u8s_append]; exact h
theorem want_no {w : World} {B : Nat} {v : Value} {l l' : List UInt8} {x : List Int} (hs : l' = l ++ (if okL x = true then wrE x else [])) (hx : okL x = false) (h : w.ownsRow B 5 1 v (l.length + 0) (u8s l ++ u8s [])) : w.ownsRow B 5 1 v l'.length (u8s l') := by
  rw [hs, if_neg (by rw [hx]; decide), List.append_nil]
  rw [show u8s l = u8s l ++ u8s [] from by simp [u8s]]; exact h
/-- What lies between two rounds. -/
structure WrI (w : World) (L : List (List Int)) (k : Nat) (vi vw : Value) (W : World) : Prop where
  i : W.ownsRow w.heap.size 30 6 vi k (ints (L.take k).flatten)
  a : W.ownsRow w.heap.size 5 1 vw (wantL (L.take k)).length (u8s (wantL (L.take k)))
  bel : Below w.heap.size w W
theorem WrI.step {w W W' : World} {L : List (List Int)} {k : Nat} {vi vw : Value} (h : WrI w L k vi vw W) (hb : Below W.heap.size W W') : WrI w L k vi vw W' := ⟨own_stepS h.i hb, own_stepS h.a hb, stepB h.bel hb⟩

set_option maxRecDepth 100000 in
set_option maxHeartbeats 8000000 in
theorem scriptWrites_walk (A : Option Addr) (n cap : Nat) (L : List (List Int)) (w : World) (hg : EType w) (h : Reads w w.heap.size 6 A n (ints L.flatten)) (hall : ∀ x ∈ L, x.length = 6) (hL : L.length = n) :
    Calls Tryd.prog 3 #[.slice A n cap] w fun e w' => e = .returned (.bool true) ∧ Below w.heap.size w w' := by
  by_cases hbig : 500 < n
  · have d1 : decide ((500 : Int) < (n : Int)) = true := decide_eq_true (by omega)
    have d2 : decide (500 < n) = true := decide_eq_true hbig
    clear h hall hL hg
    go_enter Tryd.func3, Tryd.ntmps3
    go_wp2_with (go_at_call 4; refine (scrAlive _).mono ?_; rintro e w1 ⟨rfl, hb⟩; have B1 := Lib.hid hb; clear hb)
    go_ret
    exact ⟨rfl, B1.out⟩
  obtain ⟨i0, hi0, hz0, hz1, hz2⟩ := info_parts info_u8
  obtain ⟨i1, hi1, hy0, hy1, hy2⟩ := info_parts info_entry
  have d1 : decide ((500 : Int) < (n : Int)) = false := decide_eq_false (by omega)
  have d2 : decide (500 < n) = false := decide_eq_false hbig
  have hn2 : n ≤ 500 := by omega
  have H := Lib.hid h
  have HA := Lib.hid hall
  have HL := Lib.hid hL
  have HG := Lib.hid hg
  clear h hall hL hg hbig
  go_enter Tryd.func3, Tryd.ntmps3
  go_wp2_with (go_at_call 4; refine (scrAlive _).mono ?_; rintro e w1 ⟨rfl, hb⟩; have B1 := Lib.hid hb; clear hb)
  go_loopw [3, 4, 5, 6] (fun vi vw bd i W => ∃ k : Nat, k ≤ n ∧ i = .int .i64 k ∧ bd = .int .i64 (badN L k) ∧ WrI w L k vi vw W) (fun _ _ _ i _ => n - (intOf i).toNat)
  case atStart => exact ⟨0, Nat.zero_le _, rfl, rfl, World.ownsRow_nil _ _ _ _, World.ownsRow_nil _ _ _ _, B1.out⟩
  case round =>
    obtain ⟨k, hk, rfl, rfl, hi⟩ := hrel
    rename World => W
    have I := Lib.hid hi
    clear hi
    have hk2 : k ≤ 500 := by omega
    by_cases hlt : k < n
    · obtain ⟨b, off, rfl, hbb, hc⟩ := ent_cells H.out HA.out HL.out hlt
      have hkl : k < L.length := by rw [HL.out]; exact hlt
      have hl6 : (L.getD k []).length = 6 := by rw [List.getD_eq_getElem?_getD, List.getElem?_eq_getElem hkl]; exact HA.out _ (List.getElem_mem hkl)
      obtain ⟨e0, e1, e2, e3, e4, e5, hee⟩ := six_ints hl6
      have KC := Lib.hid (fun X (hX : Below w.heap.size w X) => ex_cells (w := X) (by obtain ⟨h0, h1, h2, h3, h4, h5⟩ := hc _ _ _ _ _ _ hee; exact ⟨(hX.cell (p := ⟨b, off + k * 6, none⟩) hbb).trans h0, (hX.cell (p := ⟨b, off + k * 6 + 1, none⟩) hbb).trans h1, (hX.cell (p := ⟨b, off + k * 6 + 2, none⟩) hbb).trans h2, (hX.cell (p := ⟨b, off + k * 6 + 3, none⟩) hbb).trans h3, (hX.cell (p := ⟨b, off + k * 6 + 4, none⟩) hbb).trans h4, (hX.cell (p := ⟨b, off + k * 6 + 5, none⟩) hbb).trans h5⟩))
      have HS := Lib.hid (flat_take_succ hkl)
      have HWS := Lib.hid (wantL_succ hkl)
      rw [hee] at HS HWS
      have HBN := Lib.hid (show badN L (k + 1) = if badN L k < 0 ∧ okE e0 e1 e2 e3 e4 e5 = false then (k : Int) else badN L k from by rw [badN, hee]; rfl)
      have HEE := Lib.hid hee
      have hge := badN_ge L k
      have HTT := Lib.hid (show ∃ Y : List (List Int), Y = L.take (k + 1) ∧ (∀ x ∈ Y, x.length = 6) ∧ Y.length = k + 1 ∧ Y.getD k [] = [e0, e1, e2, e3, e4, e5] from ⟨_, rfl, fun x hx => HA.out x (List.mem_of_mem_take hx), by rw [List.length_take]; omega, by rw [← hee, List.getD_eq_getElem?_getD, List.getD_eq_getElem?_getD, List.getElem?_take, if_pos (by omega)]⟩)
      have d3 : decide ((k : Int) < (n : Int)) = true := decide_eq_true (by omega)
      have d4 : decide (k < n) = true := decide_eq_true hlt
      have d5 : (k : Int) < (n : Int) := by omega
      have HWL := Lib.hid (show (wantL (L.take k)).length ≤ 2500 from Nat.le_trans (wantL_le _) (by rw [List.length_take]; omega))
      have TKa := True.intro
      have TKb := True.intro
      have TKc := True.intro
      clear hc hl6 hee hkl hbb
      go_upto_region 12 with (first
        | (have _t := TKa; refine wpList_load_cells_g (by rfl) 33 (.tmp 25) rfl ⟨b, off + k * 6, none⟩ rfl _ _ (KC.out W I.out.bel) Tryd.underlying33 rfl (info_ent9L _ _ _ _ _ _) ?_; clear _t TKa)
        | (go_at_call 5; refine (of_any e0 e1 e2 e3 e4 e5 _).mono ?_; rintro e w6 ⟨rfl, hb⟩; have I6 := Lib.hid (I.out.step hb); have hbs := run_build_ent e0 e1 e2 e3 e4 e5 w6; clear hb)
        | (at_builtin
           have y3 : k + 1 ≤ maxLen := by simp only [maxLen]; omega
           have y4 : (k + 1) * 48 ≤ 140737488355328 := by omega
           have y5 : w.heap.size ≤ (w6.alloc (.cells #[.int .i64 e0, .int .i64 e1, .int .i64 e2, .int .i64 e3, .int .i64 e4, .int .i64 e5] 30)).heap.size := by have := I6.out.bel.size; simp; omega
           refine wpList_append_any _ rfl (.tmp 22) (.tmp 28) _ rfl w.heap.size 30 i1 _ 6 48 Tryd.underlying24 hi1 hy0 hy1 hy2 rfl (by omega) _ k _ rfl (World.ownsRow.alloc I6.out.i _) _ _ 1 1 _ rfl (reads_ent w6 e0 e1 e2 e3 e4 e5) (ints_one6 _) y3 y4 y5 ?_
           intro v9 w9 hown9 hg9 hv9
           have B9 := Lib.hid (below_own (I6.out.bel.alloc I6.out.bel.size _) hg9 (World.ownsRow.alloc I6.out.i _) (Nat.le_refl _) y5)
           have A9 := Lib.hid (own_other (World.ownsRow.alloc I6.out.a _) (World.ownsRow.alloc I6.out.i (.cells #[.int .i64 e0, .int .i64 e1, .int .i64 e2, .int .i64 e3, .int .i64 e4, .int .i64 e5] 30)) (by decide) hg9)
           have O9 := Lib.hid (show w9.ownsRow w.heap.size 30 6 v9 (k + 1) (ints (L.take (k + 1)).flatten) from by rw [HS.out]; exact hown9)
           clear hown9 hg9 hv9 y3 y4 y5))
      clear I I6 hbs
      go_wp2_with (first
        | (have _t := TKb; refine wpList_load_cells_g (by rfl) 33 (.tmp 33) rfl ⟨b, off + k * 6, none⟩ rfl _ _ (KC.out w9 B9.out) Tryd.underlying33 rfl (info_ent9L _ _ _ _ _ _) ?_; clear _t TKb))
      refine (bytesR_any e0 e1 e2 e3 e4 e5 _).mono ?_
      rintro e w10 ⟨hP, hb⟩
      have B10 := Lib.hid (stepB B9.out hb)
      have A10 := Lib.hid (own_stepS A9.out hb)
      have O10 := own_stepS O9.out hb
      obtain ⟨Y, hY, hYa, hYl, hYg⟩ := HTT.out
      obtain ⟨N1, hN1⟩ : ∃ m, m = k + 1 := ⟨_, rfl⟩
      have OT := Lib.hid (fun (V : World) (v : Value) (h : V.ownsRow w.heap.size 30 6 v N1 (ints Y.flatten)) => (show V.ownsRow w.heap.size 30 6 v (k + 1) (ints (L.take (k + 1)).flatten) from by rw [hY, hN1] at h; exact h))
      rw [← hY, ← hN1] at O10
      obtain ⟨A5, c5, rfl, hr5, _⟩ := own_ents O10
      obtain ⟨b5, off5, rfl, _, hc5⟩ := ent_cells hr5 hYa (hYl.trans hN1.symm) (show k < N1 by omega)
      have KD := Lib.hid (ex_cells (w := w10) (hc5 _ _ _ _ _ _ hYg))
      have OA := Lib.hid O10
      have d6 : decide ((k : Int) < (N1 : Int)) = true := decide_eq_true (by omega)
      have d7 : decide (k < N1) = true := decide_eq_true (by omega)
      have d8 : (k : Int) < (N1 : Int) := by omega
      have d9 : k < N1 := by omega
      have R0 := Lib.hid reads_none
      clear hb hr5 hc5 O10 O9 A9 B9 KC HTT HS hY hYa hYl hYg hN1 HEE
      rcases hP with ⟨hok, g, rfl, hr⟩ | ⟨hok, rfl⟩
      · have HK := Lib.hid hok
        have HR := Lib.hid hr
        clear hok hr
        go_wp2_with (first
          | (have _t := TKc; refine wpList_load_cells_g (by rfl) 30 (.tmp 40) rfl ⟨b5, off5 + k * 6, none⟩ rfl _ _ KD.out Tryd.underlying30 rfl (info_entL _ _ _ _ _ _) ?_; clear _t TKc)
          | (go_at_call 7; refine (sOk_any e0 e1 e2 e3 e4 e5 true HK.out _).mono ?_; rintro e w11 ⟨rfl, hb⟩; have B11 := Lib.hid (stepB B10.out hb); have A11 := Lib.hid (own_stepS A10.out hb); have O11 := Lib.hid (own_stepS OA.out hb); have R11 := Lib.hid (reads_stepE HR.out hb); clear hb)
          | (at_builtin
             have y3 : (wantL (L.take k)).length + 5 ≤ maxLen := by have := HWL.out; simp only [maxLen]; omega
             have y4 : ((wantL (L.take k)).length + 5) * 1 ≤ 140737488355328 := by have := HWL.out; omega
             refine wpList_append_any _ rfl (.tmp 52) (.tmp 53) _ rfl w.heap.size 5 i0 _ 1 1 Tryd.underlying25 hi0 hz0 hz1 hz2 rfl (by omega) _ _ _ rfl A11.out _ _ 5 5 _ rfl R11.out (u8s_one _) y3 y4 B11.out.size ?_
             intro v12 w12 hown12 hg12 hv12
             have B12 := Lib.hid (below_own B11.out hg12 A11.out (Nat.le_refl _) B11.out.size)
             have O12 := Lib.hid (own_other O11.out A11.out (by decide) hg12)
             have A12 := Lib.hid hown12
             clear hown12 hg12 hv12 y3 y4))
        go_roundw
        case rel => exact ⟨k + 1, by omega, by go_num, congrArg _ (badN_same HBN.out (by rw [HK.out]; simp)), OT.out _ _ O12.out, want_ok HWS.out (by rw [ok_lit]; exact HK.out) A12.out, B12.out⟩
        case measure => simp [intOf]; omega
      · have HK := Lib.hid hok
        clear hok
        by_cases hneg : badN L k < 0
        · have g1 : decide (badN L k < 0) = true := decide_eq_true hneg
          have HBM := Lib.hid (badN_new HBN.out ⟨hneg, HK.out⟩)
          clear hneg HBN
          go_wp2_with (first
            | (have _t := TKc; refine wpList_load_cells_g (by rfl) 30 (.tmp 40) rfl ⟨b5, off5 + k * 6, none⟩ rfl _ _ KD.out Tryd.underlying30 rfl (info_entL _ _ _ _ _ _) ?_; clear _t TKc)
            | (go_at_call 7; refine (sOk_any e0 e1 e2 e3 e4 e5 false HK.out _).mono ?_; rintro e w11 ⟨rfl, hb⟩; have B11 := Lib.hid (stepB B10.out hb); have A11 := Lib.hid (own_stepS A10.out hb); have O11 := Lib.hid (own_stepS OA.out hb); clear hb)
            | (at_builtin
               have y3 : (wantL (L.take k)).length + 0 ≤ maxLen := by have := HWL.out; simp only [maxLen]; omega
               have y4 : ((wantL (L.take k)).length + 0) * 1 ≤ 140737488355328 := by have := HWL.out; omega
               refine wpList_append_any _ rfl (.tmp 52) (.tmp 53) _ rfl w.heap.size 5 i0 _ 1 1 Tryd.underlying25 hi0 hz0 hz1 hz2 rfl (by omega) _ _ _ rfl A11.out _ _ 0 0 _ rfl (R0.out w11) (u8s_one _) y3 y4 B11.out.size ?_
               intro v12 w12 hown12 hg12 hv12
               have B12 := Lib.hid (below_own B11.out hg12 A11.out (Nat.le_refl _) B11.out.size)
               have O12 := Lib.hid (own_other O11.out A11.out (by decide) hg12)
               have A12 := Lib.hid hown12
               clear hown12 hg12 hv12 y3 y4))
          go_roundw
          case rel => exact ⟨k + 1, by omega, by go_num, congrArg _ HBM.out, OT.out _ _ O12.out, want_no HWS.out (by rw [ok_lit]; exact HK.out) A12.out, B12.out⟩
          case measure => simp [intOf]; omega
        · have g1 : decide (badN L k < 0) = false := decide_eq_false hneg
          have HBM := Lib.hid (badN_same HBN.out (fun h => hneg h.1))
          clear hneg HBN
          go_wp2_with (first
            | (have _t := TKc; refine wpList_load_cells_g (by rfl) 30 (.tmp 40) rfl ⟨b5, off5 + k * 6, none⟩ rfl _ _ KD.out Tryd.underlying30 rfl (info_entL _ _ _ _ _ _) ?_; clear _t TKc)
            | (go_at_call 7; refine (sOk_any e0 e1 e2 e3 e4 e5 false HK.out _).mono ?_; rintro e w11 ⟨rfl, hb⟩; have B11 := Lib.hid (stepB B10.out hb); have A11 := Lib.hid (own_stepS A10.out hb); have O11 := Lib.hid (own_stepS OA.out hb); clear hb)
            | (at_builtin
               have y3 : (wantL (L.take k)).length + 0 ≤ maxLen := by have := HWL.out; simp only [maxLen]; omega
               have y4 : ((wantL (L.take k)).length + 0) * 1 ≤ 140737488355328 := by have := HWL.out; omega
               refine wpList_append_any _ rfl (.tmp 52) (.tmp 53) _ rfl w.heap.size 5 i0 _ 1 1 Tryd.underlying25 hi0 hz0 hz1 hz2 rfl (by omega) _ _ _ rfl A11.out _ _ 0 0 _ rfl (R0.out w11) (u8s_one _) y3 y4 B11.out.size ?_
               intro v12 w12 hown12 hg12 hv12
               have B12 := Lib.hid (below_own B11.out hg12 A11.out (Nat.le_refl _) B11.out.size)
               have O12 := Lib.hid (own_other O11.out A11.out (by decide) hg12)
               have A12 := Lib.hid hown12
               clear hown12 hg12 hv12 y3 y4))
          go_roundw
          case rel => exact ⟨k + 1, by omega, by go_num, congrArg _ HBM.out, OT.out _ _ O12.out, want_no HWS.out (by rw [ok_lit]; exact HK.out) A12.out, B12.out⟩
          case measure => simp [intOf]; omega
    · obtain rfl : k = n := by omega
      have d3 : decide ((k : Int) < (k : Int)) = false := decide_eq_false (by omega)
      have d4 : decide (k < k) = false := decide_eq_false (by omega)
      have BW := Lib.hid I.out.bel
      have O5 := I.out.i
      rw [List.take_of_length_le (by have := HL.out; omega)] at O5
      obtain ⟨A5, c5, rfl, hr5, _⟩ := own_ents O5
      have R5 := Lib.hid hr5
      have hn0 := fun W => run_eql_nil_nil (P := Tryd.prog) W 38 Tryd.underlying38
      rcases bad_or HL.out with ⟨hbn, hall⟩ | ⟨j, hbn, hfb⟩
      · have O6 := I.out.a
        rw [List.take_of_length_le (by have := HL.out; omega), wantL_all hall, wrL_len5, HL.out] at O6
        obtain ⟨A6, c6, rfl, hr6, hc6⟩ := own_rowE O6
        have R6 := Lib.hid hr6
        have HO := Lib.hid hall
        rw [hbn]
        clear O5 O6 hr5 hr6 hbn hall I B1 hc6 i0 i1 hi0 hz0 hz1 hz2 hi1 hy0 hy1 hy2 hlt
        go_wp2_with fail
        refine (encode_any A5 k c5 L _ R5.out HA.out HL.out (by omega)).mono ?_
        rintro e w7 (⟨v7, hok, rfl, ho7, hb7⟩ | ⟨j, bf, hj, rfl, hf, hlf, hb7⟩)
        case no => exact (hj.none HO.out).elim
        obtain ⟨A7, c7, rfl, hr7, hc7⟩ := own_rowE ho7
        have B7 := Lib.hid (stepB BW.out hb7)
        have R7 := Lib.hid hr7
        have R67 := Lib.hid (reads_stepE R6.out hb7)
        have HW5 := Lib.hid (show (wrL L).length = k * 5 from by rw [wrL_len5, HL.out])
        clear ho7 hb7 hr7 hc7 hok
        go_wp2_with (go_at_call 11; refine (same_yes A7 A6 (k * 5) c7 c6 _ _ (wrL L) _ HW5.out (by omega) R7.out R67.out).mono ?_; rintro e w8 ⟨rfl, q, rfl⟩)
        go_ret
        exact ⟨rfl, below_drewN B7.out q⟩
      · have HF := Lib.hid hfb
        have hj2 : j ≤ 500 := by have := hfb.lt; have := HL.out; omega
        rw [hbn]
        have g1 : decide ((0 : Int) ≤ (j : Int)) = true := decide_eq_true (by omega)
        clear O5 hr5 hbn hfb I B1 i0 i1 hi0 hz0 hz1 hz2 hi1 hy0 hy1 hy2 hlt
        go_wp2_with fail
        refine (encode_any A5 k c5 L _ R5.out HA.out HL.out (by omega)).mono ?_
        rintro e w7 (⟨v7, hok, rfl, ho7, hb7⟩ | ⟨j', bf, hj, rfl, hf, hlf, hb7⟩)
        case yes => exact (HF.out.none hok).elim
        obtain rfl := hj.one HF.out
        have B7 := Lib.hid (stepB BW.out hb7)
        have E7 := Lib.hid (HG.out.below B7.out)
        have F7 := Lib.hid hf
        clear hb7 hf hlf hj
        go_wp2_with (first
          | (go_at_call 9; refine (code_fault bf _ 5 (by decide) _ F7.out).mono ?_; rintro e w8 ⟨rfl, rfl⟩)
          | (go_at_call 10; refine (at_fault bf _ 5 _ E7.out F7.out).mono ?_; rintro e w9 ⟨rfl, hb⟩; have B9 := Lib.hid (stepB B7.out hb); clear hb))
        go_ret
        exact ⟨rfl, B9.out⟩
theorem scriptWrites_card {H : Type} {enc : TypeId × Value → H} {d : DataW H} {p : List MemPlace} {base : Nat} {held : Bool} (A : Option Addr) (n cap : Nat) (w : World) (hg : EType w) (k0 : DataW.Trod enc Tryd.prog w base (fun _ => true) held 22 (.slice A n cap) d p) :
    Calls Tryd.prog 3 #[.slice A n cap] w fun e w' => e = .returned (.bool true) ∧ Below w.heap.size w w' := by
  obtain ⟨ls, hl, ha, _, hr⟩ := flats_in (n := 6) (d := 6) Tryd.underlying22 (by kernel_rfl) (by kernel_rfl) (by omega) k0
  exact scriptWrites_walk A n cap ls w hg hr ha hl
end Go.Proofs.YtggfadiahacgeaaDoor
