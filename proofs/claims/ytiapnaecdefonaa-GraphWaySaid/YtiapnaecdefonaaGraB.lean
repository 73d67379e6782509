/- Where edges lead, in a map of slices; the contract of ends. -/
import Derived.Test.YtiapnaecdefonaaGraA
import Derived.Test.YtiapnaecdefonaaHeld
namespace Go.Proofs.Ytiapnaecdefonaa
open Go.RowKit
set_option linter.unusedVariables false
set_option linter.unusedSimpArgs false

abbrev nilS : Value := .slice none 0 0
/-- A map of slices of the call's own: F says what numbers are at a key. -/
structure GrpM (w : World) (base b n : Nat) (f : Int → Option Value) (F : Int → List Int) : Prop where
  map : MapV w b n f
  row : ∀ k, w.ownsRow base 3 1 ((f k).getD nilS) (F k).length (i64s (F k))
  apart : ∀ k1 k2 g, k1 ≠ k2 → ((f k1).getD nilS).ownBlock = some g → ((f k2).getD nilS).ownBlock ≠ some g
/-- A map of slices that are only read: F says what numbers are at a key; all its blocks lie below B. -/
structure NextM (w : World) (B b : Nat) (F : Int → List Int) : Prop where
  map : ∃ n f, MapV w b n f ∧ ∀ k, ∃ A c, (f k).getD nilS = .slice A (F k).length c ∧ (F k).length ≤ c ∧ Reads w B 1 A (F k).length (i64s (F k))
  lt : b < B
section
variable {w w' : World} {base b n B : Nat} {f : Int → Option Value} {F : Int → List Int}
theorem NextM.below (h : NextM w B b F) (hb : Below B w w') : NextM w' B b F := by
  obtain ⟨⟨n, f, h1, h2⟩, h3⟩ := h
  refine ⟨⟨n, f, h1.below hb h3, fun k => ?_⟩, h3⟩
  obtain ⟨A, c, e, hc, hr⟩ := h2 k
  exact ⟨A, c, e, hc, hr.below hb⟩
theorem NextM.more {B' : Nat} (h : NextM w B b F) (hB : B ≤ B') : NextM w B' b F := by
  obtain ⟨⟨n, f, h1, h2⟩, h3⟩ := h
  refine ⟨⟨n, f, h1, fun k => ?_⟩, by omega⟩
  obtain ⟨A, c, e, hc, hr⟩ := h2 k
  exact ⟨A, c, e, hc, hr.more hB⟩
theorem NextM.to {G : Int → List Int} (h : NextM w B b F) (e : ∀ k, F k = G k) : NextM w B b G := by rw [← show F = G from funext e]; exact h
theorem GrpM.next (h : GrpM w base b n f F) : NextM w w.heap.size b F := by
  refine ⟨⟨n, f, h.map, fun k => ?_⟩, h.map.lt⟩
  obtain ⟨A, c, e, hr, hc, _⟩ := own_slice (h.row k)
  exact ⟨A, c, e, hc, hr⟩
theorem GrpM.turn {S : Nat → Prop} (h : GrpM w base b n f F) (ht : Turn S w w') (hb : ¬ S b) (hr : ∀ k g, ((f k).getD nilS).ownBlock = some g → ¬ S g) : GrpM w' base b n f F :=
  ⟨h.map.turn ht hb, fun k => own_turn (h.row k) ht fun g hg => hr k g hg, h.apart⟩
theorem GrpM.below (h : GrpM w base b n f F) (hb : Below w.heap.size w w') : GrpM w' base b n f F := h.turn (S := fun _ => False) (Turn.of_below hb) id (fun _ _ _ => id)
theorem GrpM.drew (h : GrpM w base b n f F) : GrpM w.drew base b n f F := ⟨h.map, h.row, h.apart⟩
theorem GrpM.made (w : World) (base : Nat) (w0 : World) : GrpM (w.alloc (.map #[] 0)) base w.heap.size 0 (fun _ => none) (fun _ => []) :=
  ⟨mapV_made w, fun k => World.ownsRow_nil _ _ _ _, fun k1 k2 g _ h => by simp [Value.ownBlock] at h⟩
theorem GrpM.to {G : Int → List Int} (h : GrpM w base b n f F) (e : ∀ k, F k = G k) : GrpM w base b n f G := by rw [← show F = G from funext e]; exact h
/-- A row of the map was appended to, and is put at its key. -/
theorem GrpM.put {w1 w2 : World} {a : Int} {v' : Value} {ys : List Int} (h : GrpM w base b n f F) (hown : w1.ownsRow base 3 1 v' ys.length (i64s ys)) (hg : w.grownBy w1 ((f a).getD nilS).ownBlock)
    (hv : v'.ownBlock = ((f a).getD nilS).ownBlock ∨ v'.ownBlock = some w.heap.size) (hm : MapV w2 b (n + 1) (fun j => if j = a then some v' else f j)) (hg2 : w1.grownBy w2 (some b)) (hbw : w1.heap[b]? = w.heap[b]?) :
    GrpM w2 base b (n + 1) (fun j => if j = a then some v' else f j) (fun j => if j = a then ys else F j) := by
  have m1 : MapV w1 b n f := h.map.of_block hbw
  have t2 := turn_grown hg2
  refine ⟨hm, fun k => ?_, fun k1 k2 g hne h1 => ?_⟩
  · show w2.ownsRow base 3 1 ((if k = a then some v' else f k).getD nilS) (if k = a then ys else F k).length (i64s (if k = a then ys else F k))
    by_cases e : k = a
    · rw [if_pos e, if_pos e]
      exact own_turn hown t2 fun g hg e2 => m1.ne_row hown (by rw [← e2]; exact hg)
    · rw [if_neg e, if_neg e]
      have h1 : w1.ownsRow base 3 1 ((f k).getD nilS) (F k).length (i64s (F k)) := own_turn (h.row k) ((Turn.refl (fun x => ((f a).getD nilS).ownBlock = some x) w).grown hg fun k hk _ => hk) fun g hg e2 => h.apart k a g e hg e2
      exact own_turn h1 t2 fun g hg e2 => m1.ne_row h1 (by rw [← e2]; exact hg)
  · have hlt : ∀ k g, ((f k).getD nilS).ownBlock = some g → g < w.heap.size := fun k g hk => by obtain ⟨cur, hh, _⟩ := own_heap (h.row k) g hk; exact own_lt hh
    by_cases e1 : k1 = a
    · rw [if_pos e1] at h1
      rw [if_neg (by rw [← e1]; exact fun e => hne e.symm)]
      intro h2
      have h1' : v'.ownBlock = some g := h1
      rcases hv with hv | hv
      · rw [hv] at h1'; exact h.apart a k2 g (by rw [← e1]; exact hne) h1' h2
      · rw [hv] at h1'; injection h1' with h1'; have := hlt k2 g h2; omega
    · rw [if_neg e1] at h1
      by_cases e2 : k2 = a
      · rw [if_pos e2]
        intro h2
        have h2' : v'.ownBlock = some g := h2
        rcases hv with hv | hv
        · rw [hv] at h2'; exact h.apart k1 a g e1 h1 h2'
        · rw [hv] at h2'; injection h2' with h2'; have := hlt k1 g h1; omega
      · rw [if_neg e2]; exact h.apart k1 k2 g hne h1
end
section
variable {w : World} {n : Nat} {A : Option Addr} {ls : List (List Int)}
set_option maxRecDepth 100000 in
set_option maxHeartbeats 8000000 in
theorem ends_any {c : Nat} (w : World) (h : EdgM w w.heap.size A n ls) (hn : n ≤ 1000) :
    Calls Try.prog 24 #[.slice A n c] w fun e w' => ∃ b, e = .returned (.map (some b)) ∧ w.heap.size ≤ b ∧ NextM w' w'.heap.size b (nxt (eds ls)) ∧ Below w.heap.size w w' := by
  have HH := Lib.hid h
  have HI := Lib.hid info_edge4
  have HZ := Lib.hid (show ∀ W, (zeroValue 25).run Try.prog W = .ok nilS W from fun W => by kernel_rfl)
  have hmm := @run_makeMap Try.prog
  obtain ⟨i0, hi0, hz0, hz1, hz2⟩ := info_parts info_int
  clear h
  go_enter Try.func24, Try.ntmps24
  go_wp2_with fail
  go_loopw [11] (fun s11 wr => ∃ (k : Nat) (f : Int → Option Value), s11 = .int .i64 k ∧ k ≤ n ∧ GrpM wr w.heap.size w.heap.size k f (outs (eds (ls.take k))) ∧ Below w.heap.size w wr) (fun s11 _ => n - (RowKit.intOf s11).toNat)
  case atStart => exact ⟨0, _, rfl, Nat.zero_le _, GrpM.made w _ w, Joins.below_alloc1 _ _⟩
  case round =>
    obtain ⟨k, f, rfl, hk, hgm, hb⟩ := hrel
    rename World => W
    have HG := Lib.hid hgm
    have HB := Lib.hid hb
    clear hgm hb
    by_cases hlt : k < n
    · obtain ⟨b, off, a, s, t, u, rfl, hbl, ⟨hl, e⟩, hc, wa, wt⟩ := (HH.out.below HB.out).at_ hlt
      have HE := Lib.hid (eds_take ls hl e)
      have HC := Lib.hid hc
      have HS := Lib.hid HB.out.size
      have WA := Lib.hid wa
      obtain ⟨v0, hv0⟩ : ∃ v0, (f a).getD nilS = v0 := ⟨_, rfl⟩
      have V0 := Lib.hid hv0
      clear hc wa wt e hv0
      go_wp2_with (first
        | (refine wpList_load_cells rfl 41 (.tmp 13) rfl ⟨b, off + k * 4, none⟩ rfl [.int .i64 a, .int .i64 s, .int .i64 t, .int .i64 u] _ HC.out Try.underlying41 rfl HI.out ?_))
      have BX := Lib.hid (Blk.new W 41 #[.int .i64 a, .int .i64 s, .int .i64 t, .int .i64 u])
      have HG1 := Lib.hid (HG.out.below (Joins.below_alloc1 W (.cells #[.int .i64 a, .int .i64 s, .int .i64 t, .int .i64 u] 41)))
      have HB1 := Lib.hid (HB.out.alloc HS.out (.cells #[.int .i64 a, .int .i64 s, .int .i64 t, .int .i64 u] 41))
      obtain ⟨g, hg⟩ : ∃ g, g = W.heap.size := ⟨_, rfl⟩
      rw [← hg] at BX ⊢
      clear hg
      generalize W.alloc (.cells #[.int .i64 a, .int .i64 s, .int .i64 t, .int .i64 u] 41) = V at BX HG1 HB1 ⊢
      have HS1 := Lib.hid HB1.out.size
      refine wp_region_till 11 (fun w' => w'.cell? ⟨g, 0, none⟩ = some (.int .i64 a) ∧ w'.cell? ⟨g, 2, none⟩ = some (.int .i64 t) ∧ MapV w' w.heap.size k f) (by kernel_rfl) ⟨BX.out.cell 0, BX.out.cell 2, HG1.out.map⟩ (fun hHeld => ?_)
      refine wpTill_take (i := 0) (v := ?_) rfl (by kernel_rfl) (by kernel_rfl) (by kernel_rfl) (by kernel_rfl) (fun _ _ _ h => h) (Or.inl ⟨by rfl, ?_⟩) (by assumption) ?_
      rotate_left
      · (intro w0 hSw; (try dsimp only at hSw); go_simp; try with_reducible rfl)
      try simp only [List.getElem_toArray, List.getElem_cons_succ, List.getElem_cons_zero, Act.put, List.setIfInBounds_toArray, List.set_cons_zero, List.set_cons_succ]
      refine wpTill_take (i := 1) (v := ?_) rfl (by kernel_rfl) (by kernel_rfl) (by kernel_rfl) (by kernel_rfl) (fun _ _ _ h => h) (Or.inl ⟨by rfl, ?_⟩) (by assumption) ?_
      rotate_left
      · (intro w0 hSw; (try dsimp only at hSw); go_simp; try with_reducible rfl)
      try simp only [List.getElem_toArray, List.getElem_cons_succ, List.getElem_cons_zero, Act.put, List.setIfInBounds_toArray, List.set_cons_zero, List.set_cons_succ]
      refine wpTill_take (i := 2) (v := ?_) rfl (by kernel_rfl) (by kernel_rfl) (by kernel_rfl) (by kernel_rfl) (fun _ _ _ h => h) (Or.inl ⟨by rfl, ?_⟩) (by assumption) ?_
      rotate_left
      · (intro w0 hSw; (try dsimp only at hSw); go_simp; try with_reducible rfl)
      try simp only [List.getElem_toArray, List.getElem_cons_succ, List.getElem_cons_zero, Act.put, List.setIfInBounds_toArray, List.set_cons_zero, List.set_cons_succ]
      refine wpTill_take (i := 3) (v := ?_) rfl (by kernel_rfl) (by kernel_rfl) (by kernel_rfl) (by kernel_rfl) (fun _ _ _ h => h) (Or.inl ⟨by rfl, ?_⟩) (by assumption) ?_
      rotate_left
      · (intro w0 hSw; (try dsimp only at hSw); go_simp; try with_reducible rfl)
      try simp only [List.getElem_toArray, List.getElem_cons_succ, List.getElem_cons_zero, Act.put, List.setIfInBounds_toArray, List.set_cons_zero, List.set_cons_succ]
      refine wpTill_take (i := 4) (v := ?_) rfl (by kernel_rfl) (by kernel_rfl) (by kernel_rfl) (by kernel_rfl) (fun _ _ _ h => h) (Or.inl ⟨by rfl, ?_⟩) (by assumption) ?_
      rotate_left
      · (intro w0 hSw; (try dsimp only at hSw); go_simp; try with_reducible rfl)
      try simp only [List.getElem_toArray, List.getElem_cons_succ, List.getElem_cons_zero, Act.put, List.setIfInBounds_toArray, List.set_cons_zero, List.set_cons_succ]
      refine wpTill_take (i := 5) (v := ?_) rfl (by kernel_rfl) (by kernel_rfl) (by kernel_rfl) (by kernel_rfl) (fun _ _ _ h => h) (Or.inl ⟨by rfl, ?_⟩) (by assumption) ?_
      rotate_left
      · (intro w0 hSw; (try dsimp only at hSw); go_simp; try with_reducible rfl)
      try simp only [List.getElem_toArray, List.getElem_cons_succ, List.getElem_cons_zero, Act.put, List.setIfInBounds_toArray, List.set_cons_zero, List.set_cons_succ]
      refine wpTill_take (i := 6) (v := v0) rfl (by kernel_rfl) (by kernel_rfl) (by kernel_rfl) (by kernel_rfl) (fun _ _ _ h => h) (Or.inl ⟨by rfl, fun w0 hSw => exec_lookup (m := .tmp 18) (x := .tmp 20) rfl rfl rfl (by rw [← V0.out]; exact hSw.2.2.look Try.underlying50 (HZ.out _) WA.out)⟩) (by assumption) ?_
      try simp only [List.getElem_toArray, List.getElem_cons_succ, List.getElem_cons_zero, Act.put, List.setIfInBounds_toArray, List.set_cons_zero, List.set_cons_succ]
      refine wpTill_take (i := 7) (v := ?_) rfl (by kernel_rfl) (by kernel_rfl) (by kernel_rfl) (by kernel_rfl) (fun _ _ _ h => h) (Or.inl ⟨by rfl, ?_⟩) (by assumption) ?_
      rotate_left
      · (intro w0 hSw; (try dsimp only at hSw); go_simp; try with_reducible rfl)
      try simp only [List.getElem_toArray, List.getElem_cons_succ, List.getElem_cons_zero, Act.put, List.setIfInBounds_toArray, List.set_cons_zero, List.set_cons_succ]
      refine wpTill_take (i := 8) (v := ?_) rfl (by kernel_rfl) (by kernel_rfl) (by kernel_rfl) (by kernel_rfl) (fun _ _ _ h => h) (Or.inl ⟨by rfl, ?_⟩) (by assumption) ?_
      rotate_left
      · (intro w0 hSw; (try dsimp only at hSw); go_simp; try with_reducible rfl)
      try simp only [List.getElem_toArray, List.getElem_cons_succ, List.getElem_cons_zero, Act.put, List.setIfInBounds_toArray, List.set_cons_zero, List.set_cons_succ]
      refine wpTill_ready (rs := [9]) (by kernel_rfl) (by simp) ?_
      refine AllTill.cons rfl (fun K hK => ?_) AllTill.nil
      go_simp
      have hh : V.drew.heap.size = V.heap.size := rfl
      have HBX := Lib.hid (BX.out.alloc (.cells #[.int .i64 t] 3))
      have HG2 := Lib.hid (HG1.out.below (Joins.below_alloc1 V (.cells #[.int .i64 t] 3)))
      have HB2 := Lib.hid (HB1.out.alloc HS1.out (.cells #[.int .i64 t] 3))
      have RN := Lib.hid (reads_newInt V 3 t)
      refine hK.out _ _ ⟨HBX.out.cell 0, HBX.out.cell 2, HG2.out.map⟩ (fun hHeld => ?_)
      clear hK K
      refine wpTill_ready (rs := [10]) (by kernel_rfl) (by simp) ?_
      refine AllTill.cons rfl (fun K hK => ?_) AllTill.nil
      have hol : (outs (eds (ls.take k)) a).length ≤ 1000 := by have := outs_len (eds (ls.take k)) a; unfold eds at this ⊢; simp at this ⊢; omega
      have HROW := Lib.hid (show (V.alloc (.cells #[.int .i64 t] 3)).drew.ownsRow w.heap.size 3 1 v0 (outs (eds (ls.take k)) a).length (i64s (outs (eds (ls.take k)) a)) from by rw [← V0.out]; exact (HG2.out.row a))
      refine step_append_any _ rfl (.tmp 21) (.tmp 24) _ rfl w.heap.size 3 i0 _ 1 8 Try.underlying25 hi0 hz0 hz1 hz2 rfl (by omega) v0 _ _ rfl
        HROW.out (V.heap.size + 1) (some ⟨V.heap.size, 0, none⟩) 1 1 (i64s [t]) rfl RN.out (i64s_one _) (by simp only [maxLen]; omega) (by omega) (by have := HS1.out; simp; omega) ?_
      intro v9 W9 hown9 hg9 hv9
      rw [show i64s (outs (eds (ls.take k)) a) ++ i64s [t] = i64s (outs (eds (ls.take k)) a ++ [t]) by simp [i64s]] at hown9
      have hb9 : v0.ownBlock ≠ some g := fun e => by
        obtain ⟨cur, hh, _⟩ := own_heap HROW.out g e
        have h2 := HBX.out.drew
        unfold Blk at h2
        rw [h2] at hh
        injection hh with hh
        injection hh with _ hh
        exact absurd hh (by decide)
      have hmb : v0.ownBlock ≠ some w.heap.size := MapV.ne_row (HG2.out.map) HROW.out
      have M9 := Lib.hid (MapV.grown (w := (V.alloc (.cells #[.int .i64 t] 3)).drew) HG2.out.map hg9 hmb)
      have X9 := Lib.hid (HBX.out.drew.grown hg9 hb9)
      have E9 := Lib.hid (show W9.heap[w.heap.size]? = (V.alloc (.cells #[.int .i64 t] 3)).drew.heap[w.heap.size]? from hg9.block _ HG2.out.map.lt (fun e => hmb e.symm))
      have O9 := Lib.hid hown9
      have G9 := Lib.hid hg9
      have V9 := Lib.hid hv9
      clear hown9 hg9 hv9 hb9 hmb
      refine hK.out _ _ ⟨X9.out.cell 0, X9.out.cell 2, M9.out⟩ (fun hHeld => ?_)
      clear hK K
      refine wpTill_ready (rs := [11]) (by kernel_rfl) (by simp) ?_
      refine AllTill.last rfl (of_decide_eq_true (by kernel_rfl)) (fun K hK => ?_)
      refine step_putV (b := w.heap.size) (n := k) (f := f) (k := a) (v := v9) W9 ⟨.tmp 15, .tmp 17, .tmp 25, 50, 25, rfl, Try.underlying50, rfl, rfl, rfl⟩ M9.out (by simp only [maxLen]; omega) WA.out ?_
      intro w1 hm1 hg1 hs1
      have HP := Lib.hid (GrpM.put (w := (V.alloc (.cells #[.int .i64 t] 3)).drew) (a := a) (ys := outs (eds (ls.take k)) a ++ [t]) HG2.out.drew (by rw [List.length_append]; exact O9.out) (by rw [V0.out]; exact G9.out) (by rw [V0.out]; exact V9.out) hm1 hg1 E9.out)
      have BW := Lib.hid ((below_own (HB2.out.drew) G9.out HROW.out (Nat.le_refl _) (by have := HS1.out; simp; omega)).grown hg1 (by have := HS1.out; have := G9.out.size; simp at this; omega) (fun j hj => by cases hj; exact Nat.le_refl _))
      clear hm1 hg1
      refine hK.out _ _ ?_
      clear hK K hHeld
      refine wpTill_done (by kernel_rfl) ?_ _
      go_wp2_with fail
      go_roundw
      case rel =>
        refine ⟨k + 1, _, by go_num, by omega, HP.out.to (fun j => ?_), BW.out⟩
        rw [HE.out, outs_snoc]
        by_cases e : j = a
        · rw [if_pos e, if_pos (by rw [e]), e]
        · rw [if_neg e, if_neg (fun e2 => e e2.symm)]
      case measure => simp [RowKit.intOf]; omega
    · obtain rfl : k = n := by omega
      rw [List.take_of_length_le (by have := HH.out.count; omega)] at HG
      obtain ⟨⟨L, hL0, hL1, hL2⟩, hrow0, hap⟩ := HG.out
      have ML := Lib.hid hL1
      have ROW := Lib.hid hrow0
      have AP := Lib.hid hap
      have L0 := Lib.hid hL0
      have L2 := Lib.hid hL2
      have HS := Lib.hid HB.out.size
      clear hL0 hL1 hL2 hrow0 hap
      go_wp2_with (at_range; refine wpList_range_own _ rfl _ 50 rfl 3 25 keyedV Try.underlying50 _ w.heap.size k _ rfl ML.out ?_; intro w0 hrg0 hg0 hs0)
      go_frame
      have R0 := Lib.hid hrg0
      have B0 := Lib.hid (HB.out.grown hg0 HS.out (fun j hj => by cases hj))
      have RW0 := Lib.hid (fun j => own_turn (ROW.out j) ((Turn.refl (fun _ => False) W).grown hg0 (fun k hk _ => by cases hk)) (fun _ _ => id))
      have hz0' : w.heap.size < W.heap.size := World.ownsMap.lt ML.out
      clear hrg0 hg0
      obtain ⟨r, hr⟩ : ∃ r, r = W.heap.size := ⟨_, rfl⟩
      rw [← hr] at R0 ⊢
      have HRr := Lib.hid hr
      clear hr
      have NO := Lib.hid (show ∀ j, f j = none → outs (eds ls) j = [] from fun j hj => by
        have h1 := ROW.out j
        rw [hj] at h1
        rcases h1.2 with ⟨_, h2⟩ | ⟨g, c, cur, h2, _⟩
        · exact List.eq_nil_of_length_eq_zero h2
        · cases h2)
      go_loopw [] (fun wr => ∃ (left : Lit → Bool) (cnt : Nat), wr.ranges Try.prog 3 heldR w.heap.size r k (DV L) left cnt ∧
          (∀ j, wr.ownsRow w.heap.size 3 1 ((f j).getD nilS) (outs (eds ls) j).length (i64s (if left (.int .i64 j) = true then outs (eds ls) j else srt (outs (eds ls) j)))) ∧ Below w.heap.size w wr)
        (fun wr => wr.rangeLeft w.heap.size r)
      case atStart =>
        refine ⟨_, _, R0.out, fun j => ?_, B0.out⟩
        have h1 := RW0.out j
        by_cases hj : Maps.has (DV L) (.int .i64 j) = true
        · rw [if_pos hj]; exact h1
        · rw [if_neg hj]
          have h2 : f j = none := by
            rw [DV_has, L2.out j] at hj
            cases hf : f j with
            | none => rfl
            | some z => rw [hf] at hj; exact absurd rfl hj
          rw [NO.out j h2] at h1 ⊢
          simpa [srt] using h1
      case round =>
        obtain ⟨left, cnt, hrg, hrows, hnx⟩ := hrel
        rename World => W1
        have HR := Lib.hid hrg
        have HW := Lib.hid hrows
        have HX := Lib.hid hnx
        clear hrg hrows hnx
        go_wp2_with (at_next; refine wpList_nextV _ rfl _ rfl w.heap.size r k L _ _ rfl HR.out ?_ ?_)
        · intro hc0 hl0
          have HL0 := Lib.hid hl0
          clear hc0 hl0
          go_wp2_with fail
          go_ret
          refine ⟨w.heap.size, rfl, Nat.le_refl _, ⟨⟨k, f, ⟨L, L0.out, HR.out.owns, L2.out⟩, fun j => ?_⟩, HR.out.owns.lt⟩, HX.out⟩
          have h1 := HW.out j
          rw [if_neg (by rw [HL0.out]; simp)] at h1
          obtain ⟨A1, c1, e1, hr1, hc1, _⟩ := own_slice h1
          have hlen : (nxt (eds ls) j).length = (outs (eds ls) j).length := srt_len _
          rw [hlen]
          exact ⟨A1, c1, e1, hc1, hr1⟩
        · intro x c w1 cnt1 hwx hlx hat hrg1 hlt hg1 hs1 hen
          have hfx : f x = some c := by rw [← L2.out x]; exact hat
          have hrx := HW.out x
          rw [if_pos hlx, hfx] at hrx
          have hne : ∀ j z, z.ownBlock = some r → ¬ W1.ownsRow w.heap.size 3 1 z (outs (eds ls) j).length (i64s (if left (.int .i64 j) = true then outs (eds ls) j else srt (outs (eds ls) j))) := fun j z hz ho => by
            obtain ⟨cur, hh, _⟩ := own_heap ho r hz
            obtain ⟨_, _, _, _, _, _, _, _, _, hr, _⟩ := HR.out
            rw [hr] at hh; cases hh
          have T1 := (Turn.refl (fun x => x = r) W1).grown hg1 (fun k hk _ => by cases hk; rfl)
          have hrows1 : ∀ j, w1.ownsRow w.heap.size 3 1 ((f j).getD nilS) (outs (eds ls) j).length (i64s (if left (.int .i64 j) = true then outs (eds ls) j else srt (outs (eds ls) j))) := fun j => own_turn (HW.out j) T1 fun g hg e => hne j _ (by rw [← e]; exact hg) (HW.out j)
          have hrx1 := hrows1 x
          rw [if_pos hlx, hfx] at hrx1
          have RX := Lib.hid (show w1.ownsRow w.heap.size 3 1 c (outs (eds ls) x).length (i64s (outs (eds ls) x)) from hrx1)
          have RS := Lib.hid hrows1
          have FX := Lib.hid hfx
          have LX := Lib.hid hlx
          have RG := Lib.hid hrg1
          have HX1 := Lib.hid (HX.out.grown hg1 HX.out.size (fun j hj => by cases hj; have := HRr.out; omega))
          have hol := outs_len (eds ls) x
          have hel : (eds ls).length = k := HH.out.elen
          clear hrx hrx1 hrows1 T1 hne hfx hat hlx hrg1 hg1 hs1
          go_wp2_with fail
          refine (sort_own _ RX.out (by omega)).mono ?_
          rintro e w2 ⟨rfl, h2, ht2⟩
          have H2 := Lib.hid h2
          have T2 := Lib.hid ht2
          clear h2 ht2
          have hcb : c.ownBlock ≠ some w.heap.size := fun e => by
            obtain ⟨cur, hh, _⟩ := own_heap RX.out _ e
            obtain ⟨es, ck, hb, _⟩ := RG.out.owns
            rw [hb] at hh; cases hh
          have hcr : c.ownBlock ≠ some r := fun e => by
            obtain ⟨cur, hh, _⟩ := own_heap RX.out _ e
            obtain ⟨_, _, _, _, _, _, _, _, _, hr, _⟩ := RG.out
            rw [hr] at hh; cases hh
          have RG2 := Lib.hid (show w2.ranges Try.prog 3 heldR w.heap.size r k (DV L) (fun z => left z && !z.sameKey (.int .i64 x)) cnt1 from by
            obtain ⟨es, clock, since, seen, c0, hb, F, hs, hD, hr, rest⟩ := RG.out
            have b1 := (Array.getElem?_eq_some_iff.1 hb).1
            have b2 := (Array.getElem?_eq_some_iff.1 hr).1
            exact ⟨es, clock, since, seen, c0, (T2.out.block _ b1 hcb).trans hb, F, hs, hD, (T2.out.block _ b2 hcr).trans hr, rest⟩)
          clear hcb hcr
          go_wp2_with fail
          go_roundw
          case rel =>
            refine ⟨_, cnt1, RG2.out, fun j => ?_, HX1.out.trans (T2.out.below (fun g hg hs => by have := ownBlock_ge RX.out g hs; omega) HX1.out.size)⟩
            by_cases e : j = x
            · subst e
              rw [if_neg (by simp [Lit.sameKey]), FX.out]
              exact H2.out
            · have h3 : (left (.int .i64 j) && !(Lit.int .i64 j).sameKey (.int .i64 x)) = left (.int .i64 j) := by rw [sameKey_i]; simp [e]
              rw [h3]
              refine own_turn (RS.out j) T2.out fun g hg hs => AP.out x j g (Ne.symm e) ?_ hg
              rw [FX.out]; exact hs
          case measure => rw [RG2.out.left_eq, HR.out.left_eq]; exact hlt
end
end Go.Proofs.Ytiapnaecdefonaa
