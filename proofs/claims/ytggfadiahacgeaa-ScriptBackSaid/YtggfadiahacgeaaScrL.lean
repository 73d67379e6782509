/- The walk of ScriptReads. -/
import Derived.Test.YtggfadiahacgeaaScrK
namespace Go.Proofs.Ytggfadiahacgeaa
open Go.RowKit Go.ChangeShapes Go.WideShapes Go.Deep
set_option linter.unusedVariables false
set_option linter.unusedSimpArgs false

theorem slice_capS {H : Type} {enc : TypeId × Value → H} {P : Program} {W : World} {base : Nat} {spare : Nat → Bool} {held : Bool} {A : Option Addr} {len cap : Nat} {d : DataW H} {p : List MemPlace} {t e : TypeId} (hu : P.underlying t = some (.slice e)) (h : DataW.Trod enc P W base spare held t (.slice A len cap) d p) : len ≤ cap := by
  obtain ⟨fuel, hf⟩ := h
  rcases open_slice hu hf with ⟨hcs, _⟩ | ⟨a, len', cap', m, n, D, Pl, hcs, hb, hl, hm, hmm, hx, hi⟩
  · simp [Value.cells] at hcs
    obtain ⟨rfl, rfl, rfl⟩ := hcs
    omega
  · simp [Value.cells] at hcs
    obtain ⟨rfl, rfl, rfl⟩ := hcs
    omega
/-- Two rows of entries in one world: what a loop over both keeps. -/
structure TwoE (w W : World) (A A' : Option Addr) (n : Nat) (ls : List (List Int)) : Prop where
  a : Reads W W.heap.size 6 A n (ints ls.flatten)
  b : Reads W W.heap.size 6 A' n (ints ls.flatten)
  bel : Below w.heap.size w W
theorem reads_stepE {w w' : World} {size n : Nat} {A : Option Addr} {xs : List Value} (h : Reads w w.heap.size size A n xs) (hb : Below w.heap.size w w') : Reads w' w'.heap.size size A n xs := (h.below hb).more hb.size
theorem TwoE.step {w W W' : World} {A A' : Option Addr} {n : Nat} {ls : List (List Int)} (h : TwoE w W A A' n ls) (hb : Below W.heap.size W W') : TwoE w W' A A' n ls := ⟨reads_stepE h.a hb, reads_stepE h.b hb, stepB h.bel hb⟩

theorem copy_post {w w1 w3 : World} {A : Option Addr} {len : Nat} {l : List UInt8} {v3 : Value} (hB1 : Below w.heap.size w w1) (h : Reads w w.heap.size 1 A len (u8s l)) (hown3 : w3.ownsRow w.heap.size 5 1 v3 (0 + len) ([] ++ u8s l)) (hg3 : (w1.alloc (.cells #[] 5)).grownBy w3 (Value.slice (some ⟨w1.heap.size, 0, none⟩) 0 0).ownBlock) :
    ∃ A3 c3, v3 = .slice A3 len c3 ∧ Reads w3 w3.heap.size 1 A3 len (u8s l) ∧ len ≤ c3 ∧ Below w.heap.size w w3 ∧ Reads w3 w3.heap.size 1 A len (u8s l) := by
  rw [Nat.zero_add, List.nil_append] at hown3
  have hb : Below w.heap.size w w3 := below_own (hB1.alloc hB1.size (.cells #[] 5)) hg3 (own_emptyV w1 (base := w.heap.size) (size := 1) 5 hB1.size) (Nat.le_refl _) (by have := hB1.size; simp; omega)
  obtain ⟨A3, c3, e, hr, hc, _⟩ := own_el hown3
  exact ⟨A3, c3, e, hr, hc, hb, (h.below hb).more hb.size⟩
set_option maxRecDepth 100000 in
set_option maxHeartbeats 4000000 in
theorem scriptReads_walk (A : Option Addr) (len cap : Nat) (l : List UInt8) (w : World) (h : Reads w w.heap.size 1 A len (u8s l)) :
    Calls Try.prog 3 #[.slice A len cap] w fun e w' => e = .returned (.bool true) ∧ Below w.heap.size w w' := by
  obtain ⟨i0, hi0, hz0, hz1, hz2⟩ := info_parts info_u8
  have HL := Lib.hid h.u8_len
  have H := Lib.hid h
  clear h
  by_cases hbig : 5000 < len
  · have d1 : decide ((5000 : Int) < (len : Int)) = true := decide_eq_true (by omega)
    have d2 : decide (5000 < len) = true := decide_eq_true hbig
    go_enter Try.func3, Try.ntmps3
    go_wp2_with (go_at_call 6; refine (scrAlive _).mono ?_; rintro e w1 ⟨rfl, hb⟩; have B1 := Lib.hid hb; clear hb)
    go_ret
    exact ⟨rfl, B1.out⟩
  · have d1 : decide ((5000 : Int) < (len : Int)) = false := decide_eq_false (by omega)
    have d2 : decide (5000 < len) = false := decide_eq_false hbig
    have HB := Lib.hid hbig
    have g9 := guard_ent9
    clear hbig
    go_enter Try.func3, Try.ntmps3
    go_upto_region 6 with (first
      | (go_at_call 6; refine (scrAlive _).mono ?_; rintro e w1 ⟨rfl, hb⟩; have B1 := Lib.hid hb; have H1 := Lib.hid (reads_stepE H.out hb); clear hb)
      | (at_builtin
         have y1 := own_emptyV (base := w.heap.size) (size := 1) w1 5 B1.out.size
         have y2 := reads_stepE H1.out (Joins.below_alloc1 w1 (.cells #[] 5))
         have y3 : 0 + len ≤ maxLen := by have := HB.out; simp only [maxLen]; omega
         have y4 : (0 + len) * 1 ≤ 140737488355328 := by have := HB.out; omega
         have y5 : w.heap.size ≤ (w1.alloc (.cells #[] 5)).heap.size := by have := B1.out.size; simp; omega
         go_loud (refine wpList_append_any _ rfl (.tmp 11) (.tmp 12) _ rfl w.heap.size 5 i0 _ 1 1 Try.underlying22 hi0 hz0 hz1 hz2 rfl (by omega) _ 0 _ rfl y1 _ _ len cap _ rfl y2 (u8s_one _) y3 y4 y5 ?_)
         intro v3 w3 hown3 hg3 hv3
         obtain ⟨A3, c3, rfl, R3, hc3, hb3, hr3⟩ := copy_post B1.out H.out hown3 hg3
         have R3 := Lib.hid R3
         have C3 := Lib.hid hc3
         have B3 := Lib.hid hb3
         have HR3 := Lib.hid hr3
         clear hown3 hg3 hv3 hc3 hb3 hr3 y1 y2 y3 y4 y5)
      | (go_at_call 7; refine (parse_any _ _ _ l C3.out (by have := HB.out; omega) _ R3.out).mono ?_; rintro e w4 ⟨v4, rfl, hown, hb⟩; obtain ⟨A4, c4, rfl, hr4, _⟩ := own_ents hown; have B4 := Lib.hid (B3.out.trans (hb.mono B3.out.size)); have R4 := Lib.hid hr4; have HR4 := Lib.hid (reads_stepE HR3.out hb); clear hown hb hr4)
      | (go_at_call 8; refine (refParse_any A len cap l (by have := HB.out; omega) _ HR4.out).mono ?_; rintro e w5 ⟨v5, rfl, hown, hb⟩; obtain ⟨A5, c5, rfl, hr5, _⟩ := own_ents hown; have T5 := Lib.hid (show TwoE w w5 A4 A5 (entsL l).length (entsL l) from ⟨reads_stepE R4.out hb, hr5, stepB B4.out hb⟩); clear hown hb hr5))
    have HE := Lib.hid (show ∀ x ∈ entsL l, x.length = 6 from entN_all _ _)
    have HLB := Lib.hid (show (entsL l).length ≤ 2000 from by rw [entsL_length]; have := HL.out; have := HB.out; omega)
    obtain ⟨n, hn⟩ : ∃ n, (entsL l).length = n := ⟨_, rfl⟩
    have HNE := Lib.hid hn
    rw [hn] at T5 HLB ⊢
    clear hn
    go_wp2_with fail
    go_loopw [5] (fun i W => ∃ k : Nat, k ≤ n ∧ i = .int .i64 k ∧ TwoE w W A4 A5 n (entsL l)) (fun i _ => n - (intOf i).toNat)
    case atStart => exact ⟨0, Nat.zero_le _, rfl, T5.out⟩
    case round =>
      obtain ⟨k, hk, rfl, ht⟩ := hrel
      rename World => W
      have T := Lib.hid ht
      clear ht
      have hk2 : k ≤ 2000 := by have := HLB.out; omega
      by_cases hlt : k < n
      · obtain ⟨b, off, rfl, hb, hc⟩ := ent_cells T.out.a HE.out HNE.out hlt
        obtain ⟨b', off', rfl, hb', hc'⟩ := ent_cells T.out.b HE.out HNE.out hlt
        have hg : (entsL l).getD k [] = entAt l k := entN_getD (by have := HNE.out; rw [entsL_length] at this; omega)
        rw [hg] at hc hc'
        obtain ⟨e0, e1, e2, e3, e4, e5, hee⟩ := six_ints (entAt_length l k)
        have KA := Lib.hid (hc _ _ _ _ _ _ hee)
        have KB := Lib.hid (hc' _ _ _ _ _ _ hee)
        have q := neq_ent9S e0 e1 e2 e3 e4 e5 e0 e1 e2 e3 e4 e5 false (by simp)
        have d3 : decide ((k : Int) < (n : Int)) = true := decide_eq_true (by omega)
        have d4 : decide (k < n) = true := decide_eq_true hlt
        have KY := Lib.hid (show ∀ Y, Below W.heap.size W Y → _ from fun Y hy => And.intro ((hy.cell (p := ⟨b, off + k * 6, none⟩) hb).trans KA.out.1) (And.intro ((hy.cell (p := ⟨b, off + k * 6 + 1, none⟩) hb).trans KA.out.2.1) (And.intro ((hy.cell (p := ⟨b, off + k * 6 + 2, none⟩) hb).trans KA.out.2.2.1) (And.intro ((hy.cell (p := ⟨b, off + k * 6 + 3, none⟩) hb).trans KA.out.2.2.2.1) (And.intro ((hy.cell (p := ⟨b, off + k * 6 + 4, none⟩) hb).trans KA.out.2.2.2.2.1) (And.intro ((hy.cell (p := ⟨b, off + k * 6 + 5, none⟩) hb).trans KA.out.2.2.2.2.2)
          (And.intro ((hy.cell (p := ⟨b', off' + k * 6, none⟩) hb').trans KB.out.1) (And.intro ((hy.cell (p := ⟨b', off' + k * 6 + 1, none⟩) hb').trans KB.out.2.1) (And.intro ((hy.cell (p := ⟨b', off' + k * 6 + 2, none⟩) hb').trans KB.out.2.2.1) (And.intro ((hy.cell (p := ⟨b', off' + k * 6 + 3, none⟩) hb').trans KB.out.2.2.2.1) (And.intro ((hy.cell (p := ⟨b', off' + k * 6 + 4, none⟩) hb').trans KB.out.2.2.2.2.1) ((hy.cell (p := ⟨b', off' + k * 6 + 5, none⟩) hb').trans KB.out.2.2.2.2.2))))))))))))
        clear hc hc' hg hee KA KB hb hb'
        go_upto_region 11 with fail
        refine wp_region_held_drew (S := fun Y => Y.cell? ⟨b, off + k * 6, none⟩ = some (.int .i64 e0) ∧ Y.cell? ⟨b, off + k * 6 + 1, none⟩ = some (.int .i64 e1) ∧ Y.cell? ⟨b, off + k * 6 + 2, none⟩ = some (.int .i64 e2) ∧ Y.cell? ⟨b, off + k * 6 + 3, none⟩ = some (.int .i64 e3) ∧ Y.cell? ⟨b, off + k * 6 + 4, none⟩ = some (.int .i64 e4) ∧ Y.cell? ⟨b, off + k * 6 + 5, none⟩ = some (.int .i64 e5) ∧
          Y.cell? ⟨b', off' + k * 6, none⟩ = some (.int .i64 e0) ∧ Y.cell? ⟨b', off' + k * 6 + 1, none⟩ = some (.int .i64 e1) ∧ Y.cell? ⟨b', off' + k * 6 + 2, none⟩ = some (.int .i64 e2) ∧ Y.cell? ⟨b', off' + k * 6 + 3, none⟩ = some (.int .i64 e3) ∧ Y.cell? ⟨b', off' + k * 6 + 4, none⟩ = some (.int .i64 e4) ∧ Y.cell? ⟨b', off' + k * 6 + 5, none⟩ = some (.int .i64 e5)) (by kernel_rfl) ?_ (fun hHeld => ?_)
        · exact KY.out _ (Below.refl _ _).drew
        refine wpAnyH_take (i := 0) (v := ?_) rfl (by kernel_rfl) (by kernel_rfl) (by kernel_rfl) (fun _ _ _ h => h) (Or.inl ⟨by rfl, ?_⟩) (by assumption) ?_
        rotate_left
        · (intro w0 hSw; (try dsimp only at hSw); go_simp; try with_reducible rfl)
        try simp only [List.getElem_toArray, List.getElem_cons_succ, List.getElem_cons_zero, Act.put, List.setIfInBounds_toArray, List.set_cons_zero, List.set_cons_succ]
        refine wpAnyH_take (i := 1) (v := ?_) rfl (by kernel_rfl) (by kernel_rfl) (by kernel_rfl) (fun _ _ _ h => h) (Or.inl ⟨by rfl, ?_⟩) (by assumption) ?_
        rotate_left
        · (intro w0 hSw; (try dsimp only at hSw); go_simp; try with_reducible rfl)
        try simp only [List.getElem_toArray, List.getElem_cons_succ, List.getElem_cons_zero, Act.put, List.setIfInBounds_toArray, List.set_cons_zero, List.set_cons_succ]
        refine wpAnyH_take (i := 2) (v := ?_) rfl (by kernel_rfl) (by kernel_rfl) (by kernel_rfl) (fun _ _ _ h => h) (Or.inl ⟨by rfl, ?_⟩) (by assumption) ?_
        rotate_left
        · (intro w0 hSw; (try dsimp only at hSw); go_simp; try with_reducible rfl)
        try simp only [List.getElem_toArray, List.getElem_cons_succ, List.getElem_cons_zero, Act.put, List.setIfInBounds_toArray, List.set_cons_zero, List.set_cons_succ]
        refine wpAnyH_take (i := 3) (v := ?_) rfl (by kernel_rfl) (by kernel_rfl) (by kernel_rfl) (fun _ _ _ h => h) (Or.inl ⟨by rfl, ?_⟩) (by assumption) ?_
        rotate_left
        · (intro w0 hSw; (try dsimp only at hSw); go_simp; try with_reducible rfl)
        try simp only [List.getElem_toArray, List.getElem_cons_succ, List.getElem_cons_zero, Act.put, List.setIfInBounds_toArray, List.set_cons_zero, List.set_cons_succ]
        refine wpAnyH_take (i := 5) (v := ?_) rfl (by kernel_rfl) (by kernel_rfl) (by kernel_rfl) (fun _ _ _ h => h) (Or.inl ⟨by rfl, ?_⟩) (by assumption) ?_
        rotate_left
        · (intro w0 hSw; (try dsimp only at hSw); go_simp; try with_reducible rfl)
        try simp only [List.getElem_toArray, List.getElem_cons_succ, List.getElem_cons_zero, Act.put, List.setIfInBounds_toArray, List.set_cons_zero, List.set_cons_succ]
        refine wpAnyH_take (i := 6) (v := ?_) rfl (by kernel_rfl) (by kernel_rfl) (by kernel_rfl) (fun _ _ _ h => h) (Or.inl ⟨by rfl, ?_⟩) (by assumption) ?_
        rotate_left
        · (intro w0 hSw; (try dsimp only at hSw); go_simp; try with_reducible rfl)
        try simp only [List.getElem_toArray, List.getElem_cons_succ, List.getElem_cons_zero, Act.put, List.setIfInBounds_toArray, List.set_cons_zero, List.set_cons_succ]
        refine wpAnyH_take (i := 7) (v := ?_) rfl (by kernel_rfl) (by kernel_rfl) (by kernel_rfl) (fun _ _ _ h => h) (Or.inl ⟨by rfl, ?_⟩) (by assumption) ?_
        rotate_left
        · (intro w0 hSw; (try dsimp only at hSw); go_simp; try with_reducible rfl)
        try simp only [List.getElem_toArray, List.getElem_cons_succ, List.getElem_cons_zero, Act.put, List.setIfInBounds_toArray, List.set_cons_zero, List.set_cons_succ]
        refine wpAnyH_take (i := 8) (v := ?_) rfl (by kernel_rfl) (by kernel_rfl) (by kernel_rfl) (fun _ _ _ h => h) (Or.inl ⟨by rfl, ?_⟩) (by assumption) ?_
        rotate_left
        · (intro w0 hSw; (try dsimp only at hSw); go_simp; try with_reducible rfl)
        try simp only [List.getElem_toArray, List.getElem_cons_succ, List.getElem_cons_zero, Act.put, List.setIfInBounds_toArray, List.set_cons_zero, List.set_cons_succ]
        refine wpAnyH_ready (rs := [4]) (by kernel_rfl) (by simp) ?_
        refine AllReadyH.cons rfl (fun K hK => ?_) AllReadyH.nil
        go_simp
        refine (plain_any e0 e1 e2 e3 e4 e5 _).mono ?_
        rintro x9 w9 ⟨rfl, hb9⟩
        have hbW : Below W.heap.size W w9 := ⟨hb9.os, hb9.tape, hb9.output, hb9.size, hb9.block⟩
        have T9 := Lib.hid (T.out.step hbW)
        try go_simp
        refine hK.out _ _ (KY.out _ hbW) (fun hHeld => ?_)
        clear hK K hb9 hbW
        refine wpAnyH_take (i := 9) (v := ?_) rfl (by kernel_rfl) (by kernel_rfl) (by kernel_rfl) (fun _ _ _ h => h) (Or.inl ⟨by rfl, ?_⟩) (by assumption) ?_
        rotate_left
        · (intro w0 hSw; (try dsimp only at hSw); go_simp; try with_reducible rfl)
        try simp only [List.getElem_toArray, List.getElem_cons_succ, List.getElem_cons_zero, Act.put, List.setIfInBounds_toArray, List.set_cons_zero, List.set_cons_succ]
        refine wpAnyH_done (by kernel_rfl) ?_ _
        clear hHeld
        go_wp2_with fail
        go_roundw
        case rel => exact ⟨k + 1, by omega, by go_num, T9.out⟩
        case measure => simp [intOf]; omega
      · have d3 : decide ((k : Int) < (n : Int)) = false := decide_eq_false (by omega)
        have d4 : decide (k < n) = false := decide_eq_false hlt
        go_wp2_with fail
        go_ret
        exact ⟨rfl, T.out.bel⟩
end Go.Proofs.Ytggfadiahacgeaa
