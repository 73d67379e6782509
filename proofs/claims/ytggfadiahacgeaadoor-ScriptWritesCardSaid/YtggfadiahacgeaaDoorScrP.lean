/- The program's Encode. -/
import Derived.Test.YtggfadiahacgeaaDoorScrO
namespace Go.Proofs.YtggfadiahacgeaaDoor
open Go.RowKit
set_option linter.unusedVariables false
set_option linter.unusedSimpArgs false

/-- The first entry that may not be. -/
structure FirstBadE (L : List (List Int)) (j : Nat) : Prop where
  lt : j < L.length
  bad : okL (L.getD j []) = false
  ok : ∀ i, i < j → okL (L.getD i []) = true
theorem wrL_take_succ {L : List (List Int)} {k : Nat} (h : k < L.length) : wrL (L.take (k + 1)) = wrL (L.take k) ++ wrE (L.getD k []) := by
  rw [List.take_add_one, List.getElem?_eq_getElem h, List.getD_eq_getElem?_getD, List.getElem?_eq_getElem h]
  exact wrL_snoc _ _
theorem ok_lit (a b c d e f : Int) : okL [a, b, c, d, e, f] = okE a b c d e f := rfl
/-- What Encode answers. -/
inductive EncP (w : World) (L : List (List Int)) (n : Nat) (x : Ending) (w' : World) : Prop
  | yes (v : Value) (hk : ∀ y ∈ L, okL y = true) (he : x = .returned (.tuple #[v, .nilIface])) (ho : w'.ownsRow w.heap.size 5 1 v (n * 5) (u8s (wrL L))) (hb : Below w.heap.size w w')
  | no (j b : Nat) (hj : FirstBadE L j) (he : x = .returned (.tuple #[.slice none 0 0, faultV b])) (hf : FaultAt w' b j 5) (hl : w.heap.size ≤ b) (hb : Below w.heap.size w w')
set_option maxRecDepth 100000 in
set_option maxHeartbeats 4000000 in
theorem encode_any (A : Option Addr) (n cap : Nat) (L : List (List Int)) (w : World) (h : Reads w w.heap.size 6 A n (ints L.flatten)) (hall : ∀ x ∈ L, x.length = 6) (hL : L.length = n) (hn : n ≤ 2000) :
    Calls Tryd.prog 8 #[.slice A n cap] w fun e w' => EncP w L n e w' := by
  obtain ⟨i0, hi0, hz0, hz1, hz2⟩ := info_parts info_u8
  have H := Lib.hid h
  have HA := Lib.hid hall
  have HL := Lib.hid hL
  have HN := Lib.hid hn
  have hn2 : n ≤ 2000 := hn
  clear h hall hL hn
  go_enter Tryd.func8, Tryd.ntmps8
  go_wp2_with (at_make; go_loud (refine wpList_make_own _ rfl (.const (.int .i64 0)) (.tmp 9) 25 rfl w.heap.size 5 i0 _ 1 Tryd.underlying25 hi0 hz0 hz1 .i64 .i64 _ (n * 5) rfl rfl (by first | rfl | (push_cast; omega)) (by have := HN.out; rw [hz2]; omega) (by have := HN.out; simp only [maxLen]; omega) (Nat.le_refl _) ?_)
               intro w1 hown1 hg1
               have O1 := Lib.hid hown1
               have B1 := Lib.hid ((Below.refl w.heap.size w).grown hg1 (Nat.le_refl _) (fun k e => by cases e))
               clear hown1 hg1)
  clear hn2
  go_loopw [4, 13] (fun v i W => ∃ k : Nat, k ≤ n ∧ i = .int .i64 k ∧ (∀ j, j < k → okL (L.getD j []) = true) ∧ W.ownsRow w.heap.size 5 1 v (k * 5) (u8s (wrL (L.take k))) ∧ Below w.heap.size w W) (fun _ i _ => n - (intOf i).toNat)
  case atStart => exact ⟨0, Nat.zero_le _, rfl, fun j hj => absurd hj (by omega), O1.out, B1.out⟩
  case round =>
    obtain ⟨k, hk, rfl, hok, ho, hb⟩ := hrel
    rename World => W
    have OK := Lib.hid hok
    have O := Lib.hid ho
    have B := Lib.hid hb
    have hkb : k ≤ 2000 := by have := HN.out; omega
    clear hok ho hb
    by_cases hlt : k < n
    · obtain ⟨b, off, rfl, hbb, hc⟩ := ent_cells H.out HA.out HL.out hlt
      have hkl : k < L.length := by rw [HL.out]; exact hlt
      have hl6 : (L.getD k []).length = 6 := by rw [List.getD_eq_getElem?_getD, List.getElem?_eq_getElem hkl]; exact HA.out _ (List.getElem_mem hkl)
      obtain ⟨e0, e1, e2, e3, e4, e5, hee⟩ := six_ints hl6
      have KC := Lib.hid (ex_cells (w := W) (by obtain ⟨h0, h1, h2, h3, h4, h5⟩ := hc _ _ _ _ _ _ hee; exact ⟨(B.out.cell (p := ⟨b, off + k * 6, none⟩) hbb).trans h0, (B.out.cell (p := ⟨b, off + k * 6 + 1, none⟩) hbb).trans h1, (B.out.cell (p := ⟨b, off + k * 6 + 2, none⟩) hbb).trans h2, (B.out.cell (p := ⟨b, off + k * 6 + 3, none⟩) hbb).trans h3, (B.out.cell (p := ⟨b, off + k * 6 + 4, none⟩) hbb).trans h4, (B.out.cell (p := ⟨b, off + k * 6 + 5, none⟩) hbb).trans h5⟩))
      have HS := Lib.hid (wrL_take_succ hkl)
      rw [hee] at HS
      have HEE := Lib.hid hee
      have d1 : decide ((k : Int) < (n : Int)) = true := decide_eq_true (by omega)
      have d2 : decide (k < n) = true := decide_eq_true hlt
      have d3 : (k : Int) < (n : Int) := by omega
      have TKa := True.intro
      have TKb := True.intro
      have TKc := True.intro
      clear hc hl6 hee hkl hbb
      have O2 := Lib.hid (O.out.alloc (.cells #[.int .i64 e0, .int .i64 e1, .int .i64 e2, .int .i64 e3, .int .i64 e4, .int .i64 e5] 30))
      have X2 := Lib.hid (Blk.new W 30 #[.int .i64 e0, .int .i64 e1, .int .i64 e2, .int .i64 e3, .int .i64 e4, .int .i64 e5])
      have B2 := Lib.hid (B.out.alloc B.out.size (.cells #[.int .i64 e0, .int .i64 e1, .int .i64 e2, .int .i64 e3, .int .i64 e4, .int .i64 e5] 30))
      go_upto_region 5 with (have _t := TKa; refine wpList_load_cells_g (by rfl) 30 (.tmp 16) rfl ⟨b, off + k * 6, none⟩ rfl _ _ KC.out Tryd.underlying30 rfl (info_entL _ _ _ _ _ _) ?_; clear _t TKa)
      generalize W.heap.size = g at X2 ⊢
      generalize W.alloc _ = V at O2 X2 B2 ⊢
      cases hko : okE e0 e1 e2 e3 e4 e5 with
      | true =>
        have HK := Lib.hid hko
        clear hko
        go_wp2_with (first
          | (have _t := TKb; refine wpList_load_row_g (by rfl) 30 (.tmp 6) (by rfl) g (by rfl) _ _ (0, 0) _ X2.out Tryd.underlying30 rfl (info_ent _ _ _ _ _ _) ?_; clear _t TKb)
          | (go_at_call 7; refine (sOk_any e0 e1 e2 e3 e4 e5 _ HK.out _).mono ?_; rintro e w3 ⟨rfl, hb⟩; have O3 := Lib.hid (own_stepS O2.out hb); have X3 := Lib.hid (X2.out.here hb); have B3 := Lib.hid (B2.out.trans (hb.mono B2.out.size)); clear hb)
          | (have _t := TKc; refine wpList_load_row_g (by rfl) 30 (.tmp 6) (by rfl) g (by rfl) _ _ (0, 0) _ X3.out Tryd.underlying30 rfl (info_ent _ _ _ _ _ _) ?_; clear _t TKc)
          | (go_at_call 17; refine (write_any _ (k * 5) w.heap.size _ e0 e1 e2 e3 e4 e5 _ O3.out B3.out.size (by omega)).mono ?_; rintro e w4 ⟨v4, rfl, ho, hb⟩; have O4 := Lib.hid ho; have B4 := Lib.hid (B3.out.trans hb); clear ho hb))
        go_roundw
        case rel => exact ⟨k + 1, by omega, by go_num, fun j hj => (by
          by_cases e : j = k
          · rw [e, HEE.out, ok_lit]; exact HK.out
          · exact OK.out j (by omega)), by rw [HS.out, Nat.succ_mul]; exact O4.out, B4.out⟩
        case measure => simp [intOf]; omega
      | false =>
        have HK := Lib.hid hko
        clear hko
        go_wp2_with (first
          | (have _t := TKb; refine wpList_load_row_g (by rfl) 30 (.tmp 6) (by rfl) g (by rfl) _ _ (0, 0) _ X2.out Tryd.underlying30 rfl (info_ent _ _ _ _ _ _) ?_; clear _t TKb)
          | (go_at_call 7; refine (sOk_any e0 e1 e2 e3 e4 e5 _ HK.out _).mono ?_; rintro e w3 ⟨rfl, hb⟩; have B3 := Lib.hid (B2.out.trans (hb.mono B2.out.size)); clear hb))
        go_ret2
        exact .no k w3.heap.size ⟨by rw [HL.out]; exact hlt, by rw [HEE.out, ok_lit]; exact HK.out, OK.out⟩ rfl (Blk.new w3 _ _) B3.out.size (B3.out.alloc B3.out.size _)
    · obtain rfl : k = n := by omega
      have d1 : decide ((k : Int) < (k : Int)) = false := decide_eq_false (by omega)
      have d2 : decide (k < k) = false := decide_eq_false (by omega)
      go_wp2_with fail
      go_ret2
      have hO := O.out
      rw [List.take_of_length_le (by have := HL.out; omega)] at hO
      refine .yes _ (fun y hy => ?_) rfl hO B.out
      obtain ⟨j, hj, rfl⟩ := List.getElem_of_mem hy
      have := OK.out j (by have := HL.out; omega)
      rwa [List.getD_eq_getElem?_getD, List.getElem?_eq_getElem hj] at this
end Go.Proofs.YtggfadiahacgeaaDoor
