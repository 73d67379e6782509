/- Numbers without others. -/
import Derived.Test.YtopjkidekbfalaaTxE
namespace Go.Proofs.Ytopjkidekbfalaa
open Go.RowKit
set_option linter.unusedVariables false
set_option linter.unusedSimpArgs false

theorem among_take {o : List Int} {j : Nat} (h : j < o.length) (k : Int) : (if k = gd o j then some (Value.bool true) else amongF (o.take j) k) = amongF (o.take (j + 1)) k := by
  unfold amongF
  rw [List.take_succ_eq_append_getElem h, gd_get h]
  have e1 : (o.take j ++ [o[j]]).contains k = (decide (k = o[j]) || (o.take j).contains k) := by
    rw [List.contains_eq_any_beq, List.any_append, List.contains_eq_any_beq, Bool.or_comm]
    congr 1
    simp
    by_cases e : k = o[j] <;> simp [e]
  rw [e1]
  by_cases e : k = o[j]
  · rw [if_pos e, decide_eq_true e, Bool.true_or, if_pos rfl]
  · rw [if_neg e, decide_eq_false e, Bool.false_or]
theorem wf_small {x : Int} (h : 1 ≤ x ∧ x ≤ 64) : (Lit.int .i64 x).wf = true := by have := clp_wf x; rwa [clp_in h] at this
set_option maxRecDepth 100000 in
set_option maxHeartbeats 8000000 in
theorem without_any {B B' : Nat} {v u : Value} (l o : List Int) (w : World) (h : NumR w B v l) (h' : NumR w B' u o) (hl : ∀ n ∈ l, 1 ≤ n ∧ n ≤ 64) (ho : ∀ n ∈ o, 1 ≤ n ∧ n ≤ 64) (hn : l.length ≤ 1000) (hm : o.length ≤ 1000) :
    Calls Try.prog 26 #[v, u] w fun e w' => ∃ r, e = .returned r ∧ NumR w' w.heap.size r (withoutL l o) ∧ Below w.heap.size w w' := by
  obtain ⟨A', c', rfl, hr', _, _⟩ := own_rd h'
  obtain ⟨A, c, rfl⟩ := own_len h
  have H := Lib.hid h
  have R0 := Lib.hid hr'
  have HL := Lib.hid hl
  have HO := Lib.hid ho
  have HLN := Lib.hid hn
  clear h h' hr' hl ho hn
  generalize hN : o.length = N at R0 hm ⊢
  have HN := Lib.hid hN
  clear hN
  have M1 := Lib.hid ((mapV_made w).alloc (.cells #[.map (some w.heap.size)] 80))
  have P1 := Lib.hid (Blk.new_at (w := w.alloc (.map #[] 0)) (n := w.heap.size + 1) (by simp) 80 #[.map (some w.heap.size)])
  have B1 := Lib.hid ((Joins.below_alloc1 w (.map #[] 0)).alloc (by simp) (.cells #[.map (some w.heap.size)] 80))
  have hmm := @run_makeMap Try.prog
  go_enter Try.func26, Try.ntmps26
  go_upto_region 2 with fail
  obtain ⟨b, hb⟩ : ∃ b, b = w.heap.size := ⟨_, rfl⟩
  have HG := Lib.hid hb
  rw [← hb] at M1 P1 B1 ⊢
  clear hb
  generalize (w.alloc (.map #[] 0)).alloc (.cells #[.map (some b)] 80) = V at M1 P1 B1 ⊢
  have B1 := Lib.hid (show Below w.heap.size w V from by have := B1.out; rwa [HG.out] at this)
  have hbl := M1.out.lt
  have hpl := P1.out.lt
  have VS := B1.out.size
  go_wp2_with fail
  go_loopw [7, 11] (fun s7 s11 wr => ∃ j : Nat, s11 = .int .i64 j ∧ j ≤ N ∧ MapV wr b j (amongF (o.take j)) ∧ Turn (fun k => k = b) V wr) (fun _ s11 _ => N - (RowKit.intOf s11).toNat)
  case atStart => exact ⟨0, rfl, Nat.zero_le _, M1.out, Turn.refl _ _⟩
  case round =>
    obtain ⟨j, rfl, hj, hmap, ht⟩ := hrel
    rename World => X
    have XM := Lib.hid hmap
    have XT := Lib.hid ht
    have XP := Lib.hid (P1.out.turn ht (by omega))
    have WB := Lib.hid (show Below w.heap.size w X from B1.out.trans (ht.below (B := w.heap.size) (fun k hk e => by have := HG.out; omega) B1.out.size))
    clear hmap ht
    have p0 : X.cell? ⟨b + 1, 0, none⟩ = some (.map (some b)) := XP.out.cell 0
    by_cases hlt : j < N
    · obtain ⟨d, off, rfl, hd, hc⟩ := int_cells (R0.out.below WB.out) (by omega)
      have hjo : j < o.length := by rw [HN.out]; exact hlt
      have k1 := hc j hjo
      have WF := Lib.hid (wf_small (HO.out _ (show gd o j ∈ o from by rw [gd_get hjo]; exact List.getElem_mem hjo)))
      have AT := Lib.hid (among_take hjo)
      clear hc hd
      generalize gd o j = y at k1 WF AT
      go_wp2_with (at_mapUpdate; refine wpList_putV _ rfl _ _ _ 80 rfl 4 Try.underlying80 rfl XM.out (by simp only [maxLen]; omega) y rfl WF.out _ rfl ?_; intro w9 h9 g9 s9; have M9 := Lib.hid h9; have G9 := Lib.hid g9; clear h9 g9 s9)
      go_roundw
      case rel => exact ⟨j + 1, by go_num, by omega, M9.out.to AT.out, XT.out.grown G9.out (fun k hk _ => by cases hk; rfl)⟩
      case measure => simp [RowKit.intOf]; omega
    · obtain rfl : j = N := by omega
      rw [List.take_of_length_le (by have := HN.out; omega)] at XM
      have XH := Lib.hid (own_step H.out WB.out)
      have SX := Lib.hid WB.out.size
      have SB := Lib.hid (show b + 2 ≤ X.heap.size from by have := XT.out.size; have := HG.out; omega)
      go_wp2_with (first
        | (go_at_call 40; refine (clone_int _ XH.out HLN.out).mono ?_; rintro e X2 ⟨v2, rfl, hv2, hb2⟩; have V2 := Lib.hid hv2; have E2 := Lib.hid hb2; have N2 := Lib.hid ((XP.out.here hb2).cell 0); have Q2 := Lib.hid (XM.out.here hb2); have Z2 := Lib.hid hb2.size; clear hv2 hb2)
        | (go_at_call 39; refine (del_own _ V2.out HL.out HLN.out (by have := SB.out; omega) (by have := SB.out; omega) Z2.out N2.out Q2.out).mono ?_; rintro e X3 ⟨v3, rfl, hv3, ht3⟩; have V3 := Lib.hid hv3; have T3 := Lib.hid ht3; clear hv3 ht3))
      go_ret
      refine ⟨_, rfl, own_less V3.out (by have := SX.out; omega), (WB.out.trans (E2.out.mono SX.out)).trans (T3.out.below (B := w.heap.size) (fun k hk e => ?_) (by have := SX.out; have := Z2.out; omega))⟩
      have := own_ge V2.out e
      have := SX.out
      omega
end Go.Proofs.Ytopjkidekbfalaa
