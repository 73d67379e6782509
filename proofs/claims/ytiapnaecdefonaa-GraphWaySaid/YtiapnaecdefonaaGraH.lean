/- The contract of Order. -/
import Derived.Test.YtiapnaecdefonaaGraD
import Derived.Test.YtiapnaecdefonaaHeapC
import Derived.Test.YtiapnaecdefonaaGraY
import Derived.Test.YtiapnaecdefonaaErr
import Derived.Deep.LoopGhost
namespace Go.Proofs.Ytiapnaecdefonaa
open Go.RowKit
set_option linter.unusedVariables false
set_option linter.unusedSimpArgs false

/-- A map of counts. -/
def CntM (w : World) (b n : Nat) (g : Int → Nat) : Prop := ∃ f, MapV w b n f ∧ ∀ x, (f x).getD (.int .i64 0) = .int .i64 (g x : Int)
theorem CntM.here {w w' : World} {b n : Nat} {g : Int → Nat} (h : CntM w b n g) (hk : w'.heap[b]? = w.heap[b]?) : CntM w' b n g := by obtain ⟨f, h1, h2⟩ := h; exact ⟨f, h1.of_block hk, h2⟩
theorem CntM.lt {w : World} {b n : Nat} {g : Int → Nat} (h : CntM w b n g) : b < w.heap.size := by obtain ⟨f, h1, h2⟩ := h; exact h1.lt
theorem CntM.to {w : World} {b n n' : Nat} {g g' : Int → Nat} (h : CntM w b n g) (hn : n ≤ n') (e : ∀ x, g x = g' x) : CntM w b n' g' := by
  obtain ⟨f, h1, h2⟩ := h
  exact ⟨f, h1.more hn, fun x => by rw [h2, e]⟩
theorem cntM_put {w : World} {b n : Nat} {f : Int → Option Value} {g : Int → Nat} {k : Int} {c : Nat} (h : MapV w b n (fun j => if j = k then some (.int .i64 (c : Int)) else f j)) (h2 : ∀ x, (f x).getD (.int .i64 0) = .int .i64 (g x : Int)) : CntM w b n (fun x => if x = k then c else g x) :=
  ⟨_, h, fun x => by
    by_cases e : x = k
    · rw [if_pos e]; show _ = Value.int .i64 (((if x = k then c else g x) : Nat) : Int); rw [if_pos e]; rfl
    · rw [if_neg e]; show _ = Value.int .i64 (((if x = k then c else g x) : Nat) : Int); rw [if_neg e]; exact h2 x⟩
theorem dg_le (E : Egs) (out : List Int) (x : Int) : dg E out x ≤ E.length := List.length_filter_le _ _
theorem HeapM.below {w w' : World} {B g : Nat} {v : Value} {H : List Int} (h : HeapM w B g v H) (hb : Below w.heap.size w w') : HeapM w' B g v H := h.turn (S := fun _ => False) (Turn.of_below hb) fun _ _ => id
section
variable {w : World} {n : Nat} {A : Option Addr} {ls : List (List Int)}
/-- What Order answers. -/
def ordE (E : Egs) : Value := if (ordF E (nds E)).length = (nds E).length then .nilIface else errno 11
def ordR (E : Egs) : List Int := if (ordF E (nds E)).length = (nds E).length then ordF E (nds E) else []
set_option maxRecDepth 100000 in
set_option maxHeartbeats 16000000 in
theorem orderG_any {c : Nat} (w : World) (h : EdgM w w.heap.size A n ls) (hn : n ≤ 200) :
    Calls Try.prog 19 #[.slice A n c] w fun e w' => ∃ v, e = .returned (.tuple #[v, ordE (eds ls)]) ∧ w'.ownsRow w.heap.size 3 1 v (ordR (eds ls)).length (i64s (ordR (eds ls))) ∧ Below w.heap.size w w' := by
  have hF := h.fin hn
  have HF := Lib.hid hF
  have hN : (nds (eds ls)).length ≤ 400 := by have := nds_len (eds ls); rw [h.elen] at this; omega
  have HH := Lib.hid h
  have HI := Lib.hid info_edge4
  have hmm := @run_makeMap Try.prog
  clear h hF
  go_enter Try.func19, Try.ntmps19
  go_wp2_with fail
  refine (numbers_any (c := c) w HH.out (by omega)).mono ?_
  rintro e w1 ⟨vn, rfl, hrn, hb1⟩
  have RN := Lib.hid hrn
  have B1 := Lib.hid hb1
  clear hrn hb1
  go_wp2_with fail
  refine (ends_any (c := c) w1 ((HH.out.below B1.out).more B1.out.size) (by omega)).mono ?_
  rintro e w2 ⟨b1, rfl, hbl1, hnx1, hb2⟩
  have N2 := Lib.hid hnx1
  have RN2 := Lib.hid (own_turn RN.out (Turn.of_below hb2 (S := fun _ => False)) (fun _ _ => id))
  have B2 := Lib.hid (B1.out.trans (hb2.mono B1.out.size))
  obtain ⟨B, hB⟩ : ∃ B, B = w2.heap.size := ⟨_, rfl⟩
  have N3 := Lib.hid (N2.out.below (Below.alloc (Below.refl _ _) (Nat.le_refl _) (.map #[] 0)))
  have RN3 := Lib.hid (RN2.out.alloc (.map #[] 0))
  have M3 := Lib.hid (show CntM (w2.alloc (.map #[] 0)) w2.heap.size 0 (fun _ => 0) from ⟨_, mapV_made w2, fun x => rfl⟩)
  have B3 := Lib.hid (B2.out.alloc B2.out.size (.map #[] 0))
  have Z3 := Lib.hid (show w.heap.size ≤ w2.heap.size from B2.out.size)
  have K3 := Lib.hid (show w2.heap.size < (w2.alloc (.map #[] 0)).heap.size by simp)
  obtain ⟨An, cn, rfl, hrd2, hcn, hAn⟩ := own_slice RN2.out
  have RD3 := Lib.hid (hrd2.below (Below.alloc (Below.refl _ _) (Nat.le_refl _) (.map #[] 0)))
  rw [← hB] at N3 M3 Z3 K3 RD3
  clear hnx1 hb2 hbl1 N2 RN RN2 RN3 B1 B2 hrd2 hAn
  go_wp2_with fail
  rw [← hB]
  clear hB
  generalize w2.alloc (.map #[] 0) = w3 at *
  have ED3 := Lib.hid (HH.out.below B3.out)
  have hel : (eds ls).length = n := HH.out.elen
  go_loopw [23] (fun s23 wr => ∃ (k : Nat), s23 = .int .i64 k ∧ k ≤ n ∧ CntM wr B k (dg (eds (ls.take k)) []) ∧ Below B w3 wr) (fun s23 _ => 1000 - (RowKit.intOf s23).toNat)
  case atStart => exact ⟨0, rfl, Nat.zero_le _, M3.out.to (Nat.le_refl _) (fun x => by simp [dg, eds]), Below.refl _ _⟩
  case round =>
    obtain ⟨k, rfl, hk, hcnt, hb⟩ := hrel
    rename World => W
    have HB := Lib.hid hb
    have HC := Lib.hid hcnt
    clear hcnt hb
    by_cases hlt : k < n
    · obtain ⟨b, off, a, s, t, u, rfl, hbl, ⟨hl, e⟩, hc, wa, wt⟩ := (ED3.out.below (HB.out.mono Z3.out)).at_ hlt
      have HE := Lib.hid (eds_take ls hl e)
      have CE := Lib.hid hc
      have WT := Lib.hid wt
      obtain ⟨f, hf1, hf2⟩ := HC.out
      have F1 := Lib.hid hf1
      have F2 := Lib.hid hf2
      have hd9 : dg (eds (ls.take k)) [] t ≤ 1000 := by have := dg_le (eds (ls.take k)) [] t; unfold eds at this ⊢; simp at this ⊢; omega
      have hfl := hf1.lt
      have HV := Lib.hid (hf2 t)
      clear hc wa wt e hf1 hf2
      obtain ⟨d, hd⟩ : ∃ d, dg (eds (ls.take k)) [] t = d := ⟨_, rfl⟩
      rw [hd] at hd9 HV
      have DD := Lib.hid hd
      clear hd
      go_wp2_with (first
        | (refine wpList_load_cells rfl 41 (.tmp 25) rfl ⟨b, off + k * 4, none⟩ rfl [.int .i64 a, .int .i64 s, .int .i64 t, .int .i64 u] _ CE.out Try.underlying41 rfl HI.out ?_)
        | (at_lookup; refine wpList_lookV _ rfl _ _ 48 rfl 3 Try.underlying48 _ (zeroInt _) rfl (F1.out.alloc _) t rfl WT.out _ HV.out ?_)
        | (at_mapUpdate; refine wpList_putV _ rfl _ _ _ 48 rfl 3 Try.underlying48 rfl (F1.out.alloc _) (by simp only [maxLen]; omega) t rfl WT.out (.int .i64 ((d : Int) + 1)) rfl ?_
           intro w5 hm5 hg5 hs5
           have M5 := Lib.hid hm5
           have G5 := Lib.hid hg5
           clear hm5 hg5 hs5))
      go_roundw
      case rel =>
        refine ⟨k + 1, by go_num, hlt, (cntM_put (c := d + 1) M5.out F2.out).to (Nat.le_refl _) fun x => ?_, (HB.out.alloc (by have := HB.out.size; have := K3.out; omega) _).grown G5.out (by have := HB.out.size; have := K3.out; simp; omega) (fun j hj => by cases hj; exact Nat.le_refl _)⟩
        rw [HE.out, dg_more]
        by_cases e : x = t
        · rw [if_pos e, e, DD.out, if_pos rfl]
        · rw [if_neg e, if_neg (fun e2 => e e2.symm)]; rfl
      case measure => simp [RowKit.intOf]; omega
    · obtain rfl : k = n := by omega
      rw [List.take_of_length_le (by have := HH.out.count; omega)] at HC
      have hBW : B < W.heap.size := HC.out.lt
      have HM0 := Lib.hid (show HeapM (W.alloc (.cells #[nilS] 66)) (B + 1) W.heap.size nilS [] from ⟨Blk.new W _ _, World.ownsRow_nil _ _ _ _, by omega⟩)
      have HC1 := Lib.hid (HC.out.here (w' := W.alloc (.cells #[nilS] 66)) (Below.heap_alloc _ _ _ hBW))
      have HB1 := Lib.hid (HB.out.alloc (by have := HB.out.size; have := K3.out; omega) (.cells #[nilS] 66))
      obtain ⟨g, hg⟩ : ∃ g, g = W.heap.size := ⟨_, rfl⟩
      rw [← hg] at HM0 hBW
      go_wp2_with fail
      rw [← hg]
      clear hg
      generalize W.alloc (.cells #[nilS] 66) = W1 at *
      go_loopw [37] (fun s37 wr => ∃ (j : Nat) (v : Value) (H : List Int), s37 = .int .i64 j ∧ j ≤ (nds (eds ls)).length ∧ HeapM wr (B + 1) g v H ∧ HP H H.length ∧ H.Nodup ∧ (∀ x, x ∈ H ↔ x ∈ (nds (eds ls)).take j ∧ dg (eds ls) [] x = 0) ∧ CntM wr B k (dg (eds ls) []) ∧ Below B w3 wr) (fun s37 _ => 1000 - (RowKit.intOf s37).toNat)
      case atStart => exact ⟨0, _, [], rfl, Nat.zero_le _, HM0.out, fun i i0 hi => by simp at hi, List.nodup_nil, by simp, HC1.out, HB1.out⟩
      case round =>
        obtain ⟨j, v, H, rfl, hj, hm, hhp, hnd, hmem, hcnt, hb⟩ := hrel
        rename World => X
        have hH9 : H.length ≤ 400 := Nat.le_trans (nodup_len hnd fun x hx => List.mem_of_mem_take ((hmem x).1 hx).1) hN
        have HM := Lib.hid hm
        have HHP := Lib.hid hhp
        have HND := Lib.hid hnd
        have HME := Lib.hid hmem
        have HCN := Lib.hid hcnt
        have HBX := Lib.hid hb
        clear hm hhp hnd hmem hcnt hb
        by_cases hlt : j < (nds (eds ls)).length
        · obtain ⟨bn, on, rfl, hbn, hcell⟩ := int_cells (RD3.out.below HBX.out) (by omega)
          have hx0 := hcell j hlt
          rw [gd_get hlt] at hx0
          have hxw := HF.out.wf _ (List.getElem_mem hlt)
          have hts := List.take_add_one (l := nds (eds ls)) (i := j)
          rw [List.getElem?_eq_getElem hlt] at hts
          have hnot : (nds (eds ls))[j] ∉ (nds (eds ls)).take j := fun hm => by
            obtain ⟨i, hi, e⟩ := List.mem_iff_getElem.1 hm
            rw [List.getElem_take] at e
            have hi2 : i < j := by have : i < min j (nds (eds ls)).length := by simpa using hi
                                   omega
            have := List.pairwise_iff_getElem.1 (nds_ris (eds ls)) i j (by omega) hlt hi2
            omega
          have KX := Lib.hid hx0
          have XW := Lib.hid hxw
          have TS := Lib.hid hts
          have NT := Lib.hid hnot
          clear hx0 hxw hts hnot hcell
          generalize (nds (eds ls))[j] = x at KX XW TS NT
          have kx := KX.out
          obtain ⟨f, hf1, hf2⟩ := HCN.out
          have F1 := Lib.hid hf1
          have HV := Lib.hid (hf2 x)
          clear hf1 hf2
          obtain ⟨d, hd⟩ : ∃ d, dg (eds ls) [] x = d := ⟨_, rfl⟩
          rw [hd] at HV
          have DD := Lib.hid hd
          clear hd
          have hext : (d = 0 → ∀ y, y ∈ H ++ [x] ↔ y ∈ (nds (eds ls)).take (j + 1) ∧ dg (eds ls) [] y = 0) ∧ (d ≠ 0 → ∀ y, y ∈ H ↔ y ∈ (nds (eds ls)).take (j + 1) ∧ dg (eds ls) [] y = 0) := by
            rw [TS.out]
            constructor
            · intro h0 y
              rw [List.mem_append, List.mem_append, HME.out y]
              simp only [Option.toList_some, List.mem_singleton]
              constructor
              · rintro (⟨h1, h2⟩ | h1)
                · exact ⟨.inl h1, h2⟩
                · rw [h1]; exact ⟨.inr rfl, by rw [DD.out, h0]⟩
              · rintro ⟨h1 | h1, h2⟩
                · exact .inl ⟨h1, h2⟩
                · exact .inr h1
            · intro h0 y
              rw [List.mem_append, HME.out y]
              simp only [Option.toList_some, List.mem_singleton]
              constructor
              · rintro ⟨h1, h2⟩; exact ⟨.inl h1, h2⟩
              · rintro ⟨h1 | h1, h2⟩
                · exact ⟨h1, h2⟩
                · rw [h1, DD.out] at h2; exact absurd h2 h0
          have EXT := Lib.hid hext
          clear hext
          by_cases hd0 : d = 0
          · subst hd0
            go_wp2_with (at_lookup; refine wpList_lookV _ rfl _ _ 48 rfl 3 Try.underlying48 _ (zeroInt _) rfl F1.out x rfl XW.out (.int .i64 0) HV.out ?_)
            refine (push_any x X HM.out HHP.out (by omega) (by have := HBX.out.size; have := F1.out.lt; omega)).mono ?_
            rintro e w5 ⟨rfl, v', H', hm5, hp5, hh5, ht5, hv5⟩
            have M5 := Lib.hid hm5
            have P5 := Lib.hid hp5
            have Q5 := Lib.hid hh5
            have T5 := Lib.hid ht5
            clear hm5 hp5 hh5 ht5 hv5
            go_wp2_with fail
            go_roundw
            case rel =>
              have hge : ∀ q, HS g v q → B + 1 ≤ q := fun q hq => (HM.out.geS q hq).1
              refine ⟨j + 1, v', H', by go_num, hlt, M5.out, Q5.out, (P5.out.nodup_iff).2 (List.nodup_append.2 ⟨HND.out, by simp, fun a ha b hb e => ?_⟩), fun y => ?_, HCN.out.here (T5.out.block B HCN.out.lt (fun h => by have := hge B h; omega)), HBX.out.trans (T5.out.below (fun q hq h => by have := hge q h; omega) (by have := HBX.out.size; have := F1.out.lt; omega))⟩
              · simp at hb; subst hb; subst e
                exact NT.out ((HME.out a).1 ha).1
              · rw [P5.out.mem_iff]; exact EXT.out.1 (by first | rfl | trivial) y
            case measure => simp [RowKit.intOf]; omega
          · have d1 : ((d : Int) == 0) = false := by simp; omega
            go_wp2_with (at_lookup; refine wpList_lookV _ rfl _ _ 48 rfl 3 Try.underlying48 _ (zeroInt _) rfl F1.out x rfl XW.out _ HV.out ?_)
            go_roundw
            case rel => exact ⟨j + 1, v, H, by go_num, hlt, HM.out, HHP.out, HND.out, EXT.out.2 hd0, HCN.out, HBX.out⟩
            case measure => simp [RowKit.intOf]; omega
        · obtain rfl : j = (nds (eds ls)).length := by omega
          have HO := Lib.hid (show HeapO (eds ls) (nds (eds ls)) [] (dg (eds ls) []) H from ⟨HHP.out, HND.out, fun x => by rw [HME.out x, List.take_length]; simp⟩)
          clear HHP HND HME
          have RS := Lib.hid (nds_ris (eds ls))
          have HLT := Lib.hid (show B + 1 ≤ w3.heap.size ∧ w3.heap.size ≤ X.heap.size from ⟨by have := K3.out; omega, HBX.out.size⟩)
          go_wp2_with fail
          go_loopg [9] 401 (fun gk s9 wr => ∃ (i : Nat) (v : Value) (H : List Int), i + gk = 401 ∧ (ordN (eds ls) (nds (eds ls)) i).length = i ∧ wr.ownsRow (B + 1) 3 1 s9 i (i64s (ordN (eds ls) (nds (eds ls)) i)) ∧ HeapM wr (B + 1) g v H ∧
              HeapO (eds ls) (nds (eds ls)) (ordN (eds ls) (nds (eds ls)) i) (dg (eds ls) (ordN (eds ls) (nds (eds ls)) i)) H ∧ CntM wr B (1000 + 1000 * i) (dg (eds ls) (ordN (eds ls) (nds (eds ls)) i)) ∧ Below B w3 wr ∧ (∀ q, s9.ownBlock = some q → ¬ HS g v q))
          case atStart => exact ⟨0, v, H, rfl, rfl, World.ownsRow_nil _ _ _ _, HM.out, HO.out, HCN.out.to (by omega) (fun _ => rfl), HBX.out, fun q hq => by simp [Value.ownBlock] at hq⟩
          case round =>
            obtain ⟨i, v, H, hig, hil, hrow, hm, ho, hcnt, hb, hap⟩ := hrel
            rename World => Y
            have hi4 : i ≤ 400 := by have := ordN_len (E := eds ls) RS.out i; omega
            have hH4 : H.length ≤ 400 := Nat.le_trans ho.len hN
            obtain ⟨Av, cv, rfl, _⟩ := own_slice hm.row
            have kg : Y.cell? ⟨g, 0, none⟩ = some (.slice Av H.length cv) := hm.box.cell 0
            obtain ⟨G, rfl⟩ : ∃ G, gk = G + 1 := ⟨gk - 1, by omega⟩
            have ROW := Lib.hid hrow
            have HM := Lib.hid hm
            have HO := Lib.hid ho
            have HC := Lib.hid hcnt
            have HB := Lib.hid hb
            have AP := Lib.hid hap
            have IL := Lib.hid hil
            have ZY := Lib.hid (show B + 1 ≤ Y.heap.size from by have := hb.size; have := K3.out; omega)
            clear hrow hm ho hcnt hb hap hil
            by_cases hH0 : H.length = 0
            · obtain rfl : H = [] := List.eq_nil_of_length_eq_zero hH0
              have PN := Lib.hid HO.out.none
              have OF := Lib.hid (ordF_eq RS.out IL.out PN.out)
              obtain ⟨A9, c9, rfl, _⟩ := own_slice ROW.out
              clear hH0
              by_cases hfull : i < (nds (eds ls)).length
              · have hne : ¬ (ordF (eds ls) (nds (eds ls))).length = (nds (eds ls)).length := by rw [OF.out, IL.out]; omega
                have E1 := Lib.hid (show ordE (eds ls) = errno 11 from by unfold ordE; rw [if_neg hne])
                have E2 := Lib.hid (show ordR (eds ls) = [] from by unfold ordR; rw [if_neg hne])
                clear hne
                go_wp2_with (go_at_call 35; refine (lenI_any _ _ _ _).mono ?_; rintro e w' ⟨rfl, hww⟩; subst hww)
                go_ret2
                rw [E1.out, E2.out]
                exact ⟨nilS, rfl, World.ownsRow_nil _ _ _ _, B3.out.trans (HB.out.mono Z3.out)⟩
              · have hle : i ≤ (nds (eds ls)).length := by have := ordN_len (E := eds ls) RS.out i; rw [IL.out] at this; exact this
                have heq : (ordF (eds ls) (nds (eds ls))).length = (nds (eds ls)).length := by rw [OF.out, IL.out]; omega
                have E1 := Lib.hid (show ordE (eds ls) = .nilIface from by unfold ordE; rw [if_pos heq])
                have E2 := Lib.hid (show ordR (eds ls) = ordN (eds ls) (nds (eds ls)) i from by unfold ordR; rw [if_pos heq, OF.out])
                clear heq
                go_wp2_with (go_at_call 35; refine (lenI_any _ _ _ _).mono ?_; rintro e w' ⟨rfl, hww⟩; subst hww)
                go_ret2
                rw [E1.out, E2.out, IL.out]
                exact ⟨_, rfl, own_less ROW.out (by have := Z3.out; omega), B3.out.trans (HB.out.mono Z3.out)⟩
            · obtain ⟨x, hx⟩ : ∃ x, gd H 0 = x := ⟨_, rfl⟩
              have hpk := HO.out.pick RS.out (by omega) hx
              have hxN : x ∈ nds (eds ls) := (pick_some RS.out hpk.1).1
              have PK := Lib.hid hpk
              have XN := Lib.hid hxN
              have XW := Lib.hid (HF.out.wf x hxN)
              have XX := Lib.hid hx
              have hA := assertI x
              have OS := Lib.hid (ordN_succ hpk.1)
              have RY := Lib.hid (HF.out.each x)
              clear hpk hxN hx
              go_wp2_with (first
                | (go_at_call 35; refine (lenI_any _ _ _ _).mono ?_; rintro e w' ⟨rfl, hww⟩; subst hww)
                | (go_at_call 36
                   refine (pop_any Y HM.out HO.out.hp (by omega) XX.out (by omega)).mono ?_
                   rintro e w5 ⟨rfl, v5, H5, hm5, hp5, hh5, ht5, hv5⟩
                   have M5 := Lib.hid hm5
                   have O5 := Lib.hid (HO.out.popped hp5 hh5 PK.out.2)
                   have T5 := Lib.hid ht5
                   have V5 := Lib.hid hv5
                   have R5 := Lib.hid (own_turn ROW.out ht5 fun q hq h => AP.out q hq h)
                   have hsz5 := ht5.size
                   clear hm5 hp5 hh5 ht5 hv5)
                | (at_builtin
                   refine wpList_app_new _ rfl (.tmp 61) (.tmp 63) _ rfl Try.underlying25 (B + 1) u9 i (ordN (eds ls) (nds (eds ls)) i) rfl (R5.out.alloc _) [x] 1 1 _ _ rfl _ rfl (by simp) rfl (by omega) (by have := ZY.out; simp; omega) ?_
                   intro v9 w9 hown9 hg9 hv9
                   have O9 := Lib.hid hown9
                   have G9 := Lib.hid hg9
                   have V9 := Lib.hid hv9
                   have hsz9 := hg9.size
                   have BB9 := Lib.hid (show Below B w3 w9 from ((HB.out.trans (T5.out.below (fun q hq h => by have := (HM.out.geS q h).1; omega) (by have := ZY.out; omega))).alloc (by have := ZY.out; omega) _).grown hg9 (by have := ZY.out; simp; omega) (fun q hq => by have := ownBlock_ge R5.out q hq; omega))
                   clear hown9 hg9 hv9)
                | (at_lookup; refine wpList_lookN _ rfl _ _ rfl rfl N3.out BB9.out x rfl XW.out ?_
                   intro A2 c2 hc2 hr2
                   have HR2 := Lib.hid hr2
                   clear hr2))
              have hge : ∀ q, HS g (.slice Av H.length cv) q → B + 1 ≤ q ∧ q < Y.heap.size := fun q hq => HM.out.geS q hq
              have tg : Turn (fun q => u9.ownBlock = some q) w5 w9 := ((Turn.refl (fun q => u9.ownBlock = some q) w5).alloc (.cells #[.int .i64 x] 3)).grown G9.out (fun q hq _ => hq)
              have hS5 : ∀ q, HS g v5 q → HS g (.slice Av H.length cv) q := fun q hq => hq.imp id (fun h => by rw [← V5.out]; exact h)
              have M9 := Lib.hid (M5.out.turn tg fun q hq h => AP.out q h (hS5 q hq))
              have C9 := Lib.hid (show CntM w9 B (1000 + 1000 * i) (dg (eds ls) (ordN (eds ls) (nds (eds ls)) i)) from (HC.out.here (T5.out.block B HC.out.lt (fun h => by have := (hge B h).1; omega))).here (tg.block B (by have := HC.out.lt; omega) (fun h => by have := ownBlock_ge ROW.out B h; omega)))
              have A9 := Lib.hid (show ∀ q, v9.ownBlock = some q → ¬ HS g v5 q from fun q hq h => by
                rcases V9.out with h9 | h9
                · exact AP.out q (by rw [← h9]; exact hq) (hS5 q h)
                · rw [hq] at h9; injection h9 with h9
                  have := (hge q (hS5 q h)).2
                  rw [h9] at this; simp at this; omega)
              have NO := Lib.hid (show ∀ t ∈ nxt (eds ls) x, t ∈ nds (eds ls) ∧ t ∉ ordN (eds ls) (nds (eds ls)) i ++ [x] from fun t ht => by
                refine ⟨(nds_of ht).2, fun hm => ?_⟩
                have hfree := (free_iff.1 (pick_some RS.out PK.out.1).2.1).2
                have hed := nxt_mem.1 ht
                rcases List.mem_append.1 hm with hm | hm
                · obtain ⟨P, Q, e⟩ := List.append_of_mem hm
                  have := (ord_ordN (E := eds ls) RS.out i).ahead P t Q e x hed
                  exact PK.out.2 (by rw [e]; simp [this])
                · simp at hm; subst hm
                  exact PK.out.2 (hfree _ hed))
              have hsz : B + 1 ≤ w9.heap.size := by have := BB9.out.size; have := K3.out; omega
              clear hge tg hS5 hA
              go_loopw [69] (fun s69 wr => ∃ (j : Nat) (v' : Value) (H' : List Int), s69 = .int .i64 j ∧ j ≤ (nxt (eds ls) x).length ∧ HeapM wr (B + 1) g v' H' ∧ HeapO (eds ls) (nds (eds ls)) (ordN (eds ls) (nds (eds ls)) i ++ [x]) (fun y => dg (eds ls) (ordN (eds ls) (nds (eds ls)) i ++ [x]) y + ((nxt (eds ls) x).drop j).count y) H' ∧
                  CntM wr B (1000 + 1000 * i + j) (fun y => dg (eds ls) (ordN (eds ls) (nds (eds ls)) i ++ [x]) y + ((nxt (eds ls) x).drop j).count y) ∧ Below B w3 wr ∧ wr.ownsRow (B + 1) 3 1 v9 (i + 1) (i64s (ordN (eds ls) (nds (eds ls)) i ++ [x])) ∧ (∀ q, v9.ownBlock = some q → ¬ HS g v' q) ∧ w9.heap.size ≤ wr.heap.size)
                (fun s69 _ => 2000 - (RowKit.intOf s69).toNat)
              case atStart => exact ⟨0, v5, H5, rfl, Nat.zero_le _, M9.out, O5.out, C9.out.to (Nat.le_refl _) (fun y => dg_snoc PK.out.2 y), BB9.out, O9.out, A9.out, Nat.le_refl _⟩
              case round =>
                obtain ⟨j, v', H', rfl, hj, hm, ho, hcnt, hb, hrow, hap, hsz2⟩ := hrel
                rename World => Z
                have hH4 : H'.length ≤ 400 := Nat.le_trans ho.len hN
                have HM := Lib.hid hm
                have HO := Lib.hid ho
                have HC := Lib.hid hcnt
                have HB := Lib.hid hb
                have ROW := Lib.hid hrow
                have AP := Lib.hid hap
                clear hm ho hcnt hb hrow hap
                by_cases hlt : j < (nxt (eds ls) x).length
                · obtain ⟨bn, on, rfl, hbn, hcell⟩ := int_cells (HR2.out.below HB.out) (by omega)
                  have hx0 := hcell j hlt
                  rw [gd_get hlt] at hx0
                  have hno := NO.out _ (List.getElem_mem hlt)
                  have hcd := fun y => count_drop hlt y
                  have hxw := HF.out.wf _ hno.1
                  have KX := Lib.hid hx0
                  have TW := Lib.hid hxw
                  have CD := Lib.hid hcd
                  have TN := Lib.hid hno
                  have hry := RY.out
                  clear hx0 hno hcd hxw hcell
                  generalize (nxt (eds ls) x)[j] = t at KX TW CD TN
                  have kx := KX.out
                  obtain ⟨f, hf1, hf2⟩ := HC.out
                  obtain ⟨d, hd⟩ : ∃ d, dg (eds ls) (ordN (eds ls) (nds (eds ls)) i ++ [x]) t + ((nxt (eds ls) x).drop (j + 1)).count t = d := ⟨_, rfl⟩
                  have hv : (f t).getD (.int .i64 0) = .int .i64 ((d : Int) + 1) := by
                    rw [hf2 t]
                    show Value.int .i64 ((dg (eds ls) (ordN (eds ls) (nds (eds ls)) i ++ [x]) t + ((nxt (eds ls) x).drop j).count t : Nat) : Int) = _
                    rw [CD.out t, if_pos rfl, ← hd]
                    rfl
                  have hd9 : d ≤ 2000 := by
                    have h1 := dg_le (eds ls) (ordN (eds ls) (nds (eds ls)) i ++ [x]) t
                    have h2 : ((nxt (eds ls) x).drop (j + 1)).count t ≤ (nxt (eds ls) x).length := Nat.le_trans List.count_le_length (by simp)
                    omega
                  have hgd : ∀ y, dg (eds ls) (ordN (eds ls) (nds (eds ls)) i ++ [x]) y + ((nxt (eds ls) x).drop (j + 1)).count y = if y = t then d else dg (eds ls) (ordN (eds ls) (nds (eds ls)) i ++ [x]) y + ((nxt (eds ls) x).drop j).count y := fun y => by
                    by_cases e : y = t
                    · rw [if_pos e, e]; exact hd
                    · rw [if_neg e, CD.out y, if_neg e]; rfl
                  have hgt : 0 < dg (eds ls) (ordN (eds ls) (nds (eds ls)) i ++ [x]) t + ((nxt (eds ls) x).drop j).count t := by rw [CD.out t, if_pos rfl]; omega
                  have F1 := Lib.hid hf1
                  have F2 := Lib.hid hf2
                  have HV := Lib.hid hv
                  have GD := Lib.hid hgd
                  have GT := Lib.hid hgt
                  have q1 : IntKind.i64.wrap ((d : Int) + 1 - 1) = (d : Int) := by rw [show (d : Int) + 1 - 1 = d by omega]; exact IntWalk.i64_in _ (by omega)
                  have hgeH : ∀ q, HS g v' q → B + 1 ≤ q := fun q hq => (HM.out.geS q hq).1
                  have GE := Lib.hid hgeH
                  clear hf1 hf2 hd hv hgd hgt hgeH
                  have TOK := Lib.hid True.intro
                  have put : True := trivial
                  by_cases hd0 : d = 0
                  · subst hd0
                    go_wp2_with (first
                      | (at_lookup; have _t := TOK; refine wpList_lookV _ rfl _ _ 48 rfl 3 Try.underlying48 _ (zeroInt _) rfl F1.out t rfl TW.out (.int .i64 1) HV.out ?_; clear TOK)
                      | (at_mapUpdate; refine wpList_putV _ rfl _ _ _ 48 rfl 3 Try.underlying48 rfl F1.out (by simp only [maxLen]; omega) t rfl TW.out (.int .i64 0) rfl ?_
                         intro wa hma hga hsa
                         have MA := Lib.hid hma
                         have TA := Lib.hid (turn_grown hga)
                         have SA := Lib.hid hsa
                         clear hma hga hsa)
                      | (at_lookup; refine wpList_lookV _ rfl _ _ 48 rfl 3 Try.underlying48 _ (zeroInt _) rfl MA.out t rfl TW.out (.int .i64 0) (by rw [if_pos rfl]; rfl) ?_))
                    have hnB : ∀ q, HS g v' q → ¬ q = B := fun q hq e => by have := GE.out q hq; omega
                    have MH := Lib.hid (HM.out.turn TA.out hnB)
                    have CA := Lib.hid ((cntM_put (c := 0) (show MapV wa B (1000 + 1000 * i + j + 1) (fun z => if z = t then some (.int .i64 ((0 : Nat) : Int)) else f z) from MA.out) F2.out).to (Nat.le_refl _) (fun y => (GD.out y).symm))
                    have BA := Lib.hid (HB.out.trans (TA.out.below (fun q hq e => by omega) (by omega)))
                    have RA := Lib.hid (own_turn ROW.out TA.out (fun q hq e => by have := ownBlock_ge ROW.out q hq; omega))
                    refine (push_any t wa MH.out HO.out.hp (by omega) (by rw [SA.out]; omega)).mono ?_
                    rintro e wb ⟨rfl, v2, H2, hm2, hp2, hh2, ht2, hv2⟩
                    have M2 := Lib.hid hm2
                    have P2 := Lib.hid hp2
                    have Q2 := Lib.hid hh2
                    have T2 := Lib.hid ht2
                    have V2 := Lib.hid hv2
                    clear hm2 hp2 hh2 ht2 hv2
                    go_wp2_with fail
                    go_roundw
                    case rel =>
                      refine ⟨j + 1, v2, H2, by go_num, hlt, M2.out, HO.out.push GT.out GD.out TN.out.1 TN.out.2 P2.out Q2.out, CA.out.here (T2.out.block B CA.out.lt (fun h => by have := GE.out B h; omega)), BA.out.trans (T2.out.below (fun q hq h => by have := GE.out q h; omega) (by rw [SA.out]; omega)), own_turn RA.out T2.out (fun q hq h => AP.out q hq h), fun q hq h => ?_, by have := T2.out.size; have := SA.out; omega⟩
                      rcases h with h | h
                      · exact AP.out q hq (.inl h)
                      · rcases V2.out with h2 | h2
                        · exact AP.out q hq (.inr (by rw [← h2]; exact h))
                        · have h3 := h2 q h
                          obtain ⟨cur, hh, _⟩ := own_heap RA.out q hq
                          have := own_lt hh
                          omega
                    case measure => simp [RowKit.intOf]; omega
                  · have d1 : ((d : Int) == 0) = false := by simp; omega
                    have hdp : 0 < d := by omega
                    go_wp2_with (first
                      | (at_lookup; have _t := TOK; refine wpList_lookV _ rfl _ _ 48 rfl 3 Try.underlying48 _ (zeroInt _) rfl F1.out t rfl TW.out (.int .i64 ((d : Int) + 1)) HV.out ?_; clear TOK)
                      | (at_mapUpdate; refine wpList_putV _ rfl _ _ _ 48 rfl 3 Try.underlying48 rfl F1.out (by simp only [maxLen]; omega) t rfl TW.out (.int .i64 (d : Int)) rfl ?_
                         intro wa hma hga hsa
                         have MA := Lib.hid hma
                         have TA := Lib.hid (turn_grown hga)
                         have SA := Lib.hid hsa
                         clear hma hga hsa)
                      | (at_lookup; refine wpList_lookV _ rfl _ _ 48 rfl 3 Try.underlying48 _ (zeroInt _) rfl MA.out t rfl TW.out (.int .i64 (d : Int)) (by rw [if_pos rfl]; rfl) ?_))
                    go_roundw
                    case rel =>
                      have hnB : ∀ q, HS g v' q → ¬ q = B := fun q hq e => by have := GE.out q hq; omega
                      refine ⟨j + 1, v', H', by go_num, hlt, HM.out.turn TA.out hnB, HO.out.stay GT.out (fun y hy => ?_) ?_, (cntM_put (c := d) MA.out F2.out).to (Nat.le_refl _) (fun y => (GD.out y).symm), HB.out.trans (TA.out.below (fun q hq e => by omega) (by omega)), own_turn ROW.out TA.out (fun q hq e => by have := ownBlock_ge ROW.out q hq; omega), AP.out, by have := SA.out; omega⟩
                      · show _ = _
                        rw [GD.out y, if_neg hy]
                      · show ¬ _ = 0
                        rw [GD.out t, if_pos rfl]; exact hd0
                    case measure => simp [RowKit.intOf]; omega
                · obtain rfl : j = (nxt (eds ls) x).length := by omega
                  have HO' := Lib.hid (HO.out.to (g' := dg (eds ls) (ordN (eds ls) (nds (eds ls)) i ++ [x])) (fun y => by simp))
                  have HC' := Lib.hid (HC.out.to (n' := 1000 + 1000 * (i + 1)) (g' := dg (eds ls) (ordN (eds ls) (nds (eds ls)) i ++ [x])) (by have := RY.out; omega) (fun y => by simp))
                  rw [← OS.out] at HO' HC' ROW
                  clear HO HC
                  go_wp2_with fail
                  go_roundg G
                  case rel => exact ⟨i + 1, v', H', by omega, by rw [OS.out, List.length_append, IL.out]; rfl, ROW.out, HM.out, HO'.out, HC'.out, HB.out, AP.out⟩
                  case measure => omega
end
end Go.Proofs.Ytiapnaecdefonaa
