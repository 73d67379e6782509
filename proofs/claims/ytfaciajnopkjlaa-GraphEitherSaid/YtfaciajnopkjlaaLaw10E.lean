/- GraphEither: where all come. -/
import Derived.Test.YtfaciajnopkjlaaLaw10R
import Derived.Test.YtfaciajnopkjlaaGraH
namespace Go.Proofs.Ytfaciajnopkjlaa
open Go.RowKit
set_option linter.unusedVariables false
set_option linter.unusedSimpArgs false

theorem ord_all {E : Egs} {N out : List Int} (ho : Ord E N out) (hl : out.length = N.length) : ∀ y ∈ N, y ∈ out := by
  intro y hy
  apply Classical.byContradiction
  intro hno
  have : (y :: out).length ≤ N.length := nodup_len (List.nodup_cons.2 ⟨hno, ho.nodup⟩) fun z hz => by
    rcases List.mem_cons.1 hz with rfl | hz
    · exact hy
    · exact ho.sub z hz
  simp at this; omega
theorem ordF_ord (E : Egs) : Ord E (nds E) (ordF E (nds E)) := ord_ordN (nds_ris E) _
theorem ordF_len (E : Egs) : (ordF E (nds E)).length ≤ (nds E).length := ordN_len (nds_ris E) _
theorem ordF_end (E : Egs) : (ordF E (nds E)).length = (nds E).length ∨ pick E (nds E) (ordF E (nds E)) = none := by
  by_cases hf : (ordF E (nds E)).length = (nds E).length
  · exact .inl hf
  · right
    have key : ∀ k, (ordN E (nds E) k).length = k ∨ pick E (nds E) (ordN E (nds E) k) = none := by
      intro k
      induction k with
      | zero => exact .inl rfl
      | succ k ih =>
        rcases ih with ih | ih
        · cases hp : pick E (nds E) (ordN E (nds E) k) with
          | none => right; rw [ordN_stuck hp 1]; exact hp
          | some x => left; rw [ordN_succ hp, List.length_append, ih]; rfl
        · right; rw [ordN_stuck ih 1]; exact ih
    rcases key (nds E).length with h | h
    · exact absurd h hf
    · exact h
theorem full_iff (E : Egs) : (ordF E (nds E)).length = (nds E).length ↔ ∀ x, ¬ Rp (nxt E) x x :=
  ord_full_iff (F := nxt E) (fun a b => nxt_mem) (nds_ris E) (fun a b h => nds_of (nxt_mem.2 h)) (ordF_ord E) (ordF_end E)
/-- Of each edge, the places of both ends. -/
theorem edge_places {E : Egs} (hfull : (ordF E (nds E)).length = (nds E).length) {a t : Int} (h : (a, t) ∈ E) : ∃ i j, j < i ∧ i < (ordF E (nds E)).length ∧ gd (ordF E (nds E)) i = t ∧ gd (ordF E (nds E)) j = a := by
  have ho := ordF_ord E
  have ht := ord_all ho hfull t (nds_of (nxt_mem.2 h)).2
  obtain ⟨i, hi, e⟩ := List.mem_iff_getElem.1 ht
  obtain ⟨j, hj, e2⟩ := ho.before h (i := i) (by rw [List.getElem?_eq_getElem hi, e])
  refine ⟨i, j, hj, hi, by rw [gd_get hi, e], ?_⟩
  obtain ⟨hj2, e3⟩ := List.getElem?_eq_some_iff.1 e2
  rw [gd_get hj2, e3]
set_option maxRecDepth 100000 in
set_option maxHeartbeats 16000000 in
theorem eitherFull_walk (a0 : Option Addr) (len0 cap0 : Nat) (l0 : List (List Int)) (W : World) (h : EdgM W W.heap.size a0 len0 l0) (h60 : len0 ≤ 60) (hfull : (ordF (eds l0) (nds (eds l0))).length = (nds (eds l0)).length) :
    Calls Try.prog 6 #[.slice a0 len0 cap0] W fun e w' => e = .returned (.bool true) ∧ Below W.heap.size W w' := by
  have HH := Lib.hid h
  have HF := Lib.hid (h.fin (by omega))
  have d1 : decide ((60 : Int) < (len0 : Int)) = false := by simp; omega
  have hN : (nds (eds l0)).length ≤ 400 := by have := nds_len (eds l0); rw [HH.out.elen] at this; omega
  have hn0 := fun W => run_eql_nil_nil (P := Try.prog) W 32 Try.underlying32
  have hmm := @run_makeMap Try.prog
  have NC := Lib.hid ((full_iff _).1 hfull)
  have EP := Lib.hid (fun a t h => edge_places hfull (a := a) (t := t) h)
  have ON := Lib.hid (ordF_ord (eds l0)).nodup
  have OW := Lib.hid (show ∀ y ∈ ordF (eds l0) (nds (eds l0)), (Lit.int .i64 y).wf = true from fun y hy => HF.out.wf y ((ordF_ord (eds l0)).sub y hy))
  have hE : ordE (eds l0) = .nilIface := by unfold ordE; rw [if_pos hfull]
  have hR : ordR (eds l0) = ordF (eds l0) (nds (eds l0)) := by unfold ordR; rw [if_pos hfull]
  have hol : (ordF (eds l0) (nds (eds l0))).length ≤ 400 := by omega
  have HE := Lib.hid hE
  have HR := Lib.hid hR
  clear h hfull hE hR
  go_enter Try.func6, Try.ntmps6
  go_wp2_with (go_at_call 8; refine (alive10_any _).mono ?_; rintro e w1 ⟨rfl, hb1⟩; have B1 := Lib.hid hb1; have E1 := Lib.hid (HH.out.next hb1); clear hb1)
  refine (orderG_any (c := cap0) w1 E1.out (by omega)).mono ?_
  rintro e w2 ⟨v2, rfl, hrow2, hb2⟩
  rw [HE.out]
  rw [HR.out] at hrow2
  clear HE HR
  generalize ordF (eds l0) (nds (eds l0)) = o at hrow2 ON EP OW hol
  obtain ⟨A2, c2, rfl, hr2, _⟩ := own_slice hrow2
  have R2 := Lib.hid hr2
  have E2 := Lib.hid (E1.out.next hb2)
  have B2 := Lib.hid (B1.out.trans (hb2.mono B1.out.size))
  clear hrow2 hb2 hr2
  go_wp2_with fail
  refine (circlesG_any (c := cap0) w2 E2.out (by omega)).mono ?_
  rintro e w3 ⟨v3, l3, rfl, hris3, hmem3, hrow3, hb3⟩
  obtain rfl : l3 = [] := by
    cases l3 with
    | nil => rfl
    | cons a l => exact absurd ((hmem3 a).1 (by simp)) (NC.out a)
  obtain ⟨A3, c3, rfl, hr3, _⟩ := own_slice hrow3
  have B3 := Lib.hid (B2.out.trans (hb3.mono B2.out.size))
  obtain ⟨B, hB⟩ : ∃ B, B = w3.heap.size := ⟨_, rfl⟩
  have R4 := Lib.hid (((R2.out.below hb3).more hb3.size).below (Below.alloc (Below.refl _ _) (Nat.le_refl _) (.map #[] 0)))
  have E4 := Lib.hid (((HH.out.below B3.out).more B3.out.size).below (Below.alloc (Below.refl _ _) (Nat.le_refl _) (.map #[] 0)))
  have M4 := Lib.hid (mapV_made w3)
  have B4 := Lib.hid (B3.out.alloc B3.out.size (.map #[] 0))
  have Z4 := Lib.hid (show W.heap.size ≤ w3.heap.size ∧ w3.heap.size < (w3.alloc (.map #[] 0)).heap.size from ⟨B3.out.size, by simp⟩)
  rw [← hB] at R4 E4 M4 Z4
  clear hris3 hmem3 hrow3 hb3 hr3 R2 B1 B2 B3 E1 E2
  go_wp2_with fail
  rw [← hB]
  clear hB
  generalize w3.alloc (.map #[] 0) = w4 at *
  go_loopw [7] (fun s7 wr => ∃ (k : Nat) (f : Int → Option Value), s7 = .int .i64 k ∧ k ≤ o.length ∧ MapV wr B k f ∧ (∀ i, i < k → f (gd o i) = some (.int .i64 (i : Nat))) ∧ Below B w4 wr) (fun s7 _ => 1000 - (RowKit.intOf s7).toNat)
  case atStart => exact ⟨0, _, rfl, Nat.zero_le _, M4.out, fun i hi => by omega, Below.refl _ _⟩
  case round =>
    obtain ⟨k, f, rfl, hk, hmap, hf, hb⟩ := hrel
    rename World => X
    have HM := Lib.hid hmap
    have HV := Lib.hid hf
    have HB := Lib.hid hb
    clear hmap hf hb
    by_cases hlt : k < o.length
    · obtain ⟨bo, oo, rfl, hbo, hco⟩ := int_cells (R4.out.below HB.out) (by omega)
      have kx := hco k hlt
      have XW := Lib.hid (show (Lit.int .i64 (gd o k)).wf = true from by rw [gd_get hlt]; exact OW.out _ (List.getElem_mem hlt))
      have ND := Lib.hid (show ∀ i, i < k → gd o i ≠ gd o k from fun i hi e => by
        rw [gd_get hlt, gd_get (by omega : i < o.length)] at e
        have h1 : o[i]? = o[k]? := by rw [List.getElem?_eq_getElem hlt, List.getElem?_eq_getElem (by omega : i < o.length), e]
        have := (List.getElem?_inj (by omega) ON.out).1 h1
        omega)
      clear hco hbo
      have GX := Lib.hid (show ∃ x, gd o k = x from ⟨_, rfl⟩)
      generalize hx : gd o k = x at kx XW ND
      have HX := Lib.hid hx
      clear hx GX
      go_wp2_with (at_mapUpdate; refine wpList_putV _ rfl _ _ _ 39 rfl 3 Try.underlying39 rfl HM.out (by simp only [maxLen]; omega) x rfl XW.out (.int .i64 (k : Int)) rfl ?_
                   intro wa hma hga hsa
                   have MA := Lib.hid hma
                   have GA := Lib.hid hga
                   clear hma hga hsa)
      go_roundw
      case rel =>
        refine ⟨k + 1, _, by go_num, hlt, MA.out, fun i hi => ?_, HB.out.grown GA.out (by have := HB.out.size; have := Z4.out; omega) (fun j hj => by cases hj; exact Nat.le_refl _)⟩
        by_cases hik : i = k
        · subst hik; show (if gd o i = x then _ else _) = _; rw [if_pos HX.out]
        · show (if gd o i = x then _ else _) = _
          rw [if_neg (ND.out i (by omega)), HV.out i (by omega)]
      case measure => simp [RowKit.intOf]; omega
    · obtain rfl : k = o.length := by omega
      have EX := Lib.hid (E4.out.below HB.out)
      have BX := Lib.hid (show Below W.heap.size W X from B4.out.trans (HB.out.mono Z4.out.1))
      clear HB
      go_wp2_with fail
      go_loopw [8] (fun s8 wr => ∃ (i : Nat), s8 = .int .i64 i ∧ i ≤ len0 ∧ X = wr) (fun s8 _ => 1000 - (RowKit.intOf s8).toNat)
      case atStart => exact ⟨0, rfl, Nat.zero_le _, rfl⟩
      case round =>
        obtain ⟨i, rfl, hi, rfl⟩ := hrel
        by_cases hil : i < len0
        · obtain ⟨b, off, a, s, t, u, rfl, hbl, ⟨hl, e⟩, hc, wa, wt⟩ := EX.out.at_ hil
          have k0 : X.cell? ⟨b, off + i * 4, none⟩ = some (.int .i64 a) := by have := hc 0 _ rfl; simpa [Addr.add] using this
          have k2 : X.cell? ⟨b, off + i * 4 + 2, none⟩ = some (.int .i64 t) := by have := hc 2 _ rfl; simpa [Addr.add] using this
          obtain ⟨p, q, hqp, hp, ep, eq⟩ := EP.out a t (List.mem_map.2 ⟨_, List.getElem_mem hl, by rw [e]; rfl⟩)
          have fa := HV.out q (by omega)
          have ft := HV.out p hp
          rw [ep] at ft
          rw [eq] at fa
          have VA := Lib.hid (show (f a).getD (.int .i64 0) = .int .i64 (q : Int) from by rw [fa]; rfl)
          have IA := Lib.hid (show (f a).isSome = true from by rw [fa]; rfl)
          have VT := Lib.hid (show (f t).getD (.int .i64 0) = .int .i64 (p : Int) from by rw [ft]; rfl)
          have IT := Lib.hid (show (f t).isSome = true from by rw [ft]; rfl)
          have WA := Lib.hid wa
          have WT := Lib.hid wt
          have c1 : decide ((p : Int) ≤ (q : Int)) = false := by simp; omega
          have c2 : decide ((q : Int) ≥ (p : Int)) = false := by simp; omega
          have c3 : decide (p ≤ q) = false := by simp; omega
          have c4 : ¬ p ≤ q := by omega
          have TOK := Lib.hid True.intro
          clear hc wa wt e ep eq fa ft hp hqp
          go_wp2_with (first
            | (at_lookup; have _t := TOK; refine wpList_look_okV _ rfl _ _ 39 rfl 3 Try.underlying39 _ (zeroInt _) rfl HM.out a rfl WA.out _ VA.out true IA.out ?_; clear TOK)
            | (at_lookup; refine wpList_look_okV _ rfl _ _ 39 rfl 3 Try.underlying39 _ (zeroInt _) rfl HM.out t rfl WT.out _ VT.out true IT.out ?_))
          go_roundw
          case rel => exact ⟨i + 1, by go_num, hil, by first | rfl | trivial⟩
          case measure => simp [RowKit.intOf]; omega
        · obtain rfl : i = len0 := by omega
          go_wp2_with fail
          go_loopw [13] (fun s13 wr => s13 = .int .i64 (0 : Nat) ∧ X = wr) (fun _ _ => 0)
          case atStart => exact ⟨rfl, rfl⟩
          case round =>
            obtain ⟨rfl, rfl⟩ := hrel
            go_wp2_with fail
            go_ret
            exact ⟨rfl, BX.out⟩
end Go.Proofs.Ytfaciajnopkjlaa
