/- LinePops' walk. -/
import Derived.Test.YtflnjechinfcdaaLineV
import Derived.Test.YtflnjechinfcdaaLineT
import Derived.Test.YtflnjechinfcdaaLineE
import Derived.Deep.DeepCutAuto
namespace Go.Proofs.Ytflnjechinfcdaa
open Go.RowKit
set_option linter.unusedVariables false
set_option linter.unusedSimpArgs false

theorem told_kept {w' w'' : World} {A : Option Addr} {m : Nat} {L : List Wt} {g : Nat} {r0 r1 : Option Nat} (h : Reads w' w'.heap.size 4 A m (wvs L)) (ht : Turn (LS g r0 r1) w' w'') (ho : Off g r0 r1 A) : Reads w'' w''.heap.size 4 A m (wvs L) :=
  (h.turn ht (Nat.le_refl _) ho).more ht.size
theorem act_cells {w : World} {b o : Nat} {p : Int × Wt} (h : ∀ j v, (av p)[j]? = some v → w.cell? ⟨b, o + j, none⟩ = some v) : w.cell? ⟨b, o, none⟩ = some (.int .i64 p.1) ∧ w.cell? ⟨b, o + 1, none⟩ = some (.int .i64 p.2.tx) ∧ w.cell? ⟨b, o + 2, none⟩ = some (.int .i64 p.2.sq) ∧ w.cell? ⟨b, o + 3, none⟩ = some (.int .i64 p.2.md) ∧ w.cell? ⟨b, o + 4, none⟩ = some (.bool p.2.up) :=
  ⟨h 0 _ rfl, h 1 _ rfl, h 2 _ rfl, h 3 _ rfl, h 4 _ rfl⟩
theorem act_list {w : World} {b o : Nat} {p : Int × Wt} (h : ∀ j v, (av p)[j]? = some v → w.cell? ⟨b, o + j, none⟩ = some v) : ∀ j v, (av p)[j]? = some v → w.cell? ((⟨b, o, none⟩ : Addr).add j) = some v := fun j v hv => (congrArg w.cell? (add_lit b o j)).trans (h j v hv)
theorem info_act : (Try.prog.info? 35).map (·.size) = some 5 := by kernel_rfl
/-- When a thing that is done is refused for want of room. -/
theorem actC_full {lim K : Int} {q : Wt} {U D : List Wt} (h : LinOk lim U D) : actC lim K q U D = 7 ↔ K = 0 ∧ mayW q = true ∧ idx q.tx (U ++ D) = none ∧ ((U.length + D.length : Nat) : Int) = lim := by
  have hl : ∀ t, levC t U D = 0 ∨ levC t U D = 10 := fun t => by unfold levC; split <;> simp
  have hcnt := h.cnt
  unfold actC
  by_cases h0 : K = 0
  · rw [if_pos h0]
    unfold pushC
    cases hm : mayW q
    · simp [h0]
    · cases hx : idx q.tx (U ++ D)
      · simp only [h0, if_true]
        by_cases hf : lim ≤ ((U.length + D.length : Nat) : Int)
        · rw [if_neg (by decide), if_neg (by simp), if_pos hf]
          simp; omega
        · rw [if_neg (by decide), if_neg (by simp), if_neg hf]
          simp; omega
      · simp [h0]
  · rw [if_neg h0]
    constructor
    · intro e
      exfalso
      split at e
      · rcases hl (fstT U D) with h | h <;> rw [h] at e <;> cases e
      · split at e
        · rcases hl q.tx with h | h <;> rw [h] at e <;> cases e
        · cases e
    · rintro ⟨h1, _⟩; exact absurd h1 h0
theorem ah_last {lim : Int} {U D L : List Wt} (h : LinOk lim U D) {k : Nat} (hk : k < L.length) (he : U ++ D = L.drop k) : (ahL (L[L.length - 1]'(by omega)).tx U D).length = L.length - 1 - k := by
  have hl : (U ++ D).length = L.length - k := by rw [he, List.length_drop]
  have hi : L.length - 1 - k < (U ++ D).length := by omega
  have hg : (U ++ D)[L.length - 1 - k] = L[L.length - 1]'(by omega) := by
    have : (L.drop k)[L.length - 1 - k]'(by rw [List.length_drop]; omega) = L[L.length - 1]'(by omega) := by rw [List.getElem_drop]; congr 1; omega
    rw [← this]; congr 1
  have hx := idx_once h.once hi
  rw [hg] at hx
  unfold ahL
  rw [hx]
  simp only [List.length_take]
  omega
theorem pop_first {U D L : List Wt} {k : Nat} (hk : k < L.length) (he : U ++ D = L.drop k) : findV (fstT U D) U D = .tuple #[.agg (wc L[k]), .nilIface] ∧ levU (fstT U D) U ++ levD (fstT U D) U D = L.drop (k + 1) := by
  have hl : 0 < (U ++ D).length := by rw [he, List.length_drop]; omega
  have hx := fst_idx (U := U) (D := D) (by simpa using hl)
  have hg : (U ++ D).getD 0 zW = L[k] := by
    rw [he]; simp [List.getD, List.getElem?_drop, hk]
  constructor
  · unfold findV; rw [hx, ← hg]
  · rw [lev_append, hx, he]
    simp only [List.eraseIdx_zero, List.tail_drop]
set_option maxRecDepth 100000 in
set_option maxHeartbeats 16000000 in
theorem linePops_walk (a0 : Int) (hlo : 0 ≤ a0) (hhi : a0 ≤ 255) (A : Option Addr) (n c : Nat) (l : List (Int × Wt)) (w : World) (hl : l.length = n) (hr : Reads w w.heap.size 5 A n (avs l)) :
    Calls Try.prog 6 #[.int .u8 a0, .slice A n c] w fun e w' => e = .returned (.bool true) ∧ Below w.heap.size w w' := by
  have HR := Lib.hid hr
  have HN := Lib.hid hl
  have hn0 := fun W => run_neq_nil_nil (P := Try.prog) W 26 Try.underlying26
  clear hr hl
  by_cases hbig : 100 < n
  · have d1 : decide ((100 : Int) < (n : Int)) = true := by simp; omega
    have d2 : decide (100 < n) = true := by simp; omega
    go_enter Try.func6, Try.ntmps6
    go_wp2_with fail
    refine (alive_true _).mono ?_
    rintro e w1 ⟨rfl, hb1⟩
    have B1 := Lib.hid hb1
    clear hb1
    go_wp2_with fail
    go_ret
    exact ⟨rfl, B1.out⟩
  · have d1 : decide ((100 : Int) < (n : Int)) = false := by simp; omega
    have d2 : decide (100 < n) = false := by simp; omega
    have t1 : IntKind.i64.wrap a0 = a0 := IntWalk.i64_in _ (by omega)
    have t2 : a0.tmod 64 = a0 % 64 := Int.tmod_eq_emod_of_nonneg hlo
    have t3 : IntKind.i64.wrap (a0 % 64) = a0 % 64 := IntWalk.i64_in _ (by omega)
    have t4 : IntKind.i64.wrap (1 + a0 % 64) = 1 + a0 % 64 := IntWalk.i64_in _ (by omega)
    have HM := Lib.hid (show 1 ≤ 1 + a0 % 64 ∧ 1 + a0 % 64 ≤ 64 by omega)
    go_enter Try.func6, Try.ntmps6
    go_wp2_with fail
    refine (alive_true _).mono ?_
    rintro e w1 ⟨rfl, hb1⟩
    have B1 := Lib.hid hb1
    clear hb1
    go_wp2_with fail
    refine (newLine_ok (1 + a0 % 64) HM.out _).mono ?_
    rintro e w2 ⟨rfl, hn2, hb2⟩
    have N2 := Lib.hid hn2
    have B2 := Lib.hid (stepB B1.out hb2)
    have HZ := Lib.hid (show w.heap.size ≤ w1.heap.size from B1.out.size)
    clear hn2 hb2
    generalize 1 + a0 % 64 = M at N2 HM ⊢
    generalize w1.heap.size = z at N2 HZ ⊢
    clear t1 t2 t3 t4 d1 d2
    go_wp2_with fail
    go_loopw [8] (fun i W => ∃ (k : Nat) (U D : List Wt) (r0 r1 : Option Nat), k ≤ n ∧ i = .int .i64 k ∧ Line W z z r0 r1 M U D ∧ Below w.heap.size w W) (fun i _ => n - (RowKit.intOf i).toNat)
    case atStart => exact ⟨0, [], [], none, none, Nat.zero_le _, rfl, N2.out, B2.out⟩
    case round =>
      obtain ⟨k, U, D, r0, r1, hk, rfl, hlk, hbk⟩ := hrel
      rename World => W
      have LK := Lib.hid hlk
      have BK := Lib.hid hbk
      have hlen := hlk.ok.len
      have HOKK := Lib.hid hlk.ok
      clear hlk hbk
      by_cases hlt : k < n
      · have d3 : decide ((k : Int) < (n : Int)) = true := decide_eq_true (by omega)
        have hkl : k < l.length := by rw [HN.out]; exact hlt
        obtain ⟨b, off, rfl, hbb, hcell⟩ := HR.out.act_at hkl
        have HC := Lib.hid (fun X (hX : Below w.heap.size w X) (j : Nat) (v : Value) hv => ((hX.cell (p := ⟨b, off + k * 5 + j, none⟩) hbb).trans (hcell j v hv)))
        clear hcell
        generalize l[k] = p at HC
        obtain ⟨K, qa, qb, qc, qd⟩ := p
        have W4C := Lib.hid (fun X (hX : Below w.heap.size w X) => four_cells (q := ⟨qa, qb, qc, qd⟩) (act_cells (HC.out X hX)).2.1 (act_cells (HC.out X hX)).2.2.1 (act_cells (HC.out X hX)).2.2.2.1 (act_cells (HC.out X hX)).2.2.2.2)
        go_wp2_with fail
        refine (allLine_any _ LK.out).mono ?_
        rintro e w3 ⟨A1, rfl, hT, hb3⟩
        have T3 := Lib.hid hT.reads
        have O3 := Lib.hid (LK.out.off (A := A1) (fun ad he => (hT.new ad he).1))
        have L3 := Lib.hid (LK.out.step hb3)
        have B3 := Lib.hid (stepB BK.out hb3)
        clear hT hb3
        go_wp2_with (refine wpList_load_cells rfl 35 (.tmp 49) rfl ⟨b, off + k * 5, none⟩ rfl [.int .i64 K, .int .i64 qa, .int .i64 qb, .int .i64 qc, .bool qd] _ (act_list (HC.out w3 B3.out)) Try.underlying35 rfl info_act ?_)
        refine (act_any K ⟨qa, qb, qc, qd⟩ _ L3.out).mono ?_
        rintro e w4 ⟨rfl, r0', r1', hl4, ht4, hx4⟩
        have HF7 := Lib.hid (actC_full (K := K) (q := ⟨qa, qb, qc, qd⟩) HOKK.out)
        generalize actC M K ⟨qa, qb, qc, qd⟩ U D = cd at HF7 ⊢
        generalize actW K ⟨qa, qb, qc, qd⟩ U D = p
        obtain ⟨pa, pb, pc, pd⟩ := p
        rw [show wc ⟨pa, pb, pc, pd⟩ = #[.int .i64 pa, .int .i64 pb, .int .i64 pc, .bool pd] from rfl]
        generalize actU M K ⟨qa, qb, qc, qd⟩ U D = U' at hl4
        generalize actD M K ⟨qa, qb, qc, qd⟩ U D = D' at hl4
        obtain ⟨W5, hW5⟩ : ∃ W5, W5 = w4.alloc (.cells #[.int .i64 pa, .int .i64 pb, .int .i64 pc, .bool pd] 33) := ⟨_, rfl⟩
        have hb5 : Below w4.heap.size w4 W5 := by rw [hW5]; exact Joins.below_alloc1 w4 _
        have L5 := Lib.hid (hl4.step hb5)
        have B5 := Lib.hid (stepB (B3.out.trans ((L3.out.below_of ht4).mono HZ.out)) hb5)
        have R5 := Lib.hid (((told_kept T3.out ht4 O3.out).below hb5).more hb5.size)
        have c0 : W5.cell? ⟨b, off + k * 5, none⟩ = some (.int .i64 K) := (act_cells (HC.out W5 B5.out)).1
        have hlen5 := L5.out.ok.len
        have d95 : decide (M < ((U'.length + D'.length : Nat) : Int)) = false := decide_eq_false (by have := L5.out.ok.cnt; omega)
        have d96 : decide (M < (U'.length : Int) + (D'.length : Int)) = false := decide_eq_false (by have := L5.out.ok.cnt; omega)
        clear hl4 ht4 hx4 hb5
        by_cases k0 : K = 0
        · subst k0
          cases hm : mayW ⟨qa, qb, qc, qd⟩
          · have e80 : (cd == 7) = false := by rw [beq_eq_false_iff_ne]; intro e; have := (HF7.out.1 e).2.1; rw [hm] at this; cases this
            have HM5 := Lib.hid hm
            clear hm
            go_upto_region 14 with fail
            rw [← hW5]
            clear hW5
            go_wp2_with (refine wpList_load_cells_g (by rfl) 33 (.tmp 64) rfl ⟨b, off + k * 5 + 1, none⟩ rfl [.int .i64 qa, .int .i64 qb, .int .i64 qc, .bool qd] _ (W4C.out W5 B5.out) Try.underlying33 rfl info_wait4 ?_)
            refine (may_any ⟨qa, qb, qc, qd⟩ _).mono ?_
            rintro e W6 ⟨rfl, hb6⟩
            rw [HM5.out]
            have L6 := Lib.hid (L5.out.step hb6)
            have B6 := Lib.hid (stepB B5.out hb6)
            have R6 := Lib.hid ((R5.out.below hb6).more hb6.size)
            have ct : W6.cell? ⟨b, off + k * 5 + 1, none⟩ = some (.int .i64 qa) := (act_cells (HC.out W6 B6.out)).2.1
            clear hb6 c0
            go_wp2_with fail
            refine (allLine_any _ L6.out).mono ?_
            rintro e w9 ⟨A9, rfl, hT9, hb9⟩
            have L9 := Lib.hid (L6.out.step hb9)
            have B9 := Lib.hid (stepB B6.out hb9)
            clear hT9 hb9
            go_wp2_with fail
            go_roundw
            case rel => exact ⟨k + 1, _, _, _, _, by omega, by go_num, L9.out, B9.out⟩
            case measure => simp [RowKit.intOf]; omega
          · have HM5 := Lib.hid hm
            cases hx : idx qa (U ++ D) with
            | some j =>
              have e80 : (cd == 7) = false := by rw [beq_eq_false_iff_ne]; intro e; have := (HF7.out.1 e).2.2.1; simp only at this; rw [hx] at this; cases this
              have HF := Lib.hid (show refF qa (U ++ D) = (j : Int) by unfold refF; rw [hx])
              have d77 : decide ((j : Int) < 0) = false := by simp
              clear hm hx
              go_upto_region 14 with fail
              rw [← hW5]
              clear hW5
              go_wp2_with (refine wpList_load_cells_g (by rfl) 33 (.tmp 64) rfl ⟨b, off + k * 5 + 1, none⟩ rfl [.int .i64 qa, .int .i64 qb, .int .i64 qc, .bool qd] _ (W4C.out W5 B5.out) Try.underlying33 rfl info_wait4 ?_)
              refine (may_any ⟨qa, qb, qc, qd⟩ _).mono ?_
              rintro e W6 ⟨rfl, hb6⟩
              rw [HM5.out]
              have L6 := Lib.hid (L5.out.step hb6)
              have B6 := Lib.hid (stepB B5.out hb6)
              have R6 := Lib.hid ((R5.out.below hb6).more hb6.size)
              have ct : W6.cell? ⟨b, off + k * 5 + 1, none⟩ = some (.int .i64 qa) := (act_cells (HC.out W6 B6.out)).2.1
              clear hb6 c0
              go_wp2_with fail
              refine (refFind_any A1 _ _ _ _ qa W6 (by omega) R6.out).mono ?_
              rintro e w' ⟨rfl, rfl⟩
              rw [HF.out]
              go_wp2_with fail
              refine (allLine_any _ L6.out).mono ?_
              rintro e w9 ⟨A9, rfl, hT9, hb9⟩
              have L9 := Lib.hid (L6.out.step hb9)
              have B9 := Lib.hid (stepB B6.out hb9)
              clear hT9 hb9
              go_wp2_with fail
              go_roundw
              case rel => exact ⟨k + 1, _, _, _, _, by omega, by go_num, L9.out, B9.out⟩
              case measure => simp [RowKit.intOf]; omega
            | none =>
              have HF := Lib.hid (show refF qa (U ++ D) = -1 by unfold refF; rw [hx])
              by_cases hfull : ((U.length + D.length : Nat) : Int) = M
              · have e80 : (cd == 7) = true := by rw [beq_iff_eq]; exact HF7.out.2 ⟨rfl, hm, hx, hfull⟩
                have e86 : (((U.length + D.length : Nat) : Int) == M) = true := by rw [beq_iff_eq]; exact hfull
                have e87 : ((U.length : Int) + (D.length : Int) == M) = true := by rw [beq_iff_eq]; omega
                clear hm hx hfull
                go_upto_region 14 with fail
                rw [← hW5]
                clear hW5
                go_wp2_with (refine wpList_load_cells_g (by rfl) 33 (.tmp 64) rfl ⟨b, off + k * 5 + 1, none⟩ rfl [.int .i64 qa, .int .i64 qb, .int .i64 qc, .bool qd] _ (W4C.out W5 B5.out) Try.underlying33 rfl info_wait4 ?_)
                refine (may_any ⟨qa, qb, qc, qd⟩ _).mono ?_
                rintro e W6 ⟨rfl, hb6⟩
                rw [HM5.out]
                have L6 := Lib.hid (L5.out.step hb6)
                have B6 := Lib.hid (stepB B5.out hb6)
                have R6 := Lib.hid ((R5.out.below hb6).more hb6.size)
                have ct : W6.cell? ⟨b, off + k * 5 + 1, none⟩ = some (.int .i64 qa) := (act_cells (HC.out W6 B6.out)).2.1
                clear hb6 c0
                go_wp2_with fail
                refine (refFind_any A1 _ _ _ _ qa W6 (by omega) R6.out).mono ?_
                rintro e w' ⟨rfl, rfl⟩
                rw [HF.out]
                go_wp2_with fail
                refine (allLine_any _ L6.out).mono ?_
                rintro e w9 ⟨A9, rfl, hT9, hb9⟩
                have L9 := Lib.hid (L6.out.step hb9)
                have B9 := Lib.hid (stepB B6.out hb9)
                clear hT9 hb9
                go_wp2_with fail
                go_roundw
                case rel => exact ⟨k + 1, _, _, _, _, by omega, by go_num, L9.out, B9.out⟩
                case measure => simp [RowKit.intOf]; omega
              · have e80 : (cd == 7) = false := by rw [beq_eq_false_iff_ne]; intro e; exact hfull (HF7.out.1 e).2.2.2
                have e86 : (((U.length + D.length : Nat) : Int) == M) = false := by rw [beq_eq_false_iff_ne]; exact hfull
                have e87 : ((U.length : Int) + (D.length : Int) == M) = false := by rw [beq_eq_false_iff_ne]; omega
                clear hm hx hfull
                go_upto_region 14 with fail
                rw [← hW5]
                clear hW5
                go_wp2_with (refine wpList_load_cells_g (by rfl) 33 (.tmp 64) rfl ⟨b, off + k * 5 + 1, none⟩ rfl [.int .i64 qa, .int .i64 qb, .int .i64 qc, .bool qd] _ (W4C.out W5 B5.out) Try.underlying33 rfl info_wait4 ?_)
                refine (may_any ⟨qa, qb, qc, qd⟩ _).mono ?_
                rintro e W6 ⟨rfl, hb6⟩
                rw [HM5.out]
                have L6 := Lib.hid (L5.out.step hb6)
                have B6 := Lib.hid (stepB B5.out hb6)
                have R6 := Lib.hid ((R5.out.below hb6).more hb6.size)
                have ct : W6.cell? ⟨b, off + k * 5 + 1, none⟩ = some (.int .i64 qa) := (act_cells (HC.out W6 B6.out)).2.1
                clear hb6 c0
                go_wp2_with fail
                refine (refFind_any A1 _ _ _ _ qa W6 (by omega) R6.out).mono ?_
                rintro e w' ⟨rfl, rfl⟩
                rw [HF.out]
                go_wp2_with fail
                refine (allLine_any _ L6.out).mono ?_
                rintro e w9 ⟨A9, rfl, hT9, hb9⟩
                have L9 := Lib.hid (L6.out.step hb9)
                have B9 := Lib.hid (stepB B6.out hb9)
                clear hT9 hb9
                go_wp2_with fail
                go_roundw
                case rel => exact ⟨k + 1, _, _, _, _, by omega, by go_num, L9.out, B9.out⟩
                case measure => simp [RowKit.intOf]; omega
        · have e59 : (K == 0) = false := by simpa using k0
          have e80 : (cd == 7) = false := by rw [beq_eq_false_iff_ne]; intro e; exact k0 (HF7.out.1 e).1
          clear k0
          go_upto_region 14 with fail
          rw [← hW5]
          clear hW5
          go_wp2_with fail
          refine (allLine_any _ L5.out).mono ?_
          rintro e w9 ⟨A9, rfl, hT9, hb9⟩
          have L9 := Lib.hid (L5.out.step hb9)
          have B9 := Lib.hid (stepB B5.out hb9)
          clear hT9 hb9
          go_wp2_with fail
          go_roundw
          case rel => exact ⟨k + 1, _, _, _, _, by omega, by go_num, L9.out, B9.out⟩
          case measure => simp [RowKit.intOf]; omega
      · have d3 : decide ((k : Int) < (n : Int)) = false := decide_eq_false (by omega)
        clear d3
        have HNIL := Lib.hid (show ∀ (U' D' L : List Wt), U' ++ D' = L.drop L.length → U' = [] ∧ D' = [] from fun U' D' L h => by rw [List.drop_length] at h; exact List.append_eq_nil_iff.1 h)
        go_wp2_with fail
        refine (allLine_any _ LK.out).mono ?_
        rintro e w3 ⟨A1, rfl, hT, hb3⟩
        have R3 := Lib.hid hT.reads
        have O3 := Lib.hid (LK.out.off (A := A1) (fun ad he => (hT.new ad he).1))
        have L3 := Lib.hid (LK.out.step hb3)
        have B3 := Lib.hid (stepB BK.out hb3)
        have S3 := Lib.hid (hT.new)
        have HST := Lib.hid (show U ++ D = (U ++ D).drop 0 from rfl)
        have HLL := Lib.hid (show (U ++ D).length = U.length + D.length from List.length_append)
        clear hT hb3 LK BK HOKK
        generalize hL : U ++ D = L at R3 HLL HST
        have HST2 := Lib.hid (hL.trans (show L = L.drop 0 from rfl))
        clear hL HST
        generalize U.length + D.length = N at R3 HLL hlen ⊢
        go_wp2_with fail
        go_loopw [14] (fun i W => ∃ (k : Nat) (U D : List Wt) (r0 r1 : Option Nat), k ≤ N ∧ i = .int .i64 k ∧ Line W z z r0 r1 M U D ∧ U ++ D = L.drop k ∧ Reads W W.heap.size 4 A1 N (wvs L) ∧ Off z r0 r1 A1 ∧ Below w.heap.size w W) (fun i _ => N - (RowKit.intOf i).toNat)
        case atStart => exact ⟨0, U, D, r0, r1, Nat.zero_le _, rfl, L3.out, HST2.out, R3.out, O3.out, B3.out⟩
        case round =>
          clear L3 R3 O3 B3 S3 HST2
          obtain ⟨k, U, D, r0, r1, hk, rfl, hlk, hud, hrk, hok, hbk⟩ := hrel
          rename World => W
          have LK := Lib.hid hlk
          have BK := Lib.hid hbk
          have RK := Lib.hid hrk
          have OK := Lib.hid hok
          have HUD := Lib.hid hud
          have hlen2 := hlk.ok.len
          clear hlk hbk hrk hok
          by_cases hlt : k < N
          · have d3 : decide ((k : Int) < (N : Int)) = true := decide_eq_true (by omega)
            have hkl : k < L.length := by rw [HLL.out]; exact hlt
            have hN1 : N - 1 < L.length := by rw [HLL.out]; omega
            obtain ⟨bl, offl, rfl, _, hc0, _⟩ := RK.out.w_at hN1
            have HAH := Lib.hid (show (ahL L[N - 1].tx U D).length = N - 1 - k by
              have h := ah_last LK.out.ok hkl hud
              have e : L.length - 1 = N - 1 := by rw [HLL.out]
              simp only [e] at h
              exact h)
            have HPF := Lib.hid (pop_first hkl hud)
            have s1 : IntKind.i64.wrap ((N : Int) - 1) = ((N - 1 : Nat) : Int) := by rw [show (N : Int) - 1 = ((N - 1 : Nat) : Int) by omega]; exact IntWalk.i64_in _ (by omega)
            have s2 : IntKind.i64.wrap (((N - 1 : Nat) : Int) - (k : Int)) = ((N - 1 - k : Nat) : Int) := by rw [show ((N - 1 : Nat) : Int) - (k : Int) = ((N - 1 - k : Nat) : Int) by omega]; exact IntWalk.i64_in _ (by omega)
            have hN2 : N - 1 < N := by omega
            have e119 : (((N - 1 - k : Nat) : Int) == ((N - 1 - k : Nat) : Int)) = true := by simp
            generalize L[N - 1].tx = lt at hc0 HAH
            clear hud
            go_wp2_with fail
            refine (ahead_any lt _ LK.out).mono ?_
            rintro e w4 ⟨A4, n4, rfl, hn4, hT4, hb4⟩
            obtain rfl : n4 = N - 1 - k := hn4.trans HAH.out
            have L4 := Lib.hid (LK.out.step hb4)
            have B4 := Lib.hid (stepB BK.out hb4)
            have R4 := Lib.hid ((RK.out.below hb4).more hb4.size)
            clear hT4 hb4 hc0 hn4
            go_wp2_with fail
            refine (pop_any _ L4.out).mono ?_
            rintro e w5 ⟨rfl, hl5, ht5⟩
            rw [HPF.out.1]
            have R5 := Lib.hid (told_kept R4.out ht5 OK.out)
            have B5 := Lib.hid (B4.out.trans ((L4.out.below_of ht5).mono HZ.out))
            have HNX := Lib.hid HPF.out.2
            have L5 := Lib.hid hl5
            generalize levU (fstT U D) U = U5 at L5 HNX
            generalize levD (fstT U D) U D = D5 at L5 HNX
            clear hl5 ht5 HPF
            obtain ⟨b, off, hA1, hbb, hcell⟩ := R5.out.w_cells hkl
            generalize L[k] = q at hcell ⊢
            obtain ⟨pa, pb, pc, pd⟩ := q
            rw [show wc ⟨pa, pb, pc, pd⟩ = #[.int .i64 pa, .int .i64 pb, .int .i64 pc, .bool pd] from rfl]
            obtain ⟨V, hV⟩ : ∃ V, V = w5.alloc (.cells #[.int .i64 pa, .int .i64 pb, .int .i64 pc, .bool pd] 33) := ⟨_, rfl⟩
            have hbV : Below w5.heap.size w5 V := by rw [hV]; exact Joins.below_alloc1 w5 _
            have XV := Lib.hid (show Blk V w5.heap.size 33 (wc ⟨pa, pb, pc, pd⟩) by rw [hV]; exact Blk.new w5 _ _)
            have LV := Lib.hid (L5.out.step hbV)
            have BV := Lib.hid (stepB B5.out hbV)
            have RV := Lib.hid ((R5.out.below hbV).more hbV.size)
            have HCV := Lib.hid (fun (j : Nat) (v : Value) (hv : (wv ⟨pa, pb, pc, pd⟩)[j]? = some v) => (congrArg V.cell? (add_lit b (off + k * 4) j)).trans ((hbV.cell (p := ⟨b, off + k * 4 + j, none⟩) hbb).trans (hcell j v hv)))
            clear hcell hbb hbV L4 B4 R4 L5 B5 R5 LK BK RK
            have he : ∀ W, (binOp .neq 33 (.agg (wc ⟨pa, pb, pc, pd⟩)) (.agg (wc ⟨pa, pb, pc, pd⟩))).run Try.prog W = .ok (.bool false) W := fun W => by have := neq_wait ⟨pa, pb, pc, pd⟩ ⟨pa, pb, pc, pd⟩ W; rw [decide_eq_true rfl, Bool.not_true] at this; exact this
            obtain ⟨rfl, rfl⟩ : bl = b ∧ offl = off := by cases hA1; exact ⟨rfl, rfl⟩
            clear hA1
            go_wp2_with fail
            rw [← hV]
            clear hV
            refine wp_region_held_drew (S := fun w' => ∃ q, w' = V.drewN q) (by kernel_rfl) ⟨1, rfl⟩ (fun hHeld => ?_)
            refine wpAnyH_take (i := 0) (v := .agg (wc ⟨pa, pb, pc, pd⟩)) rfl (by kernel_rfl) (by kernel_rfl) (by kernel_rfl) (fun _ _ _ h => h) (Or.inl ⟨by rfl, fun w0 hSw => by obtain ⟨q1, rfl⟩ := hSw; exact exec_load (x := .tmp 15) rfl (ad := ⟨w5.heap.size, 0, none⟩) rfl (loadW (XV.out.drewN q1))⟩) (by assumption) ?_
            try simp only [List.getElem_toArray, List.getElem_cons_succ, List.getElem_cons_zero, Act.put, List.setIfInBounds_toArray, List.set_cons_zero, List.set_cons_succ]
            refine wpAnyH_take (i := 1) (v := ?_) rfl (by kernel_rfl) (by kernel_rfl) (by kernel_rfl) (fun _ _ _ h => h) (Or.inl ⟨by rfl, ?_⟩) (by assumption) ?_
            rotate_left
            · (intro w0 hSw; (try dsimp only at hSw); go_simp; try with_reducible rfl)
            try simp only [List.getElem_toArray, List.getElem_cons_succ, List.getElem_cons_zero, Act.put, List.setIfInBounds_toArray, List.set_cons_zero, List.set_cons_succ]
            refine wpAnyH_take (i := 2) (v := ?_) rfl (by kernel_rfl) (by kernel_rfl) (by kernel_rfl) (fun _ _ _ h => h) (Or.inl ⟨by rfl, ?_⟩) (by assumption) ?_
            rotate_left
            · (intro w0 hSw; (try dsimp only at hSw); go_simp; try with_reducible rfl)
            try simp only [List.getElem_toArray, List.getElem_cons_succ, List.getElem_cons_zero, Act.put, List.setIfInBounds_toArray, List.set_cons_zero, List.set_cons_succ]
            refine wpAnyH_take (i := 3) (v := ?_) rfl (by kernel_rfl) (by kernel_rfl) (by kernel_rfl) (fun _ _ _ h => h) (Or.inl ⟨by rfl, ?_⟩) (by assumption) ?_
            rotate_left
            · (intro w0 hSw; (try dsimp only at hSw); go_simp; try with_reducible rfl)
            try simp only [List.getElem_toArray, List.getElem_cons_succ, List.getElem_cons_zero, Act.put, List.setIfInBounds_toArray, List.set_cons_zero, List.set_cons_succ]
            refine wpAnyH_take (i := 4) (v := .agg (wc ⟨pa, pb, pc, pd⟩)) rfl (by kernel_rfl) (by kernel_rfl) (by kernel_rfl) (fun _ _ _ h => h) (Or.inl ⟨by rfl, fun w0 hSw => by obtain ⟨q1, rfl⟩ := hSw; exact exec_load (x := .tmp 128) rfl (ad := ⟨bl, offl + k * 4, none⟩) rfl (run_load_w (w := V.drewN q1) HCV.out)⟩) (by assumption) ?_
            try simp only [List.getElem_toArray, List.getElem_cons_succ, List.getElem_cons_zero, Act.put, List.setIfInBounds_toArray, List.set_cons_zero, List.set_cons_succ]
            refine wpAnyH_take (i := 5) (v := ?_) rfl (by kernel_rfl) (by kernel_rfl) (by kernel_rfl) (fun _ _ _ h => h) (Or.inl ⟨by rfl, ?_⟩) (by assumption) ?_
            rotate_left
            · (intro w0 hSw; (try dsimp only at hSw); go_simp; try with_reducible rfl)
            try simp only [List.getElem_toArray, List.getElem_cons_succ, List.getElem_cons_zero, Act.put, List.setIfInBounds_toArray, List.set_cons_zero, List.set_cons_succ]
            refine wpAnyH_take (i := 6) (v := ?_) rfl (by kernel_rfl) (by kernel_rfl) (by kernel_rfl) (fun _ _ _ h => h) (Or.inl ⟨by rfl, ?_⟩) (by assumption) ?_
            rotate_left
            · (intro w0 hSw; (try dsimp only at hSw); go_simp; try with_reducible rfl)
            try simp only [List.getElem_toArray, List.getElem_cons_succ, List.getElem_cons_zero, Act.put, List.setIfInBounds_toArray, List.set_cons_zero, List.set_cons_succ]
            refine wpAnyH_take (i := 7) (v := ?_) rfl (by kernel_rfl) (by kernel_rfl) (by kernel_rfl) (fun _ _ _ h => h) (Or.inl ⟨by rfl, ?_⟩) (by assumption) ?_
            rotate_left
            · (intro w0 hSw; (try dsimp only at hSw); go_simp; try with_reducible rfl)
            try simp only [List.getElem_toArray, List.getElem_cons_succ, List.getElem_cons_zero, Act.put, List.setIfInBounds_toArray, List.set_cons_zero, List.set_cons_succ]
            refine wpAnyH_take (i := 8) (v := ?_) rfl (by kernel_rfl) (by kernel_rfl) (by kernel_rfl) (fun _ _ _ h => h) (Or.inl ⟨by rfl, ?_⟩) (by assumption) ?_
            rotate_left
            · (intro w0 hSw; (try dsimp only at hSw); go_simp; try with_reducible rfl)
            try simp only [List.getElem_toArray, List.getElem_cons_succ, List.getElem_cons_zero, Act.put, List.setIfInBounds_toArray, List.set_cons_zero, List.set_cons_succ]
            refine wpAnyH_take (i := 9) (v := ?_) rfl (by kernel_rfl) (by kernel_rfl) (by kernel_rfl) (fun _ _ _ h => h) (Or.inl ⟨by rfl, ?_⟩) (by assumption) ?_
            rotate_left
            · (intro w0 hSw; (try dsimp only at hSw); go_simp; try with_reducible rfl)
            try simp only [List.getElem_toArray, List.getElem_cons_succ, List.getElem_cons_zero, Act.put, List.setIfInBounds_toArray, List.set_cons_zero, List.set_cons_succ]
            refine wpAnyH_done (by kernel_rfl) ?_ _
            clear hHeld he
            go_wp2_with fail
            go_roundw
            case rel => exact ⟨k + 1, U5, D5, r0, r1, by omega, by go_num, LV.out.step (w' := V.drew) (below_drewN (Below.refl _ _) 1), HNX.out, RV.out, OK.out, below_drewN BV.out 1⟩
            case measure => simp [RowKit.intOf]; omega
          · obtain rfl : k = N := by omega
            have d3 : decide ((k : Int) < (k : Int)) = false := by simp
            obtain ⟨rfl, rfl⟩ := HNIL.out U D L (by rw [HLL.out]; exact hud)
            clear hud
            go_wp2_with fail
            refine (allLine_any _ LK.out).mono ?_
            rintro e w9 ⟨A9, rfl, hT9, hb9⟩
            have B9 := Lib.hid (stepB BK.out hb9)
            clear hT9 hb9
            go_wp2_with fail
            go_ret
            exact ⟨rfl, B9.out⟩
end Go.Proofs.Ytflnjechinfcdaa
