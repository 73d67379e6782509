/- The contracts of Rest and Oldest. -/
import Derived.Test.YtiapnaecdefonaaWndB
import Derived.Laws.Cover1
namespace Go.Proofs.Ytiapnaecdefonaa
open Go.RowKit
set_option linter.unusedVariables false
set_option linter.unusedSimpArgs false

section
variable {w : World} {ops : Array Oper} {rest : List Oper} {o : Oper} {a : Act} {Q : Exit → Act → World → Prop} {b n : Nat} {f : Int → Option Value}
theorem wpList_lookV_g (w : World) (hw : Region.wanted o (yielded ops a.tmps) = true) (m x : Operand) (t : TypeId) (hop : o.op = Op.lookup t m x false) (e : TypeId) (ht : Try.prog.underlying t = some (.map 3 e)) (z : Value) (hz : (zeroValue e).run Try.prog w = .ok z w)
    (hm : a.eval m = .map (some b)) (h : MapV w b n f) (k : Int) (hx : a.eval x = .int .i64 k) (hk : (Lit.int .i64 k).wf = true) (v : Value) (hv : (f k).getD z = v) (hK : wpList Try.prog ops Q rest (a.put o.dst v) w) : wpList Try.prog ops Q (o :: rest) a w := by
  subst hv
  refine BigFrame.wpList_want hw fun K' hK' => ?_
  unfold Oper.wp
  simp [execOp, hop, hm, hx, h.look ht hz hk, Result.andThen]
  exact hK' _ _ hK
end
def leftE (E : Egs) (l : List Int) : Bool := (byL E (fld l 0)).isNone && (byL E (fld l 2)).isNone
def restL (E : Egs) (ls : List (List Int)) : List (List Int) := ls.filter (leftE E)
theorem rest_len (E : Egs) (ls : List (List Int)) (k : Nat) : (restL E (ls.take k)).length ≤ k := Nat.le_trans (List.length_filter_le _ _) (by rw [List.length_take]; omega)
theorem rest_yes {E : Egs} {ls : List (List Int)} {k : Nat} (hk : k < ls.length) {l : List Int} (e : ls[k] = l) (h : leftE E l = true) : restL E (ls.take (k + 1)) = restL E (ls.take k) ++ [l] := by
  unfold restL
  rw [List.take_add_one, List.getElem?_eq_getElem hk, e, List.filter_append]
  simp [h]
theorem rest_no {E : Egs} {ls : List (List Int)} {k : Nat} (hk : k < ls.length) {l : List Int} (e : ls[k] = l) (h : leftE E l = false) : restL E (ls.take (k + 1)) = restL E (ls.take k) := by
  unfold restL
  rw [List.take_add_one, List.getElem?_eq_getElem hk, e, List.filter_append]
  simp [h]
theorem rest_edg {w w' : World} {B n : Nat} {A A' : Option Addr} {ls : List (List Int)} {E : Egs} (h : EdgM w B A n ls) (hr : Reads w' w'.heap.size 4 A' (restL E ls).length (ints (restL E ls).flatten)) : EdgM w' w'.heap.size A' (restL E ls).length (restL E ls) :=
  ⟨hr, fun l hl => h.four l (List.mem_filter.1 hl).1, rfl, fun l hl => h.wf l (List.mem_filter.1 hl).1⟩
theorem Blk.cells_of {w : World} {g : Nat} {t : TypeId} {l : List Value} (h : Blk w g t l.toArray) : ∀ j v, l[j]? = some v → w.cell? ((⟨g, 0, none⟩ : Addr).add j) = some v := by
  intro j v hj
  have h2 : (⟨g, 0, none⟩ : Addr).add j = ⟨g, j, none⟩ := by unfold Addr.add; split <;> simp_all
  rw [h2, h.cell j]
  simpa using hj
section
variable {w : World} {n : Nat} {A : Option Addr} {ls : List (List Int)}
set_option maxRecDepth 100000 in
set_option maxHeartbeats 8000000 in
theorem restG_any {c : Nat} (w : World) (h : EdgM w w.heap.size A n ls) (hn : n ≤ 200) :
    Calls Try.prog 16 #[.slice A n c] w fun e w' => ∃ A' c', e = .returned (.slice A' (restL (eds ls) ls).length c') ∧ EdgM w' w'.heap.size A' (restL (eds ls) ls).length (restL (eds ls) ls) ∧ Below w.heap.size w w' := by
  obtain ⟨i0, hi0, hz0, hz1, hz2⟩ := info_parts info_edge
  have HH := Lib.hid h
  have HI := Lib.hid info_edge4
  have TOK1 := Lib.hid True.intro
  have TOK2 := Lib.hid True.intro
  clear h
  go_enter Try.func16, Try.ntmps16
  go_wp2_with (go_at_call 28; refine (wounds_any (c := c) _ HH.out (by omega)).mono ?_; rintro e w1 ⟨rfl, hm1, hb1⟩; have M1 := Lib.hid hm1; have B1 := Lib.hid hb1; clear hm1 hb1)
  have EL := Lib.hid ((HH.out.below B1.out).more B1.out.size)
  generalize w.heap.size = bm at M1
  go_loopw [4, 11] (fun s4 s11 wr => ∃ (k : Nat), s11 = .int .i64 k ∧ k ≤ n ∧ wr.ownsRow w1.heap.size 41 4 s4 (restL (eds ls) (ls.take k)).length (ints (restL (eds ls) (ls.take k)).flatten) ∧ Below w1.heap.size w1 wr) (fun _ s11 _ => n - (RowKit.intOf s11).toNat)
  case atStart => exact ⟨0, rfl, Nat.zero_le _, World.ownsRow_nil _ _ _ _, Below.refl _ _⟩
  case round =>
    obtain ⟨k, rfl, hk, hrow, hb⟩ := hrel
    rename World => W
    have HR := Lib.hid hrow
    have HB := Lib.hid hb
    have HS := Lib.hid hb.size
    clear hrow hb
    by_cases hlt : k < n
    · obtain ⟨b, off, a, s, t, u, rfl, hbl, ⟨hl, e⟩, hc, wa, wt⟩ := (EL.out.below HB.out).at_ hlt
      have RY := Lib.hid (fun h => rest_yes (E := eds ls) hl e h)
      have RN := Lib.hid (fun h => rest_no (E := eds ls) hl e h)
      have HC := Lib.hid hc
      have WA := Lib.hid wa
      have WT := Lib.hid wt
      have RL := Lib.hid (rest_len (eds ls) ls k)
      have MX := Lib.hid (M1.out.here HB.out)
      have HLE := Lib.hid (show leftE (eds ls) [a, s, t, u] = ((byL (eds ls) a).isNone && (byL (eds ls) t).isNone) from rfl)
      clear hc wa wt e
      generalize restL (eds ls) (ls.take k) = O at HR RY RN RL
      have BE := Lib.hid (Blk.new W 41 [Value.int .i64 a, .int .i64 s, .int .i64 t, .int .i64 u].toArray)
      go_upto_region 6 with (refine wpList_load_cells rfl 41 (.tmp 13) rfl ⟨b, off + k * 4, none⟩ rfl [.int .i64 a, .int .i64 s, .int .i64 t, .int .i64 u] _ HC.out Try.underlying41 rfl HI.out ?_)
      have HM2 := Lib.hid (MX.out.alloc (.cells #[.int .i64 a, .int .i64 s, .int .i64 t, .int .i64 u] 41))
      have HR2 := Lib.hid (HR.out.alloc (.cells #[.int .i64 a, .int .i64 s, .int .i64 t, .int .i64 u] 41))
      have HB2 := Lib.hid (HB.out.alloc HS.out (.cells #[.int .i64 a, .int .i64 s, .int .i64 t, .int .i64 u] 41))
      rw [show ([Value.int .i64 a, .int .i64 s, .int .i64 t, .int .i64 u].toArray) = #[.int .i64 a, .int .i64 s, .int .i64 t, .int .i64 u] from rfl] at BE
      obtain ⟨g, hg⟩ : ∃ g, g = W.heap.size := ⟨_, rfl⟩
      rw [← hg] at BE ⊢
      clear hg HC MX HR HB
      generalize W.alloc (.cells #[.int .i64 a, .int .i64 s, .int .i64 t, .int .i64 u] 41) = V at BE HM2 HR2 HB2 ⊢
      have k0 := BE.out.cell 0
      have k0' : V.cell? ⟨g, 0, none⟩ = some (.int .i64 a) := k0
      clear k0
      cases hba : byL (eds ls) a with
      | some n1 =>
        have VA := Lib.hid (show (woundF (eds ls) a).getD (.agg #[.int .i64 0, .int .i64 0]) = .agg #[.int .i64 a, .int .i64 n1] from by unfold woundF; rw [hba]; rfl)
        have IA := Lib.hid (show (!decide ((a : Int) = 0 ∧ (n1 : Int) = 0)) = true from by have := (byL_some hba).1; simp; omega)
        have HN := Lib.hid (RN.out (by rw [HLE.out, hba]; rfl))
        clear hba
        go_wp2_with (first
          | (at_lookup; have _t := TOK1; refine wpList_lookV _ rfl _ _ 55 rfl 33 Try.underlying55 _ (zeroWound _) rfl HM2.out a rfl WA.out (.agg #[.int .i64 a, .int .i64 n1]) VA.out ?_; clear _t TOK1)
          | (go_at_call 32; have _t := TOK2; refine (isOne_any a n1 true IA.out _).mono ?_; rintro e V3 ⟨rfl, hb2⟩; have BE3 := Lib.hid (BE.out.here hb2); have k13 : V3.cell? ⟨g, 2, none⟩ = some (.int .i64 t) := BE3.out.cell 2; have HM3 := Lib.hid (HM2.out.here hb2); have HR3 := Lib.hid (own_turn HR2.out (Turn.of_below hb2 (S := fun _ => False)) (fun _ _ => id)); have HB3 := Lib.hid (HB2.out.trans (hb2.mono HB2.out.size)); clear hb2 _t TOK2))
        go_roundw
        case rel => exact ⟨k + 1, by go_num, by omega, by rw [HN.out]; exact HR3.out, HB3.out⟩
        case measure => simp [RowKit.intOf]; omega
      | none =>
        have VA := Lib.hid (show (woundF (eds ls) a).getD (.agg #[.int .i64 0, .int .i64 0]) = .agg #[.int .i64 0, .int .i64 0] from by unfold woundF; rw [hba]; rfl)
        have IA := Lib.hid (show (!decide ((0 : Int) = 0 ∧ (0 : Int) = 0)) = false from rfl)
        cases hbt : byL (eds ls) t with
        | some n2 =>
          have VT := Lib.hid (show (woundF (eds ls) t).getD (.agg #[.int .i64 0, .int .i64 0]) = .agg #[.int .i64 t, .int .i64 n2] from by unfold woundF; rw [hbt]; rfl)
          have IT := Lib.hid (show (!decide ((t : Int) = 0 ∧ (n2 : Int) = 0)) = true from by have := (byL_some hbt).1; simp; omega)
          have HN := Lib.hid (RN.out (by rw [HLE.out, hba, hbt]; rfl))
          have TOK3 := Lib.hid True.intro
          clear hba hbt
          go_wp2_with (first
            | (at_lookup; have _t := TOK1; refine wpList_lookV _ rfl _ _ 55 rfl 33 Try.underlying55 _ (zeroWound _) rfl HM2.out a rfl WA.out (.agg #[.int .i64 0, .int .i64 0]) VA.out ?_; clear _t TOK1)
            | (go_at_call 32; have _t := TOK2; refine (isOne_any 0 0 false IA.out _).mono ?_; rintro e V3 ⟨rfl, hb2⟩; have BE3 := Lib.hid (BE.out.here hb2); have k13 : V3.cell? ⟨g, 2, none⟩ = some (.int .i64 t) := BE3.out.cell 2; have HM3 := Lib.hid (HM2.out.here hb2); have HR3 := Lib.hid (own_turn HR2.out (Turn.of_below hb2 (S := fun _ => False)) (fun _ _ => id)); have HB3 := Lib.hid (HB2.out.trans (hb2.mono HB2.out.size)); clear hb2 _t TOK2)
            | (at_lookup; refine wpList_lookV_g _ (by rfl) _ _ 55 rfl 33 Try.underlying55 _ (zeroWound _) rfl HM3.out t rfl WT.out (.agg #[.int .i64 t, .int .i64 n2]) VT.out ?_)
            | (go_at_call 32; have _t := TOK3; refine (isOne_any t n2 true IT.out _).mono ?_; rintro e V4 ⟨rfl, hb2⟩; have BE4 := Lib.hid (BE3.out.here hb2); have k14 : V4.cell? ⟨g, 2, none⟩ = some (.int .i64 t) := BE4.out.cell 2; have HM4 := Lib.hid (HM3.out.here hb2); have HR4 := Lib.hid (own_turn HR3.out (Turn.of_below hb2 (S := fun _ => False)) (fun _ _ => id)); have HB4 := Lib.hid (HB3.out.trans (hb2.mono HB3.out.size)); clear hb2 _t TOK3))
          go_roundw
          case rel => exact ⟨k + 1, by go_num, by omega, by rw [HN.out]; exact HR4.out, HB4.out⟩
          case measure => simp [RowKit.intOf]; omega
        | none =>
          have VT := Lib.hid (show (woundF (eds ls) t).getD (.agg #[.int .i64 0, .int .i64 0]) = .agg #[.int .i64 0, .int .i64 0] from by unfold woundF; rw [hbt]; rfl)
          have IT := Lib.hid (show (!decide ((0 : Int) = 0 ∧ (0 : Int) = 0)) = false from rfl)
          have HY := Lib.hid (RY.out (by rw [HLE.out, hba, hbt]; rfl))
          have TOK3 := Lib.hid True.intro
          have O1 := Lib.hid (show ∀ v ∈ ints [a, s, t, u], v.oneCell' = true from fun v hv => by obtain ⟨c, _, rfl⟩ := List.mem_map.1 hv; rfl)
          clear hba hbt
          go_upto_region 7 with (first
            | (at_lookup; have _t := TOK1; refine wpList_lookV _ rfl _ _ 55 rfl 33 Try.underlying55 _ (zeroWound _) rfl HM2.out a rfl WA.out (.agg #[.int .i64 0, .int .i64 0]) VA.out ?_; clear _t TOK1)
            | (go_at_call 32; have _t := TOK2; refine (isOne_any 0 0 false IA.out _).mono ?_; rintro e V3 ⟨rfl, hb2⟩; have BE3 := Lib.hid (BE.out.here hb2); have k13 : V3.cell? ⟨g, 2, none⟩ = some (.int .i64 t) := BE3.out.cell 2; have HM3 := Lib.hid (HM2.out.here hb2); have HR3 := Lib.hid (own_turn HR2.out (Turn.of_below hb2 (S := fun _ => False)) (fun _ _ => id)); have HB3 := Lib.hid (HB2.out.trans (hb2.mono HB2.out.size)); clear hb2 _t TOK2)
            | (at_lookup; refine wpList_lookV_g _ (by rfl) _ _ 55 rfl 33 Try.underlying55 _ (zeroWound _) rfl HM3.out t rfl WT.out (.agg #[.int .i64 0, .int .i64 0]) VT.out ?_)
            | (go_at_call 32; have _t := TOK3; refine (isOne_any 0 0 false IT.out _).mono ?_; rintro e V4 ⟨rfl, hb2⟩; have BE4 := Lib.hid (BE3.out.here hb2); have k14 : V4.cell? ⟨g, 2, none⟩ = some (.int .i64 t) := BE4.out.cell 2; have HM4 := Lib.hid (HM3.out.here hb2); have HR4 := Lib.hid (own_turn HR3.out (Turn.of_below hb2 (S := fun _ => False)) (fun _ _ => id)); have HB4 := Lib.hid (HB3.out.trans (hb2.mono HB3.out.size)); clear hb2 _t TOK3))
          have HS4 := Lib.hid HB4.out.size
          have RW := Lib.hid (reads_newStruct V4 41 [a, s, t, u] (size := 4) rfl)
          have RL4 := RL.out
          go_wp2_with (first
            | (refine wpList_load_cells rfl 41 (.tmp 6) rfl ⟨g, 0, none⟩ rfl [.int .i64 a, .int .i64 s, .int .i64 t, .int .i64 u] _ (Blk.cells_of (l := [.int .i64 a, .int .i64 s, .int .i64 t, .int .i64 u]) BE4.out) Try.underlying41 rfl HI.out ?_)
            | (at_builtin; refine wpList_append_any _ rfl (.tmp 29) (.tmp 31) _ rfl w1.heap.size 41 i0 _ 4 32 Try.underlying22 hi0 hz0 hz1 hz2 rfl (by omega) _ O.length _ rfl (HR4.out.alloc _) _ _ 1 1 (ints [a, s, t, u]) rfl RW.out O1.out (by simp only [maxLen]; omega) (by omega) (by have := HS4.out; simp; omega) ?_; intro v9 w9 hown9 hg9 hv9; have O9 := Lib.hid hown9; have G9 := Lib.hid hg9; clear hown9 hg9 hv9))
          go_roundw
          case rel =>
            refine ⟨k + 1, by go_num, by omega, ?_, below_own (HB4.out.alloc HS4.out _) G9.out (HR4.out.alloc _) (Nat.le_refl _) (by have := HS4.out; simp; omega)⟩
            rw [HY.out, List.length_append, List.flatten_append, show ints (O.flatten ++ [[a, s, t, u]].flatten) = ints O.flatten ++ ints [a, s, t, u] by simp [ints]]
            exact O9.out
          case measure => simp [RowKit.intOf]; omega
    · obtain rfl : k = n := by omega
      rw [List.take_of_length_le (by have := HH.out.count; omega)] at HR
      obtain ⟨A8, c8, rfl, hr8, _⟩ := own_slice HR.out
      have ER := Lib.hid (rest_edg HH.out hr8)
      have BW := Lib.hid (B1.out.trans (HB.out.mono B1.out.size))
      clear hr8
      go_wp2_with fail
      go_ret
      exact ⟨A8, c8, rfl, ER.out, BW.out⟩
end
theorem exec_min3 {P : Program} {o : Oper} {w : World} (ev : Operand → Value) (x y z : Operand) (ats : Array TypeId) (ho : o.op = .call { callee := .builtin .min, args := #[x, y, z], argTypes := ats }) (a1 b1 c1 m : Int) (hx : ev x = .int .i64 a1) (hy : ev y = .int .i64 b1) (hz : ev z = .int .i64 c1)
    (hm : (if c1 < (if b1 < a1 then b1 else a1) then c1 else (if b1 < a1 then b1 else a1)) = m) : (execOp ev o).run P w = .ok (.value (.int .i64 m)) w := by
  unfold execOp
  simp [go_sem, ho, hx, hy, hz]
  exact hm
section
variable {P : Program} {w : World} {ops : Array Oper} {rest : List Oper} {o : Oper} {a : Act} {Q : Exit → Act → World → Prop}
theorem wpList_min3 (w : World) (hg : o.guard = none) (x y z : Operand) (ats : Array TypeId) (ho : o.op = .call { callee := .builtin .min, args := #[x, y, z], argTypes := ats }) (a1 b1 c1 m : Int) (hx : a.eval x = .int .i64 a1) (hy : a.eval y = .int .i64 b1) (hz : a.eval z = .int .i64 c1)
    (hm : (if c1 < (if b1 < a1 then b1 else a1) then c1 else (if b1 < a1 then b1 else a1)) = m) (hK : wpList P ops Q rest (a.put o.dst (.int .i64 m)) w) : wpList P ops Q (o :: rest) a w := by
  refine wpList_plain hg fun K' hK' => ?_
  have h := hK' _ _ hK
  have he := exec_min3 (P := P) (w := w) a.eval x y z ats ho a1 b1 c1 m hx hy hz hm
  unfold Oper.wp
  rw [he]
  exact h
end
section
variable {w : World} {n : Nat} {A : Option Addr} {ls : List (List Int)}
set_option maxRecDepth 100000 in
set_option maxHeartbeats 8000000 in
theorem oldestG_none {c : Nat} (w : World) (A : Option Addr) : Calls Try.prog 18 #[.slice A 0 c] w fun e w' => e = .returned (.tuple #[.int .i64 0, .bool false]) ∧ w = w' := by
  go_enter Try.func18, Try.ntmps18
  go_wp2_with fail
  go_ret2
  exact ⟨rfl, by first | rfl | trivial⟩
set_option maxRecDepth 100000 in
set_option maxHeartbeats 8000000 in
theorem oldestG_any {c : Nat} (w : World) (h : EdgM w w.heap.size A n ls) (hn : n ≤ 200) (h0 : 0 < n) :
    Calls Try.prog 18 #[.slice A n c] w fun e w' => e = .returned (.tuple #[.int .i64 (oldL (fld (ls.headD []) 0) (eds ls)), .bool true]) ∧ Below w.heap.size w w' := by
  have HI := Lib.hid info_edge4
  have HH := Lib.hid h
  obtain ⟨b, off, a0, s0, t0, u0, rfl, hbl, ⟨hl0, e0⟩, hc0, wa0, wt0⟩ := h.at_ h0
  have k00 : w.cell? ⟨b, off, none⟩ = some (.int .i64 a0) := by have := hc0 0 _ rfl; simpa [Addr.add] using this
  have hd : fld (ls.headD []) 0 = a0 := by
    cases ls with
    | nil => simp at hl0
    | cons l r => simp at e0; subst e0; rfl
  rw [hd]
  have d0 : ((n : Int) == 0) = false := by rw [beq_eq_false_iff_ne]; omega
  clear h hc0 wa0 wt0 e0 hd hl0
  go_enter Try.func18, Try.ntmps18
  go_wp2_with fail
  go_loopw [4, 16] (fun s4 s16 wr => ∃ (k : Nat) (o : Int), s16 = .int .i64 k ∧ k ≤ n ∧ s4 = .int .i64 o ∧ o = oldL a0 (eds (ls.take k)) ∧ Below w.heap.size w wr) (fun _ s16 _ => n - (RowKit.intOf s16).toNat)
  case atStart => exact ⟨0, a0, rfl, Nat.zero_le _, rfl, rfl, Below.refl _ _⟩
  case round =>
    obtain ⟨k, o, rfl, hk, rfl, ho, hb⟩ := hrel
    rename World => W
    have HO := Lib.hid ho
    have HB := Lib.hid hb
    have HS := Lib.hid hb.size
    clear ho hb k00
    by_cases hlt : k < n
    · obtain ⟨b', off', a, s, t, u, hA, hbl', ⟨hl, e⟩, hc, wa, wt⟩ := (HH.out.below HB.out).at_ hlt
      cases hA
      obtain ⟨M, hM⟩ : ∃ M, (if t < (if a < o then a else o) then t else (if a < o then a else o)) = M := ⟨_, rfl⟩
      have HE := Lib.hid (show oldL a0 (eds (ls.take (k + 1))) = M from by
        rw [eds_take ls hl e, oldL_snoc, ← HO.out, ← hM]
        dsimp only
        split <;> split <;> omega)
      have HC := Lib.hid hc
      clear hc wa wt e hbl'
      go_wp2_with (first
        | (refine wpList_load_cells rfl 41 (.tmp 18) rfl ⟨b, off + k * 4, none⟩ rfl [.int .i64 a, .int .i64 s, .int .i64 t, .int .i64 u] _ HC.out Try.underlying41 rfl HI.out ?_)
        | (at_builtin; refine wpList_min3 _ rfl (.tmp 20) (.tmp 22) (.tmp 24) _ rfl o a t M rfl rfl rfl hM ?_))
      go_roundw
      case rel => exact ⟨k + 1, M, by go_num, by omega, rfl, HE.out.symm, HB.out.alloc HS.out _⟩
      case measure => simp [RowKit.intOf]; omega
    · obtain rfl : k = n := by omega
      rw [List.take_of_length_le (by have := HH.out.count; omega)] at HO
      go_wp2_with fail
      go_ret2
      exact ⟨by rw [← HO.out]; rfl, HB.out⟩
end
end Go.Proofs.Ytiapnaecdefonaa
