/- What is reached: the contracts of reach and Reach. -/
import Derived.Test.YtiapnaecdefonaaGraB
namespace Go.Proofs.Ytiapnaecdefonaa
open Go.RowKit Go.Maps Go.Sort Go.Shelf
set_option linter.unusedVariables false
set_option linter.unusedSimpArgs false

/-- What a look-up in a map of slices gives. -/
theorem NextM.look {w : World} {B b : Nat} {F : Int → List Int} (h : NextM w B b F) (k : Int) (hk : (Lit.int .i64 k).wf = true) : ∃ A c, (Instr.lookup 50 (.map (some b)) (.int .i64 k) false).run Try.prog w = .ok (.slice A (F k).length c) w ∧ (F k).length ≤ c ∧ Reads w B 1 A (F k).length (i64s (F k)) := by
  obtain ⟨⟨n, f, h1, h2⟩, h3⟩ := h
  obtain ⟨A, c, e, hc, hr⟩ := h2 k
  refine ⟨A, c, ?_, hc, hr⟩
  rw [h1.look Try.underlying50 (z := nilS) (by kernel_rfl) hk, e]
theorem wpList_lookN {ops : Array Oper} {rest : List Oper} {o : Oper} {a : Act} {Q : Exit → Act → World → Prop} {B b : Nat} {F : Int → List Int} {w0 : World} (w : World) (hg : o.guard = none) (m x : Operand) (hop : o.op = Op.lookup 50 m x false)
    (hm : a.eval m = .map (some b)) (h : NextM w0 B b F) (hb : Below B w0 w) (k : Int) (hx : a.eval x = .int .i64 k) (hk : (Lit.int .i64 k).wf = true)
    (hK : ∀ A c, (F k).length ≤ c → Reads w0 B 1 A (F k).length (i64s (F k)) → wpList Try.prog ops Q rest (a.put o.dst (.slice A (F k).length c)) w) : wpList Try.prog ops Q (o :: rest) a w := by
  obtain ⟨⟨n, f, h1, h2⟩, h3⟩ := h
  obtain ⟨A, c, e, hc, hr⟩ := h2 k
  have hrun := (h1.below hb h3).look Try.underlying50 (z := nilS) (by kernel_rfl) hk
  rw [e] at hrun
  refine wpList_plain hg fun K' hK' => ?_
  unfold Oper.wp
  simp [execOp, hop, hm, hx, hrun, Result.andThen]
  exact hK' _ _ (hK A c hc hr)
theorem wpList_lookN_g {ops : Array Oper} {rest : List Oper} {o : Oper} {a : Act} {Q : Exit → Act → World → Prop} {B b : Nat} {F : Int → List Int} {w0 : World} (w : World) (hw : Region.wanted o (yielded ops a.tmps) = true) (m x : Operand) (hop : o.op = Op.lookup 50 m x false)
    (hm : a.eval m = .map (some b)) (h : NextM w0 B b F) (hb : Below B w0 w) (k : Int) (hx : a.eval x = .int .i64 k) (hk : (Lit.int .i64 k).wf = true)
    (hK : ∀ A c, (F k).length ≤ c → Reads w0 B 1 A (F k).length (i64s (F k)) → wpList Try.prog ops Q rest (a.put o.dst (.slice A (F k).length c)) w) : wpList Try.prog ops Q (o :: rest) a w := by
  obtain ⟨⟨n, f, h1, h2⟩, h3⟩ := h
  obtain ⟨A, c, e, hc, hr⟩ := h2 k
  have hrun := (h1.below hb h3).look Try.underlying50 (z := nilS) (by kernel_rfl) hk
  rw [e] at hrun
  refine BigFrame.wpList_want hw fun K' hK' => ?_
  unfold Oper.wp
  simp [execOp, hop, hm, hx, hrun, Result.andThen]
  exact hK' _ _ (hK A c hc hr)
/-- A walk over lists whose numbers are all of some. -/
structure Fin (F : Int → List Int) (U : List Int) : Prop where
  sub : ∀ x y, y ∈ F x → y ∈ U
  wf : ∀ y ∈ U, (Lit.int .i64 y).wf = true
  len : U.length ≤ 1000
  each : ∀ x, (F x).length ≤ 1000
def aheadV (s : St) (k : Int) : Option Value := (s.ahead k).map (Value.int .i64)
theorem zeroInt (W : World) : (zeroValue 3).run Try.prog W = .ok (.int .i64 0) W := by kernel_rfl
theorem zeroBool (W : World) : (zeroValue 4).run Try.prog W = .ok (.bool false) W := by kernel_rfl
section
variable {w : World} {B b : Nat} {F : Int → List Int} {U : List Int} {fr : Int}
theorem fold_take {fr c : Int} {s : St} {l : List Int} {k : Nat} (hk : k < l.length) : (l.take (k + 1)).foldl (visit fr c) s = visit fr c ((l.take k).foldl (visit fr c) s) l[k] := by
  rw [List.take_add_one, List.getElem?_eq_getElem hk, List.foldl_append]; rfl
theorem fold_grew {fr c : Int} {s : St} {l : List Int} (k : Nat) : Grew ((l.take k).foldl (visit fr c) s) (l.foldl (visit fr c) s) := by
  have : l.foldl (visit fr c) s = (l.drop k).foldl (visit fr c) ((l.take k).foldl (visit fr c) s) := by rw [← List.foldl_append, List.take_append_drop]
  rw [this]; exact grew_fold _ _ _ _
theorem own_new (V : World) (t : TypeId) (ys : List Int) {base m g : Nat} (hg : g = V.heap.size) (hb : base ≤ g) (hm : m = ys.length) (h9 : m ≤ 1000000) : (V.alloc (.cells (i64s ys).toArray t)).ownsRow base t 1 (.slice (some ⟨g, 0, none⟩) m m) m (i64s ys) := by
  subst hg hm
  exact ⟨by rw [i64s_length]; omega, .inr ⟨_, _, (i64s ys).toArray, rfl, hb, Blk.new V t _, Nat.le_refl _, by simp only [maxLen]; omega, by simp [i64s_length], by rw [List.take_of_length_le (by simp [i64s_length])]⟩⟩
theorem aheadV_visit {s : St} {c n : Int} (hs : (s.ahead n).isSome = false) (k : Int) : aheadV (visit fr c s n) k = if k = n then some (.int .i64 c) else aheadV s k := by
  unfold aheadV
  rw [visit_ahead hs]
  split <;> rfl
set_option maxRecDepth 100000 in
set_option maxHeartbeats 8000000 in
theorem reach_any (w : World) (h : NextM w B b F) (hB : B ≤ w.heap.size) (hF : Fin F U) (hfr : (Lit.int .i64 fr).wf = true) :
    Calls Try.prog 23 #[.map (some b), .int .i64 fr] w fun e w' => e = .returned (.map (some w.heap.size)) ∧ Below w.heap.size w w' ∧ ∃ i n, (bst F fr i).row.length ≤ i ∧ n ≤ 1001 ∧ MapV w' w.heap.size n (aheadV (bst F fr i)) := by
  have HH := Lib.hid h
  have HF := Lib.hid hF
  have WF := Lib.hid hfr
  have HBB := Lib.hid hB
  have hmm := @run_makeMap Try.prog
  have HLEN := Lib.hid (fun i => bst_len (F := F) (fr := fr) hF.sub i)
  have hUl := hF.len
  clear h hF hfr hB
  go_enter Try.func23, Try.ntmps23
  go_wp2_with fail
  go_loopw [6, 7] (fun s6 s7 wr => ∃ (i : Nat), s7 = .int .i64 i ∧ i ≤ (bst F fr i).row.length ∧ wr.ownsRow w.heap.size 3 1 s6 (bst F fr i).row.length (i64s (bst F fr i).row) ∧ MapV wr w.heap.size (bst F fr i).row.length (aheadV (bst F fr i)) ∧ Below w.heap.size w wr) (fun _ s7 _ => 2000 - (RowKit.intOf s7).toNat)
  case atStart =>
    refine ⟨0, rfl, Nat.zero_le _, own_new (w.alloc (.map #[] 0)) 3 [fr] (by simp) (by simp) rfl (by simp [bst]), ((mapV_made w).more (Nat.zero_le _)).alloc _, (Joins.below_alloc1 _ _).alloc (by simp) _⟩
  case round =>
    obtain ⟨i, rfl, hil, hrow, hmap, hb⟩ := hrel
    rename World => W
    have hl9 := HLEN.out i
    by_cases hlt : i < (bst F fr i).row.length
    · obtain ⟨c, hc⟩ : ∃ c, (bst F fr i).row[i]? = some c := ⟨_, List.getElem?_eq_getElem hlt⟩
      have hsucc := bst_succ hc
      obtain ⟨g, cap, rfl, _⟩ := hrow.form (by omega)
      have hgc : gd (bst F fr i).row i = c := by rw [gd_get hlt]; exact (List.getElem?_eq_some_iff.1 hc).2
      have kc : W.cell? ⟨g, i, none⟩ = some (.int .i64 c) := by rw [← hgc]; exact own_gd hrow hlt
      have kc0 : W.cell? ⟨g, 0 + i, none⟩ = some (.int .i64 c) := by rw [Nat.zero_add]; exact kc
      have hcw : (Lit.int .i64 c).wf = true := by
        rcases (binv F fr i).mem.1 (List.mem_of_getElem? hc) with e | e
        · rw [e]; exact WF.out
        · obtain ⟨d, hd⟩ := Option.isSome_iff_exists.1 e
          exact HF.out.wf _ (HF.out.sub _ _ ((binv F fr i).pred c d hd).2.1)
      obtain ⟨A, cA, hlk, hcA, hrd⟩ := (HH.out.below (hb.mono HBB.out)).look c hcw
      have HR := Lib.hid hrow
      have HM := Lib.hid hmap
      have HB := Lib.hid hb
      have HC := Lib.hid hc
      have HS := Lib.hid hsucc
      have HRD := Lib.hid hrd
      have HE := Lib.hid (HF.out.each c)
      clear hrow hmap hb hc hsucc hrd hgc hcw
      go_wp2_with fail
      clear kc kc0 hlk hl9
      go_loopw [6, 28] (fun s6 s28 wr => ∃ (k : Nat), s28 = .int .i64 k ∧ k ≤ (F c).length ∧ wr.ownsRow w.heap.size 3 1 s6 (((F c).take k).foldl (visit fr c) (bst F fr i)).row.length (i64s (((F c).take k).foldl (visit fr c) (bst F fr i)).row) ∧
          MapV wr w.heap.size (((F c).take k).foldl (visit fr c) (bst F fr i)).row.length (aheadV (((F c).take k).foldl (visit fr c) (bst F fr i))) ∧ Below w.heap.size w wr) (fun _ s28 _ => 2000 - (RowKit.intOf s28).toNat)
      case atStart => exact ⟨0, rfl, Nat.zero_le _, HR.out, HM.out, HB.out⟩
      case round =>
        obtain ⟨k, rfl, hkl, hrow, hmap, hb⟩ := hrel
        rename World => V
        by_cases hk : k < (F c).length
        · have hsuc := fold_take (fr := fr) (c := c) (s := bst F fr i) hk
          have hgr := fold_grew (fr := fr) (c := c) (s := bst F fr i) (l := F c) (k + 1)
          rw [← HS.out] at hgr
          have hgl := hgr.len
          have hl1 := HLEN.out (i + 1)
          have hg0 := grew_fold fr c ((F c).take k) (bst F fr i)
          have hsc := hg0.get HC.out
          rw [hsuc] at hgl
          have SU := Lib.hid hsuc
          clear hgr hg0 hsuc
          obtain ⟨b0, off0, rfl, hb0, hcell⟩ := int_cells HRD.out (by omega)
          have hx0 := hcell k hk
          have hxw := HF.out.wf _ (HF.out.sub c _ (List.getElem_mem hk))
          rw [gd_get hk] at hx0
          have hBB := HBB.out
          have hx : V.cell? ⟨b0, off0 + k, none⟩ = some (.int .i64 (F c)[k]) := (hb.cell (p := ⟨b0, off0 + k, none⟩) (by show b0 < w.heap.size; omega)).trans ((HB.out.cell (p := ⟨b0, off0 + k, none⟩) (by show b0 < w.heap.size; omega)).symm.trans hx0)
          have HX := Lib.hid hx
          have HXW := Lib.hid hxw
          have SC := Lib.hid hsc
          clear hcell hx0 hx hxw hsc
          generalize (F c)[k] = x at *
          have HM2 := Lib.hid hmap
          have HR2 := Lib.hid hrow
          have HB2 := Lib.hid hb
          have hk2 : k < 1000 := by have := HE.out; omega
          clear hmap hrow hb
          generalize ((F c).take k).foldl (visit fr c) (bst F fr i) = s at *
          have kx := HX.out
          cases hs : (s.ahead x).isSome with
          | true =>
            have his : (aheadV s x).isSome = true := by unfold aheadV; rw [Option.isSome_map]; exact hs
            have hv := visit_old (fr := fr) (c := c) hs
            have HV := Lib.hid hv
            have HIS := Lib.hid his
            clear hs hv his
            go_wp2_with (at_lookup; refine wpList_look_okV _ rfl _ _ 48 rfl 3 Try.underlying48 _ (zeroInt _) rfl HM2.out x rfl HXW.out _ rfl true HIS.out ?_)
            go_roundw
            case rel =>
              refine ⟨k + 1, by go_num, hk, ?_⟩
              rw [SU.out, HV.out]
              exact ⟨HR2.out, HM2.out, HB2.out⟩
            case measure => simp [RowKit.intOf]; omega
          | false =>
            have his : (aheadV s x).isSome = false := by unfold aheadV; rw [Option.isSome_map]; exact hs
            have HIS := Lib.hid his
            have HS0 := Lib.hid hs
            have hvr := visit_row (fr := fr) (c := c) hs
            have HVR := Lib.hid hvr
            rw [hvr, List.length_append] at hgl
            obtain ⟨g2, cap2, e2, _⟩ := HR2.out.form (by have := (List.getElem?_eq_some_iff.1 SC.out).1; omega)
            subst e2
            have hil2 : i < s.row.length := (List.getElem?_eq_some_iff.1 SC.out).1
            have hgc2 : gd s.row i = c := by rw [gd_get hil2]; exact (List.getElem?_eq_some_iff.1 SC.out).2
            have kc : V.cell? ⟨g2, i, none⟩ = some (.int .i64 c) := by rw [← hgc2]; exact own_gd HR2.out hil2
            have kc0 : V.cell? ⟨g2, 0 + i, none⟩ = some (.int .i64 c) := by rw [Nat.zero_add]; exact kc
            have hsl : s.row.length ≤ 1000 := by simp at hgl; omega
            have NR := Lib.hid (MapV.ne_row HM2.out HR2.out)
            have HSZ := Lib.hid HB2.out.size
            have TOK := Lib.hid True.intro
            clear hs his hvr hgc2 hgl hl1
            go_wp2_with (first
              | (at_lookup; refine wpList_look_okV _ rfl _ _ 48 rfl 3 Try.underlying48 _ (zeroInt _) rfl HM2.out x rfl HXW.out _ rfl false HIS.out ?_)
              | (at_mapUpdate; refine wpList_putV _ rfl _ _ _ 48 rfl 3 Try.underlying48 rfl HM2.out (by simp only [maxLen]; omega) x rfl HXW.out _ rfl ?_
                 intro w5 hm5 hg5 hs5
                 have M5 := Lib.hid hm5
                 have R5 := Lib.hid (own_turn HR2.out (turn_grown hg5) fun k hk e => NR.out (by rw [← e]; exact hk))
                 have B5 := Lib.hid (HB2.out.grown hg5 HSZ.out (fun j hj => by cases hj; exact Nat.le_refl _))
                 have S5 := Lib.hid (show w.heap.size ≤ w5.heap.size by rw [hs5]; exact HSZ.out)
                 clear hm5 hg5 hs5)
              | (at_builtin
                 refine wpList_app_new _ rfl (.tmp 46) (.tmp 48) _ rfl Try.underlying25 w.heap.size _ s.row.length s.row rfl (R5.out.alloc _) [x] 1 1 _ _ rfl _ rfl (by simp) rfl (by omega) (by have := S5.out; simp; omega) ?_
                 intro v9 w9 hown9 hg9 hv9
                 have O9 := Lib.hid hown9
                 have G9 := Lib.hid hg9
                 clear hown9 hg9 hv9))
            go_roundw
            case rel =>
              refine ⟨k + 1, by go_num, hk, ?_⟩
              rw [SU.out, HVR.out, List.length_append]
              refine ⟨O9.out, ?_, below_own (B5.out.alloc S5.out _) G9.out (R5.out.alloc _) (Nat.le_refl _) (by have := S5.out; simp; omega)⟩
              exact ((M5.out.alloc _).grown G9.out NR.out).to fun j => (aheadV_visit HS0.out j).symm
            case measure => simp [RowKit.intOf]; omega
        · obtain rfl : k = (F c).length := by omega
          rw [List.take_length, ← HS.out] at hrow hmap
          have HM2 := Lib.hid hmap
          have HR2 := Lib.hid hrow
          have HB2 := Lib.hid hb
          have hgl := (grew_succ F fr i).len
          have hl1 := HLEN.out i
          clear hmap hrow hb
          go_wp2_with fail
          go_roundw
          case rel => exact ⟨i + 1, by go_num, by omega, HR2.out, HM2.out, HB2.out⟩
          case measure => simp [RowKit.intOf]; omega
    · have HM := Lib.hid hmap
      have HB := Lib.hid hb
      obtain ⟨A6, c6, rfl, _⟩ := own_slice hrow
      clear hrow hmap hb
      go_wp2_with fail
      go_ret
      exact ⟨rfl, HB.out, i, _, by omega, by omega, HM.out⟩
end
end Go.Proofs.Ytiapnaecdefonaa
