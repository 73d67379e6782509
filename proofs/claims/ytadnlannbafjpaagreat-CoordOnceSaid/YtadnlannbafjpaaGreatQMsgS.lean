/- Messages in slices: the document's Msgs; buildSlice of whole messages. -/
import Derived.Test.YtadnlannbafjpaaGreatQMsgA
import Derived.Test.YtadnlannbafjpaaGreatQFlats
import Derived.Test.YtadnlannbafjpaaGreatQBase
import Derived.RegionTactic
import Derived.Deep.MidRow
namespace Go.Proofs.YtadnlannbafjpaaGreat
open Go.RowKit
set_option linter.unusedVariables false
set_option linter.unusedSimpArgs false
theorem info_msg : (Tryz.prog.info? 45).map (fun i => (i.zero, i.size, i.bytes)) = some (some (.agg (mc zM)), 28, 224) := by rw [mc_zero]; kernel_rfl
theorem flatten_at : ∀ {ms : List (List Int)} {i : Nat}, (∀ m ∈ ms, m.length = 28) → i < ms.length → (ms.flatten.drop (i * 28)).take 28 = ms.getD i zM
 | [], i, _, hi => by simp at hi
 | m :: ms, 0, h, hi => by
   rw [List.flatten_cons, Nat.zero_mul, List.drop_zero, List.take_append_of_le_length (by rw [h m (by simp)]; exact Nat.le_refl _), List.take_of_length_le (by rw [h m (by simp)]; exact Nat.le_refl _)]; rfl
 | m :: ms, i + 1, h, hi => by
   have hm := h m (by simp)
   rw [List.flatten_cons, List.drop_append, List.drop_eq_nil_of_le (by omega), List.nil_append, hm, show (i + 1) * 28 - 28 = i * 28 by omega, flatten_at (fun x hx => h x (by simp [hx])) (by simpa using hi)]
   rfl
theorem splice_mid (A B C D : List Value) (h : B.length = D.length) : splice (A ++ B ++ C).toArray A.length D = (A ++ D ++ C).toArray := by
 apply Array.ext_getElem?
 intro i
 rw [splice_get]
 simp only [List.getElem?_toArray, List.size_toArray, List.length_append]
 by_cases h1 : A.length ≤ i ∧ i < A.length + D.length ∧ i < A.length + B.length + C.length
 · rw [if_pos h1, List.append_assoc A D C, List.getElem?_append_right h1.1, List.getElem?_append_left (by omega)]
 · rw [if_neg h1]
   rcases Nat.lt_or_ge i A.length with h2 | h2
   · rw [List.append_assoc, List.append_assoc, List.getElem?_append_left h2, List.getElem?_append_left h2]
   · rw [List.append_assoc, List.append_assoc, List.getElem?_append_right h2, List.getElem?_append_right h2, List.getElem?_append_right (by omega), List.getElem?_append_right (by omega), h]
theorem ints_append (a b : List Int) : ints (a ++ b) = ints a ++ ints b := by simp [ints]
theorem made_msgs (n : Nat) : madeCells (mc zM) (n * 28) = (ints (List.replicate (n * 28) 0)).toArray := by
 apply Array.ext_getElem?
 intro i
 by_cases hi : i < n * 28
 · have h28 : i % 28 < (mc zM).size := by rw [mc_size zM_length]; omega
   rw [madeCells, Array.getElem?_map, Array.getElem?_range, if_pos hi, Option.map_some, mc_size zM_length, getElem!_pos (mc zM) (i % 28) h28]
   have := mc_get zM_length (i := i % 28) (by omega)
   rw [Array.getElem?_eq_getElem h28] at this
   rw [this]
   have h0 : fld zM (i % 28) = 0 := by unfold fld zM; rw [List.getD_eq_getElem?_getD, List.getElem?_replicate]; split <;> rfl
   rw [h0]
   simp [ints, hi]
 · rw [Array.getElem?_eq_none (by rw [size_madeCells]; omega), Array.getElem?_eq_none (by simp [ints]; omega)]
theorem Reads.msg_at {w : World} {B n : Nat} {A : Option Addr} {ms : List (List Int)} (h : Reads w B 28 A n (ints ms.flatten)) (hm : ∀ m ∈ ms, m.length = 28) (hn : ms.length = n) {i : Nat} (hi : i < n) :
   ∃ ad, A = some ad ∧ ad.block < B ∧ ∀ j v, (ints (ms.getD i zM))[j]? = some v → w.cell? ((ad.add (i * 28)).add j) = some v := by
 obtain ⟨ad, e, hb, hc⟩ := h.2 (by omega)
 refine ⟨ad, e, hb, fun j v hv => ?_⟩
 rw [add_of_add]
 apply hc
 have h28 : (ms.getD i zM).length = 28 := by rw [show ms.getD i zM = ms[i]'(by omega) by simp [List.getD, hn, hi]]; exact hm _ (List.getElem_mem _)
 have hj : j < 28 := by have := (List.getElem?_eq_some_iff.1 hv).1; rwa [ints_length, h28] at this
 rw [← hv, ← flatten_at hm (by omega)]
 simp [ints, List.getElem?_take, hj, List.getElem?_drop]
theorem take_succ_iff {ms ms' : List (List Int)} {k : Nat} (h : k < ms.length) (h' : k < ms'.length) (ht : ms.take k = ms'.take k) : ms.take (k + 1) = ms'.take (k + 1) ↔ ms.getD k zM = ms'.getD k zM := by
 rw [List.take_succ_eq_append_getElem h, List.take_succ_eq_append_getElem h', ht, List.append_cancel_left_eq]
 simp [List.getD, h, h']
theorem run_load_msg {w : World} {ad : Addr} {m : List Int} (hm : m.length = 28) (hc : ∀ j v, (ints m)[j]? = some v → w.cell? (ad.add j) = some v) : (loadVar 45 ad).run Tryz.prog w = .ok (.agg (mc m)) w :=
 run_loadVar_cells w ad _ (ints m) _ hc Tryz.underlying45 rfl (by have := mc_info hm; simpa [mc] using this)
theorem exec_load {P : Program} {a : Act} {o : Oper} {w : World} {ty : TypeId} {x : Operand} {v : Value} (ho : o.op = .load ty x) {ad : Addr} (hx : a.eval x = .pointer (some ad)) (hL : (loadVar ty ad).run P w = .ok v w) : (execOp a.eval o).run P w = .ok (.value v) w := by
 unfold execOp
 simp only [ho, hx, Instr.loadAt, Instr.sureAddr, Sem.run_bind, Sem.run_pure, Result.andThen_ok, hL]
set_option maxRecDepth 100000 in
set_option maxHeartbeats 4000000 in
theorem msgs_any (A A' : Option Addr) (n n' c c' B B' : Nat) (ms ms' : List (List Int)) (w : World) (hn : n ≤ 9223372036854775807) (hl : ms.length = n) (hl' : ms'.length = n') (hm : ∀ m ∈ ms, m.length = 28) (hm' : ∀ m ∈ ms', m.length = 28)
   (h : Reads w B 28 A n (ints ms.flatten)) (h' : Reads w B' 28 A' n' (ints ms'.flatten)) :
   Calls Tryz.prog 16 #[.slice A n c, .slice A' n' c'] w fun e w' => e = .returned (.bool (decide (ms = ms'))) ∧ ∃ q, w' = w.drewN q := by
 by_cases hnn : n = n'
 · subst hnn
   have H := Lib.hid h
   have H' := Lib.hid h'
   have HM := Lib.hid hm
   have HM' := Lib.hid hm'
   have HL := Lib.hid hl
   have HL' := Lib.hid hl'
   have hgm := guard_msg
   clear h h' hm hm' hl hl'
   go_enter Tryz.func16, Tryz.ntmps16
   go_wp2_with fail
   go_loopw [5] (fun i W => ∃ k q : Nat, k ≤ n ∧ i = .int .i64 k ∧ W = w.drewN q ∧ ms.take k = ms'.take k) (fun i _ => n - (intOf i).toNat)
   case atStart => exact ⟨0, 0, Nat.zero_le _, rfl, rfl, by simp⟩
   case round =>
     obtain ⟨k, q, hk, rfl, rfl, htk⟩ := hrel
     have HT := Lib.hid htk
     clear htk
     by_cases hlt : k < n
     · have HX := Lib.hid (take_succ_iff (ms := ms) (ms' := ms') (k := k) (by rw [HL.out]; exact hlt) (by rw [HL'.out]; exact hlt) HT.out)
       have hm1 : (ms.getD k zM).length = 28 := by rw [show ms.getD k zM = ms[k]'(by rw [HL.out]; exact hlt) by simp [List.getD, HL.out, hlt]]; exact HM.out _ (List.getElem_mem _)
       have hm2 : (ms'.getD k zM).length = 28 := by rw [show ms'.getD k zM = ms'[k]'(by rw [HL'.out]; exact hlt) by simp [List.getD, HL'.out, hlt]]; exact HM'.out _ (List.getElem_mem _)
       obtain ⟨ad, rfl, hb, hc⟩ := H.out.msg_at HM.out HL.out hlt
       obtain ⟨ad', rfl, hb', hc'⟩ := H'.out.msg_at HM'.out HL'.out hlt
       have HC1 := Lib.hid hc
       have HC2 := Lib.hid hc'
       have HM1 := Lib.hid hm1
       have HM2 := Lib.hid hm2
       clear hc hc' hb hb' hm1 hm2
       generalize ms.getD k zM = m1 at HX HC1 HM1
       generalize ms'.getD k zM = m2 at HX HC2 HM2
       obtain ⟨d, hd⟩ : ∃ d, d = !decide (m1 = m2) := ⟨_, rfl⟩
       have he : ∀ W, (binOp .neq 45 (.agg (mc m1)) (.agg (mc m2))).run Tryz.prog W = .ok (.bool d) W := fun W => by rw [hd]; exact neq_msg HM1.out HM2.out W
       have HDD := Lib.hid hd
       clear hd
       go_wp2_with fail
       refine wp_region_held_drew (S := fun w' => ∃ q, w' = w.drewN q) (by kernel_rfl) ?_ (fun hHeld => ?_)
       · exact ⟨q + 1, rfl⟩
       refine wpAnyH_take (i := 0) (v := ?_) rfl (by kernel_rfl) (by kernel_rfl) (by kernel_rfl) (fun _ _ _ h => h) (Or.inl ⟨by rfl, ?_⟩) (by assumption) ?_
       rotate_left
       · (intro w0 hSw; (try dsimp only at hSw); go_simp; try with_reducible rfl)
       try simp only [List.getElem_toArray, List.getElem_cons_succ, List.getElem_cons_zero, Act.put, List.setIfInBounds_toArray, List.set_cons_zero, List.set_cons_succ]
       refine wpAnyH_take (i := 1) (v := ?_) rfl (by kernel_rfl) (by kernel_rfl) (by kernel_rfl) (fun _ _ _ h => h) (Or.inl ⟨by rfl, ?_⟩) (by assumption) ?_
       rotate_left
       · (intro w0 hSw; (try dsimp only at hSw); go_simp; try with_reducible rfl)
       try simp only [List.getElem_toArray, List.getElem_cons_succ, List.getElem_cons_zero, Act.put, List.setIfInBounds_toArray, List.set_cons_zero, List.set_cons_succ]
       refine wpAnyH_take (i := 2) (v := ?_) rfl (by kernel_rfl) (by kernel_rfl) (by kernel_rfl) (fun _ _ _ h => h) (Or.inl ⟨by rfl, ?_⟩) (by assumption) ?_
       rotate_left
       · (intro w0 hSw; (try dsimp only at hSw); go_simp; try with_reducible rfl)
       try simp only [List.getElem_toArray, List.getElem_cons_succ, List.getElem_cons_zero, Act.put, List.setIfInBounds_toArray, List.set_cons_zero, List.set_cons_succ]
       refine wpAnyH_take (i := 3) (v := .agg (mc m1)) rfl (by kernel_rfl) (by kernel_rfl) (by kernel_rfl) (fun _ _ _ h => h) (Or.inl ⟨by rfl, ?_⟩) (by assumption) ?_
       · intro w0 hSw
         obtain ⟨q1, rfl⟩ := hSw
         exact exec_load (x := .tmp 19) rfl (ad := ad.add (k * 28)) rfl (run_load_msg (w := w.drewN q1) HM1.out (fun j v hv => HC1.out j v hv))
       try simp only [List.getElem_toArray, List.getElem_cons_succ, List.getElem_cons_zero, Act.put, List.setIfInBounds_toArray, List.set_cons_zero, List.set_cons_succ]
       go_simp
       refine wpAnyH_take (i := 4) (v := ?_) rfl (by kernel_rfl) (by kernel_rfl) (by kernel_rfl) (fun _ _ _ h => h) (Or.inl ⟨by rfl, ?_⟩) (by assumption) ?_
       rotate_left
       · (intro w0 hSw; (try dsimp only at hSw); go_simp; try with_reducible rfl)
       try simp only [List.getElem_toArray, List.getElem_cons_succ, List.getElem_cons_zero, Act.put, List.setIfInBounds_toArray, List.set_cons_zero, List.set_cons_succ]
       refine wpAnyH_take (i := 5) (v := ?_) rfl (by kernel_rfl) (by kernel_rfl) (by kernel_rfl) (fun _ _ _ h => h) (Or.inl ⟨by rfl, ?_⟩) (by assumption) ?_
       rotate_left
       · (intro w0 hSw; (try dsimp only at hSw); go_simp; try with_reducible rfl)
       try simp only [List.getElem_toArray, List.getElem_cons_succ, List.getElem_cons_zero, Act.put, List.setIfInBounds_toArray, List.set_cons_zero, List.set_cons_succ]
       refine wpAnyH_take (i := 6) (v := ?_) rfl (by kernel_rfl) (by kernel_rfl) (by kernel_rfl) (fun _ _ _ h => h) (Or.inl ⟨by rfl, ?_⟩) (by assumption) ?_
       rotate_left
       · (intro w0 hSw; (try dsimp only at hSw); go_simp; try with_reducible rfl)
       try simp only [List.getElem_toArray, List.getElem_cons_succ, List.getElem_cons_zero, Act.put, List.setIfInBounds_toArray, List.set_cons_zero, List.set_cons_succ]
       refine wpAnyH_take (i := 7) (v := .agg (mc m2)) rfl (by kernel_rfl) (by kernel_rfl) (by kernel_rfl) (fun _ _ _ h => h) (Or.inl ⟨by rfl, ?_⟩) (by assumption) ?_
       · intro w0 hSw
         obtain ⟨q1, rfl⟩ := hSw
         exact exec_load (x := .tmp 23) rfl (ad := ad'.add (k * 28)) rfl (run_load_msg (w := w.drewN q1) HM2.out (fun j v hv => HC2.out j v hv))
       try simp only [List.getElem_toArray, List.getElem_cons_succ, List.getElem_cons_zero, Act.put, List.setIfInBounds_toArray, List.set_cons_zero, List.set_cons_succ]
       go_simp
       refine wpAnyH_take (i := 8) (v := ?_) rfl (by kernel_rfl) (by kernel_rfl) (by kernel_rfl) (fun _ _ _ h => h) (Or.inl ⟨by rfl, ?_⟩) (by assumption) ?_
       rotate_left
       · (intro w0 hSw; (try dsimp only at hSw); go_simp; try with_reducible rfl)
       try simp only [List.getElem_toArray, List.getElem_cons_succ, List.getElem_cons_zero, Act.put, List.setIfInBounds_toArray, List.set_cons_zero, List.set_cons_succ]
       refine wpAnyH_done (by kernel_rfl) ?_ _
       clear hHeld
       cases d
       · have HXT := Lib.hid (HX.out.2 (by have := HDD.out; simpa using this))
         go_wp2_with fail
         go_roundw
         case rel => exact ⟨k + 1, _, by omega, by go_num, rfl, HXT.out⟩
         case measure => simp [intOf]; omega
       · have HD := Lib.hid (show decide (ms = ms') = false from decide_eq_false (fun e => by have h1 := HDD.out; have h2 := HX.out.1 (by rw [e]); simp [h2] at h1))
         go_wp2_with fail
         go_ret
         exact ⟨by rw [HD.out]; rfl, _, rfl⟩
     · have HD := Lib.hid (show decide (ms = ms') = true from decide_eq_true (by
         have := HT.out
         rwa [List.take_of_length_le (by have := HL.out; omega), List.take_of_length_le (by have := HL'.out; omega)] at this))
       go_wp2_with fail
       go_ret
       exact ⟨by rw [HD.out]; rfl, q, rfl⟩
 · have d1 : ((n : Int) == (n' : Int)) = false := by rw [beq_eq_false_iff_ne]; omega
   have d2 : (n == n') = false := by rw [beq_eq_false_iff_ne]; omega
   have d3 : decide ((n : Int) = n') = false := by simp; omega
   have d4 : decide (n = n') = false := by simp [hnn]
   have d5 : decide (ms = ms') = false := by simp; intro e; subst e; omega
   have HD := Lib.hid d5
   clear h h' hm hm' hl hl' d5
   go_enter Tryz.func16, Tryz.ntmps16
   go_wp2_with fail
   go_ret
   exact ⟨by rw [HD.out]; rfl, 0, rfl⟩
/-! ### a slice of messages, written out -/
theorem zip_splice : ∀ (l : List Value) (k off : Nat) (cs : Array Value), (l.zipIdx k).foldl (fun cs x => cs.setIfInBounds (off + x.2) x.1) cs = splice cs (off + k) l
 | [], k, off, cs => rfl
 | v :: r, k, off, cs => by
   rw [List.zipIdx_cons, List.foldl_cons, zip_splice r (k + 1) off _, splice]
   rfl
theorem zipA_splice (c : Array Value) (off : Nat) (cs : Array Value) : c.zipIdx.foldl (fun cs x => cs.setIfInBounds (off + x.2) x.1) cs = splice cs off c.toList := by
 rw [← Array.foldl_toList, Array.toList_zipIdx, zip_splice c.toList 0 off cs]
 rfl
def partsM : List (List Int) → Nat → List (Nat × Value)
 | [], _ => []
 | m :: r, i => (i, .agg (mc m)) :: partsM r (i + 1)
theorem fill_from : ∀ (r done : List (List Int)), (∀ m ∈ r, m.length = 28) → done.flatten.length = done.length * 28 →
   Instr.fill (fun i => some (i * 28, 28)) (ints (done.flatten ++ List.replicate (r.length * 28) 0)).toArray (partsM r done.length) = some (ints (done ++ r).flatten).toArray
 | [], done, _, _ => by simp [partsM, Instr.fill]
 | m :: r, done, hr, hd => by
   have hm := hr m (by simp)
   have hz : (Value.agg (mc m)).cells.size = 28 := mc_size hm
   have e1 : done.flatten ++ List.replicate ((m :: r).length * 28) (0 : Int) = done.flatten ++ List.replicate 28 0 ++ List.replicate (r.length * 28) 0 := by
     rw [List.append_assoc, List.replicate_append_replicate, List.length_cons]; congr 2; omega
   rw [partsM, Instr.fill]
   simp only [hz]
   have hsz : (ints (done.flatten ++ List.replicate ((m :: r).length * 28) 0)).toArray.size = done.length * 28 + (r.length + 1) * 28 := by rw [List.size_toArray, ints_length, List.length_append, hd, List.length_replicate, List.length_cons]
   rw [if_neg (by rw [hsz]; simp; omega)]
   have hf := fill_from r (done ++ [m]) (fun x hx => hr x (by simp [hx])) (by simp [hd, hm]; omega)
   rw [show (Value.agg (mc m)).cells = mc m from rfl, zipA_splice, e1, ints_append, ints_append, show done.length * 28 = (ints done.flatten).length by rw [ints_length, hd], show (mc m).toList = ints m from rfl, splice_mid _ _ _ _ (by rw [ints_length, ints_length, hm, List.length_replicate]),
     ← ints_append, ← ints_append, show done.length + 1 = (done ++ [m]).length by simp, show done.flatten ++ m = (done ++ [m]).flatten by simp, hf]
   simp
theorem run_build_msgs (ms : List (List Int)) (h : ∀ m ∈ ms, m.length = 28) (n : Nat) (hn : ms.length = n) (hs : n ≤ 1000) (w : World) :
   (Instr.buildSlice 35 n (partsM ms 0).toArray).run Tryz.prog w = .ok (.slice (some ⟨w.heap.size, 0, none⟩) n n) (w.alloc (.cells (ints ms.flatten).toArray 45)) := by
 obtain ⟨i, hi, hz, hsz, hb⟩ := info_parts info_msg
 have hf := fill_from ms [] h (by simp)
 simp only [List.flatten_nil, List.nil_append, List.length_nil] at hf
 have hm := made_msgs n
 unfold madeCells at hm
 rw [hn, ← hm] at hf
 have hzz : (zeroValue 45).run Tryz.prog w = .ok (.agg (mc zM)) w := by simp [zeroValue, typeInfo, hi, hz]
 have hss : (sizeOf 45).run Tryz.prog w = .ok 28 w := by simp [sizeOf, typeInfo, hi, hsz]
 unfold Instr.buildSlice
 by_cases h0 : n = 0
 · subst h0
   have hz0 : ms = [] := List.eq_nil_of_length_eq_zero hn
   subst hz0
   simp [run_underlying Tryz.underlying35, hss, partsM, Instr.fill, newRow, ints]
   rw [show Array.range 0 = #[] from by simp [Array.range], Array.map_empty]
 · have h1 : ¬ (n * 28 > 2 ^ 24) := by omega
   have h2 : ¬ (n * 28 = 0) := by omega
   simp only [Sem.run_bind, run_underlying Tryz.underlying35, Result.andThen_ok, hss, if_neg h1, if_neg h2, hzz, Sem.run_pure, show (Value.agg (mc zM)).cells = mc zM from rfl, hf, newRow]
   simp
theorem wp_build_msgs {o : Oper} {a : Act} {w : World} {K : Act → World → Prop} {Q : Exit → Act → World → Prop} (n : Nat) (parts : Array (Nat × Operand)) (ho : o.op = .buildSlice 35 n parts) (ms : List (List Int)) (hm : ∀ m ∈ ms, m.length = 28) (hn : ms.length = n) (hs : n ≤ 1000)
   (hp : parts.toList.map (fun x => (x.1, a.eval x.2)) = partsM ms 0) (h : K (a.put o.dst (.slice (some ⟨w.heap.size, 0, none⟩) n n)) (w.alloc (.cells (ints ms.flatten).toArray 45))) : o.wp Tryz.prog a w K Q := by
 have hrun := run_build_msgs ms hm n hn hs w
 unfold Oper.wp execOp
 simp only [ho]
 rw [show parts.map (fun x => match x with | (i, x) => (i, a.eval x)) = (partsM ms 0).toArray from by rw [← hp, ← Array.toList_map, Array.toArray_toList]]
 simp only [Sem.run_bind, hrun, Result.andThen_ok, Sem.run_pure]
 exact h
theorem wpList_build_msgs {ops : Array Oper} {rest : List Oper} {o : Oper} {a : Act} {w : World} {Q : Exit → Act → World → Prop} (hg : o.guard = none) (n : Nat) (parts : Array (Nat × Operand)) (ho : o.op = .buildSlice 35 n parts) (ms : List (List Int)) (hm : ∀ m ∈ ms, m.length = 28) (hn : ms.length = n) (hs : n ≤ 1000)
   (hp : parts.toList.map (fun x => (x.1, a.eval x.2)) = partsM ms 0) (h : wpList Tryz.prog ops Q rest (a.put o.dst (.slice (some ⟨w.heap.size, 0, none⟩) n n)) (w.alloc (.cells (ints ms.flatten).toArray 45))) : wpList Tryz.prog ops Q (o :: rest) a w :=
 wpList_plain hg fun _ hK => wp_build_msgs n parts ho ms hm hn hs hp (hK _ _ h)
end Go.Proofs.YtadnlannbafjpaaGreat
