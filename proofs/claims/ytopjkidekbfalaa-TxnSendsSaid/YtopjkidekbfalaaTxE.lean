/- Numbers with one more, and without others. -/
import Derived.Test.YtopjkidekbfalaaTxD
import Derived.Test.YtopjkidekbfalaaMapV
import Derived.Lib.SliceRun
namespace Go.Proofs.Ytopjkidekbfalaa
open Go.RowKit Go.Shelf Go.Lib Go.Sort
set_option linter.unusedVariables false
set_option linter.unusedSimpArgs false

theorem cont_b {B : Nat} {v : Value} {l : List Int} (x : Int) (w : World) (h : NumR w B v l) (hn : l.length ≤ 1000) (r : Bool) (hr : l.contains x = r) :
    Calls Try.prog 38 #[v, .int .i64 x] w fun e w' => e = .returned (.bool r) ∧ w = w' := by rw [← hr]; exact cont_own x w h hn
set_option maxRecDepth 100000 in
set_option maxHeartbeats 4000000 in
theorem with_any {B : Nat} {v : Value} {l : List Int} (n : Int) (w : World) (h : NumR w B v l) (hl : Ris l) (hB : B ≤ w.heap.size) (hn : l.length ≤ 900) :
    Calls Try.prog 34 #[v, .int .i64 n] w fun e w' => ∃ v', e = .returned v' ∧ NumR w' B v' (ins n l) ∧ Turn (fun k => v.ownBlock = some k) w w' ∧ (v'.ownBlock = v.ownBlock ∨ ∀ k, v'.ownBlock = some k → w.heap.size ≤ k) := by
  have H := Lib.hid h
  have HL := Lib.hid hl
  have HN := Lib.hid hn
  have HB := Lib.hid hB
  obtain ⟨A, c, rfl⟩ := own_len h
  by_cases hc : l.contains n = true
  · have HE := Lib.hid (ins_same hl (by simpa using hc))
    have HC := Lib.hid hc
    clear h hl hn hB hc
    go_enter Try.func34, Try.ntmps34
    go_wp2_with (go_at_call 38; refine (cont_b n _ H.out (by have := HN.out; omega) true HC.out).mono ?_; rintro e w' ⟨rfl, rfl⟩)
    go_ret
    exact ⟨_, rfl, by rw [HE.out]; exact H.out, Turn.refl _ _, .inl rfl⟩
  · have HE := Lib.hid (srt_ins hl (n := n) (by simpa using hc))
    have HC := Lib.hid (show l.contains n = false from by simpa using hc)
    clear h hl hn hB hc
    go_enter Try.func34, Try.ntmps34
    go_upto_region 4 with (first
      | (go_at_call 38; refine (cont_b n _ H.out (by have := HN.out; omega) false HC.out).mono ?_; rintro e w' ⟨rfl, rfl⟩)
      | (at_builtin; refine wpList_app_new _ rfl (.tmp 9) (.tmp 11) _ rfl Try.underlying27 B _ l.length l rfl (World.ownsRow.alloc H.out _) [n] 1 1 w _ rfl w.heap.size rfl rfl rfl (by have := HN.out; omega) (by have := HB.out; simp only [World.alloc, Array.size_push]; omega) ?_; intro v9 w9 hown9 hg9 hv9; have O9 := Lib.hid hown9; have G9 := Lib.hid hg9; have V9 := Lib.hid hv9; clear hown9 hg9 hv9))
    have T9 := Lib.hid (show Turn (fun k => (Value.slice A l.length c).ownBlock = some k) w w9 from ((Turn.refl _ w).alloc _).grown G9.out fun k hk _ => hk)
    have Q9 := Lib.hid (show v9.ownBlock = (Value.slice A l.length c).ownBlock ∨ ∀ k, v9.ownBlock = some k → w.heap.size ≤ k from by
      rcases V9.out with e | e
      · exact .inl e
      · exact .inr fun k hk => by rw [e] at hk; cases hk; simp)
    have O9 := Lib.hid (show w9.ownsRow B 3 1 v9 (l.length + 1) (i64s (l ++ [n])) from O9.out)
    obtain ⟨A9, c9, rfl⟩ := own_len O9.out
    go_wp2_with (go_at_call 45; refine (sort_own _ O9.out (by have := HN.out; omega)).mono ?_; rintro e w10 ⟨rfl, ho, ht⟩; have O10 := Lib.hid ho; have T10 := Lib.hid ht; clear ho ht)
    go_ret
    refine ⟨_, rfl, ?_, ?_, Q9.out⟩
    · have h := O10.out
      rw [HE.out] at h
      have hi := h.1
      rw [i64s_length] at hi
      have e : (ins n l).length = l.length + 1 := by omega
      show w10.ownsRow B 3 1 (.slice A9 (l.length + 1) c9) (ins n l).length _
      rw [e]
      exact h
    · refine ⟨T10.out.os.trans T9.out.os, T10.out.tape.trans T9.out.tape, T10.out.output.trans T9.out.output, Nat.le_trans T9.out.size T10.out.size, fun k hk hn => ?_⟩
      refine (T10.out.block k (Nat.lt_of_lt_of_le hk T9.out.size) ?_).trans (T9.out.block k hk hn)
      intro e
      rcases Q9.out with q | q
      · exact hn (q ▸ e)
      · have := q k e; omega

/-! ### the ones that aren't among others -/
def amongF (o : List Int) : Int → Option Value := fun k => if o.contains k then some (.bool true) else none
def clp (x : Int) : Int := if 0 ≤ x ∧ x ≤ 64 then x else 0
def clE (x : Int) : Value := .int .i64 (clp x)
theorem clp_wf (x : Int) : (Lit.int .i64 (clp x)).wf = true := by
  unfold clp; split
  · simp [Lit.wf, IntKind.min, IntKind.max, IntKind.signed, IntKind.bits]; omega
  · rfl
theorem clp_in {x : Int} (h : 1 ≤ x ∧ x ≤ 64) : clp x = x := if_pos (by omega)
theorem map_clE {l : List Int} (h : ∀ n ∈ l, 1 ≤ n ∧ n ≤ 64) : l.map clE = i64s l := List.map_congr_left fun n hn => by unfold clE; rw [clp_in (h n hn)]
theorem zBool (W : World) : (zeroValue 4).run Try.prog W = .ok (.bool false) W := Try.zeroValue4 W
set_option maxRecDepth 100000 in
set_option maxHeartbeats 4000000 in
theorem among_any {o : List Int} {p b n : Nat} (x : Int) (hx : (Lit.int .i64 x).wf = true) (w : World) (hp : w.cell? ⟨p, 0, none⟩ = some (.map (some b))) (hm : MapV w b n (amongF o)) :
    Calls Try.prog 41 #[.int .i64 x, .pointer (some ⟨p, 0, none⟩)] w fun e w' => e = .returned (.bool (o.contains x)) ∧ ∃ q, w' = w.drewN q := by
  have HM := Lib.hid hm
  have HX := Lib.hid hx
  obtain ⟨r, hr⟩ : ∃ r, r = o.contains x := ⟨_, rfl⟩
  have HV := Lib.hid (show (amongF o x).getD (.bool false) = .bool r from by unfold amongF; rw [← hr]; cases r <;> rfl)
  rw [← hr]
  clear hm hx hr
  go_enter Try.func41, Try.ntmps41
  go_wp2_with (at_lookup; refine wpList_lookV _ rfl _ _ 80 rfl 4 Try.underlying80 _ (zBool _) rfl HM.out x rfl HX.out _ HV.out ?_)
  go_ret
  exact ⟨rfl, 0, rfl⟩

theorem turn_put {enc : Int → Value} {g q : Nat} (w : World) (d : Array Int) : Turn (fun k => k = g) w (putRow enc (Sort.ahead w q) g 0 d) :=
  ⟨rfl, rfl, rfl, by simp [putRow, mapBlock, Sort.ahead], fun k hk hn => by simp [putRow, mapBlock, Sort.ahead, Array.getElem?_modify, show g ≠ k from fun e => hn e.symm]⟩
theorem sortWorld_block {enc : Int → Value} {w : World} {g m k : Nat} {dk : Array Int} {os : Array Obj} (hk : k < w.heap.size) (hn : k ≠ g) : (sortWorld enc w g 0 m dk os).heap[k]? = w.heap[k]? := by
  unfold sortWorld
  rw [heap_grow_old _ _ (by show k < (putRow _ _ _ _ _).heap.size; simp [putRow, mapBlock, Sort.ahead]; exact hk)]
  exact (turn_put (enc := enc) (q := m) w dk).block k hk hn
set_option maxRecDepth 100000 in
set_option maxHeartbeats 4000000 in
theorem idx_nil (f : Value) (c : Nat) (w : World) : Calls Try.prog 48 #[.slice none 0 c, f] w fun e w' => e = .returned (.int .i64 (-1)) ∧ w = w' := by
  go_enter Try.func48, Try.ntmps48
  go_wp2_with fail
  refine wp_loop_rounds 1 ?_
  rw [rounds_succ]
  go_wp2_with fail
  go_ret
  exact ⟨rfl, rfl⟩
set_option maxRecDepth 100000 in
set_option maxHeartbeats 4000000 in
theorem del_nil (f : Value) (c : Nat) (w : World) : Calls Try.prog 39 #[.slice none 0 c, f] w fun e w' => e = .returned (.slice none 0 c) ∧ w = w' := by
  go_enter Try.func39, Try.ntmps39
  go_wp2_with (go_at_call 48; refine (idx_nil _ _ _).mono ?_; rintro e w' ⟨rfl, rfl⟩)
  go_ret
  exact ⟨rfl, rfl⟩
set_option maxHeartbeats 4000000 in
theorem del_own {B p b n : Nat} {v : Value} {l o : List Int} (w : World) (h : NumR w B v l) (hl : ∀ n ∈ l, 1 ≤ n ∧ n ≤ 64) (hn : l.length ≤ 1000) (hpB : p < B) (hbB : b < B) (hB : B ≤ w.heap.size) (hp : w.cell? ⟨p, 0, none⟩ = some (.map (some b))) (hm : MapV w b n (amongF o)) :
    Calls Try.prog 39 #[v, .func (.func 41) #[] #[.pointer (some ⟨p, 0, none⟩)]] w fun e w' => ∃ v', e = .returned v' ∧ NumR w' B v' (withoutL l o) ∧ Turn (fun k => v.ownBlock = some k) w w' := by
  rcases h.2 with ⟨rfl, h0⟩ | ⟨g, cap, cur, rfl, hb, hh, hnc, h2⟩
  · have hl : l = [] := List.eq_nil_of_length_eq_zero h0
    subst hl
    exact (del_nil _ 0 w).mono fun e w' ⟨h1, h2⟩ => ⟨_, h1, World.ownsRow_nil _ _ _ _, by subst h2; exact Turn.refl _ _⟩
  · have eg : ∀ args w, (callFunc 41 args).run Try.prog w = .ok (.enter 41 args) w := enters_of Try.func41 (by kernel_rfl) rfl
    have hpl : p < w.heap.size := by omega
    have hpg : p ≠ g := by omega
    have hH : Holds clE w g 0 l.toArray := fun j hj => by
      have hj' : j < l.length := by simpa using hj
      refine ⟨?_, by simp [World.frozen?, hh]⟩
      rw [Nat.zero_add, own_gd h hj']
      have e : l.toArray[j]! = l[j] := by rw [getElem!_pos l.toArray j hj]; simp
      rw [e, gd_get hj']
      unfold clE; rw [clp_in (hl _ (List.getElem_mem hj'))]
    have hcon := AnyE.slices_DeleteFunc Try.laysDelF clE (fun _ => rfl) (fun x => o.contains (clp x)) 41 #[.pointer (some ⟨p, 0, none⟩)] eg 0 (fun W => Try.zeroValue3 W) g 0 cap l.toArray w
      (fun W x hW => among_any (clp x) (clp_wf x) W ((hW.cell (p := ⟨p, 0, none⟩) hpl).trans hp) (hm.here hW))
      (fun m os dk x _ => among_any (clp x) (clp_wf x) _ ((World.cell?_of_block (sortWorld_block hpl hpg)).trans hp) (hm.of_block (sortWorld_block hm.lt (by omega)))) hH (by simp; omega) (by simpa using hnc)
    change Calls Try.prog 39 _ _ _ at hcon
    have hf : (l.toArray.toList.filter fun x => !o.contains (clp x)) = withoutL l o := by
      unfold withoutL
      rw [List.toList_toArray]
      exact List.filter_congr fun x hx => by rw [clp_in (hl x hx)]
    rw [hf] at hcon
    rw [show l.toArray.size = l.length from by simp] at hcon
    refine hcon.mono fun e w' ⟨he, q, hw⟩ => ⟨_, he, ?_, ?_⟩
    · subst hw
      have hle : (withoutL l o).length ≤ l.length := List.length_filter_le _ _
      have hz : w.ownsRow B 3 1 (.slice (some ⟨g, 0, none⟩) l.length cap) l.length (l.map clE) := by rw [map_clE hl]; exact h
      have := Lib.ownsRow_putRow (q := q) (k := (withoutL l o).length) (ys := withoutL l o ++ List.replicate (l.length - (withoutL l o).length) 0) hz (by simp; omega) hle
      rw [List.take_left, map_clE (fun n hn => hl n (without_mem.1 hn).1)] at this
      simpa using this
    · subst hw
      refine (turn_put w _).mono fun k _ hk => by subst hk; rfl
end Go.Proofs.Ytopjkidekbfalaa
