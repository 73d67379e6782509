/- The contract of walk. -/
import Derived.Test.YtiapnaecdefonaaGraC
import Derived.WalkMore
import Derived.Deep.LoopGhost
namespace Go.Proofs.Ytiapnaecdefonaa
open Go.RowKit
set_option linter.unusedVariables false
set_option linter.unusedSimpArgs false

/-- Block b is a map to true: S says of which. -/
def SeenM (w : World) (b n : Nat) (S : Int → Prop) : Prop := ∃ g, MapV w b n g ∧ ∀ k, (S k ∧ g k = some (.bool true)) ∨ (¬ S k ∧ g k = none)
theorem SeenM.here {w w' : World} {b n : Nat} {S : Int → Prop} (h : SeenM w b n S) (hk : w'.heap[b]? = w.heap[b]?) : SeenM w' b n S := by obtain ⟨g, h1, h2⟩ := h; exact ⟨g, h1.of_block hk, h2⟩
theorem SeenM.lt {w : World} {b n : Nat} {S : Int → Prop} (h : SeenM w b n S) : b < w.heap.size := by obtain ⟨g, h1, h2⟩ := h; exact h1.lt
theorem SeenM.to {w : World} {b n : Nat} {S T : Int → Prop} (h : SeenM w b n S) (e : ∀ k, S k ↔ T k) : SeenM w b n T := by
  obtain ⟨g, h1, h2⟩ := h
  exact ⟨g, h1, fun k => by rw [← e k]; exact h2 k⟩
theorem SeenM.more {w : World} {b n n' : Nat} {S : Int → Prop} (h : SeenM w b n S) (hn : n ≤ n') : SeenM w b n' S := by obtain ⟨g, h1, h2⟩ := h; exact ⟨g, h1.more hn, h2⟩

/-- The cells of a walk's way. -/
def pcs (ws : List (Int × Value)) : List Value := (ws.map fun p => [.int .i64 p.1, p.2]).flatten
theorem pcs_snoc (ws : List (Int × Value)) (n : Int) (v : Value) : pcs (ws ++ [(n, v)]) = pcs ws ++ [.int .i64 n, v] := by simp [pcs]
theorem pcs_length (ws : List (Int × Value)) : (pcs ws).length = ws.length * 2 := by
  unfold pcs
  induction ws with
  | nil => rfl
  | cons p ws ih => simp at ih ⊢; omega
theorem pcs_last0 (ws : List (Int × Value)) (n : Int) (v : Value) : (pcs (ws ++ [(n, v)]))[ws.length * 2]? = some (.int .i64 n) := by
  rw [pcs_snoc, List.getElem?_append_right (by rw [pcs_length]; omega), pcs_length]; simp
theorem pcs_last1 (ws : List (Int × Value)) (n : Int) (v : Value) : (pcs (ws ++ [(n, v)]))[ws.length * 2 + 1]? = some v := by
  rw [pcs_snoc, List.getElem?_append_right (by rw [pcs_length]; omega), pcs_length]; simp
theorem pcs_set (ws : List (Int × Value)) (n : Int) (v v' : Value) : (pcs (ws ++ [(n, v)])).set (ws.length * 2 + 1) v' = pcs (ws ++ [(n, v')]) := by
  rw [pcs_snoc, pcs_snoc, List.set_append_right _ _ (by rw [pcs_length]; omega), pcs_length]
  rw [show ws.length * 2 + 1 - ws.length * 2 = 1 by omega]; rfl
theorem pcs_take (ws : List (Int × Value)) (n : Int) (v : Value) : (pcs (ws ++ [(n, v)])).take (ws.length * 2) = pcs ws := by
  rw [pcs_snoc, List.take_left' (pcs_length ws)]
/-- A slice's rest. -/
def RestM (w : World) (B : Nat) (v : Value) (r : List Int) : Prop := ∃ A c, v = .slice A r.length c ∧ r.length ≤ c ∧ Reads w B 1 A r.length (i64s r)
inductive WayR (w : World) (B : Nat) : List (Int × Value) → List (Int × List Int) → Prop
  | nil : WayR w B [] []
  | snoc {ws : List (Int × Value)} {W : List (Int × List Int)} {n : Int} {v : Value} {r : List Int} : WayR w B ws W → RestM w B v r → WayR w B (ws ++ [(n, v)]) ((n, r) :: W)
theorem WayR.len {w : World} {B : Nat} {ws : List (Int × Value)} {W : List (Int × List Int)} (h : WayR w B ws W) : ws.length = W.length := by
  induction h with
  | nil => rfl
  | snoc _ _ ih => simp [ih]
theorem WayR.top {w : World} {B : Nat} {ws : List (Int × Value)} {W : List (Int × List Int)} {n : Int} {r : List Int} (h : WayR w B ws ((n, r) :: W)) : ∃ ws' v, ws = ws' ++ [(n, v)] ∧ WayR w B ws' W ∧ RestM w B v r := by
  cases h with
  | snoc h1 h2 => exact ⟨_, _, rfl, h1, h2⟩
theorem own_cell {w : World} {B r n m c size : Nat} {t : TypeId} {xs : List Value} (h : w.ownsRow B t size (.slice (some ⟨r, 0, none⟩) n c) m xs) {k : Nat} {u : Value} (hk : xs[k]? = some u) : w.cell? ⟨r, k, none⟩ = some u := by
  have := h.cells (g := r) rfl k _ hk
  rwa [show (⟨r, 0, none⟩ : Addr).add k = ⟨r, k, none⟩ by unfold Addr.add; split <;> simp_all] at this
theorem own_setV {w : World} {B r n m c size : Nat} {t : TypeId} {xs : List Value} (h : w.ownsRow B t size (.slice (some ⟨r, 0, none⟩) n c) m xs) (k : Nat) (u : Value) :
    (w.setCell ⟨r, k, none⟩ u).ownsRow B t size (.slice (some ⟨r, 0, none⟩) n c) m (xs.set k u) := by
  obtain ⟨h0, h1 | ⟨g, cap, cur, hv, hb, hh, hnc, hcm, hcs, ht⟩⟩ := h
  · obtain ⟨h1, _⟩ := h1; cases h1
  · injection hv with e1 e2 e3
    injection e1 with e1
    injection e1 with e1 _ _
    subst e1 e3
    refine ⟨by rw [List.length_set]; exact h0, .inr ⟨r, c, cur.setIfInBounds k u, by rw [e2], hb, Blk.set_ (g := r) (t := t) (cs := cur) hh k _, hnc, hcm, by simpa using hcs, ?_⟩⟩
    rw [Array.toList_setIfInBounds, List.take_set, ht]
theorem own_takeV {w : World} {B r n m c size : Nat} {t : TypeId} {xs : List Value} (h : w.ownsRow B t size (.slice (some ⟨r, 0, none⟩) n c) n xs) (hm : m ≤ n) : w.ownsRow B t size (.slice (some ⟨r, 0, none⟩) m c) m (xs.take (m * size)) := by
  obtain ⟨h0, h1 | ⟨g, cap, cur, hv, hb, hh, hnc, hcm, hcs, ht⟩⟩ := h
  · obtain ⟨h1, _⟩ := h1; cases h1
  · injection hv with e1 e2 e3
    injection e1 with e1
    injection e1 with e1 _ _
    subst e1 e3
    have hmul : m * size ≤ n * size := Nat.mul_le_mul_right _ hm
    refine ⟨by rw [List.length_take]; omega, .inr ⟨r, c, cur, rfl, hb, hh, by omega, hcm, hcs, ?_⟩⟩
    rw [← ht, List.take_take]
    congr 1; omega
theorem info_place : (Try.prog.info? 84).map (fun i => (i.zero, i.size, i.bytes)) = some (some (.agg #[.int .i64 0, nilS]), 2, 32) := by kernel_rfl
theorem reads_newV (V : World) (t : TypeId) (xs : List Value) {size : Nat} (hl : xs.length = size) {g : Nat} (hg : g = V.heap.size) : Reads (V.alloc (.cells xs.toArray t)) (g + 1) size (some ⟨g, 0, none⟩) 1 xs := by
  subst hg
  exact ⟨by omega, fun _ => ⟨_, rfl, by simp, fun j u hu => by
    have h1 := (Blk.new V t xs.toArray).cell j
    have h2 : (⟨V.heap.size, 0, none⟩ : Addr).add j = ⟨V.heap.size, j, none⟩ := by unfold Addr.add; split <;> simp_all
    rw [h2, h1]; simpa using hu⟩⟩
theorem own_newV (V : World) (t : TypeId) (xs : List Value) {base size g : Nat} (hg : g = V.heap.size) (hb : base ≤ g) (hl : xs.length = size) : (V.alloc (.cells xs.toArray t)).ownsRow base t size (.slice (some ⟨g, 0, none⟩) 1 1) 1 xs := by
  subst hg
  exact ⟨by omega, .inr ⟨_, _, xs.toArray, rfl, hb, Blk.new V t _, Nat.le_refl _, by simp only [maxLen]; omega, by simp; omega, by rw [List.take_of_length_le (by simp; omega)]⟩⟩
theorem rest_drop {w : World} {B b0 off0 cA k n' c' : Nat} {r : List Int} {A' : Option Addr} (h : Reads w B 1 (some ⟨b0, off0, none⟩) r.length (i64s r)) (hk : k + 1 ≤ r.length) (hc : r.length ≤ cA) (hA : k + 1 < r.length → A' = some ⟨b0, off0 + (k + 1), none⟩) (hn : n' = r.length - (k + 1)) (hc' : c' = cA - (k + 1)) :
    RestM w B (.slice A' n' c') (r.drop (k + 1)) := by
  subst hn hc'
  have hl : (r.drop (k + 1)).length = r.length - (k + 1) := List.length_drop
  refine ⟨A', cA - (k + 1), by rw [hl], by rw [hl]; omega, ?_⟩
  refine ⟨by rw [i64s_length]; omega, fun h0 => ?_⟩
  rw [hl] at h0
  obtain ⟨ad, e, hb, hcell⟩ := h.2 (by omega)
  injection e with e
  subst e
  refine ⟨_, hA (by omega), hb, fun j u hu => ?_⟩
  have h1 : (i64s r)[(k + 1) + j]? = some u := by
    rw [← hu]
    unfold i64s
    rw [List.getElem?_map, List.getElem?_map, List.getElem?_drop]
  have h2 := hcell _ u h1
  have e2 : (⟨b0, off0 + (k + 1), none⟩ : Addr).add j = (⟨b0, off0, none⟩ : Addr).add (k + 1 + j) := by
    unfold Addr.add
    split <;> split <;> simp_all <;> omega
  rw [e2]; exact h2
theorem WInv.inU {F : Int → List Int} {S : Int → Prop} {fr : Int} {s : Ws} {U : List Int} (h : WInv F S fr s) (hU : ∀ x y, y ∈ F x → y ∈ U) (hf : fr ∈ U) : ∀ x ∈ s.left ++ s.way.map (·.1), x ∈ U := fun x hx => by
  have h1 := h.rt x hx
  cases h1 with
  | refl => exact hf
  | tail _ h2 => exact hU _ _ h2
theorem WInv.count {F : Int → List Int} {S : Int → Prop} {fr : Int} {s : Ws} {U : List Int} (h : WInv F S fr s) (hU : ∀ x y, y ∈ F x → y ∈ U) (hf : fr ∈ U) : s.left.length + s.way.length ≤ U.length := by
  have := nodup_len h.nodup (h.inU hU hf)
  simpa using this
section
variable {w : World} {B b sb m : Nat} {F : Int → List Int} {U : List Int} {fr : Int} {S : Int → Prop}
set_option maxRecDepth 100000 in
set_option maxHeartbeats 2000000 in
theorem walk_none (w : World) (h : NextM w B b F) (hs : SeenM w sb m S) (hfr : (Lit.int .i64 fr).wf = true) (hS : S fr) :
    Calls Try.prog 40 #[.map (some b), .int .i64 fr, .map (some sb)] w fun e w' => e = .returned nilS ∧ w = w' := by
  obtain ⟨g, hg1, hg2⟩ := hs
  have hv : (g fr).getD (.bool false) = .bool true := by
    rcases hg2 fr with ⟨_, e⟩ | ⟨e, _⟩
    · rw [e]; rfl
    · exact absurd hS e
  have HV := Lib.hid hv
  have HG := Lib.hid hg1
  have WF := Lib.hid hfr
  clear hg2 hv hg1 hfr h
  go_enter Try.func40, Try.ntmps40
  go_wp2_with fail
  go_step3
  go_wp2_with (at_lookup; refine wpList_lookV _ rfl _ _ 73 rfl 4 Try.underlying73 _ (zeroBool _) rfl HG.out fr rfl WF.out _ HV.out ?_)
  rw [Exit.noGoto_ret]
  go_ret
  exact ⟨rfl, rfl⟩
set_option maxRecDepth 100000 in
set_option maxHeartbeats 8000000 in
theorem walk_some (w : World) (h : NextM w B b F) (hB : B ≤ sb) (hs : SeenM w sb m S) (hm : m ≤ 1000000) (hF : Fin F U) (hfr : (Lit.int .i64 fr).wf = true) (hfU : fr ∈ U) (hS : ¬ S fr) :
    Calls Try.prog 40 #[.map (some b), .int .i64 fr, .map (some sb)] w fun e w' => ∃ v left, e = .returned v ∧ WOut F S fr left ∧ left.length ≤ 1000 ∧ SeenM w' sb (m + 1000) (fun x => S x ∨ x ∈ left) ∧ w'.ownsRow w.heap.size 3 1 v left.length (i64s left) ∧ Turn (fun k => k = sb) w w' := by
  have HH := Lib.hid h
  have HF := Lib.hid hF
  have WF := Lib.hid hfr
  have WU := Lib.hid hfU
  have HBB := Lib.hid hB
  have HNS := Lib.hid hS
  have hsl := hs.lt
  obtain ⟨g0, hg1, hg2⟩ := hs
  have hv : (g0 fr).getD (.bool false) = .bool false := by
    rcases hg2 fr with ⟨e, _⟩ | ⟨_, e⟩
    · exact absurd e hS
    · rw [e]; rfl
  obtain ⟨A0, c0, hlk, hc0, hr0⟩ := h.look fr hfr
  have HV := Lib.hid hv
  have HG := Lib.hid hg1
  have HG2 := Lib.hid hg2
  have HR0 := Lib.hid hr0
  have HLK := Lib.hid (fun W (hb : Below B w W) => (h.below hb).look fr hfr)
  clear hg2 hv hg1 hfr h hF hfU hS hlk hr0
  go_enter Try.func40, Try.ntmps40
  go_wp2_with fail
  go_step3
  go_wp2_with (first
    | (at_lookup; refine wpList_lookV _ rfl _ _ 73 rfl 4 Try.underlying73 _ (zeroBool _) rfl HG.out fr rfl WF.out _ HV.out ?_)
    | (at_mapUpdate; refine wpList_putV _ rfl _ _ _ 73 rfl 4 Try.underlying73 rfl HG.out (by simp only [maxLen]; omega) fr rfl WF.out _ rfl ?_
       intro w5 hm5 hg5 hs5
       have M5 := Lib.hid hm5
       have T5 := Lib.hid (turn_grown hg5)
       have S5 := Lib.hid hs5
       obtain ⟨A1, c1, hlk1, hc1, hr1⟩ := HLK.out w5 (T5.out.below (fun k hk e => by have := HBB.out; omega) (by have := HBB.out; omega))
       have HR1 := Lib.hid hr1
       clear hm5 hg5 hs5 hr1))
  go_step3
  go_wp2_with fail
  have R1 := Lib.hid (own_newV w5 84 [.int .i64 fr, .slice A1 (F fr).length c1] (base := w.heap.size) (size := 2) rfl (by rw [S5.out]; exact Nat.le_refl _) rfl)
  have T6 := Lib.hid (T5.out.alloc (.cells #[.int .i64 fr, .slice A1 (F fr).length c1] 84))
  have M6 := Lib.hid (M5.out.alloc (.cells #[.int .i64 fr, .slice A1 (F fr).length c1] 84))
  go_loopg [7, 8] 2001 (fun gk s7 s8 wr => ∃ (s : Ws) (ws : List (Int × Value)), 2 * s.left.length + s.way.length + gk = 2002 ∧ WInv F S fr s ∧ (∀ p ∈ s.way, p.2.length ≤ 1000) ∧
      wr.ownsRow w.heap.size 3 1 s7 s.left.length (i64s s.left) ∧ wr.ownsRow w.heap.size 84 2 s8 s.way.length (pcs ws) ∧ WayR w B ws s.way ∧ SeenM wr sb (m + (s.left.length + s.way.length)) s.seen ∧ Turn (fun k => k = sb) w wr)
  case atStart =>
    have hBs := HBB.out
    refine ⟨⟨fun x => S x ∨ x = fr, [], [(fr, F fr)]⟩, ([] ++ [(fr, Value.slice A1 (F fr).length c1)] : List (Int × Value)), by simp, WInv.start HNS.out, fun p hp => ?_, World.ownsRow_nil _ _ _ _, by simpa [pcs] using R1.out, .snoc .nil ⟨A1, c1, rfl, hc1, ?_⟩, ?_, T6.out⟩
    · simp at hp; subst hp; exact HF.out.each fr
    · exact HR1.out.below ⟨T5.out.os.symm, T5.out.tape.symm, T5.out.output.symm, by rw [S5.out]; exact Nat.le_refl _, fun k hk => (T5.out.block k (by omega) (by omega)).symm⟩
    · refine SeenM.more (n := m + 1) ⟨_, M6.out, fun j => ?_⟩ (by simp)
      by_cases e : j = fr
      · left; exact ⟨.inr e, by rw [if_pos e]; rfl⟩
      · rw [if_neg e]
        rcases HG2.out j with ⟨h1, h2⟩ | ⟨h1, h2⟩
        · exact .inl ⟨.inl h1, h2⟩
        · exact .inr ⟨fun h => h.elim h1 e, h2⟩
  case round =>
    obtain ⟨s, ws, hcnt, hinv, hw9, hrow, hway, hwr, hseen, hturn⟩ := hrel
    rename World => W
    have hc9 := hinv.count HF.out.sub WU.out
    have hu9 := HF.out.len
    have HI := Lib.hid hinv
    have W9 := Lib.hid hw9
    have HL := Lib.hid hrow
    have HW := Lib.hid hway
    have HWR := Lib.hid hwr
    have HSE := Lib.hid hseen
    have HT := Lib.hid hturn
    clear hinv hw9 hrow hway hwr hseen hturn
    cases hw : s.way with
    | nil =>
      have hrowW := HW.out
      rw [hw] at hrowW
      obtain ⟨A8, c8, rfl, _⟩ := own_slice hrowW
      have OUT := Lib.hid (HI.out.done hw)
      have h8 : s.left.length ≤ 1000 := by omega
      have SE := Lib.hid (HSE.out.more (n' := m + 1000) (by omega))
      have SEEN := Lib.hid (fun k => by have := HI.out.seen k; rw [hw] at this; simpa using this : ∀ k, s.seen k ↔ S k ∨ k ∈ s.left)
      clear hw hrowW
      go_wp2_with fail
      try rw [Exit.noGoto_ret]
      go_ret
      exact ⟨_, s.left, rfl, OUT.out, h8, SE.out.to SEEN.out, HL.out, HT.out⟩
    | cons p W' =>
      obtain ⟨n, r⟩ := p
      obtain ⟨ws', v, rfl, hwr', A, cA, rfl, hcA, hrd⟩ := (show WayR w B ws ((n, r) :: W') from hw ▸ HWR.out).top
      have hL := hwr'.len
      have hrowW := HW.out
      rw [hw, List.length_cons] at hrowW
      obtain ⟨g, cap, rfl, _⟩ := hrowW.form (by omega)
      have kn : W.cell? ⟨g, W'.length * 2, none⟩ = some (.int .i64 n) := own_cell hrowW (by rw [← hL]; exact pcs_last0 _ _ _)
      have kv : W.cell? ⟨g, W'.length * 2 + 1, none⟩ = some (.slice A r.length cA) := own_cell hrowW (by rw [← hL]; exact pcs_last1 _ _ _)
      have kf : W.frozen? ⟨g, W'.length * 2 + 1, none⟩ = false := own_hot hrowW _
      have q1 : IntKind.i64.wrap ((W'.length : Int) + 1 - 1) = (W'.length : Int) := by rw [show (W'.length : Int) + 1 - 1 = W'.length by omega]; exact IntWalk.i64_in _ (by rw [hw] at hc9; simp at hc9; omega)
      have hL9 : W'.length < 1000 := by rw [hw] at hc9; simp at hc9; omega
      have HRW := Lib.hid hrowW
      have HWQ := Lib.hid hw
      have HRD := Lib.hid hrd
      have HWR' := Lib.hid hwr'
      have HLL := Lib.hid hL
      clear hw hrowW hrd hwr' hL
      have hcap : W'.length + 1 ≤ cap := by
        obtain ⟨_, h1 | ⟨g', cap', cur, hv, hb, hh, hnc, _⟩⟩ := HRW.out
        · obtain ⟨h1, _⟩ := h1; cases h1
        · injection hv with e1 e2 e3; omega
      obtain ⟨G, rfl⟩ : ∃ G, gk = G + 1 := ⟨gk - 1, by have := congrArg List.length HWQ.out; simp at this; omega⟩
      have GAP := Lib.hid (show u7.ownBlock ≠ some g from fun e => by
        obtain ⟨cur, hh, _⟩ := own_heap HL.out _ e
        obtain ⟨cur2, hh2, _⟩ := own_heap HRW.out g rfl
        rw [hh] at hh2
        injection hh2 with hh2
        injection hh2 with _ hh2
        exact absurd hh2 (by decide))
      obtain ⟨g1, hm1, hg1⟩ := HSE.out
      have M1 := Lib.hid hm1
      have G1 := Lib.hid hg1
      have HSZ := Lib.hid HT.out.size
      have hr9 : r.length ≤ 1000 := W9.out (n, r) (by rw [HWQ.out]; simp)
      have WL := Lib.hid (show 2 * s.left.length + (W'.length + 1) + (G + 1) = 2002 ∧ s.left.length + (W'.length + 1) ≤ 1000 from by rw [HWQ.out] at hcnt hc9; simp at hcnt hc9; omega)
      clear hm1 hg1 hcnt hc9
      go_wp2_with fail
      go_loopg [8, 36] r.length (fun gi s8 s36 wr => ∃ k : Nat, k + gi = r.length ∧ s8 = .slice (some ⟨g, 0, none⟩) (W'.length + 1) cap ∧ s36 = .int .i64 k ∧ (∀ y ∈ r.take k, s.seen y) ∧ W = wr)
      case atStart => exact ⟨0, by omega, rfl, rfl, by simp, rfl⟩
      case round =>
        obtain ⟨k, hkg, rfl, rfl, hsn, rfl⟩ := hrel
        have SN := Lib.hid hsn
        clear hsn
        cases gk with
        | zero =>
          obtain rfl : k = r.length := by omega
          have SN2 := Lib.hid (show ∀ y ∈ r, s.seen y from by have := SN.out; rwa [List.take_length] at this)
          have POP := Lib.hid (HI.out.pop HWQ.out SN2.out)
          have kn' := kn
          go_wp2_with (at_builtin
                       refine wpList_app_new _ rfl (.tmp 66) (.tmp 71) _ rfl Try.underlying25 w.heap.size _ s.left.length s.left rfl (HL.out.alloc _) [n] 1 1 _ _ rfl _ rfl rfl rfl (by have := WL.out; omega) (by have := HSZ.out; simp; omega) ?_
                       intro v9 w9 hown9 hg9 hv9
                       have O9 := Lib.hid hown9
                       have G9 := Lib.hid hg9
                       clear hown9 hg9 hv9)
          have hsb : u7.ownBlock ≠ some sb := fun e => (M1.out.ne_row HL.out) e
          go_roundg G
          case rel =>
            refine ⟨⟨s.seen, s.left ++ [n], W'⟩, ws', ?_, POP.out, fun p hp => W9.out p (by rw [HWQ.out]; simp [hp]), by rw [List.length_append]; exact O9.out, ?_, HWR'.out, ?_, ?_⟩
            · have := WL.out; simp; omega
            · have h1 := own_takeV HRW.out (Nat.le_succ W'.length)
              rw [← HLL.out, pcs_take, HLL.out] at h1
              exact own_turn h1 (((Turn.refl (fun k => u7.ownBlock = some k) _).alloc (.cells #[.int .i64 n] 3)).grown G9.out (fun k hk _ => hk)) fun k hk e => by
                have hk2 : k = g := by injection hk with hk; exact hk.symm
                rw [hk2] at e; exact GAP.out e
            · have h1 : SeenM _ sb (m + (s.left.length + s.way.length)) s.seen := HSE.out.here (w' := w9) ((G9.out.block sb (by have := HSE.out.lt; simp; omega) (fun e => hsb e.symm)).trans (Below.heap_alloc _ _ sb HSE.out.lt))
              refine h1.more ?_
              rw [HWQ.out]; simp; omega
            · exact (HT.out.alloc (.cells #[.int .i64 n] 3)).grown G9.out (fun k hk h0 => by have := ownBlock_ge HL.out k hk; omega)
          case measure => omega
        | succ gi =>
          have hk : k < r.length := by omega
          obtain ⟨b0, off0, rfl, hb0, hcell⟩ := int_cells HRD.out (by omega)
          have hx0 := hcell k hk
          rw [gd_get hk] at hx0
          have hgray := (HI.out.gray (n, r) (by rw [HWQ.out]; simp)).2
          have hxn : r[k] ∈ F n := hgray _ (List.getElem_mem hk)
          have hxw := HF.out.wf _ (HF.out.sub n _ hxn)
          have hBB := HBB.out
          have hx : W.cell? ⟨b0, off0 + k, none⟩ = some (.int .i64 r[k]) := (World.cell?_of_block (HT.out.block b0 (by omega) (by omega))).trans hx0
          have hsplit : r = r.take k ++ r[k] :: r.drop (k + 1) := by rw [List.getElem_cons_drop, List.take_append_drop]
          have hts := List.take_add_one (l := r) (i := k)
          rw [List.getElem?_eq_getElem hk] at hts
          have TS := Lib.hid hts
          have SP := Lib.hid hsplit
          have XW := Lib.hid hxw
          have HX := Lib.hid hx
          clear hgray hxn hxw hx hx0 hcell hsplit hts
          generalize r[k] = x at TS SP XW HX
          have kx := HX.out
          by_cases hsx : s.seen x
          · have hv : (g1 x).getD (.bool false) = .bool true := by
              rcases G1.out x with ⟨_, e⟩ | ⟨e, _⟩
              · rw [e]; rfl
              · exact absurd hsx e
            have HV1 := Lib.hid hv
            have SX := Lib.hid hsx
            clear hv hsx
            go_wp2_with (at_lookup; refine wpList_lookV _ rfl _ _ 73 rfl 4 Try.underlying73 _ (zeroBool _) rfl M1.out x rfl XW.out _ HV1.out ?_)
            go_roundg gi
            case rel =>
              refine ⟨k + 1, by omega, rfl, by go_num, fun y hy => ?_, rfl⟩
              rw [TS.out] at hy
              rcases List.mem_append.1 hy with hy | hy
              · exact SN.out y hy
              · simp at hy; rw [hy]; exact SX.out
            case measure => omega
          · have hv : (g1 x).getD (.bool false) = .bool false := by
              rcases G1.out x with ⟨e, _⟩ | ⟨_, e⟩
              · exact absurd e hsx
              · rw [e]; rfl
            have HV1 := Lib.hid hv
            have PUSH := Lib.hid (HI.out.push HWQ.out SP.out SN.out hsx)
            have NX := Lib.hid hsx
            clear hv hsx
            have hmm9 : m + (s.left.length + s.way.length) < 2000000 := by have := WL.out; rw [HWQ.out]; simp; omega
            have TOK := Lib.hid True.intro
            obtain ⟨i0, hi0, hz0, hz1, hz2⟩ := info_parts info_place
            have ONE := Lib.hid (show ∀ (A : Option Addr) (n c : Nat), ∀ u ∈ [Value.int .i64 x, .slice A n c], u.oneCell' = true from fun A n c u hu => by simp at hu; rcases hu with rfl | rfl <;> rfl)
            go_wp2_with (first
              | (at_lookup; have _t := TOK; refine wpList_lookV _ rfl _ _ 73 rfl 4 Try.underlying73 _ (zeroBool _) rfl M1.out x rfl XW.out _ HV1.out ?_; clear TOK)
              | (at_mapUpdate; refine wpList_putV _ rfl _ _ _ 73 rfl 4 Try.underlying73 rfl M1.out (by simp only [maxLen]; omega) x rfl XW.out _ rfl ?_
                 intro wa hma hga hsa
                 have MA := Lib.hid hma
                 have TA := Lib.hid (turn_grown hga)
                 have SA := Lib.hid hsa
                 have hgsb : sb ≠ g := fun e => M1.out.ne_row HRW.out (show some g = some sb by rw [e])
                 have ROWA := Lib.hid (own_turn HRW.out TA.out (fun k hk e => hgsb (by have h2 : some g = some k := hk; injection h2 with h2; omega)))
                 have LEFTA := Lib.hid (own_turn HL.out TA.out (fun k hk e => M1.out.ne_row HL.out (by rw [← e]; exact hk)))
                 have kva : wa.cell? ⟨g, W'.length * 2 + 1, none⟩ = some (.slice (some ⟨b0, off0, none⟩) r.length cA) := own_cell ROWA.out (by rw [← HLL.out]; exact pcs_last1 _ _ _)
                 have kfa : wa.frozen? ⟨g, W'.length * 2 + 1, none⟩ = false := own_hot ROWA.out _
                 have BWF := Lib.hid (show ∀ u, Below B w (wa.setCell ⟨g, W'.length * 2 + 1, none⟩ u) from fun u => by
                   have t1 := (HT.out.trans TA.out (fun _ _ h => h)).mono (S' := fun k => B ≤ k) (fun k _ hk => by omega)
                   have t2 := t1.setCell (p := ⟨g, W'.length * 2 + 1, none⟩) (fun hg => by have := (own_heap HRW.out g rfl).choose_spec.2; show B ≤ g; omega) u
                   exact t2.below (fun k hk => by omega) (by omega))
                 have ROWB := Lib.hid (fun u => own_setV ROWA.out (W'.length * 2 + 1) u)
                 clear hma hga hsa)
              | (at_lookup; refine wpList_lookN _ rfl _ _ rfl rfl HH.out (BWF.out _) x rfl XW.out ?_
                 intro A2 c2 hc2 hr2
                 have HR2 := Lib.hid hr2
                 clear hr2)
              | (at_builtin
                 refine wpList_append_any _ rfl (.tmp 57) (.tmp 63) _ rfl w.heap.size 84 i0 _ 2 32 Try.underlying85 hi0 hz0 hz1 hz2 rfl (by omega) _ (W'.length + 1) _ rfl ((ROWB.out _).alloc _) _ _ 1 1 [.int .i64 x, .slice A2 (F x).length c2] rfl (reads_newV _ _ _ rfl (by simp)) (ONE.out _ _ _) (by simp only [maxLen]; omega) (by omega) (by have := HSZ.out; have := SA.out; simp; omega) ?_
                 intro v9 w9 hown9 hg9 hv9
                 have O9 := Lib.hid hown9
                 have G9 := Lib.hid hg9
                 clear hown9 hg9 hv9))
            all_goals
              have hgge : w.heap.size ≤ g := (own_heap HRW.out g rfl).choose_spec.2
              have TG : Turn (fun k => k = g) wa w9 := (((Turn.refl (fun k => k = g) wa).setCell (p := ⟨g, W'.length * 2 + 1, none⟩) (fun _ => rfl) _).alloc _).grown G9.out (fun k hk _ => by have h2 : some g = some k := hk; injection h2 with h2; exact h2.symm)
              have TT : Turn (fun k => k = sb ∨ k = g) W w9 := (TA.out.mono (fun _ _ h => .inl h)).trans TG (fun _ _ h => .inr h)
              have O10 := O9.out
              rw [← HLL.out, pcs_set, ← pcs_snoc, HLL.out] at O10
              have hgsb : sb ≠ g := fun e => M1.out.ne_row HRW.out (show some g = some sb by rw [e])
              go_roundg G
              case rel =>
                refine ⟨⟨fun y => s.seen y ∨ y = x, s.left, (x, F x) :: (n, r.drop (k + 1)) :: W'⟩, _, ?_, PUSH.out, ?_, own_turn HL.out TT ?_, O10, .snoc (.snoc HWR'.out (rest_drop HRD.out (by omega) hcA (by first | (intro _; rfl) | (intro h; rw [if_neg (by omega)]) | (intro h; omega)) (by first | rfl | omega) (by first | rfl | omega))) ⟨A2, c2, rfl, hc2, HR2.out⟩, ?_, HT.out.trans TT ?_⟩
                · have := WL.out; simp; omega
                · intro p hp
                  rcases List.mem_cons.1 hp with rfl | hp
                  · exact HF.out.each x
                  · rcases List.mem_cons.1 hp with rfl | hp
                    · show (r.drop (k + 1)).length ≤ 1000
                      rw [List.length_drop]; omega
                    · exact W9.out p (by rw [HWQ.out]; simp [hp])
                · intro k hk e
                  rcases e with e | e
                  · exact M1.out.ne_row HL.out (by rw [← e]; exact hk)
                  · exact GAP.out (by rw [← e]; exact hk)
                · have h1 : SeenM wa sb (m + (s.left.length + s.way.length) + 1) (fun y => s.seen y ∨ y = x) := ⟨_, MA.out, fun j => by
                    by_cases e : j = x
                    · left; exact ⟨.inr e, by rw [if_pos e]; rfl⟩
                    · rw [if_neg e]
                      rcases G1.out j with ⟨h1, h2⟩ | ⟨h1, h2⟩
                      · exact .inl ⟨.inl h1, h2⟩
                      · exact .inr ⟨fun h => h.elim h1 e, h2⟩⟩
                  refine (h1.here (TG.block sb h1.lt hgsb)).more ?_
                  rw [HWQ.out]; simp; omega
                · intro k hk e
                  rcases e with e | e
                  · exact e
                  · omega
              case measure => omega
theorem walk_any (w : World) (h : NextM w B b F) (hB : B ≤ sb) (hs : SeenM w sb m S) (hm : m ≤ 1000000) (hF : Fin F U) (hfr : (Lit.int .i64 fr).wf = true) (hfU : fr ∈ U) :
    Calls Try.prog 40 #[.map (some b), .int .i64 fr, .map (some sb)] w fun e w' => ∃ A c lot, e = .returned (.slice A lot.length c) ∧ ((S fr ∧ lot = []) ∨ (¬ S fr ∧ WOut F S fr lot)) ∧ lot.length ≤ 1000 ∧ SeenM w' sb (m + 1000) (fun x => S x ∨ x ∈ lot) ∧ Reads w' w'.heap.size 1 A lot.length (i64s lot) ∧ Turn (fun k => k = sb) w w' := by
  by_cases hS : S fr
  · refine (walk_none w h hs hfr hS).mono ?_
    rintro e w' ⟨rfl, rfl⟩
    exact ⟨none, 0, [], rfl, .inl ⟨hS, rfl⟩, by simp, (hs.more (by omega)).to (fun k => by simp), Reads.none_, Turn.refl _ _⟩
  · refine (walk_some w h hB hs hm hF hfr hfU hS).mono ?_
    rintro e w' ⟨v, left, rfl, h1, h2, h3, h4, h5⟩
    obtain ⟨A, c, rfl, hr, _, _⟩ := own_slice h4
    exact ⟨A, c, left, rfl, .inr ⟨hS, h1⟩, h2, h3, hr, h5⟩
end
end Go.Proofs.Ytiapnaecdefonaa
