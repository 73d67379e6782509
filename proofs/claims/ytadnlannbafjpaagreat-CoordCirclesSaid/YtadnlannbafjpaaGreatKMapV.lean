/- A map from int to whatever values, as a function; a map of slices; a range over a map. -/
import Derived.Test.YtadnlannbafjpaaGreatKBase
import Derived.Maps.RangeWalk
import Derived.Maps.OwnSet
import Derived.Maps.OwnOps
import Derived.Lib.SlKeysI
namespace Go.Proofs.YtadnlannbafjpaaGreat
open Go.RowKit
set_option linter.unusedVariables false
set_option linter.unusedSimpArgs false
abbrev VP := Int × Value
def putG (k : Int) (x : Value) : List VP → List VP
  | [] => [(k, x)]
  | p :: r => if k < p.1 then (k, x) :: p :: r else if p.1 = k then (k, x) :: r else p :: putG k x r
def atG (k : Int) : List VP → Option Value
  | [] => none
  | p :: r => if p.1 = k then some p.2 else atG k r
def RisG (L : List VP) : Prop := L.Pairwise fun p q => p.1 < q.1
def pairG (p : VP) : Lit × DataW Value := (.int .i64 p.1, .held p.2)
def DV (L : List VP) : DataW Value := .map (L.map pairG)
def heldR (v : Value) : Option (DataW Value × List MemPlace) := some (.held v, [])
theorem held_eq {v z : Value} {ps : List MemPlace} (h : heldR v = some (.held z, ps)) : v = z := by
  simp only [heldR, Option.some.injEq, Prod.mk.injEq, DataW.held.injEq] at h
  exact h.1
theorem risG_cons {p : VP} {L : List VP} : RisG (p :: L) ↔ (∀ q ∈ L, p.1 < q.1) ∧ RisG L := List.pairwise_cons
theorem putG_mem {k : Int} {x : Value} : ∀ {L : List VP} {q : VP}, q ∈ putG k x L → q = (k, x) ∨ q ∈ L
  | [], q, h => by simp [putG] at h; exact .inl h
  | p :: r, q, h => by
    unfold putG at h
    split at h
    · rcases List.mem_cons.1 h with h | h
      · exact .inl h
      · exact .inr h
    · split at h
      · rcases List.mem_cons.1 h with h | h
        · exact .inl h
        · exact .inr (List.mem_cons_of_mem _ h)
      · rcases List.mem_cons.1 h with h | h
        · exact .inr (by simp [h])
        · rcases putG_mem h with h | h
          · exact .inl h
          · exact .inr (List.mem_cons_of_mem _ h)
theorem risG_put {k : Int} {x : Value} : ∀ {L : List VP}, RisG L → RisG (putG k x L)
  | [], _ => by simp [putG, RisG]
  | p :: r, h => by
    obtain ⟨h1, h2⟩ := risG_cons.1 h
    unfold putG
    split
    · rename_i hk
      exact risG_cons.2 ⟨fun q hq => by
        rcases List.mem_cons.1 hq with rfl | hq
        · exact hk
        · have := h1 q hq; show k < q.1; omega, h⟩
    · split
      · rename_i hk
        exact risG_cons.2 ⟨fun q hq => by have := h1 q hq; show k < q.1; omega, h2⟩
      · refine risG_cons.2 ⟨fun q hq => ?_, risG_put h2⟩
        rcases putG_mem hq with rfl | hq
        · show p.1 < k; omega
        · exact h1 q hq
theorem atG_none {k : Int} : ∀ {L : List VP}, (∀ q ∈ L, q.1 ≠ k) → atG k L = none
  | [], _ => rfl
  | p :: r, h => by
    unfold atG
    rw [if_neg (h p (by simp))]
    exact atG_none fun q hq => h q (by simp [hq])
theorem atG_mem {k : Int} {x : Value} : ∀ {L : List VP}, atG k L = some x → (k, x) ∈ L
  | [], h => by cases h
  | p :: r, h => by
    unfold atG at h
    split at h
    · rename_i e
      cases h; subst e; simp
    · exact List.mem_cons_of_mem _ (atG_mem h)
theorem mem_atG {p : VP} : ∀ {L : List VP}, RisG L → p ∈ L → atG p.1 L = some p.2
  | q :: r, h, hm => by
    obtain ⟨h1, h2⟩ := risG_cons.1 h
    unfold atG
    rcases List.mem_cons.1 hm with rfl | hm
    · rw [if_pos rfl]
    · rw [if_neg (by have := h1 p hm; omega)]; exact mem_atG h2 hm
theorem atG_put (k : Int) (x : Value) (k' : Int) : ∀ {L : List VP}, RisG L → atG k' (putG k x L) = if k' = k then some x else atG k' L
  | [], _ => by
    by_cases e : k' = k
    · simp [putG, atG, e]
    · simp [putG, atG, e, Ne.symm e]
  | p :: r, h => by
    unfold putG
    split
    · rename_i h1
      simp only [atG]
      by_cases e : k' = k
      · rw [if_pos e, if_pos e.symm]
      · rw [if_neg (Ne.symm e), if_neg e]
    · split
      · rename_i h1 h2
        simp only [atG]
        by_cases e : k' = k
        · rw [if_pos e, if_pos e.symm]
        · rw [if_neg (Ne.symm e), if_neg e, if_neg (by omega)]
      · rename_i h1 h2
        simp only [atG]
        rw [atG_put k x k' (risG_cons.1 h).2]
        by_cases e : k' = k
        · rw [if_pos e, if_neg (by omega), if_pos e]
        · rw [if_neg e, if_neg e]
/-! ### as the reader reads it -/
theorem sameG (a b : Int) : (Lit.int .i64 a).sameKey (.int .i64 b) = decide (a = b) := by simp [Lit.sameKey]
theorem DV_has (L : List VP) (k : Int) : Maps.has (DV L) (.int .i64 k) = (atG k L).isSome := by
  show (L.map pairG).any (fun p => p.1.sameKey (.int .i64 k)) = _
  induction L with
  | nil => rfl
  | cons p r ih =>
    rw [List.map_cons, List.any_cons, ih]
    simp only [pairG, sameG, atG]
    by_cases h : p.1 = k <;> simp [h]
theorem DV_at (L : List VP) (k : Int) (z : DataW Value) : (DV L).atKey (.int .i64 k) z = match atG k L with | some s => .held s | none => z := by
  unfold DV DataW.atKey
  dsimp only
  induction L with
  | nil => rfl
  | cons p r ih =>
    rw [List.map_cons, List.find?_cons]
    simp only [pairG, sameG, atG]
    by_cases h : p.1 = k
    · simp [h]
    · simp only [h, decide_false, if_false]
      exact ih
def delG (k : Int) (L : List VP) : List VP := L.filter fun p => decide (p.1 ≠ k)
theorem DV_filter (L : List VP) (k : Int) : (L.map pairG).filter (fun p => !p.1.sameKey (.int .i64 k)) = (delG k L).map pairG := by
  induction L with
  | nil => rfl
  | cons p r ih =>
    rw [List.map_cons, List.filter_cons]
    unfold delG at *
    rw [List.filter_cons]
    simp only [pairG, sameG]
    by_cases h : p.1 = k
    · simp only [h, decide_true, Bool.not_true, Bool.false_eq_true, if_false, ne_eq, not_true_eq_false, decide_false]
      exact ih
    · simp only [h, decide_false, Bool.not_false, if_true, ne_eq, not_false_eq_true, decide_true, List.map_cons]
      rw [← ih]; rfl
theorem insert_DV (k : Int) (x : Value) : ∀ {L : List VP}, RisG L → DataW.insert (pairG (k, x)) ((delG k L).map pairG) = (putG k x L).map pairG
  | [], _ => rfl
  | p :: r, h => by
    obtain ⟨h1, h2⟩ := risG_cons.1 h
    unfold delG putG
    rw [List.filter_cons]
    by_cases hk : k < p.1
    · have hr : r.filter (fun p => decide (p.1 ≠ k)) = r := List.filter_eq_self.2 fun q hq => by have := h1 q hq; simp; omega
      rw [if_pos (by simp; omega), if_pos hk, hr, List.map_cons]
      unfold DataW.insert
      rw [if_pos (by simp [pairG, Lit.before, hk])]
      rfl
    · by_cases he : p.1 = k
      · have hr : r.filter (fun p => decide (p.1 ≠ k)) = r := List.filter_eq_self.2 fun q hq => by have := h1 q hq; simp; omega
        rw [if_neg (by simp [he]), if_neg hk, if_pos he, hr]
        cases r with
        | nil => rfl
        | cons q r =>
          have := h1 q (by simp)
          rw [List.map_cons]
          unfold DataW.insert
          rw [if_pos (by simp [pairG, Lit.before]; omega)]
          rfl
      · rw [if_pos (by simp [he]), if_neg hk, if_neg he, List.map_cons, List.map_cons]
        unfold DataW.insert
        rw [if_neg (by simp [pairG, Lit.before]; omega)]
        exact congrArg _ (insert_DV k x h2)
theorem DV_put {L : List VP} (h : RisG L) (k : Int) (x : Value) : (DV L).put (.int .i64 k) (.held x) = DV (putG k x L) := by
  show DataW.map (DataW.insert (pairG (k, x)) ((L.map pairG).filter fun p => !p.1.sameKey (.int .i64 k))) = _
  rw [DV_filter, insert_DV k x h]; rfl
theorem DV_size (L : List VP) : Maps.size (DV L) = L.length := by show (L.map pairG).length = _; simp
theorem DV_keys (L : List VP) : intKeys (DV L) = L.map (·.1) := by
  show (L.map pairG).map (fun p => Go.intOf p.1) = _
  rw [List.map_map]; rfl
theorem keyedV : Maps.Keyed Tryz.prog 3 := Maps.int_keyed Tryz.underlying3
theorem keyV {k : Int} (h : (Lit.int .i64 k).wf = true) : keyOf Tryz.prog 3 (.int .i64 k) = some (.int .i64 k) := Maps.keyOf_int_mk Tryz.underlying3 h
abbrev MapL (w : World) (b n : Nat) (L : List VP) : Prop := w.ownsMap Tryz.prog 3 heldR b n (DV L)
def MapV (w : World) (b n : Nat) (f : Int → Option Value) : Prop := ∃ L : List VP, RisG L ∧ MapL w b n L ∧ ∀ k, atG k L = f k
section
variable {w w' : World} {b n : Nat} {f : Int → Option Value}
theorem MapV.lt (h : MapV w b n f) : b < w.heap.size := by obtain ⟨L, _, h1, _⟩ := h; exact World.ownsMap.lt h1
theorem MapV.heap (h : MapV w b n f) : ∃ es clock, w.heap[b]? = some (.map es clock) := by obtain ⟨L, _, ⟨es, clock, h1, _⟩, _⟩ := h; exact ⟨es, clock, h1⟩
theorem MapV.of_block (h : MapV w b n f) (hk : w'.heap[b]? = w.heap[b]?) : MapV w' b n f := by
  obtain ⟨L, h0, ⟨es, clock, h1, h2⟩, h3⟩ := h
  exact ⟨L, h0, ⟨es, clock, hk.trans h1, h2⟩, h3⟩
theorem MapV.below {B : Nat} (h : MapV w b n f) (hb : Below B w w') (hB : b < B) : MapV w' b n f := h.of_block (hb.block b hB)
theorem MapV.here (h : MapV w b n f) (hb : Below w.heap.size w w') : MapV w' b n f := h.below hb h.lt
theorem MapV.turn {S : Nat → Prop} (h : MapV w b n f) (ht : Turn S w w') (hn : ¬ S b) : MapV w' b n f := h.of_block (ht.block b h.lt hn)
theorem MapV.grown {row : Option Nat} (h : MapV w b n f) (hg : w.grownBy w' row) (hn : row ≠ some b) : MapV w' b n f := h.of_block (hg.block b h.lt fun e => hn e.symm)
theorem MapV.alloc (h : MapV w b n f) (o : Obj) : MapV (w.alloc o) b n f := h.here (Below.alloc (Below.refl _ _) (Nat.le_refl _) o)
theorem MapV.setCell (h : MapV w b n f) {p : Addr} (hp : b ≠ p.block) (u : Value) : MapV (w.setCell p u) b n f := h.of_block (Below.heap_setCell w p u b hp)
theorem MapV.more {n' : Nat} (h : MapV w b n f) (hn : n ≤ n') : MapV w b n' f := by obtain ⟨L, h0, h1, h2⟩ := h; exact ⟨L, h0, World.ownsMap.mono h1 hn, h2⟩
theorem MapV.to {g : Int → Option Value} (h : MapV w b n f) (e : ∀ k, f k = g k) : MapV w b n g := by obtain ⟨L, h0, h1, h2⟩ := h; exact ⟨L, h0, h1, fun k => (h2 k).trans (e k)⟩
theorem MapV.ne {g : Nat} {t : TypeId} {cs : Array Value} {fz : Nat × Nat} (h : MapV w b n f) (hk : w.heap[g]? = some (.cells cs t fz)) : b ≠ g := fun e => by
  obtain ⟨es, clock, h1⟩ := h.heap
  subst e
  rw [h1] at hk
  cases hk
theorem MapV.ne_row {base k size : Nat} {e : TypeId} {v : Value} {xs : List Value} (h : MapV w b n f) (ho : w.ownsRow base e size v k xs) : v.ownBlock ≠ some b := fun e => by
  obtain ⟨cur, hh, _⟩ := own_heap ho b e
  exact MapV.ne h hh rfl
theorem mapV_made (w : World) : MapV (w.alloc (.map #[] 0)) w.heap.size 0 (fun _ => none) := ⟨[], List.Pairwise.nil, World.ownsMap_made w _ _ _, fun k => rfl⟩
/-! ### at the operation -/
theorem MapV.look (h : MapV w b n f) {t e : TypeId} (ht : Tryz.prog.underlying t = some (.map 3 e)) {z : Value} (hz : (zeroValue e).run Tryz.prog w = .ok z w) {k : Int} (hk : (Lit.int .i64 k).wf = true) :
    (Instr.lookup t (.map (some b)) (.int .i64 k) false).run Tryz.prog w = .ok ((f k).getD z) w := by
  obtain ⟨L, h0, h1, h2⟩ := h
  obtain ⟨v, ps, hrun, hv⟩ := World.ownsMap.lookup h1 keyedV ht hz (zd := .held z) (zp := []) rfl (keyV hk)
  rw [hrun]
  rw [DV_at] at hv
  rw [← h2 k]
  cases hs : atG k L with
  | none => rw [hs] at hv; rw [held_eq hv]; rfl
  | some s => rw [hs] at hv; rw [held_eq hv]; rfl
theorem MapV.look_ok (h : MapV w b n f) {t e : TypeId} (ht : Tryz.prog.underlying t = some (.map 3 e)) {z : Value} (hz : (zeroValue e).run Tryz.prog w = .ok z w) {k : Int} (hk : (Lit.int .i64 k).wf = true) :
    (Instr.lookup t (.map (some b)) (.int .i64 k) true).run Tryz.prog w = .ok (.tuple #[(f k).getD z, .bool (f k).isSome]) w := by
  obtain ⟨L, h0, h1, h2⟩ := h
  obtain ⟨v, ps, hrun, hv⟩ := World.ownsMap.look_ok h1 keyedV ht hz (zd := .held z) (zp := []) rfl (keyV hk)
  rw [hrun, DV_has]
  rw [DV_at] at hv
  rw [← h2 k]
  cases hs : atG k L with
  | none => rw [hs] at hv; rw [held_eq hv]; rfl
  | some s => rw [hs] at hv; rw [held_eq hv]; rfl
theorem MapV.put (h : MapV w b n f) {t e : TypeId} (ht : Tryz.prog.underlying t = some (.map 3 e)) (hn : n < maxLen) {k : Int} (hk : (Lit.int .i64 k).wf = true) (v : Value) :
    ∃ w', (Instr.mapUpdate t (.map (some b)) (.int .i64 k) v).run Tryz.prog w = .ok () w' ∧ MapV w' b (n + 1) (fun j => if j = k then some v else f j) ∧ w.grownBy w' (some b) ∧ w'.heap.size = w.heap.size := by
  obtain ⟨L, h0, h1, h2⟩ := h
  obtain ⟨w', hrun, r1, r2⟩ := World.ownsMap.store h1 keyedV ht hn (keyV hk) (show heldR v = some (.held v, []) from rfl)
  rw [DV_put h0] at r1
  refine ⟨w', hrun, ⟨_, risG_put h0, r1, fun j => by rw [atG_put k v j h0, h2 j]⟩, r2.grown, ?_⟩
  obtain ⟨es, clock, es', clock', hb, rfl⟩ := r2
  simp [ChangeMaps.setBlock]
end
section
variable {w : World} {ops : Array Oper} {rest : List Oper} {o : Oper} {a : Act} {Q : Exit → Act → World → Prop} {K : Act → World → Prop} {b n : Nat} {f : Int → Option Value}
theorem wpList_lookV (w : World) (hg : o.guard = none) (m x : Operand) (t : TypeId) (hop : o.op = Op.lookup t m x false) (e : TypeId) (ht : Tryz.prog.underlying t = some (.map 3 e)) (z : Value) (hz : (zeroValue e).run Tryz.prog w = .ok z w)
    (hm : a.eval m = .map (some b)) (h : MapV w b n f) (k : Int) (hx : a.eval x = .int .i64 k) (hk : (Lit.int .i64 k).wf = true) (v : Value) (hv : (f k).getD z = v) (hK : wpList Tryz.prog ops Q rest (a.put o.dst v) w) : wpList Tryz.prog ops Q (o :: rest) a w := by
  subst hv
  refine wpList_plain hg fun K' hK' => ?_
  unfold Oper.wp
  simp [execOp, hop, hm, hx, h.look ht hz hk, Result.andThen]
  exact hK' _ _ hK
theorem wpList_look_okV (w : World) (hg : o.guard = none) (m x : Operand) (t : TypeId) (hop : o.op = Op.lookup t m x true) (e : TypeId) (ht : Tryz.prog.underlying t = some (.map 3 e)) (z : Value) (hz : (zeroValue e).run Tryz.prog w = .ok z w)
    (hm : a.eval m = .map (some b)) (h : MapV w b n f) (k : Int) (hx : a.eval x = .int .i64 k) (hk : (Lit.int .i64 k).wf = true) (v : Value) (hv : (f k).getD z = v) (is : Bool) (his : (f k).isSome = is)
    (hK : wpList Tryz.prog ops Q rest (a.put o.dst (.tuple #[v, .bool is])) w) : wpList Tryz.prog ops Q (o :: rest) a w := by
  subst hv his
  refine wpList_plain hg fun K' hK' => ?_
  unfold Oper.wp
  simp [execOp, hop, hm, hx, h.look_ok ht hz hk, Result.andThen]
  exact hK' _ _ hK
theorem wpList_putV (w : World) (hg : o.guard = none) (m x y : Operand) (t : TypeId) (hop : o.op = Op.mapUpdate t m x y) (e : TypeId) (ht : Tryz.prog.underlying t = some (.map 3 e))
    (hm : a.eval m = .map (some b)) (h : MapV w b n f) (hn : n < maxLen) (k : Int) (hx : a.eval x = .int .i64 k) (hk : (Lit.int .i64 k).wf = true) (v : Value) (hy : a.eval y = v)
    (hK : ∀ w', MapV w' b (n + 1) (fun j => if j = k then some v else f j) → w.grownBy w' (some b) → w'.heap.size = w.heap.size → wpList Tryz.prog ops Q rest (a.put o.dst undef) w') : wpList Tryz.prog ops Q (o :: rest) a w := by
  refine wpList_plain hg fun K' hK' => ?_
  obtain ⟨w', hrun, r1, r2, r3⟩ := h.put ht hn hk v
  unfold Oper.wp
  simp [execOp, hop, hm, hx, hy, hrun, Result.andThen]
  exact hK' _ _ (hK w' r1 r2 r3)
theorem step_putV (w : World) {k : Int} {v : Value} (hop : ∃ m x y t e, o.op = Op.mapUpdate t m x y ∧ Tryz.prog.underlying t = some (.map 3 e) ∧ a.eval m = .map (some b) ∧ a.eval x = .int .i64 k ∧ a.eval y = v)
    (h : MapV w b n f) (hn : n < maxLen) (hk : (Lit.int .i64 k).wf = true) (hK : ∀ w', MapV w' b (n + 1) (fun j => if j = k then some v else f j) → w.grownBy w' (some b) → w'.heap.size = w.heap.size → K (a.put o.dst undef) w') : o.wp Tryz.prog a w K Q := by
  obtain ⟨m, x, y, t, e, ho, ht, hm, hx, hy⟩ := hop
  obtain ⟨w', hrun, r1, r2, r3⟩ := h.put ht hn hk v
  unfold Oper.wp
  simp [execOp, ho, hm, hx, hy, hrun, Result.andThen]
  exact hK w' r1 r2 r3
theorem wpList_nextV (w : World) (hg : o.guard = none) (it : Operand) (hop : o.op = Op.next it false) (b r n : Nat) (L : List VP) (left : Lit → Bool) (cnt : Nat)
    (hit : a.eval it = .pointer (some ⟨r, 0, none⟩)) (h : w.ranges Tryz.prog 3 heldR b r n (DV L) left cnt)
    (hDone : cnt = 0 → (∀ kl, left kl = false) → wpList Tryz.prog ops Q rest (a.put o.dst (.tuple #[.bool false])) w)
    (hMore : ∀ (x : Int) (c : Value) (w' : World) (cnt' : Nat), (Lit.int .i64 x).wf = true → left (.int .i64 x) = true → atG x L = some c → w'.ranges Tryz.prog 3 heldR b r n (DV L) (fun z => left z && !z.sameKey (.int .i64 x)) cnt' → cnt' < cnt →
      w.grownBy w' (some r) → w'.heap.size = w.heap.size → (Instr.entry (.pointer (some ⟨r, 0, none⟩))).run Tryz.prog w' = .ok (.tuple #[.int .i64 x, c]) w' → wpList Tryz.prog ops Q rest (a.put o.dst (.tuple #[.bool true, .int .i64 x, c])) w') :
    wpList Tryz.prog ops Q (o :: rest) a w :=
  wpList_next_ranges w hg it hop 3 keyedV heldR (Value.int .i64) id (fun key kl hkey => by obtain ⟨x, rfl, _⟩ := Maps.keyOf_int_inv Tryz.underlying3 hkey; exact ⟨x, rfl⟩) (fun v y hv => ⟨v, rfl⟩)
    b r n (DV L) left cnt hit h hDone (fun x c kl y w' cnt' hkey hlk hv hat hrg hlt hgr hsz hen => by
      obtain ⟨x', ex, rfl, hwx⟩ := Maps.keyOf_int_inv Tryz.underlying3 hkey
      cases ex
      refine hMore x c w' cnt' hwx hlk ?_ hrg hlt hgr hsz hen
      have h1 := hat .nil
      rw [DV_at] at h1
      have h2 : y.1 = .held c := by
        have : heldR c = some y := hv
        simp only [heldR, Option.some.injEq] at this
        rw [← this]
      rw [h2] at h1
      cases hs : atG x L with
      | none => rw [hs] at h1; cases h1
      | some z => rw [hs] at h1; exact congrArg some (DataW.held.inj h1))
theorem sameKey_i (x y : Int) : (Lit.int .i64 x).sameKey (.int .i64 y) = decide (x = y) := sameG x y
end
end Go.Proofs.YtadnlannbafjpaaGreat
