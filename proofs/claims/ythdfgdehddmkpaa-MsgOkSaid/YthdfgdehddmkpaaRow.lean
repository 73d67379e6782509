/- A whole struct or array that is stored into a block that is known whole. -/
import Derived.Test.YthdfgdehddmkpaaFlat
import Derived.Deep.MidRow
namespace Go.Proofs.Ythdfgdehddmkpaa
open Go.RowKit
set_option linter.unusedVariables false
set_option linter.unusedSimpArgs false

def splice (c : Array Value) : Nat → List Value → Array Value
  | _, [] => c
  | o, v :: r => splice (c.setIfInBounds o v) (o + 1) r
theorem splice_get : ∀ (vs : List Value) (o : Nat) (c : Array Value) (i : Nat), (splice c o vs)[i]? = if o ≤ i ∧ i < o + vs.length ∧ i < c.size then vs[i - o]? else c[i]?
  | [], o, c, i => by
    rw [splice, if_neg (by simp; omega)]
  | v :: r, o, c, i => by
    rw [splice, splice_get r (o + 1) _ i]
    by_cases h1 : o + 1 ≤ i ∧ i < o + 1 + r.length ∧ i < c.size
    · rw [if_pos (by simpa using h1), if_pos (by simp; omega)]
      rw [show i - o = (i - (o + 1)) + 1 by omega, List.getElem?_cons_succ]
    · rw [if_neg (by simpa using h1)]
      by_cases h2 : i = o
      · subst h2
        by_cases h3 : i < c.size
        · rw [if_pos (by simp; omega)]
          simp [h3]
        · rw [if_neg (by simp; omega)]
          simp [h3]
      · rw [if_neg (by simp; omega)]
        rw [Array.getElem?_setIfInBounds_ne (by omega)]
theorem splice_whole (c : Array Value) (vs : List Value) (h : vs.length = c.size) : splice c 0 vs = vs.toArray := by
  apply Array.ext_getElem?
  intro i
  rw [splice_get]
  by_cases hi : i < vs.length
  · rw [if_pos (by omega)]; simp
  · rw [if_neg (by omega), Array.getElem?_eq_none (by omega), Array.getElem?_eq_none (by simp; omega)]
theorem Blk.setCells {g : Nat} {t : TypeId} : ∀ (vs : List Value) (o : Nat) (w : World) (c : Array Value), Blk w g t c → Blk (w.setCells g o vs) g t (splice c o vs)
  | [], _, _, _, h => h
  | v :: r, o, w, c, h => Blk.setCells r (o + 1) _ _ (h.set_ o v)
theorem Blk.farCells {g b : Nat} {t : TypeId} {c : Array Value} (hb : g ≠ b) : ∀ (vs : List Value) (o : Nat) (w : World), Blk w g t c → Blk (w.setCells b o vs) g t c
  | [], _, _, h => h
  | v :: r, o, w, h => Blk.farCells hb r (o + 1) _ (h.far hb v)
theorem Below.setCells {B b : Nat} {w0 : World} (hb : B ≤ b) : ∀ (vs : List Value) (o : Nat) (w : World), Below B w0 w → Below B w0 (w.setCells b o vs)
  | [], _, _, h => h
  | v :: r, o, w, h => Below.setCells hb r (o + 1) _ (h.setCell hb v)
theorem heap_setCells_other {g b : Nat} (hb : g ≠ b) : ∀ (vs : List Value) (o : Nat) (w : World), (w.setCells b o vs).heap[g]? = w.heap[g]?
  | [], _, _ => rfl
  | v :: r, o, w => (heap_setCells_other hb r (o + 1) _).trans (Below.heap_setCell w ⟨b, o, none⟩ v g hb)
/-- A block that is written whole. -/
theorem Blk.put {w : World} {g : Nat} {t : TypeId} {c : Array Value} (h : Blk w g t c) (cs : Array Value) (hn : cs.size = c.size) : Blk (w.setCells g 0 cs.toList) g t cs := by
  have := h.setCells cs.toList 0
  rwa [splice_whole c cs.toList (by simpa using hn)] at this
theorem Blk.there {w : World} {g : Nat} {t : TypeId} {c : Array Value} (h : Blk w g t c) {n : Nat} (hn : n ≤ c.size) : w.there g 0 n := fun j hj =>
  ⟨by rw [Nat.zero_add, h.cell j, Array.getElem?_eq_getElem (by omega)]; rfl, by rw [Nat.zero_add]; exact h.frozen j⟩
theorem Blk.range {w : World} {g : Nat} {t : TypeId} {c : Array Value} (h : Blk w g t c) : w.rangeAt g 0 c.toList := fun j v hv => by
  rw [Nat.zero_add, h.cell j]; simpa using hv
theorem step_store_mid {P : Program} {ops : Array Oper} {op : Oper} {a : Act} {w : World} {K : Act → World → Prop} {Q : Exit → Act → World → Prop} {E : Prop} (hw : Region.wanted op (yielded ops a.tmps) = true) (ty : TypeId) (x y : Operand) (ho : op.op = .store ty x y)
    (b o : Nat) (cells : Array Value) (hx : a.eval x = .pointer (some ⟨b, o, none⟩)) (hy : a.eval y = .agg cells)
    (ht : w.there b o cells.size) (hi : (P.info? ty).map (·.size) = some cells.size) (h1 : cells.all (·.oneCell') = true)
    (h : K (a.put op.dst undef) (w.setCells b o cells.toList)) : if Region.wanted op (yielded ops a.tmps) = true then Oper.wp P op a w K Q else E := by
  rw [if_pos hw]; exact wp_store_mid ty x y ho b o cells hx hy ht hi h1 h
theorem results_cells2 {P : Program} {fn : Func} {p q : Tmp} {ty ty2 : TypeId} (h : fn.results = #[.cell p ty, .cell q ty2]) {tmps : Array Value} {w : World} {a b : Addr} {u v : Value} (hp : tmps.getD p undef = .pointer (some a)) (hq : tmps.getD q undef = .pointer (some b))
    (hu : (loadVar ty a).run P w = .ok u w) (hv : (loadVar ty2 b).run P w = .ok v w) : (results fn tmps).run P w = .ok (.tuple #[u, v]) w := by
  have hp' : tmps[p]?.getD undef = .pointer (some a) := by simpa using hp
  have hq' : tmps[q]?.getD undef = .pointer (some b) := by simpa using hq
  simp [results, h, hp', hq', asAddr, hu, hv]
theorem results_cell_and {P : Program} {fn : Func} {p q : Tmp} {ty : TypeId} (h : fn.results = #[.cell p ty, .tmp q]) {tmps : Array Value} {w : World} {a : Addr} {u v : Value} (hp : tmps.getD p undef = .pointer (some a)) (hq : tmps.getD q undef = v)
    (hu : (loadVar ty a).run P w = .ok u w) : (results fn tmps).run P w = .ok (.tuple #[u, v]) w := by
  have hp' : tmps[p]?.getD undef = .pointer (some a) := by simpa using hp
  have hq' : tmps[q]?.getD undef = v := by simpa using hq
  simp [results, h, hp', hq', asAddr, hu]
theorem ints_oneCell (l : List Int) : (ints l).toArray.all (·.oneCell') = true :=
  all_oneCell_toArray (fun v hv => by obtain ⟨x, _, rfl⟩ := List.mem_map.1 hv; rfl)
end Go.Proofs.Ythdfgdehddmkpaa
