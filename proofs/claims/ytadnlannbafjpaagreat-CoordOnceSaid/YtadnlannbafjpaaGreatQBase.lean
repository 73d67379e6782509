/- Words for memory: blocks that are known whole, what stays below, equations of endings. -/
import Derived.Test.YtadnlannbafjpaaGreatChecked
import Derived.WalkKit
import Derived.Below
import Derived.Laws.OwnMore
import Derived.Deep.AppendLies
import Derived.Deep.Draws
import Derived.Laws.Rows
import Derived.Lib.Hide
import Derived.Lib.SmallJoins
import Derived.Laws.StructEq
import Derived.BigFrame
import Derived.Deep.MidRow
import Derived.Maps.AppendAt
import Derived.RegionTactic
import Derived.OwnWalk
import Derived.Maps.RangeWalk
import Derived.Maps.OwnSet
import Derived.Maps.OwnOps
import Derived.Lib.SlKeysI
namespace Go.Proofs.YtadnlannbafjpaaGreat
open Go.RowKit
theorem ret_bool {a b : Bool} (h : a = b) : Ending.returned (.bool a) = .returned (.bool b) := by rw [h]
theorem below_drewN {B : Nat} {a w : World} (h : Below B a w) (n : Nat) : Below B a (w.drewN n) := ⟨h.os, h.tape, h.output, h.size, h.block⟩
theorem stepB {w W W' : World} (h : Below w.heap.size w W) (hb : Below W.heap.size W W') : Below w.heap.size w W' := h.trans (hb.mono h.size)
theorem stepA {w W : World} (h : Below w.heap.size w W) (o : Obj) : Below w.heap.size w (W.alloc o) := h.alloc h.size o
def Blk (w : World) (g : Nat) (t : TypeId) (cs : Array Value) : Prop := w.heap[g]? = some (.cells cs t (0, 0))
section
variable {w w' : World} {g : Nat} {t : TypeId} {cs : Array Value}
theorem Blk.lt (h : Blk w g t cs) : g < w.heap.size := by
 rcases Nat.lt_or_ge g w.heap.size with hlt | hge
 · exact hlt
 · unfold Blk at h; rw [Array.getElem?_eq_none hge] at h; cases h
theorem Blk.cell (h : Blk w g t cs) (i : Nat) : w.cell? ⟨g, i, none⟩ = cs[i]? := cell_of_row w g i cs t (0, 0) h
theorem Blk.frozen (h : Blk w g t cs) (i : Nat) : w.frozen? ⟨g, i, none⟩ = false := by
 unfold Blk at h
 simp [World.frozen?, h]
theorem Blk.new (w : World) (t : TypeId) (cs : Array Value) : Blk (w.alloc (.cells cs t)) w.heap.size t cs := heap_alloc_new w _
theorem Blk.new_at {w : World} {n : Nat} (hn : n = w.heap.size) (t : TypeId) (cs : Array Value) : Blk (w.alloc (.cells cs t)) n t cs := by subst hn; exact Blk.new w t cs
theorem Blk.drew (h : Blk w g t cs) : Blk w.drew g t cs := h
theorem Blk.drewN (h : Blk w g t cs) (n : Nat) : Blk (w.drewN n) g t cs := h
theorem Blk.alloc (h : Blk w g t cs) (o : Obj) : Blk (w.alloc o) g t cs := (Below.heap_alloc w o g h.lt).trans h
theorem Blk.set_ (h : Blk w g t cs) (i : Nat) (u : Value) : Blk (w.setCell ⟨g, i, none⟩ u) g t (cs.setIfInBounds i u) := by
 unfold Blk at h ⊢
 simp [World.setCell, Array.getElem?_modify, h]
theorem Blk.far (h : Blk w g t cs) {p : Addr} (hp : g ≠ p.block) (u : Value) : Blk (w.setCell p u) g t cs := (Below.heap_setCell w p u g hp).trans h
theorem Blk.below {B : Nat} (h : Blk w g t cs) (hb : Below B w w') (hg : g < B) : Blk w' g t cs := (hb.block g hg).trans h
theorem Blk.here (h : Blk w g t cs) (hb : Below w.heap.size w w') : Blk w' g t cs := (hb.block g h.lt).trans h
end
end Go.Proofs.YtadnlannbafjpaaGreat
/- Comparison of plain data: integers, and structs and arrays of such, side by side. -/
namespace Go.Proofs.YtadnlannbafjpaaGreat
open Go.RowKit
set_option linter.unusedVariables false
set_option linter.unusedSimpArgs false
def fld (m : List Int) (i : Nat) : Int := m.getD i 0
theorem fld_get {m : List Int} {i : Nat} (h : i < m.length) : m[i]? = some (fld m i) := by
 unfold fld; simp [List.getD, h]
def ints (l : List Int) : List Value := l.map (Value.int .i64)
@[simp] theorem ints_length (l : List Int) : (ints l).length = l.length := by simp [ints]
def flatV (ag : Bool) (l : List Int) : Value := if ag then .agg (ints l).toArray else .int .i64 (l.headD 0)
def flatFs (F : TypeId → Option (Bool × Nat)) : Nat → List Field → Option Nat
 | off, [] => some off
 | off, f :: fs => if f.name = "_" ∨ f.offset ≠ off then none else match F f.type with
   | some (_, k) => flatFs F (off + k) fs
   | none => none
def flatB (P : Program) : Nat → TypeId → Option (Bool × Nat)
 | 0, _ => none
 | d + 1, t => match P.underlying t with
   | some (.int _) => if (P.info? t).map (·.size) = some 1 then some (false, 1) else none
   | some (.struct fs) => if P.stoodInHeld t then none else match flatFs (flatB P d) 0 fs.toList with
     | some n => if (P.info? t).map (·.size) = some n then some (true, n) else none
     | none => none
   | some (.array len e) => match flatB P d e with
     | some (_, k) => if (P.info? t).map (·.size) = some (len * k) then some (true, len * k) else none
     | none => none
   | _ => none
section
variable {P : Program} {w : World}
theorem flat_size {d : Nat} {t : TypeId} {ag : Bool} {n : Nat} (h : flatB P d t = some (ag, n)) : (P.info? t).map (·.size) = some n := by
 cases d with
 | zero => simp [flatB] at h
 | succ d =>
   simp only [flatB] at h
   split at h
   · split at h
     · rename_i h1; cases h; exact h1
     · cases h
   · split at h
     · cases h
     · split at h
       · split at h
         · rename_i h1; cases h; exact h1
         · cases h
       · cases h
   · split at h
     · split at h
       · rename_i h1; cases h; exact h1
       · cases h
     · cases h
   · cases h
theorem flat_agg {d : Nat} {t : TypeId} {ag : Bool} {n : Nat} (h : flatB P d t = some (ag, n)) : (isAgg t).run P w = .ok ag w := by
 cases d with
 | zero => simp [flatB] at h
 | succ d =>
   simp only [flatB] at h
   unfold isAgg
   split at h <;> rename_i hu
   · rw [Sem.run_bind, run_underlying hu w]
     split at h
     · cases h; rfl
     · cases h
   · rw [Sem.run_bind, run_underlying hu w]
     split at h
     · cases h
     · split at h
       · split at h
         · cases h; rfl
         · cases h
       · cases h
   · rw [Sem.run_bind, run_underlying hu w]
     split at h
     · split at h
       · cases h; rfl
       · cases h
     · cases h
   · cases h
theorem flat_one {d : Nat} {t : TypeId} {n : Nat} (h : flatB P d t = some (false, n)) : n = 1 := by
 cases d with
 | zero => simp [flatB] at h
 | succ d =>
   simp only [flatB] at h
   split at h
   · split at h
     · cases h; rfl
     · cases h
   · split at h
     · cases h
     · split at h
       · split at h <;> cases h
       · cases h
   · split at h
     · split at h <;> cases h
     · cases h
   · cases h
theorem flat_part {d : Nat} {t : TypeId} {ag : Bool} {n off : Nat} {l : List Int} (h : flatB P d t = some (ag, n)) (hl : off + n ≤ l.length) :
   (part t (ints l).toArray off).run P w = .ok (flatV ag ((l.drop off).take n)) w := by
 unfold part
 rw [Sem.run_bind, flat_agg h]
 cases ag with
 | true =>
   have hs := flat_size h
   cases hi : P.info? t with
   | none => simp [hi] at hs
   | some i =>
     have hi' : i.size = n := by simpa [hi] using hs
     simp only [Result.andThen_ok, if_true, Sem.run_bind, sizeOf, typeInfo, Sem.run_pure, run_program, hi, hi']
     simp [flatV, ints, List.extract_eq_take_drop, List.map_take, List.map_drop]
 | false =>
   have h1 := flat_one h
   subst h1
   have hlt : off < l.length := by omega
   simp [flatV, ints, hlt, List.headD_eq_head?_getD, List.head?_take, List.head?_drop]
theorem flatFs_le {F : TypeId → Option (Bool × Nat)} : ∀ (fs : List Field) (off n : Nat), flatFs F off fs = some n → off ≤ n
 | [], off, n, h => by simp [flatFs] at h; omega
 | f :: fs, off, n, h => by
   simp only [flatFs] at h
   split at h
   · cases h
   · split at h
     · have := flatFs_le fs _ _ h; omega
     · cases h
theorem take_parts {xs ys : List Int} {off k m : Nat} (hx : off + k ≤ xs.length) (hy : off + k ≤ ys.length) (h : ((xs.drop off).take k = (ys.drop off).take k)) :
   ((xs.drop off).take (k + m) = (ys.drop off).take (k + m)) ↔ ((xs.drop (off + k)).take m = (ys.drop (off + k)).take m) := by
 rw [List.take_add, List.take_add, h, List.append_cancel_left_eq, List.drop_drop, List.drop_drop]
theorem take_parts_ne {xs ys : List Int} {off k m : Nat} (h : ¬ ((xs.drop off).take k = (ys.drop off).take k)) : ¬ ((xs.drop off).take (k + m) = (ys.drop off).take (k + m)) := fun e => h (by
 have := congrArg (List.take k) e
 simpa [List.take_take] using this)
def EqAt (P : Program) (D d : Nat) : Prop := ∀ (t : TypeId) (ag : Bool) (n : Nat), flatB P d t = some (ag, n) → ∀ xs ys : List Int, xs.length = n → ys.length = n → ∀ w, (Op.equalIn D t (flatV ag xs) (flatV ag ys)).run P w = .ok (decide (xs = ys)) w
theorem eqFields_flat {D d : Nat} (hE : EqAt P D d) (xs ys : List Int) : ∀ (fs : List Field) (off n : Nat), flatFs (flatB P d) off fs = some n → n ≤ xs.length → n ≤ ys.length → ∀ w,
   (Op.eqFields D (ints xs).toArray (ints ys).toArray fs).run P w = .ok (decide ((xs.drop off).take (n - off) = (ys.drop off).take (n - off))) w
 | [], off, n, h, hx, hy, w => by simp [flatFs] at h; subst h; simp [Op.eqFields]
 | f :: fs, off, n, h, hx, hy, w => by
   simp only [flatFs] at h
   split at h
   · cases h
   · rename_i hn
     split at h
     · rename_i ag k hF
       have hle := flatFs_le _ _ _ h
       have hname : f.name ≠ "_" := fun e => hn (.inl e)
       have hoff : f.offset = off := Decidable.byContradiction fun e => hn (.inr e)
       have ih := eqFields_flat hE xs ys fs (off + k) n h hx hy
       rw [Op.eqFields, if_pos hname, hoff]
       simp only [Sem.run_bind, flat_part hF (show off + k ≤ xs.length by omega), flat_part hF (show off + k ≤ ys.length by omega), Result.andThen_ok,
         hE _ _ _ hF ((xs.drop off).take k) ((ys.drop off).take k) (by simp; omega) (by simp; omega)]
       rw [show n - off = k + (n - (off + k)) by omega]
       by_cases he : (xs.drop off).take k = (ys.drop off).take k
       · simp only [he, decide_true, Bool.not_true, Bool.false_eq_true, if_false]
         rw [ih w]
         simp only [take_parts (m := n - (off + k)) (show off + k ≤ xs.length by omega) (show off + k ≤ ys.length by omega) he]
       · simp only [he, decide_false, Bool.not_false, if_true, Sem.run_pure, take_parts_ne (m := n - (off + k)) he]
     · cases h
theorem equalIn_flat : ∀ (d D : Nat), d ≤ D → EqAt P D d
 | 0, D, _, t, ag, n, h, xs, ys, hx, hy, w => by simp [flatB] at h
 | d + 1, D, hD, t, ag, n, h, xs, ys, hx, hy, w => by
   obtain ⟨D, rfl⟩ : ∃ D', D = D' + 1 := ⟨D - 1, by omega⟩
   have hE := equalIn_flat d D (by omega)
   have hsz := flat_size h
   simp only [flatB] at h
   split at h <;> rename_i hu
   · split at h
     · cases h
       match xs, ys, hx, hy with
       | [a], [b], _, _ =>
         simp only [flatV, Bool.false_eq_true, if_false, List.headD_cons]
         rw [run_equalIn_int w D t _ _ a b hu]
         congr 1
         rw [Bool.eq_iff_iff]
         simp
     · cases h
   · rename_i fs
     split at h
     · cases h
     · rename_i hp
       split at h
       · rename_i m hm
         split at h
         · cases h
           have hF : P.fieldsOf t = fs := by simp [Program.fieldsOf, hu]
           simp only [flatV, if_true]
           rw [run_equalIn_struct w D t _ _ (by rw [hF]; exact hu) (by simpa using hp), hF, eqFields_flat hE xs ys _ _ _ hm (by omega) (by omega) w]
           simp only [List.drop_zero, Nat.sub_zero]
           rw [List.take_of_length_le (by omega), List.take_of_length_le (by omega)]
         · cases h
       · cases h
   · rename_i len e
     split at h
     · rename_i ag' k hk
       split at h
       · rename_i hss
         clear hss
         cases h
         have hke := flat_size hk
         have hse : ∀ w, (sizeOf e).run P w = .ok k w := fun w => by
           cases hi : P.info? e with
           | none => simp [hi] at hke
           | some i =>
             have hi' : i.size = k := by simpa [hi] using hke
             simp [sizeOf, typeInfo, hi, hi']
         simp only [flatV, if_true]
         rw [Op.equalIn]
         simp only [Sem.run_bind, run_underlying hu, Result.andThen_ok, hse, Std.Legacy.Range.forIn_eq_forIn_range', Std.Legacy.Range.size, Nat.sub_zero, Nat.add_sub_cancel, Nat.div_one]
         have hxs : (xs.drop (0 * k)).take (len * k) = xs := by simp only [Nat.zero_mul, List.drop_zero]; exact List.take_of_length_le (by omega)
         have hys : (ys.drop (0 * k)).take (len * k) = ys := by simp only [Nat.zero_mul, List.drop_zero]; exact List.take_of_length_le (by omega)
         conv => rhs; rw [← hxs, ← hys]
         obtain ⟨N, hN⟩ : ∃ N, N = len := ⟨len, rfl⟩
         have hb : 0 + len ≤ N := by omega
         rw [← hN] at hx hy
         clear hxs hys hu hsz hN
         generalize 0 = j at hb ⊢
         induction len generalizing j with
         | zero => simp
         | succ m ih =>
           have hjk : j * k + k ≤ N * k := by have := Nat.mul_le_mul_right k (show j + 1 ≤ N by omega); rw [Nat.succ_mul] at this; exact this
           have ih' := ih (j + 1) (by omega)
           rw [List.range'_succ, List.forIn_cons]
           simp only [Sem.run_bind, flat_part hk (show j * k + k ≤ xs.length by omega), flat_part hk (show j * k + k ≤ ys.length by omega), Result.andThen_ok,
             hE _ _ _ hk ((xs.drop (j * k)).take k) ((ys.drop (j * k)).take k) (by simp; omega) (by simp; omega)]
           rw [Nat.succ_mul m k, Nat.add_comm (m * k) k]
           by_cases he : (xs.drop (j * k)).take k = (ys.drop (j * k)).take k
           · simp only [he, decide_true, Bool.not_true, Bool.false_eq_true, if_false, Sem.run_pure, Result.andThen_ok]
             rw [ih']
             simp only [take_parts (m := m * k) (show j * k + k ≤ xs.length by omega) (show j * k + k ≤ ys.length by omega) he, Nat.succ_mul]
           · simp only [he, decide_false, Bool.not_false, if_true, Sem.run_pure, Result.andThen_ok, take_parts_ne (m := m * k) he]
       · cases h
     · cases h
   · cases h
theorem eql_flat {t : TypeId} {n d : Nat} (h : flatB P d t = some (true, n)) (hd : d ≤ 10000) {xs ys : List Int} (hx : xs.length = n) (hy : ys.length = n) (w : World) :
   (binOp .eql t (.agg (ints xs).toArray) (.agg (ints ys).toArray)).run P w = .ok (.bool (decide (xs = ys))) w := by
 rw [run_eql_struct]
 have := equalIn_flat d 10000 hd t true n h xs ys hx hy w
 simp only [flatV, if_true] at this
 rw [this]; rfl
theorem neq_flat {t : TypeId} {n d : Nat} (h : flatB P d t = some (true, n)) (hd : d ≤ 10000) {xs ys : List Int} (hx : xs.length = n) (hy : ys.length = n) (w : World) :
   (binOp .neq t (.agg (ints xs).toArray) (.agg (ints ys).toArray)).run P w = .ok (.bool (!decide (xs = ys))) w := by
 rw [run_neq_struct]
 have := equalIn_flat d 10000 hd t true n h xs ys hx hy w
 simp only [flatV, if_true] at this
 rw [this]; rfl
theorem eql_two {t : TypeId} {d : Nat} (h : flatB P d t = some (true, 2)) (hd : d ≤ 10000) (a b a' b' : Int) (w : World) :
   (binOp .eql t (.agg #[.int .i64 a, .int .i64 b]) (.agg #[.int .i64 a', .int .i64 b'])).run P w = .ok (.bool (decide (a = a' ∧ b = b'))) w := by
 have := eql_flat h hd (xs := [a, b]) (ys := [a', b']) rfl rfl w
 simpa [ints] using this
theorem neq_two {t : TypeId} {d : Nat} (h : flatB P d t = some (true, 2)) (hd : d ≤ 10000) (a b a' b' : Int) (w : World) :
   (binOp .neq t (.agg #[.int .i64 a, .int .i64 b]) (.agg #[.int .i64 a', .int .i64 b'])).run P w = .ok (.bool (!decide (a = a' ∧ b = b'))) w := by
 have := neq_flat h hd (xs := [a, b]) (ys := [a', b']) rfl rfl w
 simpa [ints] using this
theorem index_flat {t e : TypeId} {d len k i : Nat} {ag : Bool} (hu : P.underlying t = some (.array len e)) (h : flatB P d e = some (ag, k)) (hi : i < len) {l : List Int} (hl : l.length = len * k) (w : World) :
   (Instr.index t (.agg (ints l).toArray) (.int .i64 (i : Int))).run P w = .ok (flatV ag ((l.drop (i * k)).take k)) w := by
 have hke := flat_size h
 have hse : (sizeOf e).run P w = .ok k w := by
   cases hi : P.info? e with
   | none => simp [hi] at hke
   | some i =>
     have hi' : i.size = k := by simpa [hi] using hke
     simp [sizeOf, typeInfo, hi, hi']
 have hb : i * k + k ≤ l.length := by have := Nat.mul_le_mul_right k (show i + 1 ≤ len by omega); rw [Nat.succ_mul] at this; omega
 unfold Instr.index
 simp only [asIntOf, Sem.run_bind, Sem.run_pure, Result.andThen_ok, run_underlying hu]
 rw [if_pos (by omega)]
 simp only [Sem.run_bind, hse, Result.andThen_ok, Int.toNat_natCast, flat_part h hb]
theorem run_loadVar_cells (w : World) (ad : Addr) (ty : TypeId) (cs : List Value) (d : TypeDesc) (hc : ∀ j v, cs[j]? = some v → w.cell? (ad.add j) = some v)
   (hu : P.underlying ty = some d) (hd : (match d with | .struct _ | .array _ _ => true | _ => false) = true) (hi : (P.info? ty).map (·.size) = some cs.length) :
   (loadVar ty ad).run P w = .ok (.agg cs.toArray) w := by
 have hl : (loadCells ad cs.length).run P w = .ok cs.toArray w := run_loadCells_list (P := P) w ad cs hc
 cases hq : P.info? ty with
 | none => simp [hq] at hi
 | some i =>
   have hs : i.size = cs.length := by simpa [hq] using hi
   have hagg : (isAgg ty).run P w = .ok true w := by
     unfold isAgg
     rw [Sem.run_bind, run_underlying hu w]
     cases d <;> simp_all
   simp [loadVar, Sem.run_bind, hagg, sizeOf, typeInfo, hq, hs, hl]
theorem wp_load_cells {o : Oper} {a : Act} {w : World} {K : Act → World → Prop} {Q : Exit → Act → World → Prop} (ty : TypeId) (x : Operand) (ho : o.op = .load ty x)
   (ad : Addr) (hx : a.eval x = .pointer (some ad)) (cs : List Value) (d : TypeDesc) (hc : ∀ j v, cs[j]? = some v → w.cell? (ad.add j) = some v)
   (hu : P.underlying ty = some d) (hd : (match d with | .struct _ | .array _ _ => true | _ => false) = true) (hi : (P.info? ty).map (·.size) = some cs.length)
   (h : K (a.put o.dst (.agg cs.toArray)) w) : o.wp P a w K Q := by
 unfold Oper.wp execOp
 simp only [ho, hx, Instr.loadAt, Instr.sureAddr, Sem.run_bind, Sem.run_pure, Result.andThen_ok, run_loadVar_cells w ad ty cs d hc hu hd hi]
 exact h
theorem wpList_load_cells {ops : Array Oper} {rest : List Oper} {o : Oper} {a : Act} {w : World} {Q : Exit → Act → World → Prop} (hgd : o.guard = none) (ty : TypeId) (x : Operand) (ho : o.op = .load ty x)
   (ad : Addr) (hx : a.eval x = .pointer (some ad)) (cs : List Value) (d : TypeDesc) (hc : ∀ j v, cs[j]? = some v → w.cell? (ad.add j) = some v)
   (hu : P.underlying ty = some d) (hd : (match d with | .struct _ | .array _ _ => true | _ => false) = true) (hi : (P.info? ty).map (·.size) = some cs.length)
   (h : wpList P ops Q rest (a.put o.dst (.agg cs.toArray)) w) : wpList P ops Q (o :: rest) a w :=
 wpList_plain hgd fun _ hK => wp_load_cells ty x ho ad hx cs d hc hu hd hi (hK _ _ h)
theorem Blk.cells_at {w : World} {g : Nat} {t : TypeId} {l : List Value} (h : Blk w g t l.toArray) (off n : Nat) (hn : off + n ≤ l.length) :
   ∀ j v, ((l.drop off).take n)[j]? = some v → w.cell? ((⟨g, off, none⟩ : Addr).add j) = some v := by
 intro j v hv
 have hj : j < n := by have := (List.getElem?_eq_some_iff.1 hv).1; simp at this; omega
 have hadd : (⟨g, off, none⟩ : Addr).add j = ⟨g, off + j, none⟩ := by
   unfold Addr.add
   split
   · rename_i h0; simp [h0]
   · rfl
 rw [hadd, h.cell]
 rw [← hv]
 simp [List.getElem?_take, hj, List.getElem?_drop]
theorem wpList_load_row_g {ops : Array Oper} {rest : List Oper} {o : Oper} {a : Act} {w : World} {Q : Exit → Act → World → Prop} (hw : Region.wanted o (yielded ops a.tmps) = true) (ty : TypeId) (x : Operand) (ho : o.op = .load ty x)
   (g : Nat) (hx : a.eval x = .pointer (some ⟨g, 0, none⟩)) (t : TypeId) (cs : Array Value) (fr : Nat × Nat) (d : TypeDesc) (hg : w.heap[g]? = some (.cells cs t fr))
   (hu : P.underlying ty = some d) (hd : (match d with | .struct _ | .array _ _ => true | _ => false) = true) (hi : (P.info? ty).map (·.size) = some cs.size)
   (h : wpList P ops Q rest (a.put o.dst (.agg cs)) w) : wpList P ops Q (o :: rest) a w :=
 BigFrame.wpList_want hw fun _ hK => wp_load_row ty x ho g hx t cs fr d hg hu hd hi (hK _ _ h)
end
end Go.Proofs.YtadnlannbafjpaaGreat
/- A whole struct or array that is stored into a block that is known whole. -/
namespace Go.Proofs.YtadnlannbafjpaaGreat
open Go.RowKit
set_option linter.unusedVariables false
set_option linter.unusedSimpArgs false
def splice (c : Array Value) : Nat → List Value → Array Value
 | _, [] => c
 | o, v :: r => splice (c.setIfInBounds o v) (o + 1) r
theorem splice_get : ∀ (vs : List Value) (o : Nat) (c : Array Value) (i : Nat), (splice c o vs)[i]? = if o ≤ i ∧ i < o + vs.length ∧ i < c.size then vs[i - o]? else c[i]?
 | [], o, c, i => by
   rw [splice, if_neg (by simp; omega)]
 | v :: r, o, c, i => by
   rw [splice, splice_get r (o + 1) _ i]
   by_cases h1 : o + 1 ≤ i ∧ i < o + 1 + r.length ∧ i < c.size
   · rw [if_pos (by simpa using h1), if_pos (by simp; omega)]
     rw [show i - o = (i - (o + 1)) + 1 by omega, List.getElem?_cons_succ]
   · rw [if_neg (by simpa using h1)]
     by_cases h2 : i = o
     · subst h2
       by_cases h3 : i < c.size
       · rw [if_pos (by simp; omega)]
         simp [h3]
       · rw [if_neg (by simp; omega)]
         simp [h3]
     · rw [if_neg (by simp; omega)]
       rw [Array.getElem?_setIfInBounds_ne (by omega)]
theorem splice_whole (c : Array Value) (vs : List Value) (h : vs.length = c.size) : splice c 0 vs = vs.toArray := by
 apply Array.ext_getElem?
 intro i
 rw [splice_get]
 by_cases hi : i < vs.length
 · rw [if_pos (by omega)]; simp
 · rw [if_neg (by omega), Array.getElem?_eq_none (by omega), Array.getElem?_eq_none (by simp; omega)]
theorem Blk.setCells {g : Nat} {t : TypeId} : ∀ (vs : List Value) (o : Nat) (w : World) (c : Array Value), Blk w g t c → Blk (w.setCells g o vs) g t (splice c o vs)
 | [], _, _, _, h => h
 | v :: r, o, w, c, h => Blk.setCells r (o + 1) _ _ (h.set_ o v)
theorem Blk.farCells {g b : Nat} {t : TypeId} {c : Array Value} (hb : g ≠ b) : ∀ (vs : List Value) (o : Nat) (w : World), Blk w g t c → Blk (w.setCells b o vs) g t c
 | [], _, _, h => h
 | v :: r, o, w, h => Blk.farCells hb r (o + 1) _ (h.far hb v)
theorem Below.setCells {B b : Nat} {w0 : World} (hb : B ≤ b) : ∀ (vs : List Value) (o : Nat) (w : World), Below B w0 w → Below B w0 (w.setCells b o vs)
 | [], _, _, h => h
 | v :: r, o, w, h => Below.setCells hb r (o + 1) _ (h.setCell hb v)
theorem Blk.put {w : World} {g : Nat} {t : TypeId} {c : Array Value} (h : Blk w g t c) (cs : Array Value) (hn : cs.size = c.size) : Blk (w.setCells g 0 cs.toList) g t cs := by
 have := h.setCells cs.toList 0
 rwa [splice_whole c cs.toList (by simpa using hn)] at this
theorem Blk.there {w : World} {g : Nat} {t : TypeId} {c : Array Value} (h : Blk w g t c) {n : Nat} (hn : n ≤ c.size) : w.there g 0 n := fun j hj =>
 ⟨by rw [Nat.zero_add, h.cell j, Array.getElem?_eq_getElem (by omega)]; rfl, by rw [Nat.zero_add]; exact h.frozen j⟩
theorem step_store_mid {P : Program} {ops : Array Oper} {op : Oper} {a : Act} {w : World} {K : Act → World → Prop} {Q : Exit → Act → World → Prop} {E : Prop} (hw : Region.wanted op (yielded ops a.tmps) = true) (ty : TypeId) (x y : Operand) (ho : op.op = .store ty x y)
   (b o : Nat) (cells : Array Value) (hx : a.eval x = .pointer (some ⟨b, o, none⟩)) (hy : a.eval y = .agg cells)
   (ht : w.there b o cells.size) (hi : (P.info? ty).map (·.size) = some cells.size) (h1 : cells.all (·.oneCell') = true)
   (h : K (a.put op.dst undef) (w.setCells b o cells.toList)) : if Region.wanted op (yielded ops a.tmps) = true then Oper.wp P op a w K Q else E := by
 rw [if_pos hw]; exact wp_store_mid ty x y ho b o cells hx hy ht hi h1 h
theorem results_cell_and {P : Program} {fn : Func} {p q : Tmp} {ty : TypeId} (h : fn.results = #[.cell p ty, .tmp q]) {tmps : Array Value} {w : World} {a : Addr} {u v : Value} (hp : tmps.getD p undef = .pointer (some a)) (hq : tmps.getD q undef = v)
   (hu : (loadVar ty a).run P w = .ok u w) : (results fn tmps).run P w = .ok (.tuple #[u, v]) w := by
 have hp' : tmps[p]?.getD undef = .pointer (some a) := by simpa using hp
 have hq' : tmps[q]?.getD undef = v := by simpa using hq
 simp [results, h, hp', hq', asAddr, hu]
theorem ints_oneCell (l : List Int) : (ints l).toArray.all (·.oneCell') = true :=
 all_oneCell_toArray (fun v hv => by obtain ⟨x, _, rfl⟩ := List.mem_map.1 hv; rfl)
end Go.Proofs.YtadnlannbafjpaaGreat
/- A slice that reads as a list, and an append of it onto a row of the call's own. -/
namespace Go.Proofs.YtadnlannbafjpaaGreat
open Go.RowKit
theorem block_of_add (a : Addr) (n : Nat) : (a.add n).block = a.block := by unfold Addr.add; split <;> rfl
theorem add_of_add (a : Addr) (i j : Nat) : (a.add i).add j = a.add (i + j) := by
 unfold Addr.add
 by_cases hi : i = 0 <;> by_cases hj : j = 0 <;> simp [hi, hj, Nat.add_assoc]
def Reads (w : World) (B size : Nat) (A : Option Addr) (n : Nat) (xs : List Value) : Prop :=
 xs.length = n * size ∧ (0 < n → ∃ ad, A = some ad ∧ ad.block < B ∧ ∀ j u, xs[j]? = some u → w.cell? (ad.add j) = some u)
section
variable {w w' : World} {B B' size n : Nat} {A : Option Addr} {xs : List Value}
theorem Reads.none_ : Reads w B size A 0 [] := ⟨by simp, fun h => absurd h (by omega)⟩
theorem Reads.keep (h : Reads w B size A n xs) (hk : ∀ p : Addr, p.block < B → w'.cell? p = w.cell? p) : Reads w' B size A n xs :=
 ⟨h.1, fun hn => by
   obtain ⟨ad, e, hb, hc⟩ := h.2 hn
   exact ⟨ad, e, hb, fun j u hu => (hk _ (by rw [block_of_add]; exact hb)).trans (hc j u hu)⟩⟩
theorem Reads.below (h : Reads w B size A n xs) (hb : Below B w w') : Reads w' B size A n xs := h.keep fun _ hp => hb.cell hp
theorem Reads.of_own {base : Nat} {e : TypeId} {c : Nat} (h : w.ownsRow base e size (.slice A n c) n xs) : Reads w w.heap.size size A n xs := by
 refine ⟨h.1, fun hn => ?_⟩
 obtain ⟨g, cap, hv, _, hlt⟩ := h.form hn
 have hA : A = some ⟨g, 0, none⟩ := by injection hv
 subst hA
 exact ⟨_, rfl, hlt, h.cells (g := g) rfl⟩
end
section
variable {P : Program} (w : World)
theorem run_append_of_nil (base : Nat) (t ty e : TypeId) (i : TypeInfo) (size : Nat) (ht : P.underlying t = some (.slice e)) (hi : P.info? e = some i)
   (v : Value) (n : Nat) (xs : List Value) (hown : w.ownsRow base e size v n xs) (c : Nat) : (Builtin.append_ #[t, t] ty #[v, .slice none 0 c]).run P w = .ok v w := by
 rcases hown.2 with ⟨rfl, rfl⟩ | ⟨g, cap, cur, rfl, _, _, hnc, _⟩
 · simp [Builtin.append_, run_underlying ht, sizeOf, typeInfo, hi, Builtin.lenOf, Builtin.firstCells]
 · simp [Builtin.append_, run_underlying ht, sizeOf, typeInfo, hi, Builtin.lenOf, Builtin.firstCells, hnc, storeCells]
theorem run_append_any (base : Nat) (t ty e : TypeId) (i : TypeInfo) (z : Value) (size bytes : Nat) (ht : P.underlying t = some (.slice e)) (hi : P.info? e = some i) (hz : i.zero = some z)
   (hsize : i.size = size) (hby : i.bytes = bytes) (hzs : z.cells.size = size) (hsz : 0 < size)
   (v : Value) (n : Nat) (xs : List Value) (hown : w.ownsRow base e size v n xs)
   (B : Nat) (A : Option Addr) (m c : Nat) (news : List Value) (hr : Reads w B size A m news) (h1 : ∀ u ∈ news, u.oneCell' = true)
   (h63 : n + m ≤ maxLen) (hbytes : (n + m) * bytes ≤ 140737488355328) (hbase : base ≤ w.heap.size) :
   ∃ v' w', (Builtin.append_ #[t, t] ty #[v, .slice A m c]).run P w = .ok v' w' ∧ w'.ownsRow base e size v' (n + m) (xs ++ news) ∧ w.grownBy w' v.ownBlock ∧
     (v'.ownBlock = v.ownBlock ∨ v'.ownBlock = some w.heap.size) := by
 rcases A with _ | ad
 · have hm : m = 0 := by
     rcases Nat.eq_zero_or_pos m with h0 | h0
     · exact h0
     · obtain ⟨ad, h, _⟩ := hr.2 h0
       cases h
   subst hm
   have hn : news = [] := List.eq_nil_of_length_eq_zero (by simpa using hr.1)
   subst hn
   exact ⟨v, w, run_append_of_nil w base t ty e i size ht hi v n xs hown c, by simpa using hown, World.grownBy.refl w _, .inl rfl⟩
 · have hcells : ∀ j u, news[j]? = some u → w.cell? (ad.add j) = some u := by
     intro j u hu
     rcases Nat.eq_zero_or_pos m with h0 | h0
     · subst h0
       have hn : news = [] := List.eq_nil_of_length_eq_zero (by simpa using hr.1)
       subst hn
       simp at hu
     · obtain ⟨ad', h, _, hc⟩ := hr.2 h0
       injection h with h
       subst h
       exact hc j u hu
   obtain ⟨v', w', hrun, h2, h3, _, h5⟩ := run_append_own_at (P := P) w base t ty e i z size bytes ht hi hz hsize hby hzs hsz v n xs hown ad m c news hr.1 hcells h1 h63 hbytes hbase
   exact ⟨v', w', hrun, h2, h3, h5⟩
theorem wp_append_any {o : Oper} {a : Act} {K : Act → World → Prop} {Q : Exit → Act → World → Prop} (s x : Operand) (t : TypeId)
   (ho : o.op = .call { callee := .builtin .append, args := #[s, x], argTypes := #[t, t] })
   (base : Nat) (e : TypeId) (i : TypeInfo) (z : Value) (size bytes : Nat) (ht : P.underlying t = some (.slice e)) (hi : P.info? e = some i) (hz : i.zero = some z)
   (hsize : i.size = size) (hby : i.bytes = bytes) (hzs : z.cells.size = size) (hsz : 0 < size)
   (v : Value) (n : Nat) (xs : List Value) (hs : a.eval s = v) (hown : w.ownsRow base e size v n xs)
   (B : Nat) (A : Option Addr) (m c : Nat) (news : List Value) (hx : a.eval x = .slice A m c) (hr : Reads w B size A m news) (h1 : ∀ u ∈ news, u.oneCell' = true)
   (h63 : n + m ≤ maxLen) (hbytes : (n + m) * bytes ≤ 140737488355328) (hbase : base ≤ w.heap.size)
   (h : ∀ v' w', w'.ownsRow base e size v' (n + m) (xs ++ news) → w.grownBy w' v.ownBlock → (v'.ownBlock = v.ownBlock ∨ v'.ownBlock = some w.heap.size) → K (a.put o.dst v') w') : o.wp P a w K Q := by
 obtain ⟨v', w', hrun, h2, h3, h4⟩ := run_append_any (P := P) w base t o.type e i z size bytes ht hi hz hsize hby hzs hsz v n xs hown B A m c news hr h1 h63 hbytes hbase
 unfold Oper.wp execOp
 simp only [ho, resolve, invoke, builtin, Sem.run_bind, Sem.run_pure, Result.andThen_ok, List.map_toArray, List.map_cons, List.map_nil, hs, hx, hrun]
 exact h v' w' h2 h3 h4
theorem wpList_append_any {ops : Array Oper} {rest : List Oper} {o : Oper} {a : Act} {Q : Exit → Act → World → Prop} (hgd : o.guard = none) (s x : Operand) (t : TypeId)
   (ho : o.op = .call { callee := .builtin .append, args := #[s, x], argTypes := #[t, t] })
   (base : Nat) (e : TypeId) (i : TypeInfo) (z : Value) (size bytes : Nat) (ht : P.underlying t = some (.slice e)) (hi : P.info? e = some i) (hz : i.zero = some z)
   (hsize : i.size = size) (hby : i.bytes = bytes) (hzs : z.cells.size = size) (hsz : 0 < size)
   (v : Value) (n : Nat) (xs : List Value) (hs : a.eval s = v) (hown : w.ownsRow base e size v n xs)
   (B : Nat) (A : Option Addr) (m c : Nat) (news : List Value) (hx : a.eval x = .slice A m c) (hr : Reads w B size A m news) (h1 : ∀ u ∈ news, u.oneCell' = true)
   (h63 : n + m ≤ maxLen) (hbytes : (n + m) * bytes ≤ 140737488355328) (hbase : base ≤ w.heap.size)
   (h : ∀ v' w', w'.ownsRow base e size v' (n + m) (xs ++ news) → w.grownBy w' v.ownBlock → (v'.ownBlock = v.ownBlock ∨ v'.ownBlock = some w.heap.size) → wpList P ops Q rest (a.put o.dst v') w') : wpList P ops Q (o :: rest) a w :=
 wpList_plain hgd fun _ hK => wp_append_any w s x t ho base e i z size bytes ht hi hz hsize hby hzs hsz v n xs hs hown B A m c news hx hr h1 h63 hbytes hbase fun v' w' h2 h3 h4 => hK _ _ (h v' w' h2 h3 h4)
theorem step_append_any {ops : Array Oper} {o : Oper} {a : Act} {K : Act → World → Prop} {Q : Exit → Act → World → Prop} {E : Prop} (hgd : o.guard = none) (s x : Operand) (t : TypeId)
   (ho : o.op = .call { callee := .builtin .append, args := #[s, x], argTypes := #[t, t] })
   (base : Nat) (e : TypeId) (i : TypeInfo) (z : Value) (size bytes : Nat) (ht : P.underlying t = some (.slice e)) (hi : P.info? e = some i) (hz : i.zero = some z)
   (hsize : i.size = size) (hby : i.bytes = bytes) (hzs : z.cells.size = size) (hsz : 0 < size)
   (v : Value) (n : Nat) (xs : List Value) (hs : a.eval s = v) (hown : w.ownsRow base e size v n xs)
   (B : Nat) (A : Option Addr) (m c : Nat) (news : List Value) (hx : a.eval x = .slice A m c) (hr : Reads w B size A m news) (h1 : ∀ u ∈ news, u.oneCell' = true)
   (h63 : n + m ≤ maxLen) (hbytes : (n + m) * bytes ≤ 140737488355328) (hbase : base ≤ w.heap.size)
   (h : ∀ v' w', w'.ownsRow base e size v' (n + m) (xs ++ news) → w.grownBy w' v.ownBlock → (v'.ownBlock = v.ownBlock ∨ v'.ownBlock = some w.heap.size) → K (a.put o.dst v') w') :
   if Region.wanted o (yielded ops a.tmps) = true then Oper.wp P o a w K Q else E := by
 have hw : Region.wanted o (yielded ops a.tmps) = true := by simp [Region.wanted, hgd]
 rw [if_pos hw]
 exact wp_append_any w s x t ho base e i z size bytes ht hi hz hsize hby hzs hsz v n xs hs hown B A m c news hx hr h1 h63 hbytes hbase h
end
end Go.Proofs.YtadnlannbafjpaaGreat
/- What a call turns, of the blocks that were there. -/
namespace Go.Proofs.YtadnlannbafjpaaGreat
open Go.RowKit
set_option linter.unusedVariables false
set_option linter.unusedSimpArgs false
structure Turn (S : Nat → Prop) (w w' : World) : Prop where
 os : w'.os = w.os
 tape : w'.tape = w.tape
 output : w'.output = w.output
 size : w.heap.size ≤ w'.heap.size
 block : ∀ k, k < w.heap.size → ¬ S k → w'.heap[k]? = w.heap[k]?
section
variable {S S' : Nat → Prop} {w w' w'' : World} {B : Nat}
theorem Turn.refl (S : Nat → Prop) (w : World) : Turn S w w := ⟨rfl, rfl, rfl, Nat.le_refl _, fun _ _ _ => rfl⟩
theorem Turn.mono (h : Turn S w w') (hS : ∀ k, k < w.heap.size → S k → S' k) : Turn S' w w' := ⟨h.os, h.tape, h.output, h.size, fun k hk hn => h.block k hk fun hs => hn (hS k hk hs)⟩
theorem Turn.trans (h : Turn S w w') (h' : Turn S' w' w'') (hS : ∀ k, k < w.heap.size → S' k → S k) : Turn S w w'' :=
 ⟨h'.os.trans h.os, h'.tape.trans h.tape, h'.output.trans h.output, Nat.le_trans h.size h'.size, fun k hk hn => (h'.block k (Nat.lt_of_lt_of_le hk h.size) fun hs => hn (hS k hk hs)).trans (h.block k hk hn)⟩
theorem Turn.of_below (h : Below w.heap.size w w') : Turn S w w' := ⟨h.os, h.tape, h.output, h.size, fun k hk _ => h.block k hk⟩
theorem Turn.below (h : Turn S w w') (hS : ∀ k, k < B → ¬ S k) (hB : B ≤ w.heap.size) : Below B w w' := ⟨h.os, h.tape, h.output, h.size, fun k hk => h.block k (by omega) (hS k hk)⟩
theorem Turn.drew (h : Turn S w w') : Turn S w w'.drew := ⟨h.os, h.tape, h.output, h.size, h.block⟩
theorem Turn.step (h : Turn S w w') (hb : Below w'.heap.size w' w'') : Turn S w w'' := h.trans (S' := fun _ => False) (Turn.of_below hb) fun _ _ hf => hf.elim
theorem Turn.alloc (h : Turn S w w') (o : Obj) : Turn S w (w'.alloc o) := h.step (Below.alloc (Below.refl _ _) (Nat.le_refl _) o)
theorem Turn.setCell (h : Turn S w w') {p : Addr} (hp : p.block < w.heap.size → S p.block) (u : Value) : Turn S w (w'.setCell p u) :=
 ⟨h.os, h.tape, h.output, by simpa [World.setCell] using h.size, fun k hk hn => (Below.heap_setCell w' p u k fun e => hn (by subst e; exact hp hk)).trans (h.block k hk hn)⟩
theorem Turn.setCells {b : Nat} (hb : b < w.heap.size → S b) : ∀ (vs : List Value) (o : Nat) (w' : World), Turn S w w' → Turn S w (w'.setCells b o vs)
 | [], _, _, h => h
 | v :: r, o, w', h => Turn.setCells hb r (o + 1) _ (h.setCell (p := ⟨b, o, none⟩) hb v)
theorem Turn.grown (h : Turn S w w') {row : Option Nat} (hg : w'.grownBy w'' row) (hr : ∀ k, row = some k → k < w.heap.size → S k) : Turn S w w'' :=
 ⟨hg.os.trans h.os, hg.tape.trans h.tape, hg.output.trans h.output, Nat.le_trans h.size hg.size,
   fun k hk hn => (hg.block k (Nat.lt_of_lt_of_le hk h.size) fun e => hn (hr k e.symm hk)).trans (h.block k hk hn)⟩
theorem Blk.turn {g : Nat} {t : TypeId} {cs : Array Value} (h : Blk w g t cs) (ht : Turn S w w') (hn : ¬ S g) : Blk w' g t cs := (ht.block g h.lt hn).trans h
end
theorem own_heap {w : World} {base n size : Nat} {e : TypeId} {v : Value} {xs : List Value} (h : w.ownsRow base e size v n xs) : ∀ k, v.ownBlock = some k → ∃ cur, w.heap[k]? = some (.cells cur e (0, 0)) ∧ base ≤ k := by
 intro k hk
 rcases h.2 with ⟨rfl, _⟩ | ⟨g, cap, cur, rfl, hb, hh, _⟩
 · simp [Value.ownBlock] at hk
 · simp [Value.ownBlock] at hk; subst hk; exact ⟨cur, hh, hb⟩
theorem own_lt {w : World} {k : Nat} {o : Obj} (h : w.heap[k]? = some o) : k < w.heap.size := by
 rcases Nat.lt_or_ge k w.heap.size with hlt | hge
 · exact hlt
 · rw [Array.getElem?_eq_none hge] at h; cases h
theorem own_turn {S : Nat → Prop} {w w' : World} {base n size : Nat} {e : TypeId} {v : Value} {xs : List Value} (h : w.ownsRow base e size v n xs) (ht : Turn S w w') (hn : ∀ k, v.ownBlock = some k → ¬ S k) : w'.ownsRow base e size v n xs := by
 rcases h with ⟨h0, h1 | ⟨g, cap, cur, hv, hg, hh, h2⟩⟩
 · exact ⟨h0, .inl h1⟩
 · exact ⟨h0, .inr ⟨g, cap, cur, hv, hg, (ht.block g (own_lt hh) (hn g (by rw [hv]; rfl))).trans hh, h2⟩⟩
theorem own_less {w : World} {base base' n size : Nat} {e : TypeId} {v : Value} {xs : List Value} (h : w.ownsRow base e size v n xs) (hb : base' ≤ base) : w.ownsRow base' e size v n xs := by
 rcases h with ⟨h0, h1 | ⟨g, cap, cur, hv, hg, h2⟩⟩
 · exact ⟨h0, .inl h1⟩
 · exact ⟨h0, .inr ⟨g, cap, cur, hv, Nat.le_trans hb hg, h2⟩⟩
theorem heap_ne {w : World} {g g' : Nat} {t t' : TypeId} {c c' : Array Value} {f f' : Nat × Nat} (h : w.heap[g]? = some (.cells c t f)) (h' : w.heap[g']? = some (.cells c' t' f')) (ht : t ≠ t') : g ≠ g' := by
 intro e; subst e; rw [h] at h'; injection h' with h'; injection h' with _ h' _; exact ht h'
theorem Blk.grown {W w3 : World} {k : Nat} {t : TypeId} {cs : Array Value} {r : Option Nat} (h : Blk W k t cs) (hg : W.grownBy w3 r) (hr : r ≠ some k) : Blk w3 k t cs := (hg.block k h.lt fun e => hr e.symm).trans h
theorem own_cell {w : World} {B r n m c size : Nat} {t : TypeId} {xs : List Value} (h : w.ownsRow B t size (.slice (some ⟨r, 0, none⟩) n c) m xs) {k : Nat} {u : Value} (hk : xs[k]? = some u) : w.cell? ⟨r, k, none⟩ = some u := by
 have := h.cells (g := r) rfl k _ hk
 rwa [show (⟨r, 0, none⟩ : Addr).add k = ⟨r, k, none⟩ by unfold Addr.add; split <;> simp_all] at this
theorem own_setV {w : World} {B r n m c size : Nat} {t : TypeId} {xs : List Value} (h : w.ownsRow B t size (.slice (some ⟨r, 0, none⟩) n c) m xs) (k : Nat) (u : Value) :
   (w.setCell ⟨r, k, none⟩ u).ownsRow B t size (.slice (some ⟨r, 0, none⟩) n c) m (xs.set k u) := by
 obtain ⟨h0, h1 | ⟨g, cap, cur, hv, hb, hh, hnc, hcm, hcs, ht⟩⟩ := h
 · obtain ⟨h1, _⟩ := h1; cases h1
 · injection hv with e1 e2 e3
   injection e1 with e1
   injection e1 with e1 _ _
   subst e1 e3
   refine ⟨by rw [List.length_set]; exact h0, .inr ⟨r, c, cur.setIfInBounds k u, by rw [e2], hb, Blk.set_ (g := r) (t := t) (cs := cur) hh k _, hnc, hcm, by simpa using hcs, ?_⟩⟩
   rw [Array.toList_setIfInBounds, List.take_set, ht]
theorem own_hot {w : World} {B r n m c size : Nat} {t : TypeId} {xs : List Value} (h : w.ownsRow B t size (.slice (some ⟨r, 0, none⟩) n c) m xs) (k : Nat) : w.frozen? ⟨r, k, none⟩ = false := by
 obtain ⟨cur, hh, _⟩ := own_heap h r rfl
 simp [World.frozen?, hh]
abbrev VP := Int × Value
def putG (k : Int) (x : Value) : List VP → List VP
 | [] => [(k, x)]
 | p :: r => if k < p.1 then (k, x) :: p :: r else if p.1 = k then (k, x) :: r else p :: putG k x r
def atG (k : Int) : List VP → Option Value
 | [] => none
 | p :: r => if p.1 = k then some p.2 else atG k r
def RisG (L : List VP) : Prop := L.Pairwise fun p q => p.1 < q.1
def pairG (p : VP) : Lit × DataW Value := (.int .i64 p.1, .held p.2)
def DV (L : List VP) : DataW Value := .map (L.map pairG)
def heldR (v : Value) : Option (DataW Value × List MemPlace) := some (.held v, [])
theorem held_eq {v z : Value} {ps : List MemPlace} (h : heldR v = some (.held z, ps)) : v = z := by
 simp only [heldR, Option.some.injEq, Prod.mk.injEq, DataW.held.injEq] at h
 exact h.1
theorem risG_cons {p : VP} {L : List VP} : RisG (p :: L) ↔ (∀ q ∈ L, p.1 < q.1) ∧ RisG L := List.pairwise_cons
theorem putG_mem {k : Int} {x : Value} : ∀ {L : List VP} {q : VP}, q ∈ putG k x L → q = (k, x) ∨ q ∈ L
 | [], q, h => by simp [putG] at h; exact .inl h
 | p :: r, q, h => by
   unfold putG at h
   split at h
   · rcases List.mem_cons.1 h with h | h
     · exact .inl h
     · exact .inr h
   · split at h
     · rcases List.mem_cons.1 h with h | h
       · exact .inl h
       · exact .inr (List.mem_cons_of_mem _ h)
     · rcases List.mem_cons.1 h with h | h
       · exact .inr (by simp [h])
       · rcases putG_mem h with h | h
         · exact .inl h
         · exact .inr (List.mem_cons_of_mem _ h)
theorem risG_put {k : Int} {x : Value} : ∀ {L : List VP}, RisG L → RisG (putG k x L)
 | [], _ => by simp [putG, RisG]
 | p :: r, h => by
   obtain ⟨h1, h2⟩ := risG_cons.1 h
   unfold putG
   split
   · rename_i hk
     exact risG_cons.2 ⟨fun q hq => by
       rcases List.mem_cons.1 hq with rfl | hq
       · exact hk
       · have := h1 q hq; show k < q.1; omega, h⟩
   · split
     · rename_i hk
       exact risG_cons.2 ⟨fun q hq => by have := h1 q hq; show k < q.1; omega, h2⟩
     · refine risG_cons.2 ⟨fun q hq => ?_, risG_put h2⟩
       rcases putG_mem hq with rfl | hq
       · show p.1 < k; omega
       · exact h1 q hq
theorem atG_put (k : Int) (x : Value) (k' : Int) : ∀ {L : List VP}, RisG L → atG k' (putG k x L) = if k' = k then some x else atG k' L
 | [], _ => by
   by_cases e : k' = k
   · simp [putG, atG, e]
   · simp [putG, atG, e, Ne.symm e]
 | p :: r, h => by
   unfold putG
   split
   · rename_i h1
     simp only [atG]
     by_cases e : k' = k
     · rw [if_pos e, if_pos e.symm]
     · rw [if_neg (Ne.symm e), if_neg e]
   · split
     · rename_i h1 h2
       simp only [atG]
       by_cases e : k' = k
       · rw [if_pos e, if_pos e.symm]
       · rw [if_neg (Ne.symm e), if_neg e, if_neg (by omega)]
     · rename_i h1 h2
       simp only [atG]
       rw [atG_put k x k' (risG_cons.1 h).2]
       by_cases e : k' = k
       · rw [if_pos e, if_neg (by omega), if_pos e]
       · rw [if_neg e, if_neg e]
/-! ### as the reader reads it -/
theorem sameG (a b : Int) : (Lit.int .i64 a).sameKey (.int .i64 b) = decide (a = b) := by simp [Lit.sameKey]
theorem DV_at (L : List VP) (k : Int) (z : DataW Value) : (DV L).atKey (.int .i64 k) z = match atG k L with | some s => .held s | none => z := by
 unfold DV DataW.atKey
 dsimp only
 induction L with
 | nil => rfl
 | cons p r ih =>
   rw [List.map_cons, List.find?_cons]
   simp only [pairG, sameG, atG]
   by_cases h : p.1 = k
   · simp [h]
   · simp only [h, decide_false, if_false]
     exact ih
def delG (k : Int) (L : List VP) : List VP := L.filter fun p => decide (p.1 ≠ k)
theorem DV_filter (L : List VP) (k : Int) : (L.map pairG).filter (fun p => !p.1.sameKey (.int .i64 k)) = (delG k L).map pairG := by
 induction L with
 | nil => rfl
 | cons p r ih =>
   rw [List.map_cons, List.filter_cons]
   unfold delG at *
   rw [List.filter_cons]
   simp only [pairG, sameG]
   by_cases h : p.1 = k
   · simp only [h, decide_true, Bool.not_true, Bool.false_eq_true, if_false, ne_eq, not_true_eq_false, decide_false]
     exact ih
   · simp only [h, decide_false, Bool.not_false, if_true, ne_eq, not_false_eq_true, decide_true, List.map_cons]
     rw [← ih]; rfl
theorem insert_DV (k : Int) (x : Value) : ∀ {L : List VP}, RisG L → DataW.insert (pairG (k, x)) ((delG k L).map pairG) = (putG k x L).map pairG
 | [], _ => rfl
 | p :: r, h => by
   obtain ⟨h1, h2⟩ := risG_cons.1 h
   unfold delG putG
   rw [List.filter_cons]
   by_cases hk : k < p.1
   · have hr : r.filter (fun p => decide (p.1 ≠ k)) = r := List.filter_eq_self.2 fun q hq => by have := h1 q hq; simp; omega
     rw [if_pos (by simp; omega), if_pos hk, hr, List.map_cons]
     unfold DataW.insert
     rw [if_pos (by simp [pairG, Lit.before, hk])]
     rfl
   · by_cases he : p.1 = k
     · have hr : r.filter (fun p => decide (p.1 ≠ k)) = r := List.filter_eq_self.2 fun q hq => by have := h1 q hq; simp; omega
       rw [if_neg (by simp [he]), if_neg hk, if_pos he, hr]
       cases r with
       | nil => rfl
       | cons q r =>
         have := h1 q (by simp)
         rw [List.map_cons]
         unfold DataW.insert
         rw [if_pos (by simp [pairG, Lit.before]; omega)]
         rfl
     · rw [if_pos (by simp [he]), if_neg hk, if_neg he, List.map_cons, List.map_cons]
       unfold DataW.insert
       rw [if_neg (by simp [pairG, Lit.before]; omega)]
       exact congrArg _ (insert_DV k x h2)
theorem DV_put {L : List VP} (h : RisG L) (k : Int) (x : Value) : (DV L).put (.int .i64 k) (.held x) = DV (putG k x L) := by
 show DataW.map (DataW.insert (pairG (k, x)) ((L.map pairG).filter fun p => !p.1.sameKey (.int .i64 k))) = _
 rw [DV_filter, insert_DV k x h]; rfl
theorem keyedV : Maps.Keyed Tryz.prog 3 := Maps.int_keyed Tryz.underlying3
theorem keyV {k : Int} (h : (Lit.int .i64 k).wf = true) : keyOf Tryz.prog 3 (.int .i64 k) = some (.int .i64 k) := Maps.keyOf_int_mk Tryz.underlying3 h
abbrev MapL (w : World) (b n : Nat) (L : List VP) : Prop := w.ownsMap Tryz.prog 3 heldR b n (DV L)
def MapV (w : World) (b n : Nat) (f : Int → Option Value) : Prop := ∃ L : List VP, RisG L ∧ MapL w b n L ∧ ∀ k, atG k L = f k
section
variable {w w' : World} {b n : Nat} {f : Int → Option Value}
theorem MapV.lt (h : MapV w b n f) : b < w.heap.size := by obtain ⟨L, _, h1, _⟩ := h; exact World.ownsMap.lt h1
theorem MapV.heap (h : MapV w b n f) : ∃ es clock, w.heap[b]? = some (.map es clock) := by obtain ⟨L, _, ⟨es, clock, h1, _⟩, _⟩ := h; exact ⟨es, clock, h1⟩
theorem MapV.of_block (h : MapV w b n f) (hk : w'.heap[b]? = w.heap[b]?) : MapV w' b n f := by
 obtain ⟨L, h0, ⟨es, clock, h1, h2⟩, h3⟩ := h
 exact ⟨L, h0, ⟨es, clock, hk.trans h1, h2⟩, h3⟩
theorem MapV.below {B : Nat} (h : MapV w b n f) (hb : Below B w w') (hB : b < B) : MapV w' b n f := h.of_block (hb.block b hB)
theorem MapV.here (h : MapV w b n f) (hb : Below w.heap.size w w') : MapV w' b n f := h.below hb h.lt
theorem MapV.turn {S : Nat → Prop} (h : MapV w b n f) (ht : Turn S w w') (hn : ¬ S b) : MapV w' b n f := h.of_block (ht.block b h.lt hn)
theorem MapV.alloc (h : MapV w b n f) (o : Obj) : MapV (w.alloc o) b n f := h.here (Below.alloc (Below.refl _ _) (Nat.le_refl _) o)
theorem MapV.more {n' : Nat} (h : MapV w b n f) (hn : n ≤ n') : MapV w b n' f := by obtain ⟨L, h0, h1, h2⟩ := h; exact ⟨L, h0, World.ownsMap.mono h1 hn, h2⟩
theorem MapV.to {g : Int → Option Value} (h : MapV w b n f) (e : ∀ k, f k = g k) : MapV w b n g := by obtain ⟨L, h0, h1, h2⟩ := h; exact ⟨L, h0, h1, fun k => (h2 k).trans (e k)⟩
theorem MapV.ne {g : Nat} {t : TypeId} {cs : Array Value} {fz : Nat × Nat} (h : MapV w b n f) (hk : w.heap[g]? = some (.cells cs t fz)) : b ≠ g := fun e => by
 obtain ⟨es, clock, h1⟩ := h.heap
 subst e
 rw [h1] at hk
 cases hk
theorem MapV.ne_row {base k size : Nat} {e : TypeId} {v : Value} {xs : List Value} (h : MapV w b n f) (ho : w.ownsRow base e size v k xs) : v.ownBlock ≠ some b := fun e => by
 obtain ⟨cur, hh, _⟩ := own_heap ho b e
 exact MapV.ne h hh rfl
theorem mapV_made (w : World) : MapV (w.alloc (.map #[] 0)) w.heap.size 0 (fun _ => none) := ⟨[], List.Pairwise.nil, World.ownsMap_made w _ _ _, fun k => rfl⟩
/-! ### at the operation -/
theorem MapV.look (h : MapV w b n f) {t e : TypeId} (ht : Tryz.prog.underlying t = some (.map 3 e)) {z : Value} (hz : (zeroValue e).run Tryz.prog w = .ok z w) {k : Int} (hk : (Lit.int .i64 k).wf = true) :
   (Instr.lookup t (.map (some b)) (.int .i64 k) false).run Tryz.prog w = .ok ((f k).getD z) w := by
 obtain ⟨L, h0, h1, h2⟩ := h
 obtain ⟨v, ps, hrun, hv⟩ := World.ownsMap.lookup h1 keyedV ht hz (zd := .held z) (zp := []) rfl (keyV hk)
 rw [hrun]
 rw [DV_at] at hv
 rw [← h2 k]
 cases hs : atG k L with
 | none => rw [hs] at hv; rw [held_eq hv]; rfl
 | some s => rw [hs] at hv; rw [held_eq hv]; rfl
theorem MapV.put (h : MapV w b n f) {t e : TypeId} (ht : Tryz.prog.underlying t = some (.map 3 e)) (hn : n < maxLen) {k : Int} (hk : (Lit.int .i64 k).wf = true) (v : Value) :
   ∃ w', (Instr.mapUpdate t (.map (some b)) (.int .i64 k) v).run Tryz.prog w = .ok () w' ∧ MapV w' b (n + 1) (fun j => if j = k then some v else f j) ∧ w.grownBy w' (some b) ∧ w'.heap.size = w.heap.size := by
 obtain ⟨L, h0, h1, h2⟩ := h
 obtain ⟨w', hrun, r1, r2⟩ := World.ownsMap.store h1 keyedV ht hn (keyV hk) (show heldR v = some (.held v, []) from rfl)
 rw [DV_put h0] at r1
 refine ⟨w', hrun, ⟨_, risG_put h0, r1, fun j => by rw [atG_put k v j h0, h2 j]⟩, r2.grown, ?_⟩
 obtain ⟨es, clock, es', clock', hb, rfl⟩ := r2
 simp [ChangeMaps.setBlock]
end
section
variable {w : World} {ops : Array Oper} {rest : List Oper} {o : Oper} {a : Act} {Q : Exit → Act → World → Prop} {K : Act → World → Prop} {b n : Nat} {f : Int → Option Value}
theorem wpList_lookV (w : World) (hg : o.guard = none) (m x : Operand) (t : TypeId) (hop : o.op = Op.lookup t m x false) (e : TypeId) (ht : Tryz.prog.underlying t = some (.map 3 e)) (z : Value) (hz : (zeroValue e).run Tryz.prog w = .ok z w)
   (hm : a.eval m = .map (some b)) (h : MapV w b n f) (k : Int) (hx : a.eval x = .int .i64 k) (hk : (Lit.int .i64 k).wf = true) (v : Value) (hv : (f k).getD z = v) (hK : wpList Tryz.prog ops Q rest (a.put o.dst v) w) : wpList Tryz.prog ops Q (o :: rest) a w := by
 subst hv
 refine wpList_plain hg fun K' hK' => ?_
 unfold Oper.wp
 simp [execOp, hop, hm, hx, h.look ht hz hk, Result.andThen]
 exact hK' _ _ hK
theorem wpList_putV (w : World) (hg : o.guard = none) (m x y : Operand) (t : TypeId) (hop : o.op = Op.mapUpdate t m x y) (e : TypeId) (ht : Tryz.prog.underlying t = some (.map 3 e))
   (hm : a.eval m = .map (some b)) (h : MapV w b n f) (hn : n < maxLen) (k : Int) (hx : a.eval x = .int .i64 k) (hk : (Lit.int .i64 k).wf = true) (v : Value) (hy : a.eval y = v)
   (hK : ∀ w', MapV w' b (n + 1) (fun j => if j = k then some v else f j) → w.grownBy w' (some b) → w'.heap.size = w.heap.size → wpList Tryz.prog ops Q rest (a.put o.dst undef) w') : wpList Tryz.prog ops Q (o :: rest) a w := by
 refine wpList_plain hg fun K' hK' => ?_
 obtain ⟨w', hrun, r1, r2, r3⟩ := h.put ht hn hk v
 unfold Oper.wp
 simp [execOp, hop, hm, hx, hy, hrun, Result.andThen]
 exact hK' _ _ (hK w' r1 r2 r3)
theorem step_putV (w : World) {k : Int} {v : Value} (hop : ∃ m x y t e, o.op = Op.mapUpdate t m x y ∧ Tryz.prog.underlying t = some (.map 3 e) ∧ a.eval m = .map (some b) ∧ a.eval x = .int .i64 k ∧ a.eval y = v)
   (h : MapV w b n f) (hn : n < maxLen) (hk : (Lit.int .i64 k).wf = true) (hK : ∀ w', MapV w' b (n + 1) (fun j => if j = k then some v else f j) → w.grownBy w' (some b) → w'.heap.size = w.heap.size → K (a.put o.dst undef) w') : o.wp Tryz.prog a w K Q := by
 obtain ⟨m, x, y, t, e, ho, ht, hm, hx, hy⟩ := hop
 obtain ⟨w', hrun, r1, r2, r3⟩ := h.put ht hn hk v
 unfold Oper.wp
 simp [execOp, ho, hm, hx, hy, hrun, Result.andThen]
 exact hK w' r1 r2 r3
end
end Go.Proofs.YtadnlannbafjpaaGreat
