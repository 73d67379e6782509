/- Comparison of plain data: integers, and structs and arrays of such, side by side. -/
import Derived.Test.YthdfgdehddmkpaaBase
import Derived.Laws.StructEq
import Derived.BigFrame
namespace Go.Proofs.Ythdfgdehddmkpaa
open Go.RowKit
set_option linter.unusedVariables false
set_option linter.unusedSimpArgs false

/-- Integers as values. -/
def ints (l : List Int) : List Value := l.map (Value.int .i64)
@[simp] theorem ints_length (l : List Int) : (ints l).length = l.length := by simp [ints]
/-- Integers as one value: an integer, or what is made of some. -/
def flatV (ag : Bool) (l : List Int) : Value := if ag then .agg (ints l).toArray else .int .i64 (l.headD 0)

/-- The fields stand side by side, from a place on; where they end. -/
def flatFs (F : TypeId → Option (Bool × Nat)) : Nat → List Field → Option Nat
  | off, [] => some off
  | off, f :: fs => if f.name = "_" ∨ f.offset ≠ off then none else match F f.type with
    | some (_, k) => flatFs F (off + k) fs
    | none => none
/-- A type of integers alone: whether it is made of parts, and of how many. -/
def flatB (P : Program) : Nat → TypeId → Option (Bool × Nat)
  | 0, _ => none
  | d + 1, t => match P.underlying t with
    | some (.int _) => if (P.info? t).map (·.size) = some 1 then some (false, 1) else none
    | some (.struct fs) => if P.stoodInHeld t then none else match flatFs (flatB P d) 0 fs.toList with
      | some n => if (P.info? t).map (·.size) = some n then some (true, n) else none
      | none => none
    | some (.array len e) => match flatB P d e with
      | some (_, k) => if (P.info? t).map (·.size) = some (len * k) then some (true, len * k) else none
      | none => none
    | _ => none

section
variable {P : Program} {w : World}
theorem flat_size {d : Nat} {t : TypeId} {ag : Bool} {n : Nat} (h : flatB P d t = some (ag, n)) : (P.info? t).map (·.size) = some n := by
  cases d with
  | zero => simp [flatB] at h
  | succ d =>
    simp only [flatB] at h
    split at h
    · split at h
      · rename_i h1; cases h; exact h1
      · cases h
    · split at h
      · cases h
      · split at h
        · split at h
          · rename_i h1; cases h; exact h1
          · cases h
        · cases h
    · split at h
      · split at h
        · rename_i h1; cases h; exact h1
        · cases h
      · cases h
    · cases h
theorem flat_agg {d : Nat} {t : TypeId} {ag : Bool} {n : Nat} (h : flatB P d t = some (ag, n)) : (isAgg t).run P w = .ok ag w := by
  cases d with
  | zero => simp [flatB] at h
  | succ d =>
    simp only [flatB] at h
    unfold isAgg
    split at h <;> rename_i hu
    · rw [Sem.run_bind, run_underlying hu w]
      split at h
      · cases h; rfl
      · cases h
    · rw [Sem.run_bind, run_underlying hu w]
      split at h
      · cases h
      · split at h
        · split at h
          · cases h; rfl
          · cases h
        · cases h
    · rw [Sem.run_bind, run_underlying hu w]
      split at h
      · split at h
        · cases h; rfl
        · cases h
      · cases h
    · cases h
theorem flat_one {d : Nat} {t : TypeId} {n : Nat} (h : flatB P d t = some (false, n)) : n = 1 := by
  cases d with
  | zero => simp [flatB] at h
  | succ d =>
    simp only [flatB] at h
    split at h
    · split at h
      · cases h; rfl
      · cases h
    · split at h
      · cases h
      · split at h
        · split at h <;> cases h
        · cases h
    · split at h
      · split at h <;> cases h
      · cases h
    · cases h
theorem flat_part {d : Nat} {t : TypeId} {ag : Bool} {n off : Nat} {l : List Int} (h : flatB P d t = some (ag, n)) (hl : off + n ≤ l.length) :
    (part t (ints l).toArray off).run P w = .ok (flatV ag ((l.drop off).take n)) w := by
  unfold part
  rw [Sem.run_bind, flat_agg h]
  cases ag with
  | true =>
    have hs := flat_size h
    cases hi : P.info? t with
    | none => simp [hi] at hs
    | some i =>
      have hi' : i.size = n := by simpa [hi] using hs
      simp only [Result.andThen_ok, if_true, Sem.run_bind, sizeOf, typeInfo, Sem.run_pure, run_program, hi, hi']
      simp [flatV, ints, List.extract_eq_take_drop, List.map_take, List.map_drop]
  | false =>
    have h1 := flat_one h
    subst h1
    have hlt : off < l.length := by omega
    simp [flatV, ints, hlt, List.headD_eq_head?_getD, List.head?_take, List.head?_drop]

theorem flatFs_le {F : TypeId → Option (Bool × Nat)} : ∀ (fs : List Field) (off n : Nat), flatFs F off fs = some n → off ≤ n
  | [], off, n, h => by simp [flatFs] at h; omega
  | f :: fs, off, n, h => by
    simp only [flatFs] at h
    split at h
    · cases h
    · split at h
      · have := flatFs_le fs _ _ h; omega
      · cases h
theorem take_parts {xs ys : List Int} {off k m : Nat} (hx : off + k ≤ xs.length) (hy : off + k ≤ ys.length) (h : ((xs.drop off).take k = (ys.drop off).take k)) :
    ((xs.drop off).take (k + m) = (ys.drop off).take (k + m)) ↔ ((xs.drop (off + k)).take m = (ys.drop (off + k)).take m) := by
  rw [List.take_add, List.take_add, h, List.append_cancel_left_eq, List.drop_drop, List.drop_drop]
theorem take_parts_ne {xs ys : List Int} {off k m : Nat} (h : ¬ ((xs.drop off).take k = (ys.drop off).take k)) : ¬ ((xs.drop off).take (k + m) = (ys.drop off).take (k + m)) := fun e => h (by
  have := congrArg (List.take k) e
  simpa [List.take_take] using this)
/-- To be equal, at a depth. -/
def EqAt (P : Program) (D d : Nat) : Prop := ∀ (t : TypeId) (ag : Bool) (n : Nat), flatB P d t = some (ag, n) → ∀ xs ys : List Int, xs.length = n → ys.length = n → ∀ w, (Op.equalIn D t (flatV ag xs) (flatV ag ys)).run P w = .ok (decide (xs = ys)) w
theorem eqFields_flat {D d : Nat} (hE : EqAt P D d) (xs ys : List Int) : ∀ (fs : List Field) (off n : Nat), flatFs (flatB P d) off fs = some n → n ≤ xs.length → n ≤ ys.length → ∀ w,
    (Op.eqFields D (ints xs).toArray (ints ys).toArray fs).run P w = .ok (decide ((xs.drop off).take (n - off) = (ys.drop off).take (n - off))) w
  | [], off, n, h, hx, hy, w => by simp [flatFs] at h; subst h; simp [Op.eqFields]
  | f :: fs, off, n, h, hx, hy, w => by
    simp only [flatFs] at h
    split at h
    · cases h
    · rename_i hn
      split at h
      · rename_i ag k hF
        have hle := flatFs_le _ _ _ h
        have hname : f.name ≠ "_" := fun e => hn (.inl e)
        have hoff : f.offset = off := Decidable.byContradiction fun e => hn (.inr e)
        have ih := eqFields_flat hE xs ys fs (off + k) n h hx hy
        rw [Op.eqFields, if_pos hname, hoff]
        simp only [Sem.run_bind, flat_part hF (show off + k ≤ xs.length by omega), flat_part hF (show off + k ≤ ys.length by omega), Result.andThen_ok,
          hE _ _ _ hF ((xs.drop off).take k) ((ys.drop off).take k) (by simp; omega) (by simp; omega)]
        rw [show n - off = k + (n - (off + k)) by omega]
        by_cases he : (xs.drop off).take k = (ys.drop off).take k
        · simp only [he, decide_true, Bool.not_true, Bool.false_eq_true, if_false]
          rw [ih w]
          simp only [take_parts (m := n - (off + k)) (show off + k ≤ xs.length by omega) (show off + k ≤ ys.length by omega) he]
        · simp only [he, decide_false, Bool.not_false, if_true, Sem.run_pure, take_parts_ne (m := n - (off + k)) he]
      · cases h
theorem equalIn_flat : ∀ (d D : Nat), d ≤ D → EqAt P D d
  | 0, D, _, t, ag, n, h, xs, ys, hx, hy, w => by simp [flatB] at h
  | d + 1, D, hD, t, ag, n, h, xs, ys, hx, hy, w => by
    obtain ⟨D, rfl⟩ : ∃ D', D = D' + 1 := ⟨D - 1, by omega⟩
    have hE := equalIn_flat d D (by omega)
    have hsz := flat_size h
    simp only [flatB] at h
    split at h <;> rename_i hu
    · split at h
      · cases h
        match xs, ys, hx, hy with
        | [a], [b], _, _ =>
          simp only [flatV, Bool.false_eq_true, if_false, List.headD_cons]
          rw [run_equalIn_int w D t _ _ a b hu]
          congr 1
          rw [Bool.eq_iff_iff]
          simp
      · cases h
    · rename_i fs
      split at h
      · cases h
      · rename_i hp
        split at h
        · rename_i m hm
          split at h
          · cases h
            have hF : P.fieldsOf t = fs := by simp [Program.fieldsOf, hu]
            simp only [flatV, if_true]
            rw [run_equalIn_struct w D t _ _ (by rw [hF]; exact hu) (by simpa using hp), hF, eqFields_flat hE xs ys _ _ _ hm (by omega) (by omega) w]
            simp only [List.drop_zero, Nat.sub_zero]
            rw [List.take_of_length_le (by omega), List.take_of_length_le (by omega)]
          · cases h
        · cases h
    · rename_i len e
      split at h
      · rename_i ag' k hk
        split at h
        · rename_i hss
          clear hss
          cases h
          have hke := flat_size hk
          have hse : ∀ w, (sizeOf e).run P w = .ok k w := fun w => by
            cases hi : P.info? e with
            | none => simp [hi] at hke
            | some i =>
              have hi' : i.size = k := by simpa [hi] using hke
              simp [sizeOf, typeInfo, hi, hi']
          simp only [flatV, if_true]
          rw [Op.equalIn]
          simp only [Sem.run_bind, run_underlying hu, Result.andThen_ok, hse, Std.Legacy.Range.forIn_eq_forIn_range', Std.Legacy.Range.size, Nat.sub_zero, Nat.add_sub_cancel, Nat.div_one]
          have hxs : (xs.drop (0 * k)).take (len * k) = xs := by simp only [Nat.zero_mul, List.drop_zero]; exact List.take_of_length_le (by omega)
          have hys : (ys.drop (0 * k)).take (len * k) = ys := by simp only [Nat.zero_mul, List.drop_zero]; exact List.take_of_length_le (by omega)
          conv => rhs; rw [← hxs, ← hys]
          obtain ⟨N, hN⟩ : ∃ N, N = len := ⟨len, rfl⟩
          have hb : 0 + len ≤ N := by omega
          rw [← hN] at hx hy
          clear hxs hys hu hsz hN
          generalize 0 = j at hb ⊢
          induction len generalizing j with
          | zero => simp
          | succ m ih =>
            have hjk : j * k + k ≤ N * k := by have := Nat.mul_le_mul_right k (show j + 1 ≤ N by omega); rw [Nat.succ_mul] at this; exact this
            have ih' := ih (j + 1) (by omega)
            rw [List.range'_succ, List.forIn_cons]
            simp only [Sem.run_bind, flat_part hk (show j * k + k ≤ xs.length by omega), flat_part hk (show j * k + k ≤ ys.length by omega), Result.andThen_ok,
              hE _ _ _ hk ((xs.drop (j * k)).take k) ((ys.drop (j * k)).take k) (by simp; omega) (by simp; omega)]
            rw [Nat.succ_mul m k, Nat.add_comm (m * k) k]
            by_cases he : (xs.drop (j * k)).take k = (ys.drop (j * k)).take k
            · simp only [he, decide_true, Bool.not_true, Bool.false_eq_true, if_false, Sem.run_pure, Result.andThen_ok]
              rw [ih']
              simp only [take_parts (m := m * k) (show j * k + k ≤ xs.length by omega) (show j * k + k ≤ ys.length by omega) he, Nat.succ_mul]
            · simp only [he, decide_false, Bool.not_false, if_true, Sem.run_pure, Result.andThen_ok, take_parts_ne (m := m * k) he]
        · cases h
      · cases h
    · cases h

theorem eql_flat {t : TypeId} {n d : Nat} (h : flatB P d t = some (true, n)) (hd : d ≤ 10000) {xs ys : List Int} (hx : xs.length = n) (hy : ys.length = n) (w : World) :
    (binOp .eql t (.agg (ints xs).toArray) (.agg (ints ys).toArray)).run P w = .ok (.bool (decide (xs = ys))) w := by
  rw [run_eql_struct]
  have := equalIn_flat d 10000 hd t true n h xs ys hx hy w
  simp only [flatV, if_true] at this
  rw [this]; rfl
theorem neq_flat {t : TypeId} {n d : Nat} (h : flatB P d t = some (true, n)) (hd : d ≤ 10000) {xs ys : List Int} (hx : xs.length = n) (hy : ys.length = n) (w : World) :
    (binOp .neq t (.agg (ints xs).toArray) (.agg (ints ys).toArray)).run P w = .ok (.bool (!decide (xs = ys))) w := by
  rw [run_neq_struct]
  have := equalIn_flat d 10000 hd t true n h xs ys hx hy w
  simp only [flatV, if_true] at this
  rw [this]; rfl
/-- Structs of two integers. -/
theorem eql_two {t : TypeId} {d : Nat} (h : flatB P d t = some (true, 2)) (hd : d ≤ 10000) (a b a' b' : Int) (w : World) :
    (binOp .eql t (.agg #[.int .i64 a, .int .i64 b]) (.agg #[.int .i64 a', .int .i64 b'])).run P w = .ok (.bool (decide (a = a' ∧ b = b'))) w := by
  have := eql_flat h hd (xs := [a, b]) (ys := [a', b']) rfl rfl w
  simpa [ints] using this
theorem neq_two {t : TypeId} {d : Nat} (h : flatB P d t = some (true, 2)) (hd : d ≤ 10000) (a b a' b' : Int) (w : World) :
    (binOp .neq t (.agg #[.int .i64 a, .int .i64 b]) (.agg #[.int .i64 a', .int .i64 b'])).run P w = .ok (.bool (!decide (a = a' ∧ b = b'))) w := by
  have := neq_flat h hd (xs := [a, b]) (ys := [a', b']) rfl rfl w
  simpa [ints] using this

/-- An element of an array by value. -/
theorem index_flat {t e : TypeId} {d len k i : Nat} {ag : Bool} (hu : P.underlying t = some (.array len e)) (h : flatB P d e = some (ag, k)) (hi : i < len) {l : List Int} (hl : l.length = len * k) (w : World) :
    (Instr.index t (.agg (ints l).toArray) (.int .i64 (i : Int))).run P w = .ok (flatV ag ((l.drop (i * k)).take k)) w := by
  have hke := flat_size h
  have hse : (sizeOf e).run P w = .ok k w := by
    cases hi : P.info? e with
    | none => simp [hi] at hke
    | some i =>
      have hi' : i.size = k := by simpa [hi] using hke
      simp [sizeOf, typeInfo, hi, hi']
  have hb : i * k + k ≤ l.length := by have := Nat.mul_le_mul_right k (show i + 1 ≤ len by omega); rw [Nat.succ_mul] at this; omega
  unfold Instr.index
  simp only [asIntOf, Sem.run_bind, Sem.run_pure, Result.andThen_ok, run_underlying hu]
  rw [if_pos (by omega)]
  simp only [Sem.run_bind, hse, Result.andThen_ok, Int.toNat_natCast, flat_part h hb]

theorem run_loadVar_cells (w : World) (ad : Addr) (ty : TypeId) (cs : List Value) (d : TypeDesc) (hc : ∀ j v, cs[j]? = some v → w.cell? (ad.add j) = some v)
    (hu : P.underlying ty = some d) (hd : (match d with | .struct _ | .array _ _ => true | _ => false) = true) (hi : (P.info? ty).map (·.size) = some cs.length) :
    (loadVar ty ad).run P w = .ok (.agg cs.toArray) w := by
  have hl : (loadCells ad cs.length).run P w = .ok cs.toArray w := run_loadCells_list (P := P) w ad cs hc
  cases hq : P.info? ty with
  | none => simp [hq] at hi
  | some i =>
    have hs : i.size = cs.length := by simpa [hq] using hi
    have hagg : (isAgg ty).run P w = .ok true w := by
      unfold isAgg
      rw [Sem.run_bind, run_underlying hu w]
      cases d <;> simp_all
    simp [loadVar, Sem.run_bind, hagg, sizeOf, typeInfo, hq, hs, hl]
theorem wp_load_cells {o : Oper} {a : Act} {w : World} {K : Act → World → Prop} {Q : Exit → Act → World → Prop} (ty : TypeId) (x : Operand) (ho : o.op = .load ty x)
    (ad : Addr) (hx : a.eval x = .pointer (some ad)) (cs : List Value) (d : TypeDesc) (hc : ∀ j v, cs[j]? = some v → w.cell? (ad.add j) = some v)
    (hu : P.underlying ty = some d) (hd : (match d with | .struct _ | .array _ _ => true | _ => false) = true) (hi : (P.info? ty).map (·.size) = some cs.length)
    (h : K (a.put o.dst (.agg cs.toArray)) w) : o.wp P a w K Q := by
  unfold Oper.wp execOp
  simp only [ho, hx, Instr.loadAt, Instr.sureAddr, Sem.run_bind, Sem.run_pure, Result.andThen_ok, run_loadVar_cells w ad ty cs d hc hu hd hi]
  exact h
/-- A whole struct or array is read, at whatever address. -/
theorem wpList_load_cells {ops : Array Oper} {rest : List Oper} {o : Oper} {a : Act} {w : World} {Q : Exit → Act → World → Prop} (hgd : o.guard = none) (ty : TypeId) (x : Operand) (ho : o.op = .load ty x)
    (ad : Addr) (hx : a.eval x = .pointer (some ad)) (cs : List Value) (d : TypeDesc) (hc : ∀ j v, cs[j]? = some v → w.cell? (ad.add j) = some v)
    (hu : P.underlying ty = some d) (hd : (match d with | .struct _ | .array _ _ => true | _ => false) = true) (hi : (P.info? ty).map (·.size) = some cs.length)
    (h : wpList P ops Q rest (a.put o.dst (.agg cs.toArray)) w) : wpList P ops Q (o :: rest) a w :=
  wpList_plain hgd fun _ hK => wp_load_cells ty x ho ad hx cs d hc hu hd hi (hK _ _ h)
theorem Blk.cells_at {w : World} {g : Nat} {t : TypeId} {l : List Value} (h : Blk w g t l.toArray) (off n : Nat) (hn : off + n ≤ l.length) :
    ∀ j v, ((l.drop off).take n)[j]? = some v → w.cell? ((⟨g, off, none⟩ : Addr).add j) = some v := by
  intro j v hv
  have hj : j < n := by have := (List.getElem?_eq_some_iff.1 hv).1; simp at this; omega
  have hadd : (⟨g, off, none⟩ : Addr).add j = ⟨g, off + j, none⟩ := by
    unfold Addr.add
    split
    · rename_i h0; simp [h0]
    · rfl
  rw [hadd, h.cell]
  rw [← hv]
  simp [List.getElem?_take, hj, List.getElem?_drop]

/-- The same where the operation stands under a guard that says yes. -/
theorem wpList_load_cells_g {ops : Array Oper} {rest : List Oper} {o : Oper} {a : Act} {w : World} {Q : Exit → Act → World → Prop} (hw : Region.wanted o (yielded ops a.tmps) = true) (ty : TypeId) (x : Operand) (ho : o.op = .load ty x)
    (ad : Addr) (hx : a.eval x = .pointer (some ad)) (cs : List Value) (d : TypeDesc) (hc : ∀ j v, cs[j]? = some v → w.cell? (ad.add j) = some v)
    (hu : P.underlying ty = some d) (hd : (match d with | .struct _ | .array _ _ => true | _ => false) = true) (hi : (P.info? ty).map (·.size) = some cs.length)
    (h : wpList P ops Q rest (a.put o.dst (.agg cs.toArray)) w) : wpList P ops Q (o :: rest) a w :=
  BigFrame.wpList_want hw fun _ hK => wp_load_cells ty x ho ad hx cs d hc hu hd hi (hK _ _ h)
theorem wpList_load_row_g {ops : Array Oper} {rest : List Oper} {o : Oper} {a : Act} {w : World} {Q : Exit → Act → World → Prop} (hw : Region.wanted o (yielded ops a.tmps) = true) (ty : TypeId) (x : Operand) (ho : o.op = .load ty x)
    (g : Nat) (hx : a.eval x = .pointer (some ⟨g, 0, none⟩)) (t : TypeId) (cs : Array Value) (fr : Nat × Nat) (d : TypeDesc) (hg : w.heap[g]? = some (.cells cs t fr))
    (hu : P.underlying ty = some d) (hd : (match d with | .struct _ | .array _ _ => true | _ => false) = true) (hi : (P.info? ty).map (·.size) = some cs.size)
    (h : wpList P ops Q rest (a.put o.dst (.agg cs)) w) : wpList P ops Q (o :: rest) a w :=
  BigFrame.wpList_want hw fun _ hK => wp_load_row ty x ho g hx t cs fr d hg hu hd hi (hK _ _ h)
end
end Go.Proofs.Ythdfgdehddmkpaa
