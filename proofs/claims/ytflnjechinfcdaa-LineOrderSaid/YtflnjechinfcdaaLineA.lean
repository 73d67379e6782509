/- Those that wait, in memory: comparison, cells of a slice. -/
import Derived.Test.YtflnjechinfcdaaLineM
import Derived.Test.YtflnjechinfcdaaBase
import Derived.ChangeKeysEq
namespace Go.Proofs.Ytflnjechinfcdaa
open Go.RowKit
set_option linter.unusedVariables false
set_option linter.unusedSimpArgs false

theorem info_wait : (Try.prog.info? 33).map (fun i => (i.zero, i.size, i.bytes)) = some (some (.agg #[.int .i64 0, .int .i64 0, .int .i64 0, .bool false]), 4, 32) := by kernel_rfl
theorem info_wait4 : (Try.prog.info? 33).map (·.size) = some 4 := by kernel_rfl
theorem part_cell (t : TypeId) (he : Try.prog.plainKey t = true) (cs : Array Value) (off : Nat) {v : Value} (h : cs[off]? = some v) (w : World) : (part t cs off).run Try.prog w = .ok v w := run_part_plain w he h
set_option maxRecDepth 100000 in
theorem eq_wait (p q : Wt) (W : World) : (Op.equalIn 10000 33 (.agg (wv p).toArray) (.agg (wv q).toArray)).run Try.prog W = .ok (decide (p = q)) W := by
  have pi : Try.prog.plainKey 3 = true := by kernel_rfl
  have pm : Try.prog.plainKey 31 = true := by kernel_rfl
  have pb : Try.prog.plainKey 4 = true := by kernel_rfl
  obtain ⟨a, b, c, d⟩ := p
  obtain ⟨a', b', c', d'⟩ := q
  rw [show (10000 : Nat) = 9999 + 1 from rfl, run_equalIn_struct W 9999 _ _ _ (by kernel_rfl) (by kernel_rfl)]
  rw [show (Try.prog.fieldsOf 33).toList = [{ name := "Tx", type := 3, offset := 0, embedded := false, tag := "", pkgPath := "", byteOffset := 0 }, { name := "Seq", type := 3, offset := 1, embedded := false, tag := "", pkgPath := "", byteOffset := 8 }, { name := "Mode", type := 31, offset := 2, embedded := false, tag := "", pkgPath := "", byteOffset := 16 }, { name := "Up", type := 4, offset := 3, embedded := false, tag := "", pkgPath := "", byteOffset := 24 }] from by kernel_rfl]
  have e0 : ∀ (x y : Int) w, (Op.equalIn 9999 3 (.int .i64 x) (.int .i64 y)).run Try.prog w = .ok (x == y) w := fun x y w => run_equalIn_int w 9998 _ _ _ x y Try.underlying3
  have e1 : ∀ (x y : Int) w, (Op.equalIn 9999 31 (.int .i64 x) (.int .i64 y)).run Try.prog w = .ok (x == y) w := fun x y w => run_equalIn_int w 9998 _ _ _ x y Try.underlying31
  have e2 : ∀ (x y : Bool) w, (Op.equalIn 9999 4 (.bool x) (.bool y)).run Try.prog w = .ok (x == y) w := fun x y w => run_equalIn_bool' w 9998 _ x y Try.underlying4
  simp only [Op.eqFields, wv]
  rw [if_pos (by decide), if_pos (by decide), if_pos (by decide), if_pos (by decide)]
  have q00 : ∀ w, (part 3 #[.int .i64 a, .int .i64 b, .int .i64 c, .bool d] 0).run Try.prog w = .ok (.int .i64 a) w := fun w => part_cell _ pi _ 0 rfl w
  have q01 : ∀ w, (part 3 #[.int .i64 a, .int .i64 b, .int .i64 c, .bool d] 1).run Try.prog w = .ok (.int .i64 b) w := fun w => part_cell _ pi _ 1 rfl w
  have q02 : ∀ w, (part 31 #[.int .i64 a, .int .i64 b, .int .i64 c, .bool d] 2).run Try.prog w = .ok (.int .i64 c) w := fun w => part_cell _ pm _ 2 rfl w
  have q03 : ∀ w, (part 4 #[.int .i64 a, .int .i64 b, .int .i64 c, .bool d] 3).run Try.prog w = .ok (.bool d) w := fun w => part_cell _ pb _ 3 rfl w
  have q10 : ∀ w, (part 3 #[.int .i64 a', .int .i64 b', .int .i64 c', .bool d'] 0).run Try.prog w = .ok (.int .i64 a') w := fun w => part_cell _ pi _ 0 rfl w
  have q11 : ∀ w, (part 3 #[.int .i64 a', .int .i64 b', .int .i64 c', .bool d'] 1).run Try.prog w = .ok (.int .i64 b') w := fun w => part_cell _ pi _ 1 rfl w
  have q12 : ∀ w, (part 31 #[.int .i64 a', .int .i64 b', .int .i64 c', .bool d'] 2).run Try.prog w = .ok (.int .i64 c') w := fun w => part_cell _ pm _ 2 rfl w
  have q13 : ∀ w, (part 4 #[.int .i64 a', .int .i64 b', .int .i64 c', .bool d'] 3).run Try.prog w = .ok (.bool d') w := fun w => part_cell _ pb _ 3 rfl w
  simp only [Sem.run_bind, q00, q01, q02, q03, q10, q11, q12, q13, Result.andThen_ok, e0, e1, e2]
  by_cases h1 : a = a'
  · subst h1
    by_cases h2 : b = b'
    · subst h2
      by_cases h3 : c = c'
      · subst h3
        cases d <;> cases d' <;> simp [q00, q01, q02, q03, q10, q11, q12, q13, e0, e1, e2]
      · simp [h3, q00, q01, q02, q03, q10, q11, q12, q13, e0, e1, e2]
    · simp [h2, q00, q01, q02, q03, q10, q11, q12, q13, e0, e1, e2]
  · simp [h1, q00, q01, q02, q03, q10, q11, q12, q13, e0, e1, e2]
theorem eql_wait (p q : Wt) (W : World) : (binOp .eql 33 (.agg (wv p).toArray) (.agg (wv q).toArray)).run Try.prog W = .ok (.bool (decide (p = q))) W := by
  rw [run_eql_struct, eq_wait]; rfl
theorem neq_wait (p q : Wt) (W : World) : (binOp .neq 33 (.agg (wv p).toArray) (.agg (wv q).toArray)).run Try.prog W = .ok (.bool (!decide (p = q))) W := by
  rw [run_neq_struct, eq_wait]; rfl

/-! ### a slice of those that wait -/
theorem add_lit (b off j : Nat) : (⟨b, off, none⟩ : Addr).add j = ⟨b, off + j, none⟩ := by
  unfold Addr.add; split
  · rename_i h; simp [h]
  · rfl
theorem Reads.w_len {w : World} {B n : Nat} {A : Option Addr} {L : List Wt} (h : Reads w B 4 A n (wvs L)) : L.length = n := by have := h.1; rw [wvs_length] at this; omega
theorem Reads.w_cells {w : World} {B n : Nat} {A : Option Addr} {L : List Wt} (h : Reads w B 4 A n (wvs L)) {i : Nat} (hi : i < L.length) :
    ∃ b off, A = some ⟨b, off, none⟩ ∧ b < B ∧ (∀ j v, (wv L[i])[j]? = some v → w.cell? ⟨b, off + i * 4 + j, none⟩ = some v) := by
  have hl := h.w_len
  obtain ⟨ad, e, hb, hc⟩ := h.2 (by omega)
  have hcell : ∀ j v, (wv L[i])[j]? = some v → w.cell? (ad.add (i * 4 + j)) = some v := by
    intro j v hv
    have hj : j < 4 := by have := (List.getElem?_eq_some_iff.1 hv).1; rwa [wv_length] at this
    apply hc
    rw [wvs_get hi hj]; exact hv
  obtain ⟨b, off, sp⟩ := ad
  have hsp : sp = none := by
    have h0 := hc 0 (.int .i64 (L[0]'(by omega)).tx) (by have := wvs_get (L := L) (i := 0) (j := 0) (by omega) (by omega); simpa [wv] using this)
    exact World.cell?_spot h0
  subst hsp
  refine ⟨b, off, e, hb, fun j v hv => ?_⟩
  have := hcell j v hv
  rw [add_lit] at this
  rw [show off + i * 4 + j = off + (i * 4 + j) by omega]; exact this
theorem Reads.w_at {w : World} {B n : Nat} {A : Option Addr} {L : List Wt} (h : Reads w B 4 A n (wvs L)) {i : Nat} (hi : i < L.length) :
    ∃ b off, A = some ⟨b, off, none⟩ ∧ b < B ∧ w.cell? ⟨b, off + i * 4, none⟩ = some (.int .i64 L[i].tx) ∧ w.cell? ⟨b, off + i * 4 + 1, none⟩ = some (.int .i64 L[i].sq) ∧ w.cell? ⟨b, off + i * 4 + 2, none⟩ = some (.int .i64 L[i].md) ∧ w.cell? ⟨b, off + i * 4 + 3, none⟩ = some (.bool L[i].up) := by
  obtain ⟨b, off, e, hb, hc⟩ := h.w_cells hi
  exact ⟨b, off, e, hb, hc 0 _ rfl, hc 1 _ rfl, hc 2 _ rfl, hc 3 _ rfl⟩
/-- Four cells side by side, as a load wants them. -/
theorem four_cells {w : World} {b off : Nat} {q : Wt} (h0 : w.cell? ⟨b, off, none⟩ = some (.int .i64 q.tx)) (h1 : w.cell? ⟨b, off + 1, none⟩ = some (.int .i64 q.sq)) (h2 : w.cell? ⟨b, off + 2, none⟩ = some (.int .i64 q.md)) (h3 : w.cell? ⟨b, off + 3, none⟩ = some (.bool q.up)) :
    ∀ j v, (wv q)[j]? = some v → w.cell? ((⟨b, off, none⟩ : Addr).add j) = some v := by
  intro j v hv
  rw [add_lit]
  match j, hv with
  | 0, hv => simp [wv] at hv; subst hv; exact h0
  | 1, hv => simp [wv] at hv; subst hv; exact h1
  | 2, hv => simp [wv] at hv; subst hv; exact h2
  | 3, hv => simp [wv] at hv; subst hv; exact h3
  | j + 4, hv => simp [wv] at hv
theorem Reads.w_take {w : World} {B n : Nat} {A : Option Addr} {L : List Wt} (h : Reads w B 4 A n (wvs L)) {k : Nat} (hk : k ≤ n) : Reads w B 4 A k (wvs (L.take k)) := by
  have hl := h.w_len
  refine ⟨by rw [wvs_length, List.length_take]; congr 1; omega, fun h0 => ?_⟩
  obtain ⟨ad, e, hb, hc⟩ := h.2 (by omega)
  refine ⟨ad, e, hb, fun j u hu => hc j u ?_⟩
  rw [← wvs_take] at hu
  rw [List.getElem?_take] at hu
  split at hu
  · exact hu
  · cases hu
theorem Reads.w_drop {w : World} {B n : Nat} {A : Option Addr} {L : List Wt} (h : Reads w B 4 A n (wvs L)) {k cap : Nat} (hk : k ≤ n) (hc : n ≤ cap) : Reads w B 4 (if cap = k then A else A.map (·.add (k * 4))) (n - k) (wvs (L.drop k)) := by
  rw [← wvs_drop]; exact h.cut hk hc
theorem own_w {w : World} {base n : Nat} {t : TypeId} {v : Value} {L : List Wt} (h : w.ownsRow base t 4 v n (wvs L)) : ∃ A cap, v = .slice A n cap ∧ Reads w w.heap.size 4 A n (wvs L) ∧ n ≤ cap ∧ (∀ ad, A = some ad → base ≤ ad.block ∧ ad.block < w.heap.size ∧ (.slice A n cap : Value).ownBlock = some ad.block) := by
  rcases h.2 with ⟨rfl, h0⟩ | ⟨g', cap', cur, rfl, hb, hh, hnc, _⟩
  · subst h0; exact ⟨_, _, rfl, Reads.of_own h, Nat.le_refl _, fun ad hx => by cases hx⟩
  · exact ⟨_, _, rfl, Reads.of_own h, hnc, fun ad hx => by cases hx; exact ⟨hb, own_lt hh, rfl⟩⟩
theorem below_app {B : Nat} {a w w' : World} {base n size : Nat} {e : TypeId} {v : Value} {xs : List Value} (h : Below B a w) (hg : w.grownBy w' v.ownBlock) (ho : w.ownsRow base e size v n xs) (hB : B ≤ base) (hw : B ≤ w.heap.size) : Below B a w' :=
  h.grown hg hw fun k hk => by
    obtain ⟨cur, _, hb⟩ := own_heap ho k hk
    omega
end Go.Proofs.Ytflnjechinfcdaa
