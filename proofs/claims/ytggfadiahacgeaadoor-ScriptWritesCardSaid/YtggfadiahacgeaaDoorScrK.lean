/- Layer 19's statements: the document's example (alive), plain, Of. -/
import Derived.Test.YtggfadiahacgeaaDoorScrG
import Derived.Test.YtggfadiahacgeaaDoorScrJ
import Derived.Test.YtggfadiahacgeaaDoorFlats
import Derived.Test.YtggfadiahacgeaaDoorEnc
namespace Go.Proofs.YtggfadiahacgeaaDoor
open Go.RowKit
set_option linter.unusedVariables false
set_option linter.unusedSimpArgs false

theorem flat_ent : flatB Tryd.prog 5 30 = some (true, 6) := by kernel_rfl
theorem flat_ent9 : flatB Tryd.prog 5 33 = some (true, 6) := by kernel_rfl
theorem guard_ent : Tryd.prog.eqGuardType Tryd.prog.depth 30 = false := by kernel_rfl
theorem guard_ent9 : Tryd.prog.eqGuardType Tryd.prog.depth 33 = false := by kernel_rfl
theorem eql_entS (a b c d e f a' b' c' d' e' f' : Int) (r : Bool) (hr : decide ([a, b, c, d, e, f] = [a', b', c', d', e', f']) = r) (w : World) : (binOp .eql 30 (.agg #[.int .i64 a, .int .i64 b, .int .i64 c, .int .i64 d, .int .i64 e, .int .i64 f]) (.agg #[.int .i64 a', .int .i64 b', .int .i64 c', .int .i64 d', .int .i64 e', .int .i64 f'])).run Tryd.prog w = .ok (.bool r) w := by
  rw [← hr]; exact eql_flat (P := Tryd.prog) flat_ent (by omega) (xs := [a, b, c, d, e, f]) (ys := [a', b', c', d', e', f']) rfl rfl w
theorem neq_entS (a b c d e f a' b' c' d' e' f' : Int) (r : Bool) (hr : (!decide ([a, b, c, d, e, f] = [a', b', c', d', e', f'])) = r) (w : World) : (binOp .neq 30 (.agg #[.int .i64 a, .int .i64 b, .int .i64 c, .int .i64 d, .int .i64 e, .int .i64 f]) (.agg #[.int .i64 a', .int .i64 b', .int .i64 c', .int .i64 d', .int .i64 e', .int .i64 f'])).run Tryd.prog w = .ok (.bool r) w := by
  rw [← hr]; exact neq_flat (P := Tryd.prog) flat_ent (by omega) (xs := [a, b, c, d, e, f]) (ys := [a', b', c', d', e', f']) rfl rfl w
theorem neq_ent9S (a b c d e f a' b' c' d' e' f' : Int) (r : Bool) (hr : (!decide ([a, b, c, d, e, f] = [a', b', c', d', e', f'])) = r) (w : World) : (binOp .neq 33 (.agg #[.int .i64 a, .int .i64 b, .int .i64 c, .int .i64 d, .int .i64 e, .int .i64 f]) (.agg #[.int .i64 a', .int .i64 b', .int .i64 c', .int .i64 d', .int .i64 e', .int .i64 f'])).run Tryd.prog w = .ok (.bool r) w := by
  rw [← hr]; exact neq_flat (P := Tryd.prog) flat_ent9 (by omega) (xs := [a, b, c, d, e, f]) (ys := [a', b', c', d', e', f']) rfl rfl w
theorem info_entL (a b c d e f : Value) : (Tryd.prog.info? 30).map (·.size) = some [a, b, c, d, e, f].length := by kernel_rfl
/-- A row of entries: its slice, and the cells of each. -/
theorem own_ents {w : World} {base n : Nat} {t : TypeId} {v : Value} {ls : List (List Int)} (h : w.ownsRow base t 6 v n (ints ls.flatten)) : ∃ A cap, v = .slice A n cap ∧ Reads w w.heap.size 6 A n (ints ls.flatten) ∧ n ≤ cap := by
  obtain ⟨A, cap, e, hr, hc, _⟩ := own_el h
  exact ⟨A, cap, e, hr, hc⟩
theorem ent_cells {w : World} {B n : Nat} {A : Option Addr} {ls : List (List Int)} (h : Reads w B 6 A n (ints ls.flatten)) (hall : ∀ l ∈ ls, l.length = 6) (hn : ls.length = n) {i : Nat} (hi : i < n) :
    ∃ b off, A = some ⟨b, off, none⟩ ∧ b < B ∧ ∀ e0 e1 e2 e3 e4 e5, ls.getD i [] = [e0, e1, e2, e3, e4, e5] → (w.cell? ⟨b, off + i * 6, none⟩ = some (.int .i64 e0) ∧ w.cell? ⟨b, off + i * 6 + 1, none⟩ = some (.int .i64 e1) ∧ w.cell? ⟨b, off + i * 6 + 2, none⟩ = some (.int .i64 e2) ∧ w.cell? ⟨b, off + i * 6 + 3, none⟩ = some (.int .i64 e3) ∧ w.cell? ⟨b, off + i * 6 + 4, none⟩ = some (.int .i64 e4) ∧ w.cell? ⟨b, off + i * 6 + 5, none⟩ = some (.int .i64 e5)) := by
  obtain ⟨b, off, e, hb, hc, _⟩ := h.flat_at hall hn (by omega) hi
  refine ⟨b, off, e, hb, fun e0 e1 e2 e3 e4 e5 he => ?_⟩
  rw [he] at hc
  exact ⟨hc 0 (by omega), hc 1 (by omega), hc 2 (by omega), hc 3 (by omega), hc 4 (by omega), hc 5 (by omega)⟩
theorem entN_getD {l : List UInt8} {n i : Nat} (h : i < n) : (entN l n).getD i [] = entAt l i := by rw [List.getD_eq_getElem?_getD, entN_get h]; rfl

set_option maxRecDepth 100000 in
set_option maxHeartbeats 1000000 in
theorem of_any (a b c d e f : Int) (w : World) : Calls Tryd.prog 5 #[.agg #[.int .i64 a, .int .i64 b, .int .i64 c, .int .i64 d, .int .i64 e, .int .i64 f]] w fun x w' => x = .returned (.agg #[.int .i64 a, .int .i64 b, .int .i64 c, .int .i64 d, .int .i64 e, .int .i64 f]) ∧ Below w.heap.size w w' := by
  go_enter Tryd.func5, Tryd.ntmps5
  go_wp2_with fail
  refine bodyPost_ret (v := .agg #[.int .i64 a, .int .i64 b, .int .i64 c, .int .i64 d, .int .i64 e, .int .i64 f]) (by simp [results, Tryd.results5, go_sem]) rfl ⟨rfl, ?_⟩
  repeat (first | exact Below.refl _ _ | refine Below.setCell ?_ (by simp) _ | refine Below.alloc ?_ (by simp <;> omega) _)

def exB : List UInt8 := [2, 1, 0, 0, 0, 2, 1, 0, 0, 1, 3, 1, 2, 0, 4, 1]
theorem ex_ents : entsL exB = [[2, 1, 0, 0, 0, 0], [0, 0, 0, 0, 0, 0], [3, 1, 2, 0, 4, 0], [0, 0, 0, 0, 0, 0]] := by decide +kernel
theorem ex_cells {w : World} {b o : Nat} {a c d e f g : Int} (h : w.cell? ⟨b, o, none⟩ = some (.int .i64 a) ∧ w.cell? ⟨b, o + 1, none⟩ = some (.int .i64 c) ∧ w.cell? ⟨b, o + 2, none⟩ = some (.int .i64 d) ∧ w.cell? ⟨b, o + 3, none⟩ = some (.int .i64 e) ∧ w.cell? ⟨b, o + 4, none⟩ = some (.int .i64 f) ∧ w.cell? ⟨b, o + 5, none⟩ = some (.int .i64 g)) :
    ∀ j v, [Value.int .i64 a, .int .i64 c, .int .i64 d, .int .i64 e, .int .i64 f, .int .i64 g][j]? = some v → w.cell? ((⟨b, o, none⟩ : Addr).add j) = some v := by
  obtain ⟨h0, h1, h2, h3, h4, h5⟩ := h
  intro j v hj
  have ha : (⟨b, o, none⟩ : Addr).add j = ⟨b, o + j, none⟩ := by unfold Addr.add; split <;> simp_all
  rw [ha]
  match j, hj with
  | 0, hj => simp at hj; subst hj; exact h0
  | 1, hj => simp at hj; subst hj; exact h1
  | 2, hj => simp at hj; subst hj; exact h2
  | 3, hj => simp at hj; subst hj; exact h3
  | 4, hj => simp at hj; subst hj; exact h4
  | 5, hj => simp at hj; subst hj; exact h5
set_option maxRecDepth 100000 in
set_option maxHeartbeats 4000000 in
theorem scrAlive (w : World) :
    Calls Tryd.prog 4 #[] w fun e w' => e = .returned (.bool true) ∧ Below w.heap.size w w' := by
  have TKa := True.intro
  have TKb := True.intro
  have TKc := True.intro
  have TKd := True.intro
  have g1 := guard_ent
  have q1 := eql_entS 2 1 0 0 0 0 2 1 0 0 0 0 true (by decide)
  have q2 := eql_entS 0 0 0 0 0 0 0 0 0 0 0 0 true (by decide)
  have q3 := eql_entS 3 1 2 0 4 0 3 1 2 0 4 0 true (by decide)
  go_enter Tryd.func4, Tryd.ntmps4
  go_wp2_with fail
  have hl0 : Reads (w.alloc (.cells (u8s exB).toArray 5)) (w.alloc (.cells (u8s exB).toArray 5)).heap.size 1 (some ⟨w.heap.size, 0, none⟩) 16 (u8s exB) :=
    ⟨rfl, fun _ => ⟨_, rfl, by simp, fun j u hu => by
      have h1 := (Blk.new w 5 (u8s exB).toArray).cell j
      have h2 : (⟨w.heap.size, 0, none⟩ : Addr).add j = ⟨w.heap.size, j, none⟩ := by unfold Addr.add; split <;> simp_all
      rw [h2, h1]; simpa using hu⟩⟩
  refine (parse_any (some ⟨w.heap.size, 0, none⟩) 16 16 exB (Nat.le_refl _) (by omega) _ hl0).mono ?_
  rintro e w1 ⟨v, rfl, hown, hb1⟩
  rw [ex_ents] at hown
  obtain ⟨A, c, rfl, hr, hcap⟩ := own_ents hown
  have hall : ∀ l ∈ ([[2, 1, 0, 0, 0, 0], [0, 0, 0, 0, 0, 0], [3, 1, 2, 0, 4, 0], [0, 0, 0, 0, 0, 0]] : List (List Int)), l.length = 6 := by decide
  obtain ⟨b, off, rfl, hbb, h0⟩ := ent_cells hr hall rfl (i := 0) (by decide)
  have hx0 := Lib.hid (ex_cells (h0 _ _ _ _ _ _ rfl))
  obtain ⟨b', off', e1, _, h1⟩ := ent_cells hr hall rfl (i := 1) (by decide)
  injection e1 with e1; injection e1 with e1 e2; subst e1; subst e2
  have hx1 := Lib.hid (ex_cells (h1 _ _ _ _ _ _ rfl))
  obtain ⟨b', off', e1, _, h2⟩ := ent_cells hr hall rfl (i := 2) (by decide)
  injection e1 with e1; injection e1 with e1 e2; subst e1; subst e2
  have hx2 := Lib.hid (ex_cells (h2 _ _ _ _ _ _ rfl))
  obtain ⟨b', off', e1, _, h3⟩ := ent_cells hr hall rfl (i := 3) (by decide)
  injection e1 with e1; injection e1 with e1 e2; subst e1; subst e2
  have hx3 := Lib.hid (ex_cells (h3 _ _ _ _ _ _ rfl))
  have B1 := Lib.hid (stepB (Joins.below_alloc1 w (.cells (u8s exB).toArray 5)) hb1)
  clear h0 h1 h2 h3 hall hown hl0 hb1
  go_wp2_with (first
    | (have _t := TKa; refine wpList_load_cells_g (by rfl) 30 (.tmp 9) rfl ⟨b, off + 0 * 6, none⟩ rfl _ _ hx0.out Tryd.underlying30 rfl (info_entL _ _ _ _ _ _) ?_; clear _t TKa)
    | (have _t := TKb; refine wpList_load_cells_g (by rfl) 30 (.tmp 16) rfl ⟨b, off + 1 * 6, none⟩ rfl _ _ hx1.out Tryd.underlying30 rfl (info_entL _ _ _ _ _ _) ?_; clear _t TKb)
    | (have _t := TKc; refine wpList_load_cells_g (by rfl) 30 (.tmp 23) rfl ⟨b, off + 2 * 6, none⟩ rfl _ _ hx2.out Tryd.underlying30 rfl (info_entL _ _ _ _ _ _) ?_; clear _t TKc)
    | (have _t := TKd; refine wpList_load_cells_g (by rfl) 30 (.tmp 31) rfl ⟨b, off + 3 * 6, none⟩ rfl _ _ hx3.out Tryd.underlying30 rfl (info_entL _ _ _ _ _ _) ?_; clear _t TKd))
  go_ret
  exact ⟨rfl, B1.out⟩
end Go.Proofs.YtggfadiahacgeaaDoor
