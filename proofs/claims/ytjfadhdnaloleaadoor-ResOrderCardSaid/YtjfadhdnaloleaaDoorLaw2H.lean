/- What the walk of ResOrder leans on. -/
import Derived.Test.YtjfadhdnaloleaaDoorLaw2
import Derived.Test.YtjfadhdnaloleaaDoorResO
import Derived.Test.YtjfadhdnaloleaaDoorOwn
import Derived.Deep.DeepCutAuto
import Derived.Deep.QuietTactic
import Derived.BigQuiet
import Derived.IntWalk
import Derived.StillTailTactics
namespace Go.Proofs.YtjfadhdnaloleaaDoor
open Go.RowKit
set_option linter.unusedVariables false
set_option linter.unusedSimpArgs false

theorem lessR_ltF (a b c d : Int) : lessR a b c d = ltF a b c d := by
  rw [ltF_eq]; unfold lessR
  by_cases h : a = c
  · subst h; simp
  · rw [if_neg h, Bool.eq_iff_iff]; simp; omega
theorem less_is {a b c d : Int} {x : Bool} (h : ltF a b c d = x) (w : World) :
    Calls Tryd.prog 21 #[resV a b, resV c d] w fun e w' => e = .returned (.bool x) ∧ Below w.heap.size w w' :=
  (less_any a b c d w).mono fun _ _ ⟨he, hw⟩ => ⟨by rw [he, h], hw.below⟩
theorem lessR_is {a b c d : Int} {x : Bool} (h : ltF a b c d = x) (w : World) :
    Calls Tryd.prog 22 #[resV a b, resV c d] w fun e w' => e = .returned (.bool x) ∧ Below w.heap.size w w' :=
  (lessR_any a b c d w).mono fun _ _ ⟨he, hw⟩ => ⟨by rw [he, lessR_ltF, h], hw⟩

/-- A slice of resources that came in. -/
def RowIn (w : World) (A : Option Addr) (n : Nat) (zs : Array (Int × Int)) : Prop :=
  zs.size = n ∧ (0 < n → ∃ b off, A = some ⟨b, off, none⟩ ∧ b < w.heap.size ∧ ∀ j u, (flat zs)[j]? = some u → w.cell? ⟨b, off + j, none⟩ = some u)
theorem RowIn.reads {w : World} {A : Option Addr} {n : Nat} {zs : Array (Int × Int)} (h : RowIn w A n zs) : Reads w w.heap.size 2 A n (flat zs) := by
  refine ⟨by rw [flat_len, h.1], fun hn => ?_⟩
  obtain ⟨b, off, rfl, hb, hc⟩ := h.2 hn
  exact ⟨_, rfl, hb, fun j u hu => by rw [Lib.add_plain]; exact hc j u hu⟩

theorem s6_step {w6 X Y : World} {p q : Nat} {a b c d : Int}
    (h : X.cell? ⟨p, 0, none⟩ = some (.int .i64 a) ∧ X.cell? ⟨p, 1, none⟩ = some (.int .i64 b) ∧ X.cell? ⟨q, 0, none⟩ = some (.int .i64 c) ∧ X.cell? ⟨q, 1, none⟩ = some (.int .i64 d) ∧ Below w6.heap.size w6 X) (hb : Below X.heap.size X Y) :
    Y.cell? ⟨p, 0, none⟩ = some (.int .i64 a) ∧ Y.cell? ⟨p, 1, none⟩ = some (.int .i64 b) ∧ Y.cell? ⟨q, 0, none⟩ = some (.int .i64 c) ∧ Y.cell? ⟨q, 1, none⟩ = some (.int .i64 d) ∧ Below w6.heap.size w6 Y := by
  obtain ⟨h0, h1, h2, h3, h4⟩ := h
  have lp := World.block_lt_of_cell? _ _ h0
  have lq := World.block_lt_of_cell? _ _ h2
  exact ⟨((bcell hb).1 _ _ lp).trans h0, ((bcell hb).1 _ _ lp).trans h1, ((bcell hb).1 _ _ lq).trans h2, ((bcell hb).1 _ _ lq).trans h3, stepB h4 hb⟩

theorem blk_grown {w w' : World} {g : Nat} {t : TypeId} {cs : Array Value} {row : Option Nat} (h : Blk w g t cs) (hb : w.grownBy w' row) (hg : some g ≠ row) : Blk w' g t cs := (hb.block g h.lt hg).trans h
/-- What the test of the order of two leaves. -/
structure CutR (w3 : World) (v : Value) (wx : World) : Prop where
  val : v = .bool false
  bel : Below w3.heap.size w3 wx

/-- How often a resource is among the first k. -/
def cnt (zs : Array (Int × Int)) (x : Int × Int) (k : Nat) : Nat := (zs.toList.take k).count x
theorem order_two (a b c d : Int) : (ltF a b c d = true ∧ ltF c d a b = false ∧ (a == c && b == d) = false) ∨ (ltF a b c d = false ∧ ltF c d a b = true ∧ (a == c && b == d) = false) ∨ (ltF a b c d = false ∧ ltF c d a b = false ∧ (a == c && b == d) = true) := by
  rw [ltF_eq, ltF_eq]
  simp
  omega

theorem flat_pair (d : Array (Int × Int)) {i : Nat} (hi : i < d.size) : (flat d)[i * 2]? = some (.int .i64 (d[i]!).1) ∧ (flat d)[i * 2 + 1]? = some (.int .i64 (d[i]!).2) := by
  have key : ∀ j (hj : j < d.size * 2), (flat d)[j]? = some ((Sort.flatK encR 2 d)[j]!) := by
    intro j hj
    have hj' : j < (Sort.flatK encR 2 d).size := by simpa using hj
    unfold flat
    rw [Array.getElem?_toList, getElem!_pos _ j hj', Array.getElem?_eq_getElem hj']
  refine ⟨?_, ?_⟩
  · rw [key _ (by omega), Sort.get_flatK _ _ _ _ (by omega), show i * 2 / 2 = i by omega, show i * 2 % 2 = 0 by omega]; rfl
  · rw [key _ (by omega), Sort.get_flatK _ _ _ _ (by omega), show (i * 2 + 1) / 2 = i by omega, show (i * 2 + 1) % 2 = 1 by omega]; rfl
theorem holds_pair {w : World} {g : Nat} {d : Array (Int × Int)} (h : Sort.HoldsK encR 2 w g 0 d) {i : Nat} (hi : i < d.size) :
    w.cell? ⟨g, i * 2, none⟩ = some (.int .i64 (d[i]!).1) ∧ w.cell? ⟨g, i * 2 + 1, none⟩ = some (.int .i64 (d[i]!).2) := by
  have h1 := (h (i * 2) (by simp; omega)).1
  have h2 := (h (i * 2 + 1) (by simp; omega)).1
  rw [Nat.zero_add] at h1 h2
  rw [Sort.get_flatK _ _ _ _ (by omega), show i * 2 / 2 = i by omega, show i * 2 % 2 = 0 by omega] at h1
  rw [Sort.get_flatK _ _ _ _ (by omega), show (i * 2 + 1) / 2 = i by omega, show (i * 2 + 1) % 2 = 1 by omega] at h2
  exact ⟨h1, h2⟩
theorem cnt_succ (zs : Array (Int × Int)) (x : Int × Int) {k : Nat} (hk : k < zs.size) : cnt zs x (k + 1) = cnt zs x k + if zs[k]! = x then 1 else 0 := by
  unfold cnt
  rw [List.take_add_one, Array.getElem?_toList, Array.getElem?_eq_getElem hk, getElem!_pos _ k hk]
  simp [List.count_append, List.count_singleton]
theorem cnt_le (zs : Array (Int × Int)) (x : Int × Int) (k : Nat) : cnt zs x k ≤ k := by
  unfold cnt
  exact Nat.le_trans (List.count_le_length) (by simp; omega)
theorem cnt_all (zs : Array (Int × Int)) (x : Int × Int) : cnt zs x zs.size = zs.toList.count x := by
  unfold cnt
  rw [List.take_of_length_le (by simp)]
end Go.Proofs.YtjfadhdnaloleaaDoor
