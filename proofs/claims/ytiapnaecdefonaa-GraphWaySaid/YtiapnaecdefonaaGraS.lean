/- The library's functions at slices of numbers of the call's own: Sort, Compact, Reverse, Contains; sorted keys. -/
import Derived.Test.YtiapnaecdefonaaGraM
import Derived.Test.YtiapnaecdefonaaBase
import Derived.Test.YtiapnaecdefonaaWord
import Derived.Test.YtiapnaecdefonaaShelf10
import Derived.Test.YtiapnaecdefonaaMapV
import Derived.Lib.OwnBridge
import Derived.Lib.SlKeysI
namespace Go.Proofs.Ytiapnaecdefonaa
open Go.RowKit Go.Maps Go.Sort Go.Shelf
set_option linter.unusedVariables false
set_option linter.unusedSimpArgs false

theorem i64s_gd {H : List Int} {k : Nat} (h : k < H.length) : (i64s H)[k]? = some (.int .i64 (gd H k)) := by rw [i64s_get h, gd_get h]
theorem own_gd {w : World} {B r n m c : Nat} {t : TypeId} {H : List Int} (h : w.ownsRow B t 1 (.slice (some ⟨r, 0, none⟩) n c) m (i64s H)) {k : Nat} (hk : k < H.length) : w.cell? ⟨r, k, none⟩ = some (.int .i64 (gd H k)) := by
  have := h.cells (g := r) rfl k _ (i64s_gd hk)
  rwa [show (⟨r, 0, none⟩ : Addr).add k = ⟨r, k, none⟩ by unfold Addr.add; split <;> simp_all] at this
theorem own_hot {w : World} {B r n m c size : Nat} {t : TypeId} {xs : List Value} (h : w.ownsRow B t size (.slice (some ⟨r, 0, none⟩) n c) m xs) (k : Nat) : w.frozen? ⟨r, k, none⟩ = false := by
  obtain ⟨cur, hh, _⟩ := own_heap h r rfl
  simp [World.frozen?, hh]
section
variable {w : World} {B n : Nat} {v : Value} {l : List Int}
theorem sort_own (w : World) (h : w.ownsRow B 3 1 v n (i64s l)) (hn : n < 4611686018427387904) :
    Calls Try.prog 42 #[v] w fun e w' => e = .returned (.tuple #[]) ∧ w'.ownsRow B 3 1 v n (i64s (srt l)) ∧ Turn (fun k => v.ownBlock = some k) w w' := by
  have hl : l.length = n := by have := h.1; rw [i64s_length] at this; omega
  rcases h.2 with ⟨rfl, h0⟩ | ⟨gb, cap, cur, rfl, hbase, hgb, r1, r2, r3, r4⟩
  · have hs : l = [] := List.eq_nil_of_length_eq_zero (by omega)
    subst hs
    have hc := AnyM.slices_Sort_int_none Try.laysSort none 0 w
    change Calls Try.prog 42 _ _ _ at hc
    exact hc.mono fun e w' ⟨h1, h2⟩ => by
      subst h2
      exact ⟨h1, by simpa [srt] using h, Turn.refl _ _⟩
  · have hH : Holds encZ w gb 0 l.toArray := holds_of_block_i hgb (by rw [Nat.mul_one] at r4; rw [hl]; exact r4)
    have hgl := (Array.getElem?_eq_some_iff.1 hgb).1
    have hc := AnyM.slices_Sort_int Try.laysSort gb 0 cap l w hH hgl (by omega)
    change Calls Try.prog 42 _ _ _ at hc
    rw [hl] at hc
    refine hc.mono fun e w' ⟨h1, nn, os, h2⟩ => ?_
    subst h2
    refine ⟨h1, ?_, (Turn.refl _ _).grown (grownBy_sorted_i _) fun k hk _ => hk⟩
    have := ownsRow_sorted_i (w := w) (n := nn) (os := os) (ts := srt l) (ss := l) (srt_len l) hbase hgb (by omega) r2 r3
    rw [hl] at this
    exact this
theorem turn_putRow {g q : Nat} (w : World) (d : Array Int) : Turn (fun k => k = g) w (putRow (Value.int .i64) (Sort.ahead w q) g 0 d) :=
  ⟨rfl, rfl, rfl, by simp [putRow, mapBlock, Sort.ahead], fun k hk hn => by simp [putRow, mapBlock, Sort.ahead, Array.getElem?_modify, show g ≠ k from fun e => hn e.symm]⟩
theorem compact_dedup {l : List Int} (h : l.Pairwise (· ≤ ·)) : Lib.compact l = dedup l := by
  have h1 := dedup_keeps (fun j => l.toArray[j]!) l.length (fun i j hij hj => by
    rcases Nat.eq_or_lt_of_le hij with e | e
    · subst e; exact Int.le_refl _
    · have := List.pairwise_iff_getElem.1 h i j (by omega) hj e
      simpa [getElem!_pos, show i < l.length by omega, hj] using this)
  have h2 : (List.range l.length).map (fun j => l.toArray[j]!) = l := by
    have := Lib.range_map_get l.toArray
    simpa using this
  rw [h2] at h1
  exact h1
theorem compact_own (w : World) (h : w.ownsRow B 3 1 v n (i64s l)) (hs : l.Pairwise (· ≤ ·)) (hn : n ≤ 9223372036854775807) :
    Calls Try.prog 45 #[v] w fun e w' => ∃ v', e = .returned v' ∧ w'.ownsRow B 3 1 v' (dedup l).length (i64s (dedup l)) ∧ Turn (fun k => v.ownBlock = some k) w w' ∧ v'.ownBlock = v.ownBlock := by
  have hl : l.length = n := by have := h.1; rw [i64s_length] at this; omega
  rcases h.2 with ⟨rfl, h0⟩ | ⟨gb, cap, cur, rfl, hbase, hgb, r1, r2, r3, r4⟩
  · have hs : l = [] := List.eq_nil_of_length_eq_zero (by omega)
    subst hs
    have hc := AnyG.slices_Compact_int_empty Try.laysCompact none 0 w
    change Calls Try.prog 45 _ _ _ at hc
    exact hc.mono fun e w' ⟨h1, h2⟩ => by
      subst h2
      exact ⟨_, h1, World.ownsRow_nil _ _ _ _, Turn.refl _ _, rfl⟩
  · have hH : Holds (Value.int .i64) w gb 0 l.toArray := holds_of_block_i hgb (by rw [Nat.mul_one] at r4; rw [hl]; exact r4)
    have hc := AnyG.slices_Compact_int Try.laysCompact gb 0 cap l w hH (by omega) (by omega)
    change Calls Try.prog 45 _ _ _ at hc
    rw [hl, compact_dedup hs] at hc
    refine hc.mono fun e w' ⟨h1, q, h2⟩ => ?_
    subst h2
    have hd := dedup_len l
    refine ⟨_, h1, ?_, (turn_putRow w _).mono fun k _ hk => by subst hk; rfl, rfl⟩
    have := Lib.ownsRow_putRow (q := q) (k := (dedup l).length) (ys := dedup l ++ List.replicate (n - (dedup l).length) 0) h (by simp; omega) (by omega)
    rw [List.take_left] at this
    exact this
theorem reverse_own (w : World) (h : w.ownsRow B 3 1 v n (i64s l)) (hn : n ≤ 9223372036854775807) :
    Calls Try.prog 25 #[v] w fun e w' => e = .returned (.tuple #[]) ∧ w'.ownsRow B 3 1 v n (i64s l.reverse) ∧ Turn (fun k => v.ownBlock = some k) w w' := by
  have hl : l.length = n := by have := h.1; rw [i64s_length] at this; omega
  rcases h.2 with ⟨rfl, h0⟩ | ⟨gb, cap, cur, rfl, hbase, hgb, r1, r2, r3, r4⟩
  · have hs : l = [] := List.eq_nil_of_length_eq_zero (by omega)
    subst hs
    have hc := AnyG.slices_Reverse_int_empty Try.laysReverse none 0 w
    change Calls Try.prog 25 _ _ _ at hc
    exact hc.mono fun e w' ⟨h1, h2⟩ => by
      subst h2
      exact ⟨h1, h, Turn.refl _ _⟩
  · have hH : Holds (Value.int .i64) w gb 0 l.toArray := holds_of_block_i hgb (by rw [Nat.mul_one] at r4; rw [hl]; exact r4)
    have hc := AnyG.slices_Reverse_int Try.laysReverse gb 0 cap l w hH (by omega)
    change Calls Try.prog 25 _ _ _ at hc
    rw [hl] at hc
    refine hc.mono fun e w' ⟨h1, q, h2⟩ => ?_
    subst h2
    refine ⟨h1, ?_, (turn_putRow w _).mono fun k _ hk => by subst hk; rfl⟩
    have := Lib.ownsRow_putRow (q := q) (k := n) (ys := l.reverse) h (by simp; omega) (Nat.le_refl _)
    rw [List.take_of_length_le (by simp; omega)] at this
    exact this
theorem int_cells {A : Option Addr} (h : Reads w B 1 A n (i64s l)) (h0 : 0 < n) : ∃ b off, A = some ⟨b, off, none⟩ ∧ b < B ∧ ∀ j, j < l.length → w.cell? ⟨b, off + j, none⟩ = some (.int .i64 (gd l j)) := by
  obtain ⟨ad, e, hb, hc⟩ := h.2 h0
  have hl : l.length = n := by have := h.1; rw [i64s_length] at this; omega
  obtain ⟨b, off, sp⟩ := ad
  have hsp : sp = none := World.cell?_spot (hc 0 _ (by rw [i64s_get (show 0 < l.length by omega)]))
  subst hsp
  refine ⟨b, off, e, hb, fun j hj => ?_⟩
  have := hc j _ (by rw [i64s_get hj])
  rw [gd_get hj, ← this]
  unfold Addr.add
  split
  · rename_i h; subst h; rfl
  · rfl
theorem contains_any {A : Option Addr} {c : Nat} (x : Int) (w : World) (h : Reads w B 1 A n (i64s l)) (hn : n ≤ 9223372036854775807) :
    Calls Try.prog 41 #[.slice A n c, .int .i64 x] w fun e w' => e = .returned (.bool (l.contains x)) ∧ w' = w := by
  have hl : l.length = n := by have := h.1; rw [i64s_length] at this; omega
  rcases Nat.eq_zero_or_pos n with h0 | h0
  · subst h0
    have hs : l = [] := List.eq_nil_of_length_eq_zero (by omega)
    subst hs
    have hc := AnyG.slices_Contains_int_empty Try.laysContains A c x w
    change Calls Try.prog 41 _ _ _ at hc
    exact hc
  · obtain ⟨b, off, rfl, hb, hc⟩ := int_cells h h0
    have hc := AnyG.slices_Contains_int Try.laysContains b off n c l x w (by omega) hn (fun j hj => hc j hj)
    change Calls Try.prog 41 _ _ _ at hc
    rw [List.take_of_length_le (by omega)] at hc
    exact hc
end

/-! ### append, of numbers -/
theorem reads_newInts (V : World) (t : TypeId) (ys : List Int) : Reads (V.alloc (.cells (i64s ys).toArray t)) (V.heap.size + 1) 1 (some ⟨V.heap.size, 0, none⟩) ys.length (i64s ys) :=
  ⟨by rw [i64s_length]; omega, fun _ => ⟨_, rfl, by simp, fun j u hu => by
    have h1 := (Blk.new V t (i64s ys).toArray).cell j
    have h2 : (⟨V.heap.size, 0, none⟩ : Addr).add j = ⟨V.heap.size, j, none⟩ := by unfold Addr.add; split <;> simp_all
    rw [h2, h1]; simpa using hu⟩⟩
theorem reads_blk {w : World} {g : Nat} {t : TypeId} {ys : List Int} (h : Blk w g t (i64s ys).toArray) : Reads w w.heap.size 1 (some ⟨g, 0, none⟩) ys.length (i64s ys) :=
  ⟨by rw [i64s_length]; omega, fun _ => ⟨_, rfl, h.lt, fun j u hu => by
    have h1 := h.cell j
    have h2 : (⟨g, 0, none⟩ : Addr).add j = ⟨g, j, none⟩ := by unfold Addr.add; split <;> simp_all
    rw [h2, h1]; simpa using hu⟩⟩
section
variable {ops : Array Oper} {rest : List Oper} {o : Oper} {a : Act} {Q : Exit → Act → World → Prop}
/-- append(xs, ys...) onto a row of the call's own; what is appended reads. -/
theorem wpList_app_reads (w : World) (hgd : o.guard = none) (s x : Operand) (t : TypeId) (ho : o.op = .call { callee := .builtin .append, args := #[s, x], argTypes := #[t, t] }) (ht : Try.prog.underlying t = some (.slice 3))
    (base : Nat) (v : Value) (n : Nat) (xs : List Int) (hs : a.eval s = v) (hown : w.ownsRow base 3 1 v n (i64s xs)) (B : Nat) (A : Option Addr) (m c : Nat) (ys : List Int) (hx : a.eval x = .slice A m c) (hr : Reads w B 1 A m (i64s ys))
    (hn : n + m ≤ 1000000) (hb : base ≤ w.heap.size)
    (h : ∀ v' w', w'.ownsRow base 3 1 v' (n + m) (i64s (xs ++ ys)) → w.grownBy w' v.ownBlock → (v'.ownBlock = v.ownBlock ∨ v'.ownBlock = some w.heap.size) → wpList Try.prog ops Q rest (a.put o.dst v') w') : wpList Try.prog ops Q (o :: rest) a w := by
  obtain ⟨i0, hi0, hz0, hz1, hz2⟩ := info_parts info_int
  refine wpList_append_any w hgd s x t ho base 3 i0 _ 1 8 ht hi0 hz0 hz1 hz2 rfl (by omega) v n (i64s xs) hs hown B A m c (i64s ys) hx hr (i64s_one _) (by simp only [maxLen]; omega) (by omega) hb ?_
  intro v' w' h1 h2 h3
  rw [show i64s xs ++ i64s ys = i64s (xs ++ ys) by simp [i64s]] at h1
  exact h v' w' h1 h2 h3
/-- append(xs, y, ..): the numbers in a block of their own. -/
theorem wpList_app_new (w : World) (hgd : o.guard = none) (s x : Operand) (t : TypeId) (ho : o.op = .call { callee := .builtin .append, args := #[s, x], argTypes := #[t, t] }) (ht : Try.prog.underlying t = some (.slice 3))
    (base : Nat) (v : Value) (n : Nat) (xs : List Int) (hs : a.eval s = v) (hown : w.ownsRow base 3 1 v n (i64s xs)) (ys : List Int) (m c : Nat) (V : World) (T : TypeId) (hw : w = V.alloc (.cells (i64s ys).toArray T)) (g : Nat) (hx : a.eval x = .slice (some ⟨g, 0, none⟩) m c) (hg : g = V.heap.size) (hm : m = ys.length)
    (hn : n + m ≤ 1000000) (hb : base ≤ w.heap.size)
    (h : ∀ v' w', w'.ownsRow base 3 1 v' (n + m) (i64s (xs ++ ys)) → w.grownBy w' v.ownBlock → (v'.ownBlock = v.ownBlock ∨ v'.ownBlock = some w.heap.size) → wpList Try.prog ops Q rest (a.put o.dst v') w') : wpList Try.prog ops Q (o :: rest) a w := by
  subst hm hg
  refine wpList_app_reads w hgd s x t ho ht base v n xs hs hown (V.heap.size + 1) _ _ c ys hx (by rw [hw]; exact reads_newInts V T ys) hn hb h
end
end Go.Proofs.Ytiapnaecdefonaa
