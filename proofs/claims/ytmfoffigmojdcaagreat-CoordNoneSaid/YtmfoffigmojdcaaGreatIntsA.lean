/- Slices of numbers: their cells; append onto a row of the call's own; the document's Ints. -/
import Derived.Test.YtmfoffigmojdcaaGreatGraM
import Derived.Test.YtmfoffigmojdcaaGreatBase
import Derived.Test.YtmfoffigmojdcaaGreatWord
import Derived.Test.YtmfoffigmojdcaaGreatHeld
import Derived.RegionTactic
import Derived.BigRegion
import Derived.BigQuiet
import Derived.Deep.DeepCutAuto
namespace Go.Proofs.YtmfoffigmojdcaaGreat
open Go.RowKit
set_option linter.unusedVariables false
set_option linter.unusedSimpArgs false

theorem i64s_gd {H : List Int} {k : Nat} (h : k < H.length) : (i64s H)[k]? = some (.int .i64 (gd H k)) := by rw [i64s_get h, gd_get h]
theorem own_gd {w : World} {B r n m c : Nat} {t : TypeId} {H : List Int} (h : w.ownsRow B t 1 (.slice (some ⟨r, 0, none⟩) n c) m (i64s H)) {k : Nat} (hk : k < H.length) : w.cell? ⟨r, k, none⟩ = some (.int .i64 (gd H k)) := by
  have := h.cells (g := r) rfl k _ (i64s_gd hk)
  rwa [show (⟨r, 0, none⟩ : Addr).add k = ⟨r, k, none⟩ by unfold Addr.add; split <;> simp_all] at this
section
variable {w : World} {B n : Nat} {A : Option Addr} {l : List Int}
theorem int_cells {A : Option Addr} (h : Reads w B 1 A n (i64s l)) (h0 : 0 < n) : ∃ b off, A = some ⟨b, off, none⟩ ∧ b < B ∧ ∀ j, j < l.length → w.cell? ⟨b, off + j, none⟩ = some (.int .i64 (gd l j)) := by
  obtain ⟨ad, e, hb, hc⟩ := h.2 h0
  have hl : l.length = n := by have := h.1; rw [i64s_length] at this; omega
  obtain ⟨b, off, sp⟩ := ad
  have hsp : sp = none := World.cell?_spot (hc 0 _ (by rw [i64s_get (show 0 < l.length by omega)]))
  subst hsp
  refine ⟨b, off, e, hb, fun j hj => ?_⟩
  have := hc j _ (by rw [i64s_get hj])
  rw [gd_get hj, ← this]
  unfold Addr.add
  split
  · rename_i h; subst h; rfl
  · rfl
end
/-! ### append, of numbers -/
theorem reads_newInts (V : World) (t : TypeId) (ys : List Int) : Reads (V.alloc (.cells (i64s ys).toArray t)) (V.heap.size + 1) 1 (some ⟨V.heap.size, 0, none⟩) ys.length (i64s ys) :=
  ⟨by rw [i64s_length]; omega, fun _ => ⟨_, rfl, by simp, fun j u hu => by
    have h1 := (Blk.new V t (i64s ys).toArray).cell j
    have h2 : (⟨V.heap.size, 0, none⟩ : Addr).add j = ⟨V.heap.size, j, none⟩ := by unfold Addr.add; split <;> simp_all
    rw [h2, h1]; simpa using hu⟩⟩
theorem readsI_blk {w : World} {g : Nat} {t : TypeId} {ys : List Int} (h : Blk w g t (i64s ys).toArray) : Reads w w.heap.size 1 (some ⟨g, 0, none⟩) ys.length (i64s ys) :=
  ⟨by rw [i64s_length]; omega, fun _ => ⟨_, rfl, h.lt, fun j u hu => by
    have h1 := h.cell j
    have h2 : (⟨g, 0, none⟩ : Addr).add j = ⟨g, j, none⟩ := by unfold Addr.add; split <;> simp_all
    rw [h2, h1]; simpa using hu⟩⟩
section
variable {ops : Array Oper} {rest : List Oper} {o : Oper} {a : Act} {Q : Exit → Act → World → Prop}
/-- append(xs, ys...) onto a row of the call's own; what is appended reads. -/
theorem wpList_app_reads (w : World) (hgd : o.guard = none) (s x : Operand) (t : TypeId) (ho : o.op = .call { callee := .builtin .append, args := #[s, x], argTypes := #[t, t] }) (ht : Tryz.prog.underlying t = some (.slice 3))
    (base : Nat) (v : Value) (n : Nat) (xs : List Int) (hs : a.eval s = v) (hown : w.ownsRow base 3 1 v n (i64s xs)) (B : Nat) (A : Option Addr) (m c : Nat) (ys : List Int) (hx : a.eval x = .slice A m c) (hr : Reads w B 1 A m (i64s ys))
    (hn : n + m ≤ 1000000) (hb : base ≤ w.heap.size)
    (h : ∀ v' w', w'.ownsRow base 3 1 v' (n + m) (i64s (xs ++ ys)) → w.grownBy w' v.ownBlock → (v'.ownBlock = v.ownBlock ∨ v'.ownBlock = some w.heap.size) → wpList Tryz.prog ops Q rest (a.put o.dst v') w') : wpList Tryz.prog ops Q (o :: rest) a w := by
  obtain ⟨i0, hi0, hz0, hz1, hz2⟩ := info_parts info_int
  refine wpList_append_any w hgd s x t ho base 3 i0 _ 1 8 ht hi0 hz0 hz1 hz2 rfl (by omega) v n (i64s xs) hs hown B A m c (i64s ys) hx hr (i64s_one _) (by simp only [maxLen]; omega) (by omega) hb ?_
  intro v' w' h1 h2 h3
  rw [show i64s xs ++ i64s ys = i64s (xs ++ ys) by simp [i64s]] at h1
  exact h v' w' h1 h2 h3
/-- append(xs, y, ..): the numbers in a block of their own. -/
theorem wpList_app_new (w : World) (hgd : o.guard = none) (s x : Operand) (t : TypeId) (ho : o.op = .call { callee := .builtin .append, args := #[s, x], argTypes := #[t, t] }) (ht : Tryz.prog.underlying t = some (.slice 3))
    (base : Nat) (v : Value) (n : Nat) (xs : List Int) (hs : a.eval s = v) (hown : w.ownsRow base 3 1 v n (i64s xs)) (ys : List Int) (m c : Nat) (V : World) (T : TypeId) (hw : w = V.alloc (.cells (i64s ys).toArray T)) (g : Nat) (hx : a.eval x = .slice (some ⟨g, 0, none⟩) m c) (hg : g = V.heap.size) (hm : m = ys.length)
    (hn : n + m ≤ 1000000) (hb : base ≤ w.heap.size)
    (h : ∀ v' w', w'.ownsRow base 3 1 v' (n + m) (i64s (xs ++ ys)) → w.grownBy w' v.ownBlock → (v'.ownBlock = v.ownBlock ∨ v'.ownBlock = some w.heap.size) → wpList Tryz.prog ops Q rest (a.put o.dst v') w') : wpList Tryz.prog ops Q (o :: rest) a w := by
  subst hm hg
  refine wpList_app_reads w hgd s x t ho ht base v n xs hs hown (V.heap.size + 1) _ _ c ys hx (by rw [hw]; exact reads_newInts V T ys) hn hb h
end
theorem Reads.inum {w : World} {B n : Nat} {A : Option Addr} {l : List Int} (h : Reads w B 1 A n (i64s l)) : l.length = n := by have := h.1; rw [i64s_length] at this; omega
set_option maxRecDepth 100000 in
set_option maxHeartbeats 4000000 in
/-- Slices of integers that read as one list are the same. -/
theorem ints_same (A A' : Option Addr) (n c c' B B' : Nat) (l : List Int) (w : World) (hn : n ≤ 9223372036854775807) (h : Reads w B 1 A n (i64s l)) (h' : Reads w B' 1 A' n (i64s l)) :
    Calls Tryz.prog 82 #[.slice A n c, .slice A' n c'] w fun e w' => e = .returned (.bool true) ∧ ∃ q, w' = w.drewN q := by
  have H := Lib.hid h
  have H' := Lib.hid h'
  have HL := Lib.hid h.inum
  clear h h'
  go_enter Tryz.func82, Tryz.ntmps82
  go_wp2_with fail
  go_loopw [5] (fun i W => ∃ k q : Nat, k ≤ n ∧ i = .int .i64 k ∧ W = w.drewN q) (fun i _ => n - (RowKit.intOf i).toNat)
  case atStart => exact ⟨0, 0, Nat.zero_le _, rfl, rfl⟩
  case round =>
    obtain ⟨k, q, hk, rfl, rfl⟩ := hrel
    by_cases hlt : k < n
    · obtain ⟨b, off, rfl, hb, hc⟩ := int_cells H.out (by omega)
      obtain ⟨b', off', rfl, hb', hc'⟩ := int_cells H'.out (by omega)
      have k1 := hc k (by rw [HL.out]; exact hlt)
      have k2 := hc' k (by rw [HL.out]; exact hlt)
      clear hc hc' hb hb'
      generalize gd l k = x at k1 k2
      go_wp2_with fail
      go_quiet (fail)
      go_wp2_with fail
      go_roundw
      case rel => exact ⟨k + 1, _, by omega, by go_num, rfl⟩
      case measure => simp [RowKit.intOf]; omega
    · go_wp2_with fail
      go_ret
      exact ⟨rfl, q, rfl⟩
end Go.Proofs.YtmfoffigmojdcaaGreat
