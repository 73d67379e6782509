/- Edges in memory. -/
import Derived.Test.YtiapnaecdefonaaGraM
import Derived.Test.YtiapnaecdefonaaBase
import Derived.Test.YtiapnaecdefonaaWord
import Derived.Test.YtiapnaecdefonaaMapV
import Derived.Test.YtiapnaecdefonaaFlats
import Derived.RegionTactic
import Derived.BigRegion
import Derived.BigQuiet
namespace Go.Proofs.Ytiapnaecdefonaa
open Go.RowKit
set_option linter.unusedVariables false
set_option linter.unusedSimpArgs false

theorem info_edge : (Try.prog.info? 41).map (fun i => (i.zero, i.size, i.bytes)) = some (some (.agg #[.int .i64 0, .int .i64 0, .int .i64 0, .int .i64 0]), 4, 32) := by kernel_rfl
theorem info_edge4 : (Try.prog.info? 41).map (·.size) = some 4 := by kernel_rfl
/-- Edges: what they go from, what to. -/
def eds (ls : List (List Int)) : Egs := ls.map fun l => (fld l 0, fld l 2)
def trn (ls : List (List Int)) : List (List Int) := ls.map fun l => [fld l 2, 0, fld l 0, 0]
theorem eds_trn (ls : List (List Int)) : eds (trn ls) = turnE (eds ls) := by simp [eds, trn, turnE, fld]
structure EdgM (w : World) (B : Nat) (A : Option Addr) (n : Nat) (ls : List (List Int)) : Prop where
  reads : Reads w B 4 A n (ints ls.flatten)
  four : ∀ l ∈ ls, l.length = 4
  count : ls.length = n
  wf : ∀ l ∈ ls, ∀ y ∈ l, (Lit.int .i64 y).wf = true
section
variable {w w' : World} {B B' n : Nat} {A : Option Addr} {ls : List (List Int)}
theorem EdgM.below (h : EdgM w B A n ls) (hb : Below B w w') : EdgM w' B A n ls := ⟨h.reads.below hb, h.four, h.count, h.wf⟩
theorem EdgM.more (h : EdgM w B A n ls) (hB : B ≤ B') : EdgM w B' A n ls := ⟨h.reads.more hB, h.four, h.count, h.wf⟩
theorem EdgM.elen (h : EdgM w B A n ls) : (eds ls).length = n := by unfold eds; rw [List.length_map, h.count]
theorem eds_take (ls : List (List Int)) {k : Nat} {a s t u : Int} (hk : k < ls.length) (e : ls[k] = [a, s, t, u]) : eds (ls.take (k + 1)) = eds (ls.take k) ++ [(a, t)] := by
  rw [List.take_add_one, List.getElem?_eq_getElem hk, e]
  simp [eds, fld]
theorem trn_take (ls : List (List Int)) {k : Nat} {a s t u : Int} (hk : k < ls.length) (e : ls[k] = [a, s, t, u]) : trn (ls.take (k + 1)) = trn (ls.take k) ++ [[t, 0, a, 0]] := by
  rw [List.take_add_one, List.getElem?_eq_getElem hk, e]
  simp [trn, fld]
theorem EdgM.at_ (h : EdgM w B A n ls) {k : Nat} (hk : k < n) : ∃ b off a s t u, A = some ⟨b, off, none⟩ ∧ b < B ∧ (∃ hl : k < ls.length, ls[k] = [a, s, t, u]) ∧ (∀ j v, (ints [a, s, t, u])[j]? = some v → w.cell? ((⟨b, off + k * 4, none⟩ : Addr).add j) = some v) ∧ (Lit.int .i64 a).wf = true ∧ (Lit.int .i64 t).wf = true := by
  have hl : k < ls.length := by have := h.count; omega
  obtain ⟨b, off, e, hb, hc, hlen⟩ := h.reads.flat_at h.four h.count (by omega) hk
  have hg : ls.getD k [] = ls[k] := by simp [List.getD, hl]
  rw [hg] at hc hlen
  have hwf := h.wf _ (List.getElem_mem hl)
  obtain ⟨l, el⟩ : ∃ l, l = ls[k] := ⟨_, rfl⟩
  rw [← el] at hc hlen hwf
  match l, hlen, el with
  | [a, s, t, u], _, el => exact ⟨b, off, a, s, t, u, e, hb, ⟨hl, el.symm⟩, cells_whole rfl (by simpa using hc), hwf a (by simp), hwf t (by simp)⟩
theorem fld4 (a s t u : Int) : (ints [a, s, t, u]).toArray = #[.int .i64 a, .int .i64 s, .int .i64 t, .int .i64 u] := rfl
theorem reads_newStruct (V : World) (t : TypeId) (l : List Int) {size : Nat} (hl : l.length = size) : Reads (V.alloc (.cells (ints l).toArray t)) (V.heap.size + 1) size (some ⟨V.heap.size, 0, none⟩) 1 (ints l) :=
  ⟨by rw [ints_length]; omega, fun _ => ⟨_, rfl, by simp, fun j u hu => by
    have h1 := (Blk.new V t (ints l).toArray).cell j
    have h2 : (⟨V.heap.size, 0, none⟩ : Addr).add j = ⟨V.heap.size, j, none⟩ := by unfold Addr.add; split <;> simp_all
    rw [h2, h1]; simpa using hu⟩⟩
theorem own_slice {w : World} {base n size : Nat} {t : TypeId} {v : Value} {xs : List Value} (h : w.ownsRow base t size v n xs) : ∃ A c, v = .slice A n c ∧ Reads w w.heap.size size A n xs ∧ n ≤ c ∧ (∀ ad, A = some ad → base ≤ ad.block) := by
  rcases h.2 with ⟨rfl, h0⟩ | ⟨g', cap', cur, rfl, hb, hh, hnc, _⟩
  · subst h0; exact ⟨_, _, rfl, Reads.of_own h, Nat.le_refl _, fun ad e => by cases e⟩
  · exact ⟨_, _, rfl, Reads.of_own h, hnc, fun ad e => by cases e; exact hb⟩
end
end Go.Proofs.Ytiapnaecdefonaa
