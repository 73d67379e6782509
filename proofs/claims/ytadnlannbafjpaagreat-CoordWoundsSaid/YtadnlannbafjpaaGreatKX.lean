/- What the frames of the laws' proofs want beside. -/
import Derived.Test.YtadnlannbafjpaaGreatKCliC
import Derived.ProofKit
import Derived.OpenShut
import Derived.ShutString
import Derived.ChangeOld
import Derived.Carry
import Derived.ChangeArms
import Derived.ChangeSame
import Derived.SizedLaws
import Derived.Deep.Slices
import Derived.DataReads
import Derived.IntWalk
import Derived.Deep.DeepAppendWide
import Derived.Deep.QuietTactic
import Derived.BigQuiet
import Derived.OwnWalk
import Derived.WalkKit
import Derived.Below
import Derived.Laws.OwnMore
import Derived.Deep.AppendLies
import Derived.Deep.Draws
import Derived.Laws.Rows
import Derived.Lib.Hide
import Derived.Lib.SmallJoins
import Derived.Laws.StructEq
import Derived.BigFrame
import Derived.Deep.MidRow
import Derived.Maps.AppendAt
import Derived.RegionTactic
namespace Go.Proofs.YtadnlannbafjpaaGreat
open Go.ChangeShapes Go.WideShapes Go.ChangeAt Go.RowKit
set_option linter.unusedVariables false
set_option linter.unusedSimpArgs false

theorem ownK : ownKnob Tryz.prog.godebug = none := by kernel_rfl
theorem laidOutK : laidOutB Tryz.prog = true := by kernel_rfl

/-- All its integers are of int's kind. -/
def all64 (P : Program) : Nat → TypeId → Bool
  | 0, _ => false
  | d + 1, t => match P.underlying t with
    | some (.int k) => k == .i64
    | some (.struct fs) => fs.toList.all fun f => all64 P d f.type
    | some (.array _ e) => all64 P d e
    | _ => false
section
variable {H : Type} {enc : TypeId × Value → H} {P : Program} {w : World} {base : Nat} {spare : Nat → Bool} {held : Bool}
theorem flat_cellsOf {d : Nat} {t : TypeId} {ag : Bool} {n : Nat} (h : flatB P d t = some (ag, n)) : P.cellsOf t = n := by
  unfold Program.cellsOf; rw [flat_size h]; rfl
theorem flatFs_at {F : TypeId → Option (Bool × Nat)} : ∀ (fs : List Field) (off n : Nat), flatFs F off fs = some n → ∀ i, off ≤ i → i < n → ∃ (j : Nat) (f : Field) (ag : Bool) (k : Nat), fs[j]? = some f ∧ F f.type = some (ag, k) ∧ f.offset ≤ i ∧ i < f.offset + k
  | [], off, n, h, i, h1, h2 => by simp [flatFs] at h; omega
  | f :: fs, off, n, h, i, h1, h2 => by
    simp only [flatFs] at h
    split at h
    · cases h
    · rename_i hn
      have hoff : f.offset = off := Decidable.byContradiction fun e => hn (.inr e)
      split at h
      · rename_i ag k hF
        by_cases hi : i < off + k
        · exact ⟨0, f, ag, k, rfl, hF, by omega, by omega⟩
        · obtain ⟨j, g, ag', k', hj, hg, ha, hb⟩ := flatFs_at fs _ _ h i (by omega) h2
          exact ⟨j + 1, g, ag', k', by simpa using hj, hg, ha, hb⟩
      · cases h
/-- A value of integers alone is integers. -/
theorem flat_ints : ∀ (d : Nat) (t : TypeId) (ag : Bool) (n : Nat), flatB P d t = some (ag, n) → all64 P d t = true → ∀ (fuel : Nat) (cs : List Value) (x : DataW H × List MemPlace), DataW.trod enc P w base spare held fuel t cs = some x →
    cs.length = n ∧ ∀ v ∈ cs, ∃ y : Int, v = .int .i64 y ∧ (Lit.int .i64 y).wf = true
  | 0, t, ag, n, h, _, fuel, cs, x, hx => by simp [flatB] at h
  | d + 1, t, ag, n, h, h6, fuel, cs, x, hx => by
    have hsz := flat_cellsOf h
    simp only [flatB] at h
    simp only [all64] at h6
    split at h <;> rename_i hu
    · rename_i k
      rw [hu] at h6
      obtain rfl : k = .i64 := by simpa using h6
      obtain ⟨y, rfl, _, hy⟩ := DataW.trod_int hu hx
      split at h
      · cases h
        exact ⟨rfl, fun v hv => ⟨y, by simpa using hv, hy⟩⟩
      · cases h
    · rename_i fs
      rw [hu] at h6
      obtain ⟨xs, m, _, _, hlen, hxl, hat⟩ := DataW.trod_struct hu hx
      refine ⟨by omega, fun v hv => ?_⟩
      obtain ⟨i, hi, rfl⟩ := List.getElem_of_mem hv
      split at h
      · cases h
      · split at h
        · rename_i n' hfs
          split at h
          · cases h
            obtain ⟨j, f, ag', k', hj, hF, ha, hb⟩ := flatFs_at _ _ _ hfs i (Nat.zero_le _) (by omega)
            have hj' : fs[j]? = some f := by simpa using hj
            have hjl : j < fs.size := (Array.getElem?_eq_some_iff.1 hj').1
            have h1 := hat j f hj'
            rw [List.getElem?_eq_getElem (show j < xs.length by omega)] at h1
            have h6f : all64 P d f.type = true := (List.all_eq_true.1 h6) f (List.mem_of_getElem? hj)
            obtain ⟨hl2, hall⟩ := flat_ints d f.type ag' k' hF h6f _ _ _ h1
            rw [flat_cellsOf hF] at hl2 hall
            refine hall _ (List.mem_of_getElem? (i := i - f.offset) ?_)
            rw [List.getElem?_take, if_pos (by omega), List.getElem?_drop, show f.offset + (i - f.offset) = i by omega]
            exact List.getElem?_eq_getElem hi
          · cases h
        · cases h
    · rename_i len e
      rw [hu] at h6
      obtain ⟨xs, m, _, _, hlen, hxl, hat⟩ := DataW.trod_array hu hx
      refine ⟨by omega, fun v hv => ?_⟩
      obtain ⟨i, hi, rfl⟩ := List.getElem_of_mem hv
      split at h
      · rename_i ag' k hk
        split at h
        · cases h
          have hk0 : 0 < k := by
            rcases Nat.eq_zero_or_pos k with h0 | h0
            · subst h0; simp at hsz; omega
            · exact h0
          have hd : i / k < len := Nat.div_lt_of_lt_mul (by rw [Nat.mul_comm]; omega)
          have h1 := hat (i / k) hd
          rw [List.getElem?_eq_getElem (show i / k < xs.length by omega)] at h1
          obtain ⟨hl2, hall⟩ := flat_ints d e ag' k hk h6 _ _ _ h1
          rw [flat_cellsOf hk] at hl2 hall
          have hdm := Nat.div_add_mod i k
          have hml := Nat.mod_lt i hk0
          have hcm := Nat.mul_comm k (i / k)
          refine hall _ (List.mem_of_getElem? (i := i % k) ?_)
          rw [List.getElem?_take, if_pos hml, List.getElem?_drop, show i / k * k + i % k = i by omega]
          exact List.getElem?_eq_getElem hi
        · cases h
      · cases h
    · cases h
theorem ints_of {cs : List Value} (h : ∀ v ∈ cs, ∃ y : Int, v = .int .i64 y ∧ (Lit.int .i64 y).wf = true) : ∃ l : List Int, cs = ints l ∧ ∀ y ∈ l, (Lit.int .i64 y).wf = true := by
  induction cs with
  | nil => exact ⟨[], rfl, by simp⟩
  | cons v cs ih =>
    obtain ⟨y, rfl, hy⟩ := h v (by simp)
    obtain ⟨l, rfl, hl⟩ := ih (fun v hv => h v (by simp [hv]))
    exact ⟨y :: l, rfl, by simpa using ⟨hy, hl⟩⟩
end
end Go.Proofs.YtadnlannbafjpaaGreat

namespace Go.Proofs.YtadnlannbafjpaaGreat
open Go.RowKit Go.ChangeShapes Go.WideShapes Go.Deep
set_option linter.unusedVariables false
set_option linter.unusedSimpArgs false

theorem choose_fn {α : Type} [Inhabited α] {n : Nat} {p : Nat → α → Prop} (h : ∀ i, i < n → ∃ x, p i x) : ∃ f : Nat → α, ∀ i, i < n → p i (f i) := choose_lt h

section
variable {H : Type} {enc : TypeId × Value → H} {W : World} {base : Nat} {held : Bool} {A : Option Addr} {len cap : Nat} {d : DataW H} {p : List MemPlace}
end
end Go.Proofs.YtadnlannbafjpaaGreat

namespace Go.Proofs.YtadnlannbafjpaaGreat
open Go.RowKit Go.ChangeShapes Go.WideShapes Go.Deep
set_option linter.unusedVariables false
set_option linter.unusedSimpArgs false

theorem flat_length {n : Nat} : ∀ {ls : List (List Int)}, (∀ l ∈ ls, l.length = n) → ls.flatten.length = ls.length * n
  | [], _ => by simp
  | l :: ls, h => by rw [List.flatten_cons, List.length_append, flat_length (fun x hx => h x (by simp [hx])), h l (by simp), List.length_cons, Nat.succ_mul]; omega
section
variable {H : Type} {enc : TypeId × Value → H} {P : Program} {W : World} {base : Nat} {held : Bool} {A : Option Addr} {len cap : Nat} {dt : DataW H} {p : List MemPlace}
theorem flats_in {t e : TypeId} {d n : Nat} (hu : P.underlying t = some (.slice e)) (hf : flatB P d e = some (true, n)) (h6 : all64 P d e = true) (hn : 0 < n)
    (h : DataW.Trod enc P W base (fun _ => true) held t (.slice A len cap) dt p) : ∃ ls : List (List Int), ls.length = len ∧ (∀ l ∈ ls, l.length = n) ∧ (∀ l ∈ ls, ∀ y ∈ l, (Lit.int .i64 y).wf = true) ∧ Reads W W.heap.size n A len (ints ls.flatten) := by
  obtain ⟨fuel, hx⟩ := h
  rcases open_slice hu hx with ⟨hcs, _⟩ | ⟨a, len', cap', m, k0, D, Pl, hcs, hb, hl, hm, hmm, hx, hi⟩
  · simp [Value.cells] at hcs
    obtain ⟨rfl, rfl, rfl⟩ := hcs
    exact ⟨[], rfl, by simp, by simp, by simp [ints], fun h => absurd h (by omega)⟩
  · simp [Value.cells] at hcs
    obtain ⟨rfl, rfl, rfl⟩ := hcs
    have hC : P.cellsOf e = n := flat_cellsOf hf
    have cell : ∀ k, k < len → ∃ l : List Int, (l.length = n ∧ ∀ y ∈ l, (Lit.int .i64 y).wf = true) ∧ ∀ j y, l[j]? = some y → W.cell? (a.add (k * n + j)) = some (.int .i64 y) := by
      intro k hk
      obtain ⟨cs', hc, ht⟩ := hi k (by rw [hmm]; simp; omega)
      rw [hC] at hc
      obtain ⟨_, hcl, hat⟩ := World.cells?_some hc
      obtain ⟨hl2, hall⟩ := flat_ints d e true n hf h6 _ _ _ ht
      obtain ⟨l, hle, hw⟩ := ints_of hall
      subst hle
      refine ⟨l, ⟨by simpa using hl2, hw⟩, fun j y hj => ?_⟩
      have hjn : j < n := by have := (List.getElem?_eq_some_iff.1 hj).1; simp at hl2; omega
      have := hat j hjn
      rw [add_add] at this
      rw [this]
      simp [ints, hj]
    obtain ⟨f, hfn⟩ := choose_fn cell
    have hall : ∀ l ∈ (List.range len).map f, l.length = n := fun l hl => by
      obtain ⟨k, hk, rfl⟩ := List.mem_map.1 hl
      exact (hfn k (List.mem_range.1 hk)).1.1
    refine ⟨(List.range len).map f, by simp, hall, fun l hl => ?_, ?_⟩
    · obtain ⟨k, hk, rfl⟩ := List.mem_map.1 hl
      exact (hfn k (List.mem_range.1 hk)).1.2
    · refine ⟨by rw [ints_length, flat_length hall]; simp, fun h0 => ⟨a, rfl, ?_, fun j u hu => ?_⟩⟩
      · have h1 := (hfn 0 h0).1.1
        have := (hfn 0 h0).2 0 _ (List.getElem?_eq_getElem (show 0 < (f 0).length by omega))
        have := World.block_lt_of_cell? _ _ this
        rwa [block_of_add] at this
      · have hj : j < len * n := by
          have := (List.getElem?_eq_some_iff.1 hu).1
          rw [ints_length, flat_length hall] at this
          simpa using this
        have hd : j / n < len := Nat.div_lt_of_lt_mul (by rw [Nat.mul_comm]; exact hj)
        have hml := Nat.mod_lt j hn
        have hdm : j = j / n * n + j % n := by have := Nat.div_add_mod j n; rw [Nat.mul_comm] at this; omega
        have hget : ((List.range len).map f).flatten[j]? = (f (j / n))[j % n]? := by
          conv => lhs; rw [hdm]
          rw [flat_get hall hml]
          simp [hd]
        have hu2 : (ints ((List.range len).map f).flatten)[j]? = (((List.range len).map f).flatten[j]?).map (Value.int .i64) := ints_get _ _
        rw [hu2, hget] at hu
        obtain ⟨y, hy, rfl⟩ := Option.map_eq_some_iff.1 hu
        conv => lhs; rw [hdm]
        exact (hfn _ hd).2 _ _ hy
end
end Go.Proofs.YtadnlannbafjpaaGreat

