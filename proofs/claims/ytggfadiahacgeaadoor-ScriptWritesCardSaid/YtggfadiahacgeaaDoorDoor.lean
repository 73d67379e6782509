/- What a law's arguments are opened to, where no variable is laid: structs and arrays of integers. -/
import Derived.Test.YtggfadiahacgeaaDoorRows
import Derived.Test.YtggfadiahacgeaaDoorBase
import Derived.ProofKit
import Derived.OpenShut
import Derived.ShutString
import Derived.ChangeOld
import Derived.Carry
import Derived.ChangeArms
import Derived.ChangeSame
import Derived.SizedLaws
namespace Go.Proofs.YtggfadiahacgeaaDoor
open Go.ChangeShapes Go.WideShapes Go.ChangeAt Go.RowKit
set_option linter.unusedVariables false
set_option linter.unusedSimpArgs false


/-- All its integers are of int's kind. -/
def all64 (P : Program) : Nat → TypeId → Bool
  | 0, _ => false
  | d + 1, t => match P.underlying t with
    | some (.int k) => k == .i64
    | some (.struct fs) => fs.toList.all fun f => all64 P d f.type
    | some (.array _ e) => all64 P d e
    | _ => false
section
variable {H : Type} {enc : TypeId × Value → H} {P : Program} {w : World} {base : Nat} {spare : Nat → Bool} {held : Bool}
theorem flat_cellsOf {d : Nat} {t : TypeId} {ag : Bool} {n : Nat} (h : flatB P d t = some (ag, n)) : P.cellsOf t = n := by
  unfold Program.cellsOf; rw [flat_size h]; rfl
theorem flatFs_at {F : TypeId → Option (Bool × Nat)} : ∀ (fs : List Field) (off n : Nat), flatFs F off fs = some n → ∀ i, off ≤ i → i < n → ∃ (j : Nat) (f : Field) (ag : Bool) (k : Nat), fs[j]? = some f ∧ F f.type = some (ag, k) ∧ f.offset ≤ i ∧ i < f.offset + k
  | [], off, n, h, i, h1, h2 => by simp [flatFs] at h; omega
  | f :: fs, off, n, h, i, h1, h2 => by
    simp only [flatFs] at h
    split at h
    · cases h
    · rename_i hn
      have hoff : f.offset = off := Decidable.byContradiction fun e => hn (.inr e)
      split at h
      · rename_i ag k hF
        by_cases hi : i < off + k
        · exact ⟨0, f, ag, k, rfl, hF, by omega, by omega⟩
        · obtain ⟨j, g, ag', k', hj, hg, ha, hb⟩ := flatFs_at fs _ _ h i (by omega) h2
          exact ⟨j + 1, g, ag', k', by simpa using hj, hg, ha, hb⟩
      · cases h
/-- A value of integers alone is integers. -/
theorem flat_ints : ∀ (d : Nat) (t : TypeId) (ag : Bool) (n : Nat), flatB P d t = some (ag, n) → all64 P d t = true → ∀ (fuel : Nat) (cs : List Value) (x : DataW H × List MemPlace), DataW.trod enc P w base spare held fuel t cs = some x →
    cs.length = n ∧ ∀ v ∈ cs, ∃ y : Int, v = .int .i64 y ∧ (Lit.int .i64 y).wf = true
  | 0, t, ag, n, h, _, fuel, cs, x, hx => by simp [flatB] at h
  | d + 1, t, ag, n, h, h6, fuel, cs, x, hx => by
    have hsz := flat_cellsOf h
    simp only [flatB] at h
    simp only [all64] at h6
    split at h <;> rename_i hu
    · rename_i k
      rw [hu] at h6
      obtain rfl : k = .i64 := by simpa using h6
      obtain ⟨y, rfl, _, hy⟩ := DataW.trod_int hu hx
      split at h
      · cases h
        exact ⟨rfl, fun v hv => ⟨y, by simpa using hv, hy⟩⟩
      · cases h
    · rename_i fs
      rw [hu] at h6
      obtain ⟨xs, m, _, _, hlen, hxl, hat⟩ := DataW.trod_struct hu hx
      refine ⟨by omega, fun v hv => ?_⟩
      obtain ⟨i, hi, rfl⟩ := List.getElem_of_mem hv
      split at h
      · cases h
      · split at h
        · rename_i n' hfs
          split at h
          · cases h
            obtain ⟨j, f, ag', k', hj, hF, ha, hb⟩ := flatFs_at _ _ _ hfs i (Nat.zero_le _) (by omega)
            have hj' : fs[j]? = some f := by simpa using hj
            have hjl : j < fs.size := (Array.getElem?_eq_some_iff.1 hj').1
            have h1 := hat j f hj'
            rw [List.getElem?_eq_getElem (show j < xs.length by omega)] at h1
            have h6f : all64 P d f.type = true := (List.all_eq_true.1 h6) f (List.mem_of_getElem? hj)
            obtain ⟨hl2, hall⟩ := flat_ints d f.type ag' k' hF h6f _ _ _ h1
            rw [flat_cellsOf hF] at hl2 hall
            refine hall _ (List.mem_of_getElem? (i := i - f.offset) ?_)
            rw [List.getElem?_take, if_pos (by omega), List.getElem?_drop, show f.offset + (i - f.offset) = i by omega]
            exact List.getElem?_eq_getElem hi
          · cases h
        · cases h
    · rename_i len e
      rw [hu] at h6
      obtain ⟨xs, m, _, _, hlen, hxl, hat⟩ := DataW.trod_array hu hx
      refine ⟨by omega, fun v hv => ?_⟩
      obtain ⟨i, hi, rfl⟩ := List.getElem_of_mem hv
      split at h
      · rename_i ag' k hk
        split at h
        · cases h
          have hk0 : 0 < k := by
            rcases Nat.eq_zero_or_pos k with h0 | h0
            · subst h0; simp at hsz; omega
            · exact h0
          have hd : i / k < len := Nat.div_lt_of_lt_mul (by rw [Nat.mul_comm]; omega)
          have h1 := hat (i / k) hd
          rw [List.getElem?_eq_getElem (show i / k < xs.length by omega)] at h1
          obtain ⟨hl2, hall⟩ := flat_ints d e ag' k hk h6 _ _ _ h1
          rw [flat_cellsOf hk] at hl2 hall
          have hdm := Nat.div_add_mod i k
          have hml := Nat.mod_lt i hk0
          have hcm := Nat.mul_comm k (i / k)
          refine hall _ (List.mem_of_getElem? (i := i % k) ?_)
          rw [List.getElem?_take, if_pos hml, List.getElem?_drop, show i / k * k + i % k = i by omega]
          exact List.getElem?_eq_getElem hi
        · cases h
      · cases h
    · cases h
theorem ints_of {cs : List Value} (h : ∀ v ∈ cs, ∃ y : Int, v = .int .i64 y ∧ (Lit.int .i64 y).wf = true) : ∃ l : List Int, cs = ints l ∧ ∀ y ∈ l, (Lit.int .i64 y).wf = true := by
  induction cs with
  | nil => exact ⟨[], rfl, by simp⟩
  | cons v cs ih =>
    obtain ⟨y, rfl, hy⟩ := h v (by simp)
    obtain ⟨l, rfl, hl⟩ := ih (fun v hv => h v (by simp [hv]))
    exact ⟨y :: l, rfl, by simpa using ⟨hy, hl⟩⟩
/-- An argument of a struct of integers alone. -/
theorem open_flat {r : Reach} {b0 : Nat} {t : TypeId} {fs : Array Field} {n d : Nat} {v : Value} {D : DataW H} {p : List MemPlace} (hs : P.underlying t = some (.struct fs)) (hf : flatB P d t = some (true, n)) (h6 : all64 P d t = true)
    (hv : Value.okWide P w r b0 t v) (h : DataW.Trod enc P w base spare held t v D p) : ∃ l : List Int, v = .agg (ints l).toArray ∧ l.length = n ∧ ∀ y ∈ l, (Lit.int .i64 y).wf = true := by
  obtain ⟨cs, rfl, _⟩ := okWide_struct hs hv
  obtain ⟨fuel, hx⟩ := h
  obtain ⟨hl, hall⟩ := flat_ints d t true n hf h6 _ _ _ hx
  obtain ⟨l, hl2, hw⟩ := ints_of hall
  obtain ⟨L⟩ := cs
  simp only [Value.cells] at hl2 hl
  subst hl2
  exact ⟨l, rfl, by simpa using hl, hw⟩
end
end Go.Proofs.YtggfadiahacgeaaDoor
