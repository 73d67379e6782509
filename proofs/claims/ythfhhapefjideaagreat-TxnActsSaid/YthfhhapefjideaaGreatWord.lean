/- Numbers as bytes, as plain lists: no word of the program. -/
import Derived.IntWalk
import Derived.Test.YthfhhapefjideaaGreatBase
import Derived.Deep.DeepAppendWide
import Derived.Deep.QuietTactic
import Derived.BigQuiet
import Derived.OwnWalk
namespace Go.Proofs.YthfhhapefjideaaGreat
set_option linter.unusedVariables false
set_option linter.unusedSimpArgs false

/-- 256 so many times, as a number that the walks know. -/
def pw : Nat → Nat
  | 0 => 1
  | k + 1 => 256 * pw k



/-- Does a number fit a width? -/
def fitsB (w : Nat) (x : Int) : Bool := decide (0 ≤ x ∧ x < pw w)
/-- All numbers fit; or there is a first one that doesn't. -/
def AllFit (w : Nat) (l : List Int) : Prop := ∀ x ∈ l, fitsB w x = true
def FirstBad (w : Nat) (l : List Int) (k : Nat) : Prop := ∃ h : k < l.length, fitsB w l[k] = false ∧ ∀ j (hj : j < k), fitsB w (l[j]'(by omega)) = true
def FitTill (w : Nat) (l : List Int) (k : Nat) : Prop := ∀ j (hj : j < l.length), j < k → fitsB w l[j] = true
theorem FitTill.zero (w : Nat) (l : List Int) : FitTill w l 0 := fun j hj h => absurd h (by omega)
theorem FitTill.succ {w : Nat} {l : List Int} {k : Nat} (h : FitTill w l k) (hk : k < l.length) (hf : fitsB w l[k] = true) : FitTill w l (k + 1) := fun j hj hjk => by
  by_cases e : j = k
  · subst e; exact hf
  · exact h j hj (by omega)
theorem FitTill.all {w : Nat} {l : List Int} (h : FitTill w l l.length) : AllFit w l := fun x hx => by
  obtain ⟨j, hj, rfl⟩ := List.getElem_of_mem hx
  exact h j hj hj
theorem FirstBad.one {w : Nat} {l : List Int} {k j : Nat} (h : FirstBad w l k) (g : FirstBad w l j) : k = j := by
  obtain ⟨h1, h2, h3⟩ := h
  obtain ⟨g1, g2, g3⟩ := g
  rcases Nat.lt_trichotomy k j with c | c | c
  · have := g3 k c; rw [h2] at this; cases this
  · exact c
  · have := h3 j c; rw [g2] at this; cases this

end Go.Proofs.YthfhhapefjideaaGreat
/- Slices of bytes and of integers, as lists; append of them; the document's Same. -/
namespace Go.Proofs.YthfhhapefjideaaGreat
open Go.RowKit
set_option linter.unusedVariables false
set_option linter.unusedSimpArgs false

def i64s (l : List Int) : List Value := l.map (Value.int .i64)
theorem i64s_length (l : List Int) : (i64s l).length = l.length := by simp [i64s]
theorem i64s_one (l : List Int) : ∀ u ∈ i64s l, u.oneCell' = true := by
  intro u hu; obtain ⟨c, _, rfl⟩ := List.mem_map.1 hu; rfl
theorem i64s_get {l : List Int} {k : Nat} (h : k < l.length) : (i64s l)[k]? = some (.int .i64 l[k]) := by simp [i64s, h]

theorem info_int : (Tryz.prog.info? 3).map (fun i => (i.zero, i.size, i.bytes)) = some (some (.int .i64 0), 1, 8) := by kernel_rfl


/-! ### append onto a row of the call's own, with growslice's wider bound -/
section
variable {P : Program} (w : World)
end
/-- A row that the call owns lies above its base; so what grew it left all below the base as it was. -/
theorem ownBlock_ge {w : World} {base : Nat} {e : TypeId} {size n : Nat} {v : Value} {xs : List Value} (h : w.ownsRow base e size v n xs) : ∀ g, v.ownBlock = some g → base ≤ g := by
  intro g hg
  rcases h.2 with ⟨rfl, _⟩ | ⟨g', cap, cur, rfl, hb, _⟩
  · simp [Value.ownBlock] at hg
  · simp [Value.ownBlock] at hg; omega

end Go.Proofs.YthfhhapefjideaaGreat
