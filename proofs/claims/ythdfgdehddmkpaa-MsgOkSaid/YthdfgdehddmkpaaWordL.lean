/- Layer 3's statements: the document's examples (alive). -/
import Derived.Test.YthdfgdehddmkpaaRefW
namespace Go.Proofs.Ythdfgdehddmkpaa
open Go.RowKit
set_option linter.unusedVariables false
set_option linter.unusedSimpArgs false


theorem Reads.step {w w' : World} {size n : Nat} {A : Option Addr} {xs : List Value} (h : Reads w w.heap.size size A n xs) (hb : Below w.heap.size w w') : Reads w' w'.heap.size size A n xs := (h.below hb).more hb.size
theorem Reads.stepA {w : World} {size n : Nat} {A : Option Addr} {xs : List Value} (h : Reads w w.heap.size size A n xs) (o : Obj) : Reads (w.alloc o) (w.alloc o).heap.size size A n xs := (h.alloc (Nat.le_refl _) o).more (by simp)

/-- Put of numbers that all fit. -/
theorem put_ok {wd : Nat} {is : List Int} (hf : AllFit wd is) (A A' : Option Addr) (n cap m cap' : Nat) (bs : List UInt8) (h1 : 1 ≤ wd) (h4 : wd ≤ 4) (hN : n + wd * m ≤ 211106232532992) (w : World) (hb : Reads w w.heap.size 1 A n (u8s bs)) (hl : Reads w w.heap.size 1 A' m (i64s is)) :
    Calls Try.prog 29 #[.slice A n cap, .int .i64 wd, .slice A' m cap'] w fun e w' => ∃ v, e = .returned (.tuple #[v, .nilIface]) ∧ w'.ownsRow w.heap.size 5 1 v (n + wd * m) (u8s (bs ++ encL wd is)) ∧ Below w.heap.size w w' :=
  (put_any A A' n cap m cap' wd bs is h1 h4 hN w hb hl).mono fun e w' h => by
    rcases h with ⟨_, h⟩ | ⟨k, b, h, _⟩
    · exact h
    · exact (h.notAll hf).elim
theorem put_bad {wd : Nat} {is : List Int} {k : Nat} (hf : FirstBad wd is k) (A A' : Option Addr) (n cap m cap' : Nat) (bs : List UInt8) (h1 : 1 ≤ wd) (h4 : wd ≤ 4) (hN : n + wd * m ≤ 211106232532992) (w : World) (hb : Reads w w.heap.size 1 A n (u8s bs)) (hl : Reads w w.heap.size 1 A' m (i64s is)) :
    Calls Try.prog 29 #[.slice A n cap, .int .i64 wd, .slice A' m cap'] w fun e w' => ∃ b, e = .returned (.tuple #[.slice none 0 0, faultV b]) ∧ FaultAt w' b k 2 ∧ Below w.heap.size w w' :=
  (put_any A A' n cap m cap' wd bs is h1 h4 hN w hb hl).mono fun e w' h => by
    rcases h with ⟨h, _⟩ | ⟨j, b, h, h'⟩
    · exact (hf.notAll h).elim
    · obtain rfl := h.one hf; exact ⟨b, h'⟩

theorem own_slice {w : World} {base n : Nat} {t : TypeId} {v : Value} {xs : List Value} (h : w.ownsRow base t 1 v n xs) : ∃ A cap, v = .slice A n cap ∧ Reads w w.heap.size 1 A n xs ∧ (∀ ad, A = some ad → base ≤ ad.block) := by
  have e : ∃ A c, v = .slice A n c := by
    rcases h.2 with ⟨rfl, h0⟩ | ⟨g', cap', cur, rfl, _⟩
    · subst h0; exact ⟨_, _, rfl⟩
    · exact ⟨_, _, rfl⟩
  obtain ⟨A, c, rfl⟩ := e
  exact ⟨A, c, rfl, Reads.of_own h, fun ad ha => by subst ha; exact ownBlock_ge h ad.block (by simp [Value.ownBlock])⟩

theorem ex_fit : AllFit 2 [1, 258] := by intro x hx; simp at hx; rcases hx with rfl | rfl <;> decide
theorem ex_bytes : encL 2 [1, 258] = [0, 1, 1, 2] := by decide +kernel

end Go.Proofs.Ythdfgdehddmkpaa
