/- The document's way: what its loops keep, in memory and in plain lists. -/
import Derived.Test.YtiapnaecdefonaaGraU
namespace Go.Proofs.Ytiapnaecdefonaa
open Go.RowKit
set_option linter.unusedVariables false
set_option linter.unusedSimpArgs false

theorem own_drewQ {w : World} {base size n : Nat} {t : TypeId} {v : Value} {xs : List Value} (q : Nat) (h : w.ownsRow base t size v n xs) : (w.drewN q).ownsRow base t size v n xs := h
theorem RowsM.drewN {w : World} {base : Nat} {S : Nat → Prop} {xs : List Value} {ps : List (List Int)} (q : Nat) (h : RowsM w base S xs ps) : RowsM (w.drewN q) base S xs ps :=
  ⟨h.1, fun i hi => by
    obtain ⟨v, h1, h2, h3⟩ := h.2 i hi
    exact ⟨v, h1, own_drewQ q h2, h3⟩⟩
/-- The rows of one length, what was met, the longer rows: slices of the call's own. -/
structure WayM (w : World) (base : Nat) (s8 s9 s10 : Value) (xs : List Value) (ps : List (List Int)) (m : List Int) (ys : List Value) (qs : List (List Int)) : Prop where
  r8 : w.ownsRow base 25 1 s8 ps.length xs
  r9 : w.ownsRow base 3 1 s9 m.length (i64s m)
  r10 : w.ownsRow base 25 1 s10 qs.length ys
  ap : ∀ q, s10.ownBlock = some q → s9.ownBlock ≠ some q
  ap8 : ∀ q, s8.ownBlock = some q → ¬ (s9.ownBlock = some q ∨ s10.ownBlock = some q)
  rm : RowsM w base (fun q => s9.ownBlock = some q ∨ s10.ownBlock = some q) xs ps
  rm2 : RowsM w base (fun q => s9.ownBlock = some q ∨ s10.ownBlock = some q) ys qs
section
variable {w w' : World} {base : Nat} {s8 s9 s10 : Value} {xs : List Value} {ps : List (List Int)} {m : List Int} {ys : List Value} {qs : List (List Int)}
theorem WayM.drewN (q : Nat) (h : WayM w base s8 s9 s10 xs ps m ys qs) : WayM (w.drewN q) base s8 s9 s10 xs ps m ys qs :=
  ⟨own_drewQ q h.r8, own_drewQ q h.r9, own_drewQ q h.r10, h.ap, h.ap8, h.rm.drewN q, h.rm2.drewN q⟩
theorem own_smallV {size n : Nat} {t : TypeId} {v : Value} {l : List Value} (h : w.ownsRow base t size v n l) : ∀ q, v.ownBlock = some q → q < w.heap.size := fun q hq => by
  obtain ⟨cur, hh, _⟩ := own_heap h q hq
  exact own_lt hh
/-- At the beginning of a round of the outer loop. -/
theorem WayM.start (h8 : w.ownsRow base 25 1 s8 ps.length xs) (h9 : w.ownsRow base 3 1 s9 m.length (i64s m)) (hr : RowsM w base (fun q => s9.ownBlock = some q) xs ps) (hap : ∀ q, s8.ownBlock = some q → s9.ownBlock ≠ some q) : WayM w base s8 s9 nilS xs ps m [] [] :=
  ⟨h8, h9, World.ownsRow_nil _ _ _ _, fun q hq => by simp [Value.ownBlock] at hq, fun q hq hs => hs.elim (hap q hq) (fun h => by simp [Value.ownBlock] at h), hr.to (fun q _ hs => hs.elim id (fun h => by simp [Value.ownBlock] at h)), rowsM_nil _ _ _⟩
/-- One number more was met, one longer row is put behind the others. -/
theorem WayM.step {Z2 Z3 Z4 : World} {v s9' s10' : Value} {p : List Int} {x : Int} {o1 o2 : Obj} (h : WayM w base s8 s9 s10 xs ps m ys qs) (hbase : base ≤ w.heap.size) (hb : Below w.heap.size w Z2) (hv : Z2.ownsRow w.heap.size 3 1 v p.length (i64s p))
    (g1 : (Z2.alloc o1).grownBy Z3 s9.ownBlock) (own9 : Z3.ownsRow base 3 1 s9' (m ++ [x]).length (i64s (m ++ [x]))) (b9 : s9'.ownBlock = s9.ownBlock ∨ s9'.ownBlock = some (Z2.alloc o1).heap.size)
    (g2 : (Z3.alloc o2).grownBy Z4 s10.ownBlock) (own10 : Z4.ownsRow base 25 1 s10' (qs ++ [p]).length (ys ++ [v])) (b10 : s10'.ownBlock = s10.ownBlock ∨ s10'.ownBlock = some (Z3.alloc o2).heap.size) :
    WayM Z4 base s8 s9' s10' xs ps (m ++ [x]) (ys ++ [v]) (qs ++ [p]) := by
  have l9 := own_smallV h.r9
  have l10 := own_smallV h.r10
  have l8 := own_smallV h.r8
  have z2 := hb.size
  have z2a : (Z2.alloc o1).heap.size = Z2.heap.size + 1 := by simp
  have z3 := g1.size
  have z3a : (Z3.alloc o2).heap.size = Z3.heap.size + 1 := by simp
  have z4 := g2.size
  have l9' := own_smallV own9
  have T1 : Turn (fun q => s9.ownBlock = some q ∨ s10.ownBlock = some q) Z2 Z3 := ((Turn.refl _ Z2).alloc o1).grown g1 fun q hq _ => .inl hq
  have T2 : Turn (fun q => s10.ownBlock = some q) Z3 Z4 := ((Turn.refl _ Z3).alloc o2).grown g2 fun q hq _ => hq
  have T : Turn (fun q => s9.ownBlock = some q ∨ s10.ownBlock = some q) Z2 Z4 := T1.trans T2 fun _ _ h => .inr h
  have TW : Turn (fun q => s9.ownBlock = some q ∨ s10.ownBlock = some q) w Z4 := (Turn.of_below hb).trans T fun _ _ h => h
  have old : ∀ q, q < w.heap.size → (s9'.ownBlock = some q ∨ s10'.ownBlock = some q) → (s9.ownBlock = some q ∨ s10.ownBlock = some q) := fun q hq hs => by
    rcases hs with hs | hs
    · rcases b9 with b | b
      · left; rw [← b]; exact hs
      · rw [b] at hs; injection hs with hs; omega
    · rcases b10 with b | b
      · right; rw [← b]; exact hs
      · rw [b] at hs; injection hs with hs; omega
  have keep : ∀ {xs : List Value} {ps : List (List Int)}, RowsM w base (fun q => s9.ownBlock = some q ∨ s10.ownBlock = some q) xs ps → RowsM Z4 base (fun q => s9'.ownBlock = some q ∨ s10'.ownBlock = some q) xs ps := fun {xs ps} hr =>
    ((hr.to (S' := fun q => (s9.ownBlock = some q ∨ s10.ownBlock = some q) ∨ (s9'.ownBlock = some q ∨ s10'.ownBlock = some q)) fun q hq hs => hs.elim id (old q hq)).turn (TW.mono fun _ _ h => .inl h)).to fun q _ hs => .inr hs
  have vge : ∀ q, v.ownBlock = some q → w.heap.size ≤ q ∧ q < Z2.heap.size := fun q hq => ⟨ownBlock_ge hv q hq, own_smallV hv q hq⟩
  refine ⟨own_turn h.r8 TW fun q hq => h.ap8 q hq, own_turn own9 T2 fun q hq hs => ?_, own10, fun q hq hs => ?_, fun q hq hs => h.ap8 q hq (old q (l8 q hq) hs), keep h.rm, ?_⟩
  · rcases b9 with b | b
    · rw [b] at hq; exact h.ap q hs hq
    · rw [b] at hq; injection hq with hq
      have := l10 q hs; omega
  · rcases b10 with b | b
    · rw [b] at hq
      rcases b9 with b' | b'
      · rw [b'] at hs; exact h.ap q hq hs
      · rw [b'] at hs; injection hs with hs; have := l10 q hq; omega
    · rw [b] at hq; injection hq with hq
      have := l9' q hs; omega
  · refine (keep h.rm2).snoc (own_less (own_turn hv T fun q hq hs => ?_) hbase) fun q hq hs => ?_
    · have := (vge q hq).1
      rcases hs with hs | hs
      · have := l9 q hs; omega
      · have := l10 q hs; omega
    · obtain ⟨v1, v2⟩ := vge q hq
      rcases hs with hs | hs
      · rcases b9 with b | b
        · rw [b] at hs; have := l9 q hs; omega
        · rw [b] at hs; injection hs with hs; omega
      · rcases b10 with b | b
        · rw [b] at hs; have := l10 q hs; omega
        · rw [b] at hs; injection hs with hs; omega
end
/-- What the lists say: who was met, the longer rows. -/
structure WayP (fr tt : Int) (s : St) (hi : Nat) (m : List Int) (qs : List (List Int)) : Prop where
  row : s.row = fr :: m
  len : hi + qs.length = s.row.length
  more : MoreOk s hi qs
  to_ : tt ∉ m
theorem WayP.visit {F : Int → List Int} {fr tt c x : Int} {s : St} {hi : Nat} {m : List Int} {qs : List (List Int)} {p : List Int} (h : WayP fr tt s hi m qs) (hp : RowOk F fr s c p) (hx : x ∈ F c) (hm : (s.ahead x).isSome = false) (ht : x ≠ tt) : WayP fr tt (Ytiapnaecdefonaa.visit fr c s x) hi (m ++ [x]) (qs ++ [p ++ [x]]) where
  row := by rw [visit_row hm, h.row]; rfl
  len := by rw [visit_row hm, List.length_append, List.length_append, ← h.len]; simp; omega
  more := h.more.snoc h.len.symm hp hx hm
  to_ := by
    rw [List.mem_append]
    rintro (h1 | h1)
    · exact h.to_ h1
    · simp at h1; exact ht h1.symm
theorem wk_met_len {F : Int → List Int} {fr c : Int} {s : St} {N U m : List Int} {k : Nat} (h : BInv F fr s) (hc : c ∈ s.row) (hU : ∀ x y, y ∈ F x → y ∈ U) (e : (wk F N fr c s k).row = fr :: m) : m.length ≤ U.length := by
  have hb := h.wk (N := N) hc k
  refine nodup_len (hb.met_nodup e) fun y hy => ?_
  obtain ⟨d, hd⟩ := Option.isSome_iff_exists.1 ((hb.met_iff e y).1 hy)
  exact hU _ _ (hb.pred y d hd).2.1
end Go.Proofs.Ytiapnaecdefonaa
