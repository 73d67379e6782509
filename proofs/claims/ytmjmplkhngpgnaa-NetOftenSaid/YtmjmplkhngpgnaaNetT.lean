/- What a call turns; a net in memory. -/
import Derived.Test.YtmjmplkhngpgnaaMsgA
import Derived.Test.YtmjmplkhngpgnaaWord
import Derived.Test.YtmjmplkhngpgnaaBase
namespace Go.Proofs.Ytmjmplkhngpgnaa
open Go.RowKit
set_option linter.unusedVariables false
set_option linter.unusedSimpArgs false

/-- Of the blocks that were there only those of S may have been turned. -/
structure Turn (S : Nat → Prop) (w w' : World) : Prop where
  os : w'.os = w.os
  tape : w'.tape = w.tape
  output : w'.output = w.output
  size : w.heap.size ≤ w'.heap.size
  block : ∀ k, k < w.heap.size → ¬ S k → w'.heap[k]? = w.heap[k]?
section
variable {S S' : Nat → Prop} {w w' w'' : World} {B : Nat}
theorem Turn.refl (S : Nat → Prop) (w : World) : Turn S w w := ⟨rfl, rfl, rfl, Nat.le_refl _, fun _ _ _ => rfl⟩
theorem Turn.mono (h : Turn S w w') (hS : ∀ k, k < w.heap.size → S k → S' k) : Turn S' w w' := ⟨h.os, h.tape, h.output, h.size, fun k hk hn => h.block k hk fun hs => hn (hS k hk hs)⟩
theorem Turn.trans (h : Turn S w w') (h' : Turn S' w' w'') (hS : ∀ k, k < w.heap.size → S' k → S k) : Turn S w w'' :=
  ⟨h'.os.trans h.os, h'.tape.trans h.tape, h'.output.trans h.output, Nat.le_trans h.size h'.size, fun k hk hn => (h'.block k (Nat.lt_of_lt_of_le hk h.size) fun hs => hn (hS k hk hs)).trans (h.block k hk hn)⟩
theorem Turn.of_below (h : Below w.heap.size w w') : Turn S w w' := ⟨h.os, h.tape, h.output, h.size, fun k hk _ => h.block k hk⟩
theorem Turn.below (h : Turn S w w') (hS : ∀ k, k < B → ¬ S k) (hB : B ≤ w.heap.size) : Below B w w' := ⟨h.os, h.tape, h.output, h.size, fun k hk => h.block k (by omega) (hS k hk)⟩
theorem Turn.drew (h : Turn S w w') : Turn S w w'.drew := ⟨h.os, h.tape, h.output, h.size, h.block⟩
theorem Turn.drewN (h : Turn S w w') (n : Nat) : Turn S w (w'.drewN n) := ⟨h.os, h.tape, h.output, h.size, h.block⟩
theorem Turn.step (h : Turn S w w') (hb : Below w'.heap.size w' w'') : Turn S w w'' := h.trans (S' := fun _ => False) (Turn.of_below hb) fun _ _ hf => hf.elim
theorem Turn.alloc (h : Turn S w w') (o : Obj) : Turn S w (w'.alloc o) := h.step (Below.alloc (Below.refl _ _) (Nat.le_refl _) o)
theorem Turn.setCell (h : Turn S w w') {p : Addr} (hp : p.block < w.heap.size → S p.block) (u : Value) : Turn S w (w'.setCell p u) :=
  ⟨h.os, h.tape, h.output, by simpa [World.setCell] using h.size, fun k hk hn => (Below.heap_setCell w' p u k fun e => hn (by subst e; exact hp hk)).trans (h.block k hk hn)⟩
theorem Turn.setCells {b : Nat} (hb : b < w.heap.size → S b) : ∀ (vs : List Value) (o : Nat) (w' : World), Turn S w w' → Turn S w (w'.setCells b o vs)
  | [], _, _, h => h
  | v :: r, o, w', h => Turn.setCells hb r (o + 1) _ (h.setCell (p := ⟨b, o, none⟩) hb v)
theorem Turn.grown (h : Turn S w w') {row : Option Nat} (hg : w'.grownBy w'' row) (hr : ∀ k, row = some k → k < w.heap.size → S k) : Turn S w w'' :=
  ⟨hg.os.trans h.os, hg.tape.trans h.tape, hg.output.trans h.output, Nat.le_trans h.size hg.size,
    fun k hk hn => (hg.block k (Nat.lt_of_lt_of_le hk h.size) fun e => hn (hr k e.symm hk)).trans (h.block k hk hn)⟩
theorem Blk.turn {g : Nat} {t : TypeId} {cs : Array Value} (h : Blk w g t cs) (ht : Turn S w w') (hn : ¬ S g) : Blk w' g t cs := (ht.block g h.lt hn).trans h
theorem Reads.turn {n size : Nat} {A : Option Addr} {xs : List Value} (h : Reads w B size A n xs) (ht : Turn S w w') (hB : B ≤ w.heap.size) (hn : ∀ ad, A = some ad → ¬ S ad.block) : Reads w' B size A n xs :=
  ⟨h.1, fun h0 => by
    obtain ⟨ad, e, hb, hc⟩ := h.2 h0
    exact ⟨ad, e, hb, fun j u hu => (World.cell?_of_block (by rw [block_of_add]; exact ht.block ad.block (by omega) (hn ad e))).trans (hc j u hu)⟩⟩
end
theorem own_heap {w : World} {base n size : Nat} {e : TypeId} {v : Value} {xs : List Value} (h : w.ownsRow base e size v n xs) : ∀ k, v.ownBlock = some k → ∃ cur, w.heap[k]? = some (.cells cur e (0, 0)) ∧ base ≤ k := by
  intro k hk
  rcases h.2 with ⟨rfl, _⟩ | ⟨g, cap, cur, rfl, hb, hh, _⟩
  · simp [Value.ownBlock] at hk
  · simp [Value.ownBlock] at hk; subst hk; exact ⟨cur, hh, hb⟩
theorem own_lt {w : World} {k : Nat} {o : Obj} (h : w.heap[k]? = some o) : k < w.heap.size := by
  rcases Nat.lt_or_ge k w.heap.size with hlt | hge
  · exact hlt
  · rw [Array.getElem?_eq_none hge] at h; cases h
theorem own_turn {S : Nat → Prop} {w w' : World} {base n size : Nat} {e : TypeId} {v : Value} {xs : List Value} (h : w.ownsRow base e size v n xs) (ht : Turn S w w') (hn : ∀ k, v.ownBlock = some k → ¬ S k) : w'.ownsRow base e size v n xs := by
  rcases h with ⟨h0, h1 | ⟨g, cap, cur, hv, hg, hh, h2⟩⟩
  · exact ⟨h0, .inl h1⟩
  · exact ⟨h0, .inr ⟨g, cap, cur, hv, hg, (ht.block g (own_lt hh) (hn g (by rw [hv]; rfl))).trans hh, h2⟩⟩
theorem own_less {w : World} {base base' n size : Nat} {e : TypeId} {v : Value} {xs : List Value} (h : w.ownsRow base e size v n xs) (hb : base' ≤ base) : w.ownsRow base' e size v n xs := by
  rcases h with ⟨h0, h1 | ⟨g, cap, cur, hv, hg, h2⟩⟩
  · exact ⟨h0, .inl h1⟩
  · exact ⟨h0, .inr ⟨g, cap, cur, hv, Nat.le_trans hb hg, h2⟩⟩
/-- Blocks of unlike types are not one. -/
theorem heap_ne {w : World} {g g' : Nat} {t t' : TypeId} {c c' : Array Value} {f f' : Nat × Nat} (h : w.heap[g]? = some (.cells c t f)) (h' : w.heap[g']? = some (.cells c' t' f')) (ht : t ≠ t') : g ≠ g' := by
  intro e; subst e; rw [h] at h'; injection h' with h'; injection h' with _ h' _; exact ht h'

def ptr (p : Nat) : Value := .pointer (some ⟨p, 0, none⟩)
theorem ptr_eq (p : Nat) : ptr p = .pointer (some ⟨p, 0, none⟩) := rfl
/-- A net, all told: block g has its limit and its row v of pointers to the messages ms. -/
structure NetW (w : World) (B g : Nat) (lim : Int) (ms : List (List Int)) (v : Value) (ps : List Nat) : Prop where
  box : Blk w g 78 #[.int .i64 lim, v]
  row : w.ownsRow B 80 1 v ms.length (ps.map ptr)
  pts : ∀ (i p : Nat) (m : List Int), ps[i]? = some p → ms[i]? = some m → Blk w p 31 (mc m)
  all : ∀ m ∈ ms, m.length = 28
  geB : B ≤ g
  cnt : (ms.length : Int) ≤ lim
  top : lim ≤ 65536
/-- A net: block g, its row's block r. -/
def Net (w : World) (B g : Nat) (r : Option Nat) (lim : Int) (ms : List (List Int)) : Prop := ∃ v ps, NetW w B g lim ms v ps ∧ v.ownBlock = r
/-- What a net's calls may turn. -/
def NS (g : Nat) (r : Option Nat) (k : Nat) : Prop := k = g ∨ r = some k
/-- The row's block next. -/
def Next (w : World) (r r' : Option Nat) : Prop := r' = r ∨ ∀ k, r' = some k → w.heap.size ≤ k
theorem Next.refl (w : World) (r : Option Nat) : Next w r r := .inl rfl
theorem Next.ns {w : World} {g : Nat} {r r' : Option Nat} (h : Next w r r') : ∀ k, k < w.heap.size → NS g r' k → NS g r k := by
  intro k hk hs
  rcases hs with hs | hs
  · exact .inl hs
  · rcases h with h | h
    · exact .inr (h ▸ hs)
    · have := h k hs; omega
theorem Next.trans {w w' : World} {r r' r'' : Option Nat} (h : Next w r r') (h' : Next w' r' r'') (hs : w.heap.size ≤ w'.heap.size) : Next w r r'' := by
  rcases h' with h' | h'
  · exact h' ▸ h
  · exact .inr fun k hk => Nat.le_trans hs (h' k hk)
/-- One call behind the other. -/
theorem Turn.next {w w' w'' : World} {g : Nat} {r r' : Option Nat} (h : Turn (NS g r) w w') (h' : Turn (NS g r') w' w'') (hn : Next w r r') : Turn (NS g r) w w'' := h.trans h' hn.ns
section
variable {w w' : World} {B g : Nat} {r : Option Nat} {lim : Int} {ms : List (List Int)} {v : Value} {ps : List Nat}
theorem NetW.len (h : NetW w B g lim ms v ps) : ps.length = ms.length := by have := h.row.1; simpa using this
theorem NetW.turn {S : Nat → Prop} (h : NetW w B g lim ms v ps) (ht : Turn S w w') (hg : ¬ S g) (hr : ∀ k, v.ownBlock = some k → ¬ S k) (hm : ∀ k cs, Blk w k 31 cs → ¬ S k) : NetW w' B g lim ms v ps :=
  ⟨h.box.turn ht hg, own_turn h.row ht hr, fun i p m hp hmm => (h.pts i p m hp hmm).turn ht (hm p _ (h.pts i p m hp hmm)), h.all, h.geB, h.cnt, h.top⟩
theorem Net.turn {S : Nat → Prop} (h : Net w B g r lim ms) (ht : Turn S w w') (hg : ¬ S g) (hr : ∀ k, r = some k → ¬ S k) (hm : ∀ k cs, Blk w k 31 cs → ¬ S k) : Net w' B g r lim ms := by
  obtain ⟨v, ps, hw, rfl⟩ := h
  exact ⟨v, ps, hw.turn ht hg hr hm, rfl⟩
theorem Net.step (h : Net w B g r lim ms) (hb : Below w.heap.size w w') : Net w' B g r lim ms := h.turn (S := fun _ => False) (Turn.of_below hb) id (fun _ _ => id) (fun _ _ _ => id)
theorem Net.lt (h : Net w B g r lim ms) : g < w.heap.size := by obtain ⟨v, ps, hw, _⟩ := h; exact hw.box.lt
theorem Net.geB (h : Net w B g r lim ms) : B ≤ g := by obtain ⟨v, ps, hw, _⟩ := h; exact hw.geB
theorem Net.row_lt (h : Net w B g r lim ms) : ∀ k, r = some k → B ≤ k ∧ k < w.heap.size := by
  obtain ⟨v, ps, hw, rfl⟩ := h
  intro k hk
  obtain ⟨cur, hh, hb⟩ := own_heap hw.row k hk
  exact ⟨hb, own_lt hh⟩
theorem Net.below_of (h : Net w B g r lim ms) (ht : Turn (NS g r) w w') : Below B w w' := ht.below (fun k hk hs => by
  rcases hs with hs | hs
  · have := h.geB; omega
  · have := (h.row_lt k hs).1; omega) (Nat.le_trans h.geB (Nat.le_of_lt h.lt))
/-- What is of another type than a net's own blocks is kept. -/
theorem Net.keeps (h : Net w B g r lim ms) {k : Nat} {t : TypeId} {cs : Array Value} (hk : Blk w k t cs) (h1 : t ≠ 78) (h2 : t ≠ 80) : ¬ NS g r k := by
  obtain ⟨v, ps, hw, rfl⟩ := h
  intro hs
  rcases hs with hs | hs
  · exact heap_ne hk hw.box h1 hs
  · obtain ⟨cur, hh, _⟩ := own_heap hw.row k hs
    exact heap_ne hk hh h2 rfl
theorem Net.kept (h : Net w B g r lim ms) (ht : Turn (NS g r) w w') {k : Nat} {t : TypeId} {cs : Array Value} (hk : Blk w k t cs) (h1 : t ≠ 78) (h2 : t ≠ 80) : Blk w' k t cs := hk.turn ht (h.keeps hk h1 h2)
theorem Net.own_keeps (h : Net w B g r lim ms) {base n size : Nat} {e : TypeId} {u : Value} {xs : List Value} (hu : w.ownsRow base e size u n xs) (h1 : e ≠ 78) (h2 : e ≠ 80) : ∀ k, u.ownBlock = some k → ¬ NS g r k := fun k hk => by
  obtain ⟨cur, hh, _⟩ := own_heap hu k hk
  exact h.keeps hh h1 h2
theorem Net.own_kept (h : Net w B g r lim ms) (ht : Turn (NS g r) w w') {base n size : Nat} {e : TypeId} {u : Value} {xs : List Value} (hu : w.ownsRow base e size u n xs) (h1 : e ≠ 78) (h2 : e ≠ 80) : w'.ownsRow base e size u n xs := own_turn hu ht (h.own_keeps hu h1 h2)
/-- Another net is kept. -/
theorem Net.other {B' g' : Nat} {r' : Option Nat} {lim' : Int} {ms' : List (List Int)} (h : Net w B g r lim ms) (h' : Net w B' g' r' lim' ms') (ht : Turn (NS g r) w w') (hg : g' ≠ g) (hr : ∀ k, r' = some k → r ≠ some k) : Net w' B' g' r' lim' ms' := by
  refine h'.turn ht ?_ ?_ ?_
  · intro hs
    rcases hs with hs | hs
    · exact hg hs
    · obtain ⟨v, ps, hw, rfl⟩ := h
      obtain ⟨v', ps', hw', rfl⟩ := h'
      obtain ⟨cur, hh, _⟩ := own_heap hw.row g' hs
      exact heap_ne hw'.box hh (by decide) rfl
  · intro k hk hs
    rcases hs with hs | hs
    · obtain ⟨v, ps, hw, rfl⟩ := h
      obtain ⟨v', ps', hw', rfl⟩ := h'
      obtain ⟨cur, hh, _⟩ := own_heap hw'.row k hk
      exact heap_ne hh hw.box (by decide) hs
    · exact hr k hk hs
  · intro k cs hk
    exact h.keeps hk (by decide) (by decide)
end
end Go.Proofs.Ytmjmplkhngpgnaa
