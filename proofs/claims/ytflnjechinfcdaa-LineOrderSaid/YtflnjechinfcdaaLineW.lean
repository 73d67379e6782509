/- A slice of those that wait, written out; a lot's slice stored. -/
import Derived.Test.YtflnjechinfcdaaLineF
import Derived.Test.YtflnjechinfcdaaHeld
namespace Go.Proofs.Ytflnjechinfcdaa
open Go.RowKit
set_option linter.unusedVariables false
set_option linter.unusedSimpArgs false

/-- What is built: n elements, told by their cells. -/
def Builds (n : Nat) (vals : Array (Nat × Value)) (cs : Array Value) : Prop := ∀ W : World, (Instr.buildSlice 30 n vals).run Try.prog W = .ok (.slice (some ⟨W.heap.size, 0, none⟩) n n) (W.alloc (.cells cs 33))
theorem builds_of {n : Nat} {vals : Array (Nat × Value)} {cs : Array Value} (h0 : 0 < n) (hn : n ≤ 8) (hf : Instr.fill (fun i => some (i * 4, 4)) ((Array.range (n * 4)).map ((wc zW)[· % (wc zW).size]!)) vals.toList = some cs) : Builds n vals cs := by
  intro W
  obtain ⟨i, hi, hz, hsz, hb⟩ := info_parts info_wait
  have hzz : (zeroValue 33).run Try.prog W = .ok (.agg (wc zW)) W := Try.zeroValue33 W
  have hss : (sizeOf 33).run Try.prog W = .ok 4 W := by simp [sizeOf, typeInfo, hi, hsz]
  have h1 : ¬ (n * 4 > 2 ^ 24) := by omega
  have h2 : ¬ (n * 4 = 0) := by omega
  unfold Instr.buildSlice
  simp only [Sem.run_bind, run_underlying Try.underlying30, Result.andThen_ok, hss, if_neg h1, if_neg h2, hzz, Sem.run_pure, show (Value.agg (wc zW)).cells = wc zW from rfl, hf, newRow]
  simp
theorem builds1 (q : Wt) : Builds 1 #[(0, .agg (wc q))] (wc q) := builds_of (by omega) (by omega) (by kernel_rfl)
theorem builds2 (p q : Wt) : Builds 2 #[(0, .agg (wc p)), (1, .agg (wc q))] (wvs [p, q]).toArray := builds_of (by omega) (by omega) (by kernel_rfl)
theorem builds3 (p q r : Wt) : Builds 3 #[(0, .agg (wc p)), (1, .agg (wc q)), (2, .agg (wc r))] (wvs [p, q, r]).toArray := builds_of (by omega) (by omega) (by kernel_rfl)
theorem builds0 : Builds 0 #[] #[] := by
  intro W
  obtain ⟨i, hi, hz, hsz, hb⟩ := info_parts info_wait
  have hss : (sizeOf 33).run Try.prog W = .ok 4 W := by simp [sizeOf, typeInfo, hi, hsz]
  unfold Instr.buildSlice
  simp [run_underlying Try.underlying30, hss, Instr.fill, newRow]
  rw [show Array.range 0 = #[] from by simp [Array.range], Array.map_empty]
theorem wp_build_w {o : Oper} {a : Act} {w : World} {K : Act → World → Prop} {Q : Exit → Act → World → Prop} (n : Nat) (parts : Array (Nat × Operand)) (ho : o.op = .buildSlice 30 n parts) {vals : Array (Nat × Value)} {cs : Array Value} (hb : Builds n vals cs)
    (hp : parts.toList.map (fun x => (x.1, a.eval x.2)) = vals.toList) (h : K (a.put o.dst (.slice (some ⟨w.heap.size, 0, none⟩) n n)) (w.alloc (.cells cs 33))) : o.wp Try.prog a w K Q := by
  have hrun := hb w
  rw [show vals = parts.map (fun x => (x.1, a.eval x.2)) from by apply Array.ext'; rw [← hp, Array.toList_map]] at hrun
  unfold Oper.wp execOp
  simp only [ho]
  rw [show parts.map (fun x => match x with | (i, x) => (i, a.eval x)) = parts.map (fun x => (x.1, a.eval x.2)) from rfl]
  simp only [Sem.run_bind, hrun, Result.andThen_ok, Sem.run_pure]
  exact h
theorem step_build_w {ops : Array Oper} {o : Oper} {a : Act} {w : World} {K : Act → World → Prop} {Q : Exit → Act → World → Prop} {E : Prop} (hw : Region.wanted o (yielded ops a.tmps) = true) (n : Nat) (parts : Array (Nat × Operand)) (ho : o.op = .buildSlice 30 n parts) {vals : Array (Nat × Value)} {cs : Array Value} (hb : Builds n vals cs)
    (hp : parts.toList.map (fun x => (x.1, a.eval x.2)) = vals.toList) (h : K (a.put o.dst (.slice (some ⟨w.heap.size, 0, none⟩) n n)) (w.alloc (.cells cs 33))) : if Region.wanted o (yielded ops a.tmps) = true then Oper.wp Try.prog o a w K Q else E := by
  rw [if_pos hw]; exact wp_build_w n parts ho hb hp h
theorem wpList_build_w {ops : Array Oper} {rest : List Oper} {o : Oper} {a : Act} {w : World} {Q : Exit → Act → World → Prop} (hg : o.guard = none) (n : Nat) (parts : Array (Nat × Operand)) (ho : o.op = .buildSlice 30 n parts) {vals : Array (Nat × Value)} {cs : Array Value} (hb : Builds n vals cs)
    (hp : parts.toList.map (fun x => (x.1, a.eval x.2)) = vals.toList) (h : wpList Try.prog ops Q rest (a.put o.dst (.slice (some ⟨w.heap.size, 0, none⟩) n n)) (w.alloc (.cells cs 33))) : wpList Try.prog ops Q (o :: rest) a w :=
  wpList_plain hg fun _ hK => wp_build_w n parts ho hb hp (hK _ _ h)
/-- A block of some that wait, as a slice. -/
theorem reads_blk {w : World} {g : Nat} {t : TypeId} {L : List Wt} (h : Blk w g t (wvs L).toArray) : Reads w w.heap.size 4 (some ⟨g, 0, none⟩) L.length (wvs L) :=
  ⟨wvs_length L, fun _ => ⟨_, rfl, h.lt, fun j u hu => by rw [add_lit, Nat.zero_add, h.cell]; simpa using hu⟩⟩
theorem reads_new (W : World) (t : TypeId) (q : Wt) : Reads (W.alloc (.cells (wc q) t)) (W.heap.size + 1) 4 (some ⟨W.heap.size, 0, none⟩) 1 (wv q) := by
  have := reads_blk (L := [q]) (show Blk (W.alloc (.cells (wc q) t)) W.heap.size t (wvs [q]).toArray from Blk.new W t _)
  rw [wvs_single] at this
  simpa using this

theorem reads_box {w : World} {g : Nat} {t : TypeId} {q : Wt} (h : Blk w g t (wc q)) : Reads w w.heap.size 4 (some ⟨g, 0, none⟩) 1 (wv q) := by
  have := reads_blk (L := [q]) (show Blk w g t (wvs [q]).toArray from h)
  rw [wvs_single] at this
  simpa using this
theorem own_w' {w : World} {base n : Nat} {t : TypeId} {v : Value} {xs : List Value} (h : w.ownsRow base t 4 v n xs) {L : List Wt} (e : xs = wvs L) : ∃ A cap, v = .slice A n cap ∧ Reads w w.heap.size 4 A n (wvs L) ∧ n ≤ cap ∧ (∀ ad, A = some ad → base ≤ ad.block ∧ ad.block < w.heap.size ∧ (.slice A n cap : Value).ownBlock = some ad.block) := own_w (e ▸ h)
theorem four_at {w : World} {g : Nat} {t : TypeId} {q : Wt} (h : Blk w g t (wc q)) : ∀ (j : Nat) (v : Value), (wv q)[j]? = some v → w.cell? ((⟨g, 0, none⟩ : Addr).add j) = some v := fun j v hv => by
  rw [add_lit, Nat.zero_add, h.cell]
  simpa [wc, wv] using hv
theorem exec_load {P : Program} {a : Act} {o : Oper} {w : World} {ty : TypeId} {x : Operand} {v : Value} (ho : o.op = .load ty x) {ad : Addr} (hx : a.eval x = .pointer (some ad)) (hL : (loadVar ty ad).run P w = .ok v w) : (execOp a.eval o).run P w = .ok (.value v) w := by
  unfold execOp
  simp only [ho, hx, Instr.loadAt, Instr.sureAddr, Sem.run_bind, Sem.run_pure, Result.andThen_ok, hL]
section
variable {w w3 : World} {B g n : Nat} {lim : Int} {v0 v1 v : Value} {U D L : List Wt}
theorem Lin.g_ne0 (h : Lin w B g lim v0 v1 U D) : v0.ownBlock ≠ some g := fun e => by
  obtain ⟨cur, hh, _⟩ := own_heap h.r0 g e
  exact heap_ne h.box hh (by decide) rfl
theorem Lin.g_ne1 (h : Lin w B g lim v0 v1 U D) : v1.ownBlock ≠ some g := fun e => by
  obtain ⟨cur, hh, _⟩ := own_heap h.r1 g e
  exact heap_ne h.box hh (by decide) rfl
/-- Another slice in the place of the first lot's. -/
theorem Lin.set0 (h : Lin w B g lim v0 v1 U D) (ht : Turn (fun k => v0.ownBlock = some k) w w3) (hown : w3.ownsRow B 33 4 v L.length (wvs L)) (hv : ∀ k, v.ownBlock = some k → v0.ownBlock = some k ∨ w.heap.size ≤ k) (ok : LinOk lim L D) :
    Blk w3 g 58 #[.int .i64 lim, v0, v1] ∧ Lin (w3.setCell ⟨g, 1, none⟩ v) B g lim v v1 L D ∧ Turn (LS g v0.ownBlock v1.ownBlock) w (w3.setCell ⟨g, 1, none⟩ v) := by
  have hb : Blk w3 g 58 #[.int .i64 lim, v0, v1] := h.box.turn ht h.g_ne0
  have hs : Turn (fun k => k = g) w3 (w3.setCell ⟨g, 1, none⟩ v) := (Turn.refl (fun k => k = g) w3).setCell (p := ⟨g, 1, none⟩) (fun _ => rfl) v
  have h1 : w3.ownsRow B 33 4 v1 D.length (wvs D) := own_turn h.r1 ht fun k hk e => h.ne k e hk
  have far : ∀ {n : Nat} {u : Value} {xs : List Value}, w3.ownsRow B 33 4 u n xs → ∀ k, u.ownBlock = some k → ¬ k = g := fun hu k hk e => by
    obtain ⟨cur, hh, _⟩ := own_heap hu k hk
    exact heap_ne hb hh (by decide) e.symm
  refine ⟨hb, ⟨hb.set_ 1 v, own_turn hown hs (far hown), own_turn h1 hs (far h1), fun k hk e => ?_, h.geB, ok⟩, ?_⟩
  · rcases hv k hk with h2 | h2
    · exact h.ne k h2 e
    · obtain ⟨cur, hh, _⟩ := own_heap h.r1 k e
      have := own_lt hh
      omega
  · exact (ht.mono (S' := LS g v0.ownBlock v1.ownBlock) fun k _ hk => .inr (.inl hk)).setCell (p := ⟨g, 1, none⟩) (fun _ => .inl rfl) v
theorem Lin.set1 (h : Lin w B g lim v0 v1 U D) (ht : Turn (fun k => v1.ownBlock = some k) w w3) (hown : w3.ownsRow B 33 4 v L.length (wvs L)) (hv : ∀ k, v.ownBlock = some k → v1.ownBlock = some k ∨ w.heap.size ≤ k) (ok : LinOk lim U L) :
    Blk w3 g 58 #[.int .i64 lim, v0, v1] ∧ Lin (w3.setCell ⟨g, 2, none⟩ v) B g lim v0 v U L ∧ Turn (LS g v0.ownBlock v1.ownBlock) w (w3.setCell ⟨g, 2, none⟩ v) := by
  have hb : Blk w3 g 58 #[.int .i64 lim, v0, v1] := h.box.turn ht h.g_ne1
  have hs : Turn (fun k => k = g) w3 (w3.setCell ⟨g, 2, none⟩ v) := (Turn.refl (fun k => k = g) w3).setCell (p := ⟨g, 2, none⟩) (fun _ => rfl) v
  have h1 : w3.ownsRow B 33 4 v0 U.length (wvs U) := own_turn h.r0 ht fun k hk e => h.ne k hk e
  have far : ∀ {n : Nat} {u : Value} {xs : List Value}, w3.ownsRow B 33 4 u n xs → ∀ k, u.ownBlock = some k → ¬ k = g := fun hu k hk e => by
    obtain ⟨cur, hh, _⟩ := own_heap hu k hk
    exact heap_ne hb hh (by decide) e.symm
  refine ⟨hb, ⟨hb.set_ 2 v, own_turn h1 hs (far h1), own_turn hown hs (far hown), fun k hk e => ?_, h.geB, ok⟩, ?_⟩
  · rcases hv k e with h2 | h2
    · exact h.ne k hk h2
    · obtain ⟨cur, hh, _⟩ := own_heap h.r0 k hk
      have := own_lt hh
      omega
  · exact (ht.mono (S' := LS g v0.ownBlock v1.ownBlock) fun k _ hk => .inr (.inr hk)).setCell (p := ⟨g, 2, none⟩) (fun _ => .inl rfl) v
end
end Go.Proofs.Ytflnjechinfcdaa
