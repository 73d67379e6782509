/- How often a message was sent, told, and is on its way. -/
import Derived.Test.YtmjmplkhngpgnaaMapM
import Derived.Test.YtmjmplkhngpgnaaLaw5R
import Derived.Deep.RegionHeld
namespace Go.Proofs.Ytmjmplkhngpgnaa
open Go.RowKit
set_option linter.unusedVariables false
set_option linter.unusedSimpArgs false

theorem often_bad {lim : Int} {ms : List (List Int)} {a : List Int} (h : doC lim ms a ≠ 0) : doMs lim ms a = ms := by
  unfold doC at h
  unfold doMs
  split
  · rename_i k0
    rw [if_pos k0] at h
    unfold sendC addC at h
    unfold sendMs addMs
    repeat' split at h
    all_goals (repeat' split) <;> first | rfl | (exact absurd rfl h) | (exfalso; simp_all; done)
  · rename_i k0
    rw [if_neg k0] at h
    split
    · rename_i k4
      rw [if_pos k4] at h
      exact absurd rfl h
    · rename_i k4
      rw [if_neg k4] at h
      split
      · rename_i k3
        rw [if_pos k3] at h
        unfold twC addC at h
        unfold twMs addMs
        by_cases hz : ms.length = 0
        · rw [if_pos hz]
        · rw [if_neg hz] at h ⊢
          by_cases hl : lim ≤ ms.length
          · rw [if_pos hl]
          · rw [if_neg hl] at h; exact absurd rfl h
      · rename_i k3
        rw [if_neg k3] at h
        split
        · rename_i k1
          rw [if_pos k1] at h
          unfold pickC at h
          by_cases hz : ms.length = 0
          · exact (dlv_none hz _).2
          · rw [if_neg hz] at h; exact absurd rfl h
        · rfl
theorem often_send {lim : Int} {ms : List (List Int)} {a : List Int} (k0 : fld a 0 = 0) (h : doC lim ms a = 0) : doMs lim ms a = ms ++ [a.drop 2] := by
  unfold doC at h
  unfold doMs
  rw [if_pos k0] at h ⊢
  unfold sendC addC at h
  unfold sendMs addMs
  by_cases hm : mayB (a.drop 2) = true
  · rw [if_pos hm] at h ⊢
    by_cases hl : lim ≤ ms.length
    · rw [if_pos hl] at h; cases h
    · rw [if_neg hl]
  · rw [if_neg hm] at h; cases h
theorem often_dlv {lim : Int} {ms : List (List Int)} {a : List Int} (k1 : fld a 0 = 1) (h : doC lim ms a = 0) : 0 < ms.length ∧ doM ms a = dlvM ms (fld a 1) ∧ doMs lim ms a = dlvMs ms (fld a 1) := by
  unfold doC at h
  rw [if_neg (by omega), if_neg (by omega), if_neg (by omega), if_pos (Or.inl k1)] at h
  unfold pickC at h
  refine ⟨Nat.pos_of_ne_zero fun hz => ?_, by unfold doM; rw [if_pos k1], by unfold doMs; rw [if_neg (by omega), if_neg (by omega), if_neg (by omega), if_pos (Or.inl k1)]⟩
  rw [if_pos hz] at h; cases h
theorem often_twice {lim : Int} {ms : List (List Int)} {a : List Int} (k3 : fld a 0 = 3) (h : doC lim ms a = 0) : 0 < ms.length ∧ doMs lim ms a = ms ++ [dlvM ms (fld a 1)] := by
  unfold doC at h
  rw [if_neg (by omega), if_neg (by omega), if_pos k3] at h
  unfold doMs
  rw [if_neg (by omega), if_neg (by omega), if_pos k3]
  unfold twC addC at h
  unfold twMs addMs
  by_cases hz : ms.length = 0
  · rw [if_pos hz] at h; cases h
  · rw [if_neg hz] at h ⊢
    by_cases hl : lim ≤ ms.length
    · rw [if_pos hl] at h; cases h
    · rw [if_neg hl]; exact ⟨by omega, rfl⟩
theorem often_rest {lim : Int} {ms : List (List Int)} {a : List Int} (k0 : fld a 0 ≠ 0) (k1 : fld a 0 ≠ 1) (k3 : fld a 0 ≠ 3) : (doMs lim ms a).Sublist ms := by
  unfold doMs
  rw [if_neg k0]
  split
  · exact List.nil_sublist _
  · first | rw [if_neg k3] | skip
    split
    · first | exact List.eraseIdx_sublist _ _ | exact absurd (by assumption) k3
    · first | exact List.Sublist.refl _ | (split <;> first | exact List.eraseIdx_sublist _ _ | exact List.Sublist.refl _)

/-- What the two maps hold, and what is on its way. -/
structure Bal (fin fout : List Int → Int) (ms : List (List Int)) (k : Nat) : Prop where
  all : ∀ m ∈ ms, Word28 m
  bal : ∀ m, fout m + (ms.count m : Int) ≤ fin m
  pos : ∀ m, 0 ≤ fout m
  top : ∀ m, fin m ≤ k
namespace Bal
variable {fin fout : List Int → Int} {ms ms' : List (List Int)} {k : Nat}
theorem start : Bal (fun _ => 0) (fun _ => 0) [] 0 := ⟨by simp, by simp, by simp, by simp⟩
theorem fin_in (h : Bal fin fout ms k) (m : List Int) : 0 ≤ fin m ∧ fin m ≤ k := ⟨by have := h.bal m; have := h.pos m; omega, h.top m⟩
theorem fout_in (h : Bal fin fout ms k) (m : List Int) : 0 ≤ fout m ∧ fout m ≤ fin m ∧ fout m ≤ k := ⟨h.pos m, by have := h.bal m; omega, by have := h.bal m; have := h.top m; omega⟩
theorem less (h : Bal fin fout ms k) (hs : ms'.Sublist ms) : Bal fin fout ms' (k + 1) :=
  ⟨fun m hm => h.all m (hs.subset hm), fun m => by have := hs.count_le m; have := h.bal m; omega, h.pos, fun m => by have := h.top m; omega⟩
theorem put (h : Bal fin fout ms k) {m : List Int} (hm : Word28 m) : Bal (fun x => if x = m then fin m + 1 else fin x) fout (ms ++ [m]) (k + 1) := by
  refine ⟨fun x hx => ?_, fun x => ?_, h.pos, fun x => ?_⟩
  · rcases List.mem_append.1 hx with hx | hx
    · exact h.all x hx
    · obtain rfl : x = m := by simpa using hx
      exact hm
  · have hb := h.bal x
    rw [List.count_append]
    show fout x + _ ≤ if x = m then fin m + 1 else fin x
    by_cases e : x = m
    · subst e; rw [if_pos rfl]; simp; omega
    · rw [if_neg e, List.count_singleton, if_neg (by simpa using fun h => e h.symm)]; omega
  · show (if x = m then fin m + 1 else fin x) ≤ _
    split
    · have := h.top m; omega
    · have := h.top x; omega
theorem perm_erase {α : Type} : ∀ (l : List α) (i : Nat) (h : i < l.length), l.Perm (l[i] :: l.eraseIdx i)
  | x :: l, 0, _ => List.Perm.refl _
  | x :: l, i + 1, h => ((perm_erase l i (by simpa using h)).cons x).trans (List.Perm.swap _ _ _)
theorem dlv_mem (h : 0 < ms.length) (j : Int) : dlvM ms j ∈ ms := by
  have hp := pickN_lt j h
  unfold dlvM
  rw [show ms.getD (pickN j ms.length) zM = ms[pickN j ms.length] by simp [List.getD, hp]]
  exact List.getElem_mem hp
theorem tell (h : Bal fin fout ms k) (hz : 0 < ms.length) (j : Int) : Bal fin (fun x => if x = dlvM ms j then fout (dlvM ms j) + 1 else fout x) (dlvMs ms j) (k + 1) ∧ fout (dlvM ms j) + 1 ≤ fin (dlvM ms j) := by
  have hp := pickN_lt j hz
  have hmem := dlv_mem hz j
  have hperm : ms.Perm (dlvM ms j :: dlvMs ms j) := by
    unfold dlvM dlvMs
    rw [show ms.getD (pickN j ms.length) zM = ms[pickN j ms.length] by simp [List.getD, hp]]
    exact perm_erase ms _ hp
  have hc : ∀ x, ms.count x = (dlvM ms j :: dlvMs ms j).count x := fun x => hperm.count_eq x
  have hfit : fout (dlvM ms j) + 1 ≤ fin (dlvM ms j) := by
    have hb := h.bal (dlvM ms j)
    rw [hc, List.count_cons_self] at hb
    omega
  refine ⟨⟨fun x hx => h.all x ((List.eraseIdx_sublist _ _).subset hx), fun x => ?_, fun x => ?_, fun x => by have := h.top x; omega⟩, hfit⟩
  · have hb := h.bal x
    rw [hc] at hb
    show (if x = dlvM ms j then fout (dlvM ms j) + 1 else fout x) + _ ≤ _
    by_cases e : x = dlvM ms j
    · rw [if_pos e]
      rw [e, List.count_cons_self] at hb
      rw [e]
      omega
    · rw [if_neg e]
      rw [List.count_cons_of_ne (fun h => e h.symm)] at hb
      exact hb
  · show 0 ≤ if x = dlvM ms j then fout (dlvM ms j) + 1 else fout x
    split
    · have := h.pos (dlvM ms j); omega
    · exact h.pos x
end Bal

/-! ### at the operation -/
section
variable {w w' : World} {b n : Nat} {f : List Int → Int}
theorem MapM.lt (h : MapM w b n f) : b < w.heap.size := by obtain ⟨es, h1, _⟩ := h; exact (Array.getElem?_eq_some_iff.1 h1).1
theorem MapM.ne {g : Nat} {t : TypeId} {cs : Array Value} (h : MapM w b n f) (hk : Blk w g t cs) : b ≠ g := fun e => by
  obtain ⟨es, h1, _⟩ := h
  subst e
  have h2 : w.heap[b]? = some (.cells cs t) := hk
  rw [h1] at h2
  cases h2
theorem MapM.step (h : MapM w b n f) (hb : Below w.heap.size w w') : MapM w' b n f := h.kept (hb.block b h.lt)
theorem MapM.turn {S : Nat → Prop} (h : MapM w b n f) (ht : Turn S w w') (hn : ¬ S b) : MapM w' b n f := h.kept (ht.block b h.lt hn)
theorem MapM.byNet {B g : Nat} {r : Option Nat} {lim : Int} {ms : List (List Int)} (h : MapM w b n f) (N : Net w B g r lim ms) (ht : Turn (NS g r) w w') : MapM w' b n f := h.turn ht fun hs => by
  obtain ⟨v, ps, hw, rfl⟩ := N
  rcases hs with hs | hs
  · exact h.ne hw.box hs
  · obtain ⟨cur, hh, _⟩ := own_heap hw.row b hs
    exact h.ne hh rfl
theorem Net.byMap {B g : Nat} {r : Option Nat} {lim : Int} {ms : List (List Int)} (N : Net w B g r lim ms) (h : MapM w b n f) (ht : Turn (fun k => k = b) w w') : Net w' B g r lim ms :=
  N.turn ht (fun e => by obtain ⟨u, ps, hw, _⟩ := N; exact h.ne hw.box e.symm)
    (fun k hk e => by obtain ⟨u, ps, hw, rfl⟩ := N; obtain ⟨cur, hh, _⟩ := own_heap hw.row k hk; exact h.ne hh e.symm)
    (fun k cs hk e => h.ne hk e.symm)
theorem MapM.byMap {c n' : Nat} {f' : List Int → Int} (h : MapM w b n f) (hne : b ≠ c) (ht : Turn (fun k => k = c) w w') : MapM w' b n f := h.turn ht hne
theorem turn_grown {c : Nat} (hg : w.grownBy w' (some c)) : Turn (fun k => k = c) w w' := (Turn.refl _ _).grown hg fun k hk _ => by cases hk; rfl
theorem exec_lookup {P : Program} {a : Act} {o : Oper} {w : World} {ty : TypeId} {m x : Operand} {v r k : Value} (ho : o.op = .lookup ty m x false) (hm : a.eval m = r) (hx : a.eval x = k) (hL : (Instr.lookup ty r k false).run P w = .ok v w) : (execOp a.eval o).run P w = .ok (.value v) w := by
  simp [execOp, ho, hm, hx, hL, Result.andThen]
/-- The entry sought or made, at the operation. -/
theorem step_entry {Q : Exit → Act → World → Prop} {K : Act → World → Prop} {o : Oper} {a : Act} {mo xo : Operand} (ho : o.op = Op.mapEntry 56 mo xo) (h : MapM w b n f) {m : List Int} (hm : Word28 m)
    (em : a.eval mo = .map (some b)) (ex : a.eval xo = .agg (mc m)) (hK : ∀ w' (j : Nat), MapM w' b (n + 1) f → StandsAt w' b j m → w.grownBy w' (some b) → K (a.put o.dst (.tuple #[.int .i64 (f m), .int .i64 j])) w') : o.wp Try.prog a w K Q := by
  obtain ⟨w', j, hrun, r1, r2, r3⟩ := h.entry hm
  unfold Oper.wp
  simp [execOp, ho, em, ex, hrun, Result.andThen]
  exact hK w' j r1 r2 r3
theorem step_entryStore {Q : Exit → Act → World → Prop} {K : Act → World → Prop} {o : Oper} {a : Act} {t : TypeId} {mo so vo : Operand} (ho : o.op = Op.entryStore t mo so vo) (h : MapM w b n f) {m : List Int} {j : Nat} (hj : StandsAt w b j m) {c : Int}
    (em : a.eval mo = .map (some b)) (es : a.eval so = .int .i64 j) (ev : a.eval vo = .int .i64 c) (hK : ∀ w', MapM w' b n (fun x => if x = m then c else f x) → w.grownBy w' (some b) → K (a.put o.dst undef) w') : o.wp Try.prog a w K Q := by
  obtain ⟨w', hrun, r1, r2⟩ := h.store hj c t
  unfold Oper.wp
  simp [execOp, ho, em, es, ev, hrun, Result.andThen]
  exact hK w' r1 r2
end
end Go.Proofs.Ytmjmplkhngpgnaa
