/- The document's EdgesSame, of edges that read alike. -/
import Derived.Test.YtiapnaecdefonaaEdgA
import Derived.Test.YtiapnaecdefonaaHeld
import Derived.Deep.RegionHeld
namespace Go.Proofs.Ytiapnaecdefonaa
open Go.RowKit
set_option linter.unusedVariables false
set_option linter.unusedSimpArgs false

theorem flat_edgeW : flatB Try.prog 5 41 = some (true, 4) := by kernel_rfl
theorem neq_edge_same (l : List Int) (hl : l.length = 4) (W : World) : (binOp .neq 41 (.agg (ints l).toArray) (.agg (ints l).toArray)).run Try.prog W = .ok (.bool false) W := by
  refine (neq_flat flat_edgeW (by omega) (xs := l) (ys := l) hl hl W).trans ?_
  simp
theorem load_edgeW {w : World} {ad : Addr} {l : List Int} (hl : l.length = 4) (hc : ∀ (j : Nat) (v : Value), (ints l)[j]? = some v → w.cell? (ad.add j) = some v) : (loadVar 41 ad).run Try.prog w = .ok (.agg (ints l).toArray) w :=
  run_loadVar_cells w _ _ (ints l) _ hc Try.underlying41 rfl (by rw [ints_length, hl]; exact info_edge4)
theorem exec_loadE {P : Program} {a : Act} {o : Oper} {w : World} {ty : TypeId} {x : Operand} {v : Value} (ho : o.op = .load ty x) {ad : Addr} (hx : a.eval x = .pointer (some ad)) (hL : (loadVar ty ad).run P w = .ok v w) : (execOp a.eval o).run P w = .ok (.value v) w := by
  unfold execOp
  simp only [ho, hx, Instr.loadAt, Instr.sureAddr, Sem.run_bind, Sem.run_pure, Result.andThen_ok, hL]
set_option maxRecDepth 100000 in
set_option maxHeartbeats 4000000 in
theorem edges_same (A A' : Option Addr) (n c c' B B' : Nat) (ls : List (List Int)) (w : World) (hn : n ≤ 1000000) (h : EdgM w B A n ls) (h' : EdgM w B' A' n ls) :
    Calls Try.prog 15 #[.slice A n c, .slice A' n c'] w fun e w' => e = .returned (.bool true) ∧ ∃ q, w' = w.drewN q := by
  have e1 : ((n : Int) == (n : Int)) = true := by simp
  have H := Lib.hid h
  have H' := Lib.hid h'
  clear h h'
  go_enter Try.func15, Try.ntmps15
  go_wp2_with fail
  go_loopw [5] (fun i W => ∃ k q : Nat, k ≤ n ∧ i = .int .i64 k ∧ W = w.drewN q) (fun i _ => n - (RowKit.intOf i).toNat)
  case atStart => exact ⟨0, 0, Nat.zero_le _, rfl, rfl⟩
  case round =>
    obtain ⟨k, q, hk, rfl, rfl⟩ := hrel
    by_cases hlt : k < n
    · obtain ⟨b, off, a, s, t, u, rfl, hbl, ⟨hl, e⟩, hc, _, _⟩ := H.out.at_ hlt
      obtain ⟨b', off', a', s', t', u', rfl, hbl', ⟨_, e'⟩, hc', _, _⟩ := H'.out.at_ hlt
      rw [e] at e'
      rw [← e'] at hc'
      have HC := Lib.hid hc
      have HC' := Lib.hid hc'
      have HL := Lib.hid (show [a, s, t, u].length = 4 from rfl)
      clear hc hc' hbl hbl' e e'
      generalize [a, s, t, u] = p at HC HC' HL
      have d0 : decide ((k : Int) < (n : Int)) = true := by simp; omega
      have he := fun W => neq_edge_same p HL.out W
      go_wp2_with fail
      refine wp_region_held_drew (S := fun w' => ∃ q, w' = w.drewN q) (by kernel_rfl) ?_ (fun hHeld => ?_)
      · exact ⟨q + 1, rfl⟩
      refine wpAnyH_take (i := 0) (v := ?_) rfl (by kernel_rfl) (by kernel_rfl) (by kernel_rfl) (fun _ _ _ h => h) (Or.inl ⟨by rfl, ?_⟩) (by assumption) ?_
      rotate_left
      · (intro w0 hSw; (try dsimp only at hSw); go_simp; try with_reducible rfl)
      try simp only [List.getElem_toArray, List.getElem_cons_succ, List.getElem_cons_zero, Act.put, List.setIfInBounds_toArray, List.set_cons_zero, List.set_cons_succ]
      refine wpAnyH_take (i := 1) (v := ?_) rfl (by kernel_rfl) (by kernel_rfl) (by kernel_rfl) (fun _ _ _ h => h) (Or.inl ⟨by rfl, ?_⟩) (by assumption) ?_
      rotate_left
      · (intro w0 hSw; (try dsimp only at hSw); go_simp; try with_reducible rfl)
      try simp only [List.getElem_toArray, List.getElem_cons_succ, List.getElem_cons_zero, Act.put, List.setIfInBounds_toArray, List.set_cons_zero, List.set_cons_succ]
      refine wpAnyH_take (i := 2) (v := ?_) rfl (by kernel_rfl) (by kernel_rfl) (by kernel_rfl) (fun _ _ _ h => h) (Or.inl ⟨by rfl, ?_⟩) (by assumption) ?_
      rotate_left
      · (intro w0 hSw; (try dsimp only at hSw); go_simp; try with_reducible rfl)
      try simp only [List.getElem_toArray, List.getElem_cons_succ, List.getElem_cons_zero, Act.put, List.setIfInBounds_toArray, List.set_cons_zero, List.set_cons_succ]
      refine wpAnyH_take (i := 3) (v := .agg (ints p).toArray) rfl (by kernel_rfl) (by kernel_rfl) (by kernel_rfl) (fun _ _ _ h => h) (Or.inl ⟨by rfl, ?_⟩) (by assumption) ?_
      · intro w0 hSw
        obtain ⟨q1, rfl⟩ := hSw
        exact exec_loadE (x := .tmp 19) rfl (ad := ⟨b, off + k * 4, none⟩) rfl (load_edgeW (w := w.drewN q1) HL.out (fun j v hv => HC.out j v hv))
      try simp only [List.getElem_toArray, List.getElem_cons_succ, List.getElem_cons_zero, Act.put, List.setIfInBounds_toArray, List.set_cons_zero, List.set_cons_succ]
      go_simp
      refine wpAnyH_take (i := 4) (v := ?_) rfl (by kernel_rfl) (by kernel_rfl) (by kernel_rfl) (fun _ _ _ h => h) (Or.inl ⟨by rfl, ?_⟩) (by assumption) ?_
      rotate_left
      · (intro w0 hSw; (try dsimp only at hSw); go_simp; try with_reducible rfl)
      try simp only [List.getElem_toArray, List.getElem_cons_succ, List.getElem_cons_zero, Act.put, List.setIfInBounds_toArray, List.set_cons_zero, List.set_cons_succ]
      refine wpAnyH_take (i := 5) (v := ?_) rfl (by kernel_rfl) (by kernel_rfl) (by kernel_rfl) (fun _ _ _ h => h) (Or.inl ⟨by rfl, ?_⟩) (by assumption) ?_
      rotate_left
      · (intro w0 hSw; (try dsimp only at hSw); go_simp; try with_reducible rfl)
      try simp only [List.getElem_toArray, List.getElem_cons_succ, List.getElem_cons_zero, Act.put, List.setIfInBounds_toArray, List.set_cons_zero, List.set_cons_succ]
      refine wpAnyH_take (i := 6) (v := ?_) rfl (by kernel_rfl) (by kernel_rfl) (by kernel_rfl) (fun _ _ _ h => h) (Or.inl ⟨by rfl, ?_⟩) (by assumption) ?_
      rotate_left
      · (intro w0 hSw; (try dsimp only at hSw); go_simp; try with_reducible rfl)
      try simp only [List.getElem_toArray, List.getElem_cons_succ, List.getElem_cons_zero, Act.put, List.setIfInBounds_toArray, List.set_cons_zero, List.set_cons_succ]
      refine wpAnyH_take (i := 7) (v := .agg (ints p).toArray) rfl (by kernel_rfl) (by kernel_rfl) (by kernel_rfl) (fun _ _ _ h => h) (Or.inl ⟨by rfl, ?_⟩) (by assumption) ?_
      · intro w0 hSw
        obtain ⟨q1, rfl⟩ := hSw
        exact exec_loadE (x := .tmp 23) rfl (ad := ⟨b', off' + k * 4, none⟩) rfl (load_edgeW (w := w.drewN q1) HL.out (fun j v hv => HC'.out j v hv))
      try simp only [List.getElem_toArray, List.getElem_cons_succ, List.getElem_cons_zero, Act.put, List.setIfInBounds_toArray, List.set_cons_zero, List.set_cons_succ]
      go_simp
      refine wpAnyH_take (i := 8) (v := ?_) rfl (by kernel_rfl) (by kernel_rfl) (by kernel_rfl) (fun _ _ _ h => h) (Or.inl ⟨by rfl, ?_⟩) (by assumption) ?_
      rotate_left
      · (intro w0 hSw; (try dsimp only at hSw); go_simp; try with_reducible rfl)
      try simp only [List.getElem_toArray, List.getElem_cons_succ, List.getElem_cons_zero, Act.put, List.setIfInBounds_toArray, List.set_cons_zero, List.set_cons_succ]
      refine wpAnyH_done (by kernel_rfl) ?_ _
      clear hHeld
      go_wp2_with fail
      go_roundw
      case rel => exact ⟨k + 1, _, by omega, by go_num, rfl⟩
      case measure => simp [RowKit.intOf]; omega
    · obtain rfl : k = n := by omega
      have d0 : decide ((k : Int) < (k : Int)) = false := by simp
      go_wp2_with fail
      go_ret
      exact ⟨rfl, q, rfl⟩
end Go.Proofs.Ytiapnaecdefonaa
