/- slices.Chunk at bytes: its pieces of five. -/
import Derived.RangeFuncNested
import Derived.RangeFuncBound
import Derived.RangeFuncCalls
import Derived.RangeFuncLeaves
import Derived.RangeFuncBox
import Derived.Shelf.Abstract
import Derived.Shelf.RegionOpen
import Derived.WalkKit
import Derived.OwnWalkIn
import Derived.TacticsInMore
import Derived.LoopNIn
import Derived.LoopIn
import Derived.Maps.AppendAt
import Derived.Test.YtggfadiahacgeaaDoorScrD
namespace Go.Proofs.YtggfadiahacgeaaDoor
open Go.RowKit Go.Shelf
set_option linter.unusedVariables false
set_option linter.unusedSimpArgs false
attribute [local go_sem] Oper.semAt_some

/-- How many pieces there are; a piece, as a slice. -/
abbrev pcN (n : Nat) : Nat := (n + 4) / 5
def pcV (b off n k : Nat) : Value := .slice (some ⟨b, off + 5 * k, none⟩) (min 5 (n - 5 * k)) (min 5 (n - 5 * k))
def pcs (n k : Nat) : List (Fin (pcN n)) := (List.finRange (pcN n)).take k
theorem pcs_zero (n : Nat) : pcs n 0 = [] := rfl
theorem pcs_succ {n k : Nat} (h : k < pcN n) : pcs n (k + 1) = pcs n k ++ [⟨k, h⟩] := by
  unfold pcs
  rw [List.take_add_one, List.getElem?_eq_getElem (by simpa using h)]
  simp
theorem pcs_length {n k : Nat} (h : k ≤ pcN n) : (pcs n k).length = k := by unfold pcs; simp [h]
theorem pcs_all (n : Nat) : pcs n (pcN n) = List.finRange (pcN n) := List.take_of_length_le (by simp)

/-- What a round keeps: the slice and the number in their boxes. -/
def KpC (Bs Bn : Nat) (W W' : World) : Prop := (∀ v, W.cell? ⟨Bs, 0, none⟩ = some v → W'.cell? ⟨Bs, 0, none⟩ = some v) ∧ (∀ v, W.cell? ⟨Bn, 0, none⟩ = some v → W'.cell? ⟨Bn, 0, none⟩ = some v)
theorem KpC.refl (Bs Bn : Nat) (W : World) : KpC Bs Bn W W := ⟨fun _ h => h, fun _ h => h⟩
theorem KpC.trans {Bs Bn : Nat} {A B C : World} (h : KpC Bs Bn A B) (k : KpC Bs Bn B C) : KpC Bs Bn A C := ⟨fun v e => k.1 v (h.1 v e), fun v e => k.2 v (h.2 v e)⟩
theorem KpC.drew {Bs Bn : Nat} {A B : World} (h : KpC Bs Bn A B) : KpC Bs Bn A B.drew := h
theorem kpC_b {Bs Bn : Nat} (W : World) (l : Nat) (o o' : Obj) (h : W.heap[l]? = some o) (hc : o.isCells = false) : KpC Bs Bn W (W.putObj l o') :=
  ⟨fun v e => cell_kept e (grownBy_putObj' W l o') (fun r er => by cases er; exact ⟨o, h, hc⟩), fun v e => cell_kept e (grownBy_putObj' W l o') (fun r er => by cases er; exact ⟨o, h, hc⟩)⟩
set_option maxRecDepth 100000 in
set_option maxHeartbeats 2000000 in
theorem chunk1_in (F : Fence) (n : Nat) (h20 : F.fn 31) (hro : F.round = none) (hn : 1 ≤ n) (l Bs Bn b off len cap : Nat) (hreach : len ≤ 140737488351232) (hcap : len ≤ cap) (J Jx : List (Fin (pcN len)) → World → Prop) (hJD : ∀ pre W, J pre W → J pre W.drew)
    (hY : ∀ pre x W, J pre W → pre.length < pcN len → YieldAt F (n - 1) Tryd.prog l #[pcV b off len x.1] W fun e W' =>
      (e = .returned (.bool true) ∧ J (pre ++ [x]) W' ∧ KpC Bs Bn W W') ∨ (e = .returned (.bool false) ∧ Jx (pre ++ [x]) W'))
    (W : World) (hcs : W.cell? ⟨Bs, 0, none⟩ = some (.slice (some ⟨b, off, none⟩) len cap)) (hcn : W.cell? ⟨Bn, 0, none⟩ = some (.int .i64 5)) (h0 : J [] W) :
    CallsIn F n Tryd.prog 31 #[.func (.yield l) #[] #[], .pointer (some ⟨Bs, 0, none⟩), .pointer (some ⟨Bn, 0, none⟩)] W fun e W' => (∃ v, e = .returned v) ∧
      ((∃ ys, ys = List.finRange (pcN len) ∧ J ys W') ∨ (∃ pre, pre <+: List.finRange (pcN len) ∧ Jx pre W')) := by
  refine callsIn_of_wp Tryd.func31 rfl h20 ?_ hro
  simp only [Tryd.ntmps31, List.size_toArray, List.length_cons, List.length_nil, Nat.reduceAdd, Nat.reduceSub, Array.replicate_succ, Array.replicate_zero, List.push_toArray, List.append_toArray, List.nil_append, List.cons_append]
  gi_wp2
  gi_loopw [4] (fun i wr => ∃ k : Nat, k ≤ pcN len ∧ i = .int .i64 ((5 * k : Nat) : Int) ∧ J (pcs len k) wr ∧ KpC Bs Bn W wr)
    (fun i _ => len + 5 - (intOf i).toNat)
  case atStart => exact ⟨0, Nat.zero_le _, rfl, h0, KpC.refl _ _ _⟩
  case round =>
    obtain ⟨k, hk, rfl, hJs, hnx⟩ := hrel
    have ks : wr.cell? ⟨Bs, 0, none⟩ = some (.slice (some ⟨b, off, none⟩) len cap) := hnx.1 _ hcs
    have kn : wr.cell? ⟨Bn, 0, none⟩ = some (.int .i64 5) := hnx.2 _ hcn
    by_cases hlt : k < pcN len
    · have hlt5 : 5 * k < len := by unfold pcN at hlt; omega
      have d1 : decide ((5 * k : Nat) < len) = true := by simp; omega
      have d2 : decide (((5 * k : Nat) : Int) < (len : Int)) = true := by simp; omega
      obtain ⟨fn, tmps, assign, body, hy, hR⟩ := hY _ ⟨k, hlt⟩ wr.drew (hJD _ _ hJs) (by rw [pcs_length hk]; exact hlt)
      dsimp only [pcV] at hy
      have hmx : Tryd.prog.follows .mixedOrders = true := by kernel_rfl
      obtain ⟨m, hm⟩ : ∃ m, m = min 5 (len - 5 * k) := ⟨_, rfl⟩
      have hmi : (if ((len - 5 * k : Nat) : Int) < 5 then ((len - 5 * k : Nat) : Int) else 5) = (m : Int) := by split <;> omega
      gi_wp2
      gi_region_o
      all_goals
        gi_wp2
        refine hR.mono ?_
        rintro e W3 (⟨rfl, hJ3, hk3⟩ | ⟨rfl, hJx3⟩)
        · have kn3 : W3.cell? ⟨Bn, 0, none⟩ = some (.int .i64 5) := hk3.2 _ kn
          gi_wp2
          go_roundw
          case rel => exact ⟨k + 1, by omega, by first | (congr 1; done) | (congr 1; omega), by rw [pcs_succ hlt]; exact hJ3, (hnx.drew).trans hk3⟩
          case measure => simp [intOf]; omega
        · gi_wp2
          refine bodyPost_ret (results_none rfl _ _ _) rfl ?_
          exact ⟨⟨_, rfl⟩, .inr ⟨_, by rw [← pcs_succ hlt]; exact List.take_prefix _ _, hJx3⟩⟩
    · obtain rfl : k = pcN len := by omega
      have d1 : decide ((5 * pcN len : Nat) < len) = false := decide_eq_false (by unfold pcN; omega)
      have d2 : decide ((5 * (pcN len : Int)) < (len : Int)) = false := decide_eq_false (by unfold pcN; omega)
      gi_wp2
      go_end0
      exact ⟨⟨_, rfl⟩, .inl ⟨_, pcs_all len, hJs⟩⟩

set_option maxRecDepth 100000 in
set_option maxHeartbeats 1000000 in
/-- .. of no bytes: no round. -/
theorem chunk1_nil_in (F : Fence) (n : Nat) (h20 : F.fn 31) (hro : F.round = none) (l Bs Bn c : Nat) (A : Option Addr) (J : List (Fin (pcN 0)) → World → Prop) (W : World) (hcs : W.cell? ⟨Bs, 0, none⟩ = some (.slice A 0 c)) (h0 : J [] W) :
    CallsIn F n Tryd.prog 31 #[.func (.yield l) #[] #[], .pointer (some ⟨Bs, 0, none⟩), .pointer (some ⟨Bn, 0, none⟩)] W fun e W' => (∃ v, e = .returned v) ∧ J [] W' := by
  refine callsIn_of_wp Tryd.func31 rfl h20 ?_ hro
  simp only [Tryd.ntmps31, List.size_toArray, List.length_cons, List.length_nil, Nat.reduceAdd, Nat.reduceSub, Array.replicate_succ, Array.replicate_zero, List.push_toArray, List.append_toArray, List.nil_append, List.cons_append]
  gi_wp2
  gi_loopw [4] (fun i wr => i = .int .i64 0 ∧ J [] wr ∧ wr.cell? ⟨Bs, 0, none⟩ = some (.slice A 0 c)) (fun _ _ => 0)
  case atStart => exact ⟨rfl, h0, hcs⟩
  case round =>
    obtain ⟨rfl, hJs, hc⟩ := hrel
    gi_wp2
    go_end0
    exact ⟨⟨_, rfl⟩, hJs⟩

set_option maxHeartbeats 1000000 in
/-- slices.Chunk(s, 5): the slice and the number are boxed. -/
theorem chunk_in (F : Fence) (n : Nat) (h13 : F.fn 20) (hro : F.round = none) (A : Option Addr) (len cap : Nat) (w : World) :
    CallsIn F n Tryd.prog 20 #[.slice A len cap, .int .i64 5] w fun e w' => e = .returned (.func (.func 31) #[] #[.pointer (some ⟨w.heap.size, 0, none⟩), .pointer (some ⟨w.heap.size + 1, 0, none⟩)]) ∧ w' = (w.alloc (.cells #[.slice A len cap] 25)).alloc (.cells #[.int .i64 5] 3) := by
  refine callsIn_of_wp Tryd.func20 rfl h13 ?_ hro
  simp only [Tryd.ntmps20, List.size_toArray, List.length_cons, List.length_nil, Nat.reduceAdd, Nat.reduceSub, Array.replicate_succ, Array.replicate_zero, List.push_toArray, List.append_toArray, List.nil_append, List.cons_append]
  gi_wp2
  go_ret
  exact ⟨rfl, rfl⟩

theorem grownBy_drew (W : World) : W.grownBy W.drew none := ⟨rfl, rfl, rfl, Nat.le_refl _, fun _ _ _ => rfl⟩
theorem abides_drew {β : Type} {B : Nat} {J : β → World → Prop} (h : AbidesFrom B J) (s : β) (W : World) (hs : J s W) : J s W.drew := h s W W.drew none hs (grownBy_drew W) (fun r e => by cases e)
/-- What is handed to a loop over slices.Chunk(s, 5): its pieces, in order. -/
def encP (A : Option Addr) (n : Nat) (x : Fin (pcN n)) : Array Value := #[match A with | some ad => pcV ad.block ad.off n x.1 | none => .nilIface]
theorem chunk_stops (F : Fence) (n : Nat) (h20 : F.fn 31) (hro : F.round = none) (hn : 1 ≤ n) (Bs Bn : Nat) (A : Option Addr) (len cap : Nat) (hreach : len ≤ 140737488351232) (hcap : len ≤ cap) (w : World) (hBs : Bs < w.heap.size) (hBn : Bn < w.heap.size) (hA : 0 < len → ∃ b off, A = some ⟨b, off, none⟩)
    (hcs : w.cell? ⟨Bs, 0, none⟩ = some (.slice A len cap)) (hcn : w.cell? ⟨Bn, 0, none⟩ = some (.int .i64 5)) :
    SeqStopsK F n Tryd.prog 31 #[.pointer (some ⟨Bs, 0, none⟩), .pointer (some ⟨Bn, 0, none⟩)] (encP A len) (KpC Bs Bn) (fun ys => ys = List.finRange (pcN len)) (fun pre => pre <+: List.finRange (pcN len)) (pcN len) w := fun l J Jx W hW hJ hJx hY h0 => by
  have hcs' := (hW.cell (p := ⟨Bs, 0, none⟩) hBs).trans hcs
  have hcn' := (hW.cell (p := ⟨Bn, 0, none⟩) hBn).trans hcn
  by_cases h : len = 0
  · subst h
    exact (chunk1_nil_in F n h20 hro l Bs Bn cap A J W hcs' h0).mono fun e W' ⟨he, hj⟩ => ⟨he, .inl ⟨_, by rw [show List.finRange (pcN 0) = [] from rfl], hj⟩⟩
  · obtain ⟨b, off, rfl⟩ := hA (by omega)
    exact chunk1_in F n h20 hro hn l Bs Bn b off len cap hreach hcap J Jx (fun pre W hs => abides_drew hJ pre W hs) hY W hcs' hcn' h0
end Go.Proofs.YtggfadiahacgeaaDoor
