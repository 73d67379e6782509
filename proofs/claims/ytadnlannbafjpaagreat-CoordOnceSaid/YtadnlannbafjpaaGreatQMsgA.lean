/- Messages as plain lists of 28 numbers: what may be, and their bytes. -/
import Derived.Test.YtadnlannbafjpaaGreatQFlats
import Derived.Test.YtadnlannbafjpaaGreatQBase
import Derived.RegionTactic
import Derived.Outline
import Derived.Deep.RegionWith
import Derived.StillTailTactics
import Derived.Deep.QuietTactic
import Derived.BigQuiet
import Derived.Deep.RegionHeld
namespace Go.Proofs.YtadnlannbafjpaaGreat
open Go.RowKit
set_option linter.unusedVariables false
set_option linter.unusedSimpArgs false
def inS (lo hi x : Int) : Bool := decide (lo ≤ x ∧ x ≤ hi)
theorem inS_iff {lo hi x : Int} : inS lo hi x = true ↔ lo ≤ x ∧ x ≤ hi := by unfold inS; simp
def sTx (k : Int) : Int × Int := if 1 ≤ k ∧ k ≤ 10 then (1, 1048576) else (0, 0)
def sSeq (k : Int) : Int × Int := if 1 ≤ k ∧ k ≤ 3 then (1, 1048576) else (0, 0)
def sMode (k : Int) : Int × Int := if 1 ≤ k ∧ k ≤ 2 then (1, 4) else (0, 0)
def sCode (k : Int) : Int × Int := if k = 3 then (1, 15) else if k = 5 ∨ k = 6 then (0, 1) else (0, 0)
def sNext (k tx : Int) : Int × Int := if k = 10 then (1, wrap64 (tx - 1)) else if k = 11 then (1, 1048576) else (0, 0)
def sNseq (k : Int) : Int × Int := if k = 11 then (0, 1048576) else (0, 0)
def sN (k : Int) : Int × Int := if k = 11 then (1, 8) else (0, 0)
def sAt (k : Int) : Bool := decide (k = 1 ∨ k = 2)
def stTx (m : List Int) (i : Nat) : Int := fld m (12 + i * 2)
def stSeq (m : List Int) (i : Nat) : Int := fld m (12 + i * 2 + 1)
def Fresh (m : List Int) (i j : Nat) : Prop := ∀ k, k < j → stTx m k ≠ stTx m i
theorem Fresh.zero (m : List Int) (i : Nat) : Fresh m i 0 := fun k h => absurd h (by omega)
theorem Fresh.succ {m : List Int} {i j : Nat} (h : Fresh m i j) (hj : stTx m j ≠ stTx m i) : Fresh m i (j + 1) := fun k hk => by
 rcases Nat.lt_or_ge k j with h1 | h1
 · exact h k h1
 · obtain rfl : k = j := by omega
   exact hj
instance (m : List Int) (i j : Nat) : Decidable (Fresh m i j) := by unfold Fresh; infer_instance
def isStepB (m : List Int) (i : Nat) : Bool := decide (Fresh m i i) && (inS 1 1048576 (stTx m i) && inS 1 1048576 (stSeq m i))
theorem isStepB_dup {m : List Int} {i j : Nat} (hj : j < i) (h : stTx m j = stTx m i) : isStepB m i = false := by
 unfold isStepB
 rw [decide_eq_false (fun hf => hf j hj h)]; rfl
theorem isStepB_fresh {m : List Int} {i : Nat} (h : Fresh m i i) : isStepB m i = (inS 1 1048576 (stTx m i) && inS 1 1048576 (stSeq m i)) := by
 unfold isStepB
 rw [decide_eq_true h]; rfl
def okAt (m : List Int) (i : Nat) : Bool := if (i : Int) < fld m 11 then isStepB m i else decide (stTx m i = 0 ∧ stSeq m i = 0)
def PathTill (m : List Int) (k : Nat) : Prop := ∀ i, i < k → okAt m i = true
theorem PathTill.zero (m : List Int) : PathTill m 0 := fun i h => absurd h (by omega)
theorem PathTill.succ {m : List Int} {k : Nat} (h : PathTill m k) (hk : okAt m k = true) : PathTill m (k + 1) := fun i hi => by
 rcases Nat.lt_or_ge i k with h1 | h1
 · exact h i h1
 · obtain rfl : i = k := by omega
   exact hk
instance (m : List Int) (k : Nat) : Decidable (PathTill m k) := by unfold PathTill; infer_instance
def pathB (m : List Int) : Bool := decide (PathTill m 8)
theorem pathB_no {m : List Int} {k : Nat} (hk : k < 8) (h : okAt m k = false) : pathB m = false := by
 unfold pathB
 exact decide_eq_false fun hf => by rw [hf k hk] at h; cases h
theorem pathB_yes {m : List Int} (h : PathTill m 8) : pathB m = true := decide_eq_true h
def downB (m : List Int) : Bool := (fld m 1 == 0) && inS 1 64 (fld m 2)
def upB (m : List Int) : Bool := inS 1 64 (fld m 1) && (fld m 2 == 0)
def wayB (k : Int) (d u : Bool) : Bool :=
 if k = 1 ∨ k = 4 ∨ k = 6 ∨ k = 8 then d else if k = 2 ∨ k = 3 ∨ k = 5 ∨ k = 7 ∨ k = 9 ∨ k = 10 then u else if k = 11 then (d || u) else false
theorem wayB_out {k : Int} (h : k < 1 ∨ 11 < k) (d u : Bool) : wayB k d u = false := by
 unfold wayB
 rw [if_neg (by omega), if_neg (by omega), if_neg (by omega)]
def goesB (m : List Int) : Bool := wayB (fld m 0) (downB m) (upB m)
def resB (t r : Int) : Bool := decide (1 ≤ t ∧ t ≤ 250 ∧ 0 ≤ r ∧ r ≤ 250)
def placeB (named : Bool) (t r : Int) : Bool := if named then resB t r else decide (t = 0 ∧ r = 0)
def mayB (m : List Int) : Bool :=
 goesB m && (inS (sTx (fld m 0)).1 (sTx (fld m 0)).2 (fld m 3) && (inS (sSeq (fld m 0)).1 (sSeq (fld m 0)).2 (fld m 4) && (placeB (sAt (fld m 0)) (fld m 5) (fld m 6) &&
 (inS (sMode (fld m 0)).1 (sMode (fld m 0)).2 (fld m 7) && (inS (sCode (fld m 0)).1 (sCode (fld m 0)).2 (fld m 8) && (inS (sNext (fld m 0) (fld m 3)).1 (sNext (fld m 0) (fld m 3)).2 (fld m 9) &&
 (inS (sNseq (fld m 0)).1 (sNseq (fld m 0)).2 (fld m 10) && (inS (sN (fld m 0)).1 (sN (fld m 0)).2 (fld m 11) && pathB m))))))))
end Go.Proofs.YtadnlannbafjpaaGreat
/- The contracts of package msg's small functions. -/
namespace Go.Proofs.YtadnlannbafjpaaGreat
open Go.RowKit
set_option linter.unusedVariables false
set_option linter.unusedSimpArgs false
def mc (m : List Int) : Array Value := (ints m).toArray
theorem mc_size {m : List Int} (h : m.length = 28) : (mc m).size = 28 := by simp [mc, h]
theorem mc_get {m : List Int} (h : m.length = 28) {i : Nat} (hi : i < 28) : (mc m)[i]? = some (.int .i64 (fld m i)) := by
 simp [mc, ints, fld_get (show i < m.length by omega)]
abbrev spanV (lo hi : Int) : Value := .agg #[.int .i64 lo, .int .i64 hi]
set_option maxRecDepth 100000 in
set_option maxHeartbeats 1000000 in
theorem has_any (lo hi x : Int) (w : World) :
   Calls Tryz.prog 134 #[spanV lo hi, .int .i64 x] w fun e w' => e = .returned (.bool (inS lo hi x)) ∧ w' = w.alloc (.cells #[.int .i64 lo, .int .i64 hi] 194) := by
 have HR : ∀ b : Bool, inS lo hi x = b → Hid (b = inS lo hi x) := fun b h => h.symm
 cases h1 : decide (lo ≤ x) <;> cases h2 : decide (x ≤ hi)
 all_goals
   have HQ := HR _ (by unfold inS; simp only [Bool.decide_and, h1, h2]; rfl)
   clear HR
   go_enter Tryz.func134, Tryz.ntmps134
   go_wp2
   go_ret
   exact ⟨ret_bool HQ.out, rfl⟩
set_option maxRecDepth 100000 in
set_option maxHeartbeats 1000000 in
theorem anyTx_any (w : World) : Calls Tryz.prog 152 #[] w fun e w' => e = .returned (spanV 1 1048576) ∧ w' = w.alloc (.cells #[.int .i64 1, .int .i64 1048576] 194) := by
 go_enter Tryz.func152, Tryz.ntmps152
 go_wp2
 exact bodyPost_ret (v := spanV 1 1048576) (by simp [results, Tryz.results152, go_sem]) rfl ⟨rfl, rfl⟩
set_option maxRecDepth 100000 in
set_option maxHeartbeats 1000000 in
theorem anySeq_any (w : World) : Calls Tryz.prog 151 #[] w fun e w' => e = .returned (spanV 1 1048576) ∧ w' = w.alloc (.cells #[.int .i64 1, .int .i64 1048576] 194) := by
 go_enter Tryz.func151, Tryz.ntmps151
 go_wp2
 exact bodyPost_ret (v := spanV 1 1048576) (by simp [results, Tryz.results151, go_sem]) rfl ⟨rfl, rfl⟩
set_option maxRecDepth 100000 in
set_option maxHeartbeats 1000000 in
theorem anyShard_any (w : World) : Calls Tryz.prog 153 #[] w fun e w' => e = .returned (spanV 1 64) ∧ w' = w.alloc (.cells #[.int .i64 1, .int .i64 64] 194) := by
 go_enter Tryz.func153, Tryz.ntmps153
 go_wp2
 exact bodyPost_ret (v := spanV 1 64) (by simp [results, Tryz.results153, go_sem]) rfl ⟨rfl, rfl⟩
def askV (k tx : Int) : Value := .agg #[.bool (sAt k), .int .i64 (sTx k).1, .int .i64 (sTx k).2, .int .i64 (sSeq k).1, .int .i64 (sSeq k).2, .int .i64 (sMode k).1, .int .i64 (sMode k).2, .int .i64 (sCode k).1, .int .i64 (sCode k).2,
 .int .i64 (sNext k tx).1, .int .i64 (sNext k tx).2, .int .i64 (sNseq k).1, .int .i64 (sNseq k).2, .int .i64 (sN k).1, .int .i64 (sN k).2]
theorem kind_cases (k : Int) : k = 1 ∨ k = 2 ∨ k = 3 ∨ k = 4 ∨ k = 5 ∨ k = 6 ∨ k = 7 ∨ k = 8 ∨ k = 9 ∨ k = 10 ∨ k = 11 ∨ (k < 1 ∨ 11 < k) := by omega
end Go.Proofs.YtadnlannbafjpaaGreat
/- Words on messages in memory, whole; == of messages. -/
namespace Go.Proofs.YtadnlannbafjpaaGreat
open Go.RowKit
set_option linter.unusedVariables false
set_option linter.unusedSimpArgs false
theorem flat_res : flatB Tryz.prog 3 39 = some (true, 2) := by kernel_rfl
theorem flat_step : flatB Tryz.prog 3 42 = some (true, 2) := by kernel_rfl
theorem flat_msg : flatB Tryz.prog 5 45 = some (true, 28) := by kernel_rfl
theorem guard_res : Tryz.prog.eqGuardType Tryz.prog.depth 39 = false := by kernel_rfl
theorem guard_step : Tryz.prog.eqGuardType Tryz.prog.depth 42 = false := by kernel_rfl
theorem guard_msg : Tryz.prog.eqGuardType Tryz.prog.depth 45 = false := by kernel_rfl
theorem eql_res (a b a' b' : Int) (w : World) : (binOp .eql 39 (.agg #[.int .i64 a, .int .i64 b]) (.agg #[.int .i64 a', .int .i64 b'])).run Tryz.prog w = .ok (.bool (decide (a = a' ∧ b = b'))) w :=
 eql_two flat_res (by omega) a b a' b' w
theorem neq_step (a b a' b' : Int) (w : World) : (binOp .neq 42 (.agg #[.int .i64 a, .int .i64 b]) (.agg #[.int .i64 a', .int .i64 b'])).run Tryz.prog w = .ok (.bool (!decide (a = a' ∧ b = b'))) w :=
 neq_two flat_step (by omega) a b a' b' w
def pathL (m : List Int) : List Int := m.drop 12
theorem pathL_step {m : List Int} (hl : m.length = 28) {i : Nat} (hi : i < 8) : ((pathL m).drop (i * 2)).take 2 = [stTx m i, stSeq m i] := by
 unfold pathL stTx stSeq
 rw [List.drop_drop]
 have h1 : 12 + i * 2 < m.length := by omega
 have h2 : 12 + i * 2 + 1 < m.length := by omega
 rw [List.drop_eq_getElem_cons h1, List.drop_eq_getElem_cons h2, List.take_succ_cons, List.take_succ_cons, List.take_zero]
 simp [fld, List.getD, h1, h2]
theorem pathL_size {m : List Int} (hl : m.length = 28) : (Tryz.prog.info? 43).map (·.size) = some (ints (pathL m)).length := by
 rw [ints_length, show (pathL m).length = 16 by simp [pathL, hl]]; kernel_rfl
theorem mc_info {m : List Int} (hl : m.length = 28) : (Tryz.prog.info? 45).map (·.size) = some (mc m).size := by
 rw [mc_size hl]; kernel_rfl
theorem mc_path {w : World} {g : Nat} {m : List Int} (hl : m.length = 28) (h : Blk w g 45 (mc m)) :
   ∀ j v, (ints (pathL m))[j]? = some v → w.cell? ((⟨g, 12, none⟩ : Addr).add j) = some v := by
 have := h.cells_at 12 16 (by simp [hl])
 rw [show ((ints m).drop 12).take 16 = ints (pathL m) by unfold ints pathL; rw [← List.map_drop]; exact List.take_of_length_le (by simp [hl])] at this
 exact this
def zM : List Int := List.replicate 28 0
theorem zM_length : zM.length = 28 := by simp [zM]
theorem mc_there {w : World} {g : Nat} {m q : List Int} (hm : m.length = 28) (hq : q.length = 28) (h : Blk w g 45 (mc m)) : w.there g 0 (mc q).size := h.there (by rw [mc_size hm, mc_size hq]; exact Nat.le_refl _)
theorem mc_put {w : World} {g : Nat} {m q : List Int} (hm : m.length = 28) (hq : q.length = 28) (h : Blk w g 45 (mc m)) : Blk (w.setCells g 0 (mc q).toList) g 45 (mc q) := h.put _ (by rw [mc_size hm, mc_size hq])
theorem mc_zero : mc zM = #[.int .i64 0, .int .i64 0, .int .i64 0, .int .i64 0, .int .i64 0, .int .i64 0, .int .i64 0, .int .i64 0, .int .i64 0, .int .i64 0, .int .i64 0, .int .i64 0, .int .i64 0, .int .i64 0, .int .i64 0, .int .i64 0, .int .i64 0, .int .i64 0, .int .i64 0, .int .i64 0, .int .i64 0, .int .i64 0, .int .i64 0, .int .i64 0, .int .i64 0, .int .i64 0, .int .i64 0, .int .i64 0] := rfl
theorem loadM {w : World} {g : Nat} {m : List Int} (hm : m.length = 28) (h : Blk w g 45 (mc m)) : (loadVar 45 ⟨g, 0, none⟩).run Tryz.prog w = .ok (.agg (mc m)) w :=
 run_loadVar_row w g _ 45 (mc m) (0, 0) _ h Tryz.underlying45 rfl (mc_info hm)
theorem eql_msg {a b : List Int} (ha : a.length = 28) (hb : b.length = 28) (w : World) : (binOp .eql 45 (.agg (mc a)) (.agg (mc b))).run Tryz.prog w = .ok (.bool (decide (a = b))) w := eql_flat flat_msg (by omega) ha hb w
theorem neq_msg {a b : List Int} (ha : a.length = 28) (hb : b.length = 28) (w : World) : (binOp .neq 45 (.agg (mc a)) (.agg (mc b))).run Tryz.prog w = .ok (.bool (!decide (a = b))) w := neq_flat flat_msg (by omega) ha hb w
set_option maxRecDepth 100000 in
set_option maxHeartbeats 4000000 in
theorem asked_1 (m : List Int) (hl : m.length = 28) (hk : fld m 0 = 1) (w : World) :
   Calls Tryz.prog 132 #[.agg (mc m)] w fun e w' => e = .returned (askV (fld m 0) (fld m 3)) ∧ Below w.heap.size w w' := by
 have c0 := mc_get hl (i := 0) (by omega)
 have c3 := mc_get hl (i := 3) (by omega)
 rw [hk] at c0 ⊢
 clear hk
 generalize fld m 3 = tx at c3 ⊢
 go_enter Tryz.func132, Tryz.ntmps132
 go_wp2_with (first | (go_at_call 152; refine (anyTx_any _).mono ?_; rintro e w' ⟨rfl, rfl⟩) | (go_at_call 151; refine (anySeq_any _).mono ?_; rintro e w' ⟨rfl, rfl⟩))
 refine bodyPost_ret (v := askV 1 tx) (by simp [results, Tryz.results132, go_sem, askV, sAt, sTx, sSeq, sMode, sCode, sNext, sNseq, sN]) rfl ⟨rfl, ?_⟩
 repeat (first | exact Below.refl _ _ | refine Below.setCell ?_ (by simp) _ | refine Below.alloc ?_ (by simp <;> omega) _)
set_option maxRecDepth 100000 in
set_option maxHeartbeats 4000000 in
theorem asked_2 (m : List Int) (hl : m.length = 28) (hk : fld m 0 = 2) (w : World) :
   Calls Tryz.prog 132 #[.agg (mc m)] w fun e w' => e = .returned (askV (fld m 0) (fld m 3)) ∧ Below w.heap.size w w' := by
 have c0 := mc_get hl (i := 0) (by omega)
 have c3 := mc_get hl (i := 3) (by omega)
 rw [hk] at c0 ⊢
 clear hk
 generalize fld m 3 = tx at c3 ⊢
 go_enter Tryz.func132, Tryz.ntmps132
 go_wp2_with (first | (go_at_call 152; refine (anyTx_any _).mono ?_; rintro e w' ⟨rfl, rfl⟩) | (go_at_call 151; refine (anySeq_any _).mono ?_; rintro e w' ⟨rfl, rfl⟩))
 refine bodyPost_ret (v := askV 2 tx) (by simp [results, Tryz.results132, go_sem, askV, sAt, sTx, sSeq, sMode, sCode, sNext, sNseq, sN]) rfl ⟨rfl, ?_⟩
 repeat (first | exact Below.refl _ _ | refine Below.setCell ?_ (by simp) _ | refine Below.alloc ?_ (by simp <;> omega) _)
set_option maxRecDepth 100000 in
set_option maxHeartbeats 4000000 in
theorem asked_3 (m : List Int) (hl : m.length = 28) (hk : fld m 0 = 3) (w : World) :
   Calls Tryz.prog 132 #[.agg (mc m)] w fun e w' => e = .returned (askV (fld m 0) (fld m 3)) ∧ Below w.heap.size w w' := by
 have c0 := mc_get hl (i := 0) (by omega)
 have c3 := mc_get hl (i := 3) (by omega)
 rw [hk] at c0 ⊢
 clear hk
 generalize fld m 3 = tx at c3 ⊢
 go_enter Tryz.func132, Tryz.ntmps132
 go_wp2_with (first | (go_at_call 152; refine (anyTx_any _).mono ?_; rintro e w' ⟨rfl, rfl⟩) | (go_at_call 151; refine (anySeq_any _).mono ?_; rintro e w' ⟨rfl, rfl⟩))
 refine bodyPost_ret (v := askV 3 tx) (by simp [results, Tryz.results132, go_sem, askV, sAt, sTx, sSeq, sMode, sCode, sNext, sNseq, sN]) rfl ⟨rfl, ?_⟩
 repeat (first | exact Below.refl _ _ | refine Below.setCell ?_ (by simp) _ | refine Below.alloc ?_ (by simp <;> omega) _)
set_option maxRecDepth 100000 in
set_option maxHeartbeats 4000000 in
theorem asked_4 (m : List Int) (hl : m.length = 28) (hk : fld m 0 = 4) (w : World) :
   Calls Tryz.prog 132 #[.agg (mc m)] w fun e w' => e = .returned (askV (fld m 0) (fld m 3)) ∧ Below w.heap.size w w' := by
 have c0 := mc_get hl (i := 0) (by omega)
 have c3 := mc_get hl (i := 3) (by omega)
 rw [hk] at c0 ⊢
 clear hk
 generalize fld m 3 = tx at c3 ⊢
 go_enter Tryz.func132, Tryz.ntmps132
 go_wp2_with (first | (go_at_call 152; refine (anyTx_any _).mono ?_; rintro e w' ⟨rfl, rfl⟩) | (go_at_call 151; refine (anySeq_any _).mono ?_; rintro e w' ⟨rfl, rfl⟩))
 refine bodyPost_ret (v := askV 4 tx) (by simp [results, Tryz.results132, go_sem, askV, sAt, sTx, sSeq, sMode, sCode, sNext, sNseq, sN]) rfl ⟨rfl, ?_⟩
 repeat (first | exact Below.refl _ _ | refine Below.setCell ?_ (by simp) _ | refine Below.alloc ?_ (by simp <;> omega) _)
set_option maxRecDepth 100000 in
set_option maxHeartbeats 4000000 in
theorem asked_5 (m : List Int) (hl : m.length = 28) (hk : fld m 0 = 5) (w : World) :
   Calls Tryz.prog 132 #[.agg (mc m)] w fun e w' => e = .returned (askV (fld m 0) (fld m 3)) ∧ Below w.heap.size w w' := by
 have c0 := mc_get hl (i := 0) (by omega)
 have c3 := mc_get hl (i := 3) (by omega)
 rw [hk] at c0 ⊢
 clear hk
 generalize fld m 3 = tx at c3 ⊢
 go_enter Tryz.func132, Tryz.ntmps132
 go_wp2_with (first | (go_at_call 152; refine (anyTx_any _).mono ?_; rintro e w' ⟨rfl, rfl⟩) | (go_at_call 151; refine (anySeq_any _).mono ?_; rintro e w' ⟨rfl, rfl⟩))
 refine bodyPost_ret (v := askV 5 tx) (by simp [results, Tryz.results132, go_sem, askV, sAt, sTx, sSeq, sMode, sCode, sNext, sNseq, sN]) rfl ⟨rfl, ?_⟩
 repeat (first | exact Below.refl _ _ | refine Below.setCell ?_ (by simp) _ | refine Below.alloc ?_ (by simp <;> omega) _)
set_option maxRecDepth 100000 in
set_option maxHeartbeats 4000000 in
theorem asked_6 (m : List Int) (hl : m.length = 28) (hk : fld m 0 = 6) (w : World) :
   Calls Tryz.prog 132 #[.agg (mc m)] w fun e w' => e = .returned (askV (fld m 0) (fld m 3)) ∧ Below w.heap.size w w' := by
 have c0 := mc_get hl (i := 0) (by omega)
 have c3 := mc_get hl (i := 3) (by omega)
 rw [hk] at c0 ⊢
 clear hk
 generalize fld m 3 = tx at c3 ⊢
 go_enter Tryz.func132, Tryz.ntmps132
 go_wp2_with (first | (go_at_call 152; refine (anyTx_any _).mono ?_; rintro e w' ⟨rfl, rfl⟩) | (go_at_call 151; refine (anySeq_any _).mono ?_; rintro e w' ⟨rfl, rfl⟩))
 refine bodyPost_ret (v := askV 6 tx) (by simp [results, Tryz.results132, go_sem, askV, sAt, sTx, sSeq, sMode, sCode, sNext, sNseq, sN]) rfl ⟨rfl, ?_⟩
 repeat (first | exact Below.refl _ _ | refine Below.setCell ?_ (by simp) _ | refine Below.alloc ?_ (by simp <;> omega) _)
set_option maxRecDepth 100000 in
set_option maxHeartbeats 4000000 in
theorem asked_7 (m : List Int) (hl : m.length = 28) (hk : fld m 0 = 7) (w : World) :
   Calls Tryz.prog 132 #[.agg (mc m)] w fun e w' => e = .returned (askV (fld m 0) (fld m 3)) ∧ Below w.heap.size w w' := by
 have c0 := mc_get hl (i := 0) (by omega)
 have c3 := mc_get hl (i := 3) (by omega)
 rw [hk] at c0 ⊢
 clear hk
 generalize fld m 3 = tx at c3 ⊢
 go_enter Tryz.func132, Tryz.ntmps132
 go_wp2_with (first | (go_at_call 152; refine (anyTx_any _).mono ?_; rintro e w' ⟨rfl, rfl⟩) | (go_at_call 151; refine (anySeq_any _).mono ?_; rintro e w' ⟨rfl, rfl⟩))
 refine bodyPost_ret (v := askV 7 tx) (by simp [results, Tryz.results132, go_sem, askV, sAt, sTx, sSeq, sMode, sCode, sNext, sNseq, sN]) rfl ⟨rfl, ?_⟩
 repeat (first | exact Below.refl _ _ | refine Below.setCell ?_ (by simp) _ | refine Below.alloc ?_ (by simp <;> omega) _)
set_option maxRecDepth 100000 in
set_option maxHeartbeats 4000000 in
theorem asked_8 (m : List Int) (hl : m.length = 28) (hk : fld m 0 = 8) (w : World) :
   Calls Tryz.prog 132 #[.agg (mc m)] w fun e w' => e = .returned (askV (fld m 0) (fld m 3)) ∧ Below w.heap.size w w' := by
 have c0 := mc_get hl (i := 0) (by omega)
 have c3 := mc_get hl (i := 3) (by omega)
 rw [hk] at c0 ⊢
 clear hk
 generalize fld m 3 = tx at c3 ⊢
 go_enter Tryz.func132, Tryz.ntmps132
 go_wp2_with (first | (go_at_call 152; refine (anyTx_any _).mono ?_; rintro e w' ⟨rfl, rfl⟩) | (go_at_call 151; refine (anySeq_any _).mono ?_; rintro e w' ⟨rfl, rfl⟩))
 refine bodyPost_ret (v := askV 8 tx) (by simp [results, Tryz.results132, go_sem, askV, sAt, sTx, sSeq, sMode, sCode, sNext, sNseq, sN]) rfl ⟨rfl, ?_⟩
 repeat (first | exact Below.refl _ _ | refine Below.setCell ?_ (by simp) _ | refine Below.alloc ?_ (by simp <;> omega) _)
set_option maxRecDepth 100000 in
set_option maxHeartbeats 4000000 in
theorem asked_9 (m : List Int) (hl : m.length = 28) (hk : fld m 0 = 9) (w : World) :
   Calls Tryz.prog 132 #[.agg (mc m)] w fun e w' => e = .returned (askV (fld m 0) (fld m 3)) ∧ Below w.heap.size w w' := by
 have c0 := mc_get hl (i := 0) (by omega)
 have c3 := mc_get hl (i := 3) (by omega)
 rw [hk] at c0 ⊢
 clear hk
 generalize fld m 3 = tx at c3 ⊢
 go_enter Tryz.func132, Tryz.ntmps132
 go_wp2_with (first | (go_at_call 152; refine (anyTx_any _).mono ?_; rintro e w' ⟨rfl, rfl⟩) | (go_at_call 151; refine (anySeq_any _).mono ?_; rintro e w' ⟨rfl, rfl⟩))
 refine bodyPost_ret (v := askV 9 tx) (by simp [results, Tryz.results132, go_sem, askV, sAt, sTx, sSeq, sMode, sCode, sNext, sNseq, sN]) rfl ⟨rfl, ?_⟩
 repeat (first | exact Below.refl _ _ | refine Below.setCell ?_ (by simp) _ | refine Below.alloc ?_ (by simp <;> omega) _)
set_option maxRecDepth 100000 in
set_option maxHeartbeats 4000000 in
theorem asked_10 (m : List Int) (hl : m.length = 28) (hk : fld m 0 = 10) (w : World) :
   Calls Tryz.prog 132 #[.agg (mc m)] w fun e w' => e = .returned (askV (fld m 0) (fld m 3)) ∧ Below w.heap.size w w' := by
 have c0 := mc_get hl (i := 0) (by omega)
 have c3 := mc_get hl (i := 3) (by omega)
 rw [hk] at c0 ⊢
 clear hk
 generalize fld m 3 = tx at c3 ⊢
 go_enter Tryz.func132, Tryz.ntmps132
 go_wp2_with (first | (go_at_call 152; refine (anyTx_any _).mono ?_; rintro e w' ⟨rfl, rfl⟩) | (go_at_call 151; refine (anySeq_any _).mono ?_; rintro e w' ⟨rfl, rfl⟩))
 refine bodyPost_ret (v := askV 10 tx) (by simp [results, Tryz.results132, go_sem, askV, sAt, sTx, sSeq, sMode, sCode, sNext, sNseq, sN]) rfl ⟨rfl, ?_⟩
 repeat (first | exact Below.refl _ _ | refine Below.setCell ?_ (by simp) _ | refine Below.alloc ?_ (by simp <;> omega) _)
set_option maxRecDepth 100000 in
set_option maxHeartbeats 4000000 in
theorem asked_11 (m : List Int) (hl : m.length = 28) (hk : fld m 0 = 11) (w : World) :
   Calls Tryz.prog 132 #[.agg (mc m)] w fun e w' => e = .returned (askV (fld m 0) (fld m 3)) ∧ Below w.heap.size w w' := by
 have c0 := mc_get hl (i := 0) (by omega)
 have c3 := mc_get hl (i := 3) (by omega)
 rw [hk] at c0 ⊢
 clear hk
 generalize fld m 3 = tx at c3 ⊢
 go_enter Tryz.func132, Tryz.ntmps132
 go_wp2_with (first | (go_at_call 152; refine (anyTx_any _).mono ?_; rintro e w' ⟨rfl, rfl⟩) | (go_at_call 151; refine (anySeq_any _).mono ?_; rintro e w' ⟨rfl, rfl⟩))
 refine bodyPost_ret (v := askV 11 tx) (by simp [results, Tryz.results132, go_sem, askV, sAt, sTx, sSeq, sMode, sCode, sNext, sNseq, sN]) rfl ⟨rfl, ?_⟩
 repeat (first | exact Below.refl _ _ | refine Below.setCell ?_ (by simp) _ | refine Below.alloc ?_ (by simp <;> omega) _)
theorem askV_out {k : Int} (h : k < 1 ∨ 11 < k) (tx : Int) : askV k tx = .agg #[.bool false, .int .i64 0, .int .i64 0, .int .i64 0, .int .i64 0, .int .i64 0, .int .i64 0, .int .i64 0, .int .i64 0, .int .i64 0, .int .i64 0, .int .i64 0, .int .i64 0, .int .i64 0, .int .i64 0] := by
 unfold askV sAt sTx sSeq sMode sCode sNext sNseq sN
 rw [decide_eq_false (by omega), if_neg (by omega), if_neg (by omega), if_neg (by omega), if_neg (by omega), if_neg (by omega), if_neg (by omega), if_neg (by omega), if_neg (by omega), if_neg (by omega)]
set_option maxRecDepth 100000 in
set_option maxHeartbeats 4000000 in
theorem asked_out (m : List Int) (hl : m.length = 28) (hk : fld m 0 < 1 ∨ 11 < fld m 0) (w : World) :
   Calls Tryz.prog 132 #[.agg (mc m)] w fun e w' => e = .returned (askV (fld m 0) (fld m 3)) ∧ Below w.heap.size w w' := by
 have c0 := mc_get hl (i := 0) (by omega)
 rw [askV_out hk]
 generalize fld m 0 = k at c0 hk ⊢
 have e1 : (k == 1) = false := by simp; omega
 have e2 : (k == 2) = false := by simp; omega
 have e3 : (k == 3) = false := by simp; omega
 have e4 : (k == 4) = false := by simp; omega
 have e5 : (k == 5) = false := by simp; omega
 have e6 : (k == 6) = false := by simp; omega
 have e7 : (k == 7) = false := by simp; omega
 have e8 : (k == 8) = false := by simp; omega
 have e9 : (k == 9) = false := by simp; omega
 have e10 : (k == 10) = false := by simp; omega
 have e11 : (k == 11) = false := by simp; omega
 clear hk
 go_enter Tryz.func132, Tryz.ntmps132
 go_wp2_with fail
 refine bodyPost_ret (v := .agg #[.bool false, .int .i64 0, .int .i64 0, .int .i64 0, .int .i64 0, .int .i64 0, .int .i64 0, .int .i64 0, .int .i64 0, .int .i64 0, .int .i64 0, .int .i64 0, .int .i64 0, .int .i64 0, .int .i64 0]) (by simp [results, Tryz.results132, go_sem]) rfl ⟨rfl, ?_⟩
 repeat (first | exact Below.refl _ _ | refine Below.setCell ?_ (by simp) _ | refine Below.alloc ?_ (by simp <;> omega) _)
end Go.Proofs.YtadnlannbafjpaaGreat
