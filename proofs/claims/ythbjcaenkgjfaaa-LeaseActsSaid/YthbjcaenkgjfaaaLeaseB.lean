/- The contracts of Renew and End. -/
import Derived.Test.YthbjcaenkgjfaaaLeaseA
namespace Go.Proofs.Ythbjcaenkgjfaaa
open Go.RowKit
set_option linter.unusedVariables false
set_option linter.unusedSimpArgs false

set_option maxRecDepth 100000 in
set_option maxHeartbeats 1000000 in
theorem renew_nil (k now : Int) (w : World) : Calls Try.prog 16 #[.pointer none, .int .i64 k, .int .i64 now] w fun e w' => e = .returned (errno 1) ∧ w = w' := by
  go_enter Try.func16, Try.ntmps16
  go_wp2_with fail
  go_ret
  exact ⟨rfl, rfl⟩
set_option maxRecDepth 100000 in
set_option maxHeartbeats 1000000 in
theorem renew_bad (g : Nat) (k now : Int) (h : ¬ (1 ≤ k ∧ isT now = true)) (w : World) : Calls Try.prog 16 #[.pointer (some ⟨g, 0, none⟩), .int .i64 k, .int .i64 now] w fun e w' => e = .returned (errno 1) ∧ w = w' := by
  by_cases h1 : k < 1
  · have d1 : decide (k < 1) = true := by simpa using h1
    clear h
    go_enter Try.func16, Try.ntmps16
    go_wp2_with fail
    go_ret
    exact ⟨rfl, rfl⟩
  · have d1 : decide (k < 1) = false := by simpa using h1
    have d2 : isT now = false := by
      cases hn : isT now
      · rfl
      · exact absurd ⟨by omega, hn⟩ h
    have D2 := Lib.hid d2
    clear h d2
    go_enter Try.func16, Try.ntmps16
    go_wp2_with (go_at_call 22; refine (isTime_any _ _).mono ?_; rintro e w' ⟨rfl, rfl⟩; rw [D2.out])
    go_ret
    exact ⟨rfl, rfl⟩

theorem max_if (a b : Int) : (if b > a then b else a) = max a b := by
  split <;> omega
set_option maxRecDepth 100000 in
set_option maxHeartbeats 4000000 in
theorem renew_ok {g b n : Nat} {span : Int} {L : List IP} (k now : Int) (hk : 1 ≤ k ∧ k ≤ 9223372036854775807) (hn : isT now = true) (w : World) (h : Lse w g b n span L) (hm : n < maxLen) :
    Calls Try.prog 16 #[.pointer (some ⟨g, 0, none⟩), .int .i64 k, .int .i64 now] w fun e w' => e = .returned .nilIface ∧ Lse w' g b (n + 1) span (renL k now L) ∧ Turn (fun x => x = b) w w' := by
  have k1 : w.cell? ⟨g, 1, none⟩ = some (.map (some b)) := h.box.cell 1
  have d1 : decide (k < 1) = false := by simp; omega
  have HH := Lib.hid h
  have HN := Lib.hid hn
  have HK := Lib.hid (show (Lit.int .i64 k).wf = true from WalkArith.wf_i64 (by omega))
  have HD := Lib.hid (h.ok.atD k)
  have hT := isT_iff.1 hn
  have HC := Lib.hid (show (Lit.int .i64 (max ((atL k L).getD 0) now)).wf = true from WalkArith.wf_i64 (by have := h.ok.atD k; omega))
  have HO := Lib.hid (h.ok.ren hk hn)
  have HM := Lib.hid hm
  clear h hn hT hm hk
  generalize hs : (atL k L).getD 0 = s at HC
  have HS := Lib.hid hs
  clear hs
  go_enter Try.func16, Try.ntmps16
  go_wp2_with (go_at_call 22; refine (isTime_any _ _).mono ?_; rintro e w' ⟨rfl, rfl⟩; rw [HN.out])
  refine wp_region_till 13 (fun w' => w'.cell? ⟨g, 1, none⟩ = some (.map (some b)) ∧ w' = w.drew) (by kernel_rfl) ⟨k1, rfl⟩ (fun hHeld => ?_)
  have hlk : (Instr.lookup 55 (.map (some b)) (.int .i64 k) false).run Try.prog w.drew = .ok (.int .i64 s) w.drew := by
    have := MapI.look (World.ownsMap.drew HH.out.map) HK.out
    rw [HS.out] at this; exact this
  have HL := Lib.hid hlk
  clear hlk
  refine wpTill_take (i := 0) (v := ?_) rfl (by kernel_rfl) (by kernel_rfl) (by kernel_rfl) (by kernel_rfl) (fun _ _ _ h => h) (Or.inl ⟨by rfl, ?_⟩) (by assumption) ?_
  rotate_left
  · (intro w0 hSw; (try dsimp only at hSw); go_simp; try with_reducible rfl)
  try simp only [List.getElem_toArray, List.getElem_cons_succ, List.getElem_cons_zero, Act.put, List.setIfInBounds_toArray, List.set_cons_zero, List.set_cons_succ]
  refine wpTill_take (i := 1) (v := ?_) rfl (by kernel_rfl) (by kernel_rfl) (by kernel_rfl) (by kernel_rfl) (fun _ _ _ h => h) (Or.inl ⟨by rfl, ?_⟩) (by assumption) ?_
  rotate_left
  · (intro w0 hSw; (try dsimp only at hSw); go_simp; try with_reducible rfl)
  try simp only [List.getElem_toArray, List.getElem_cons_succ, List.getElem_cons_zero, Act.put, List.setIfInBounds_toArray, List.set_cons_zero, List.set_cons_succ]
  refine wpTill_take (i := 2) (v := ?_) rfl (by kernel_rfl) (by kernel_rfl) (by kernel_rfl) (by kernel_rfl) (fun _ _ _ h => h) (Or.inl ⟨by rfl, ?_⟩) (by assumption) ?_
  rotate_left
  · (intro w0 hSw; (try dsimp only at hSw); go_simp; try with_reducible rfl)
  try simp only [List.getElem_toArray, List.getElem_cons_succ, List.getElem_cons_zero, Act.put, List.setIfInBounds_toArray, List.set_cons_zero, List.set_cons_succ]
  refine wpTill_take (i := 3) (v := ?_) rfl (by kernel_rfl) (by kernel_rfl) (by kernel_rfl) (by kernel_rfl) (fun _ _ _ h => h) (Or.inl ⟨by rfl, ?_⟩) (by assumption) ?_
  rotate_left
  · (intro w0 hSw; (try dsimp only at hSw); go_simp; try with_reducible rfl)
  try simp only [List.getElem_toArray, List.getElem_cons_succ, List.getElem_cons_zero, Act.put, List.setIfInBounds_toArray, List.set_cons_zero, List.set_cons_succ]
  refine wpTill_take (i := 4) (v := ?_) rfl (by kernel_rfl) (by kernel_rfl) (by kernel_rfl) (by kernel_rfl) (fun _ _ _ h => h) (Or.inl ⟨by rfl, ?_⟩) (by assumption) ?_
  rotate_left
  · (intro w0 hSw; (try dsimp only at hSw); go_simp; try with_reducible rfl)
  try simp only [List.getElem_toArray, List.getElem_cons_succ, List.getElem_cons_zero, Act.put, List.setIfInBounds_toArray, List.set_cons_zero, List.set_cons_succ]
  refine wpTill_take (i := 5) (v := ?_) rfl (by kernel_rfl) (by kernel_rfl) (by kernel_rfl) (by kernel_rfl) (fun _ _ _ h => h) (Or.inl ⟨by rfl, ?_⟩) (by assumption) ?_
  rotate_left
  · (intro w0 hSw; (try dsimp only at hSw); go_simp; try with_reducible rfl)
  try simp only [List.getElem_toArray, List.getElem_cons_succ, List.getElem_cons_zero, Act.put, List.setIfInBounds_toArray, List.set_cons_zero, List.set_cons_succ]
  refine wpTill_take (i := 6) (v := ?_) rfl (by kernel_rfl) (by kernel_rfl) (by kernel_rfl) (by kernel_rfl) (fun _ _ _ h => h) (Or.inl ⟨by rfl, ?_⟩) (by assumption) ?_
  rotate_left
  · (intro w0 hSw; (try dsimp only at hSw); go_simp; try with_reducible rfl)
  try simp only [List.getElem_toArray, List.getElem_cons_succ, List.getElem_cons_zero, Act.put, List.setIfInBounds_toArray, List.set_cons_zero, List.set_cons_succ]
  refine wpTill_take (i := 7) (v := ?_) rfl (by kernel_rfl) (by kernel_rfl) (by kernel_rfl) (by kernel_rfl) (fun _ _ _ h => h) (Or.inl ⟨by rfl, ?_⟩) (by assumption) ?_
  rotate_left
  · (intro w0 hSw; (try dsimp only at hSw); go_simp; try with_reducible rfl)
  try simp only [List.getElem_toArray, List.getElem_cons_succ, List.getElem_cons_zero, Act.put, List.setIfInBounds_toArray, List.set_cons_zero, List.set_cons_succ]
  refine wpTill_take (i := 8) (v := ?_) rfl (by kernel_rfl) (by kernel_rfl) (by kernel_rfl) (by kernel_rfl) (fun _ _ _ h => h) (Or.inl ⟨by rfl, ?_⟩) (by assumption) ?_
  rotate_left
  · (intro w0 hSw; (try dsimp only at hSw); go_simp; try with_reducible rfl)
  try simp only [List.getElem_toArray, List.getElem_cons_succ, List.getElem_cons_zero, Act.put, List.setIfInBounds_toArray, List.set_cons_zero, List.set_cons_succ]
  refine wpTill_take (i := 9) (v := ?_) rfl (by kernel_rfl) (by kernel_rfl) (by kernel_rfl) (by kernel_rfl) (fun _ _ _ h => h) (Or.inl ⟨by rfl, ?_⟩) (by assumption) ?_
  rotate_left
  · (intro w0 hSw; (try dsimp only at hSw); go_simp; try with_reducible rfl)
  try simp only [List.getElem_toArray, List.getElem_cons_succ, List.getElem_cons_zero, Act.put, List.setIfInBounds_toArray, List.set_cons_zero, List.set_cons_succ]
  refine wpTill_take (i := 10) (v := .int .i64 s) rfl (by kernel_rfl) (by kernel_rfl) (by kernel_rfl) (by kernel_rfl) (fun _ _ _ h => h) (Or.inl ⟨by rfl, fun w0 hSw => by obtain ⟨_, rfl⟩ := hSw; exact exec_lookup (m := .tmp 27) (x := .tmp 28) rfl rfl rfl HL.out⟩) (by assumption) ?_
  try simp only [List.getElem_toArray, List.getElem_cons_succ, List.getElem_cons_zero, Act.put, List.setIfInBounds_toArray, List.set_cons_zero, List.set_cons_succ]
  refine wpTill_take (i := 11) (v := ?_) rfl (by kernel_rfl) (by kernel_rfl) (by kernel_rfl) (by kernel_rfl) (fun _ _ _ h => h) (Or.inl ⟨by rfl, ?_⟩) (by assumption) ?_
  rotate_left
  · (intro w0 hSw; (try dsimp only at hSw); go_simp; try with_reducible rfl)
  try simp only [List.getElem_toArray, List.getElem_cons_succ, List.getElem_cons_zero, Act.put, List.setIfInBounds_toArray, List.set_cons_zero, List.set_cons_succ]
  refine wpTill_take (i := 12) (v := ?_) rfl (by kernel_rfl) (by kernel_rfl) (by kernel_rfl) (by kernel_rfl) (fun _ _ _ h => h) (Or.inl ⟨by rfl, ?_⟩) (by assumption) ?_
  rotate_left
  · (intro w0 hSw; (try dsimp only at hSw); go_simp; try with_reducible rfl)
  try simp only [List.getElem_toArray, List.getElem_cons_succ, List.getElem_cons_zero, Act.put, List.setIfInBounds_toArray, List.set_cons_zero, List.set_cons_succ]
  refine wpTill_ready (rs := [13]) (by kernel_rfl) (by simp) ?_
  refine AllTill.last rfl (of_decide_eq_true (by kernel_rfl)) (fun K hK => ?_)
  refine step_putI (mo := .tmp 22) (xo := .tmp 23) (vo := .tmp 31) rfl (World.ownsMap.drew HH.out.map) HH.out.ok.ris HM.out HK.out HC.out rfl rfl (congrArg (Value.int .i64) (max_if s now)) ?_
  intro w1 hm1 hg1
  have T1 := Lib.hid (turn_grown hg1)
  have M1 := Lib.hid hm1
  clear hm1 hg1
  refine hK.out _ _ ?_
  clear hK K hHeld
  refine wpTill_done (by kernel_rfl) ?_ _
  go_wp2_with fail
  all_goals
    go_ret
    refine ⟨rfl, ⟨HH.out.box.turn (w' := w1) (S := fun x => x = b) ⟨T1.out.os, T1.out.tape, T1.out.output, T1.out.size, T1.out.block⟩ (fun e => HH.out.ne e.symm), ?_, HO.out⟩, ⟨T1.out.os, T1.out.tape, T1.out.output, T1.out.size, T1.out.block⟩⟩
    unfold renL
    rw [HS.out]
    exact M1.out

set_option maxRecDepth 100000 in
set_option maxHeartbeats 1000000 in
theorem endL_nil (k : Int) (w : World) : Calls Try.prog 18 #[.pointer none, .int .i64 k] w fun e w' => e = .returned (errno 1) ∧ w = w' := by
  have hn := run_neq_held_nil (P := Try.prog) w 26 54 (.int .i64 1) Try.underlying26
  go_enter Try.func18, Try.ntmps18
  go_wp2_with (go_at_call 10; refine (since_nil _ _).mono ?_; rintro e w' ⟨rfl, rfl⟩)
  go_ret
  exact ⟨rfl, rfl⟩
set_option maxRecDepth 100000 in
set_option maxHeartbeats 1000000 in
theorem endL_none {g b n : Nat} {span : Int} {L : List IP} (k : Int) (hk : (Lit.int .i64 k).wf = true) (hs : atL k L = none) (w : World) (h : Lse w g b n span L) :
    Calls Try.prog 18 #[.pointer (some ⟨g, 0, none⟩), .int .i64 k] w fun e w' => e = .returned (errno 10) ∧ w = w' := by
  have hn := run_neq_held_nil (P := Try.prog) w 26 54 (.int .i64 10) Try.underlying26
  have HH := Lib.hid h
  have HK := Lib.hid hk
  have HE := Lib.hid (show sinceV k L = .tuple #[.int .i64 0, errno 10] by unfold sinceV; rw [hs])
  clear h hk hs
  go_enter Try.func18, Try.ntmps18
  go_wp2_with (go_at_call 10; refine (since_any k HK.out _ HH.out).mono ?_; rintro e w' ⟨rfl, rfl⟩; rw [HE.out])
  go_ret
  exact ⟨rfl, rfl⟩
set_option maxRecDepth 100000 in
set_option maxHeartbeats 1000000 in
theorem endL_ok {g b n : Nat} {span s : Int} {L : List IP} (k : Int) (hk : (Lit.int .i64 k).wf = true) (hs : atL k L = some s) (w : World) (h : Lse w g b n span L) :
    Calls Try.prog 18 #[.pointer (some ⟨g, 0, none⟩), .int .i64 k] w fun e w' => e = .returned .nilIface ∧ Lse w' g b n span (delL k L) ∧ Turn (fun x => x = b) w w' := by
  have hn := run_neq_nil_nil (P := Try.prog) w 26 Try.underlying26
  have k1 : w.cell? ⟨g, 1, none⟩ = some (.map (some b)) := h.box.cell 1
  have HH := Lib.hid h
  have HK := Lib.hid hk
  have HE := Lib.hid (show sinceV k L = .tuple #[.int .i64 s, .nilIface] by unfold sinceV; rw [hs])
  clear h hk hs
  go_enter Try.func18, Try.ntmps18
  go_wp2_with (first
    | (go_at_call 10; refine (since_any k HK.out _ HH.out).mono ?_; rintro e w' ⟨rfl, rfl⟩; rw [HE.out])
    | (at_delete; refine wpList_delete_own _ rfl _ _ 55 3 rfl 3 keyedI Try.underlying55 _ b n _ rfl HH.out.map _ _ rfl (keyI HK.out) ?_; intro w1 hm1 hu1; rw [DL_del] at hm1))
  go_ret
  have T1 : Turn (fun x => x = b) w w1 := turn_grown hu1.grown
  exact ⟨rfl, ⟨HH.out.box.turn T1 (fun e => HH.out.ne e.symm), hm1, HH.out.ok.del k⟩, T1⟩
end Go.Proofs.Ythbjcaenkgjfaaa
