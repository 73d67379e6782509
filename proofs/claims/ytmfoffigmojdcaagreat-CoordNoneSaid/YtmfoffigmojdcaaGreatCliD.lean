/- The document's clients: Crash. -/
import Derived.Test.YtmfoffigmojdcaaGreatCliC
namespace Go.Proofs.YtmfoffigmojdcaaGreat
open Go.RowKit
set_option linter.unusedVariables false
set_option linter.unusedSimpArgs false

set_option maxRecDepth 100000 in
set_option maxHeartbeats 4000000 in
theorem refCrash_out (A : Option Addr) (n c B : Nat) (L : List Cl) (id now : Int) (w : World) (hn : n ≤ 1000000) (ho : id < 1 ∨ (n : Int) < id ∨ isT now = false) (r : Int) (hr : (if id < 1 ∨ (n : Int) < id then (10 : Int) else 1) = r) :
    Calls Tryz.prog 67 #[.slice A n c, .int .i64 id, .int .i64 now] w fun e w' => e = .returned (.tuple #[.slice A n c, .int .i64 r]) ∧ w = w' := by
  by_cases h1 : id < 1
  · have d1 : decide (id < 1) = true := decide_eq_true h1
    obtain rfl : r = 10 := hr.symm.trans (if_pos (.inl h1))
    clear hr
    go_enter Tryz.func67, Tryz.ntmps67
    go_wp2_with fail
    go_ret2
    first | exact ⟨rfl, rfl⟩ | rfl
  · have d1 : decide (id < 1) = false := decide_eq_false h1
    by_cases h2 : (n : Int) < id
    · have d2 : decide ((n : Int) < id) = true := decide_eq_true h2
      obtain rfl : r = 10 := hr.symm.trans (if_pos (.inr h2))
      clear hr
      go_enter Tryz.func67, Tryz.ntmps67
      go_wp2_with fail
      go_ret2
      first | exact ⟨rfl, rfl⟩ | rfl
    · have d2 : decide ((n : Int) < id) = false := decide_eq_false h2
      obtain rfl : r = 1 := hr.symm.trans (if_neg (fun h => h.elim h1 h2))
      clear hr
      have TI := Lib.hid (show isT now = false by rcases ho with h | h | h <;> first | exact absurd h (by assumption) | exact h)
      clear ho
      go_enter Tryz.func67, Tryz.ntmps67
      go_wp2_with (go_at_call 114; refine (refTime_any _ _).mono ?_; rintro e w' ⟨rfl, rfl⟩; rw [TI.out])
      go_ret2
      first | exact ⟨rfl, rfl⟩ | rfl

set_option maxRecDepth 100000 in
set_option maxHeartbeats 4000000 in
theorem refCrash_in (A : Option Addr) (n c B k : Nat) (L : List Cl) (now : Int) (w : World) (h : Reads w B 3 A n (cls L)) (hB : B ≤ w.heap.size) (hn : n ≤ 1000000) (hk : k < n) (ht : isT now = true) (x : Cl) (hx : clAt L k = x)
    (r : Int) (hr : (if x.dead then 11 else 0) = r) (M : List Cl) (hM : (if x.dead then L else L.set k { x with dead := true, since := now }) = M) :
    Calls Tryz.prog 67 #[.slice A n c, .int .i64 ((k : Int) + 1), .int .i64 now] w fun e w' => ∃ A' c',
      e = .returned (.tuple #[.slice A' n c', .int .i64 r]) ∧ Reads w' w'.heap.size 3 A' n (cls M) ∧ Below w.heap.size w w' ∧ NewOr w A A' := by
  have HL := Lib.hid h.c_len
  have hkl : k < L.length := by rw [HL.out]; exact hk
  have HB := Lib.hid hB
  have RV := Lib.hid h
  have TI := Lib.hid ht
  have hwr : IntKind.i64.wrap ((k : Int) + 1 - 1) = k := by rw [show (k : Int) + 1 - 1 = k by omega]; exact IntWalk.i64_in _ (by omega)
  have d1 : decide ((k : Int) + 1 < 1) = false := decide_eq_false (by omega)
  have d2 : decide ((n : Int) < (k : Int) + 1) = false := decide_eq_false (by omega)
  obtain ⟨b, off, rfl, hb, h0, h1, h2⟩ := h.c_at hkl
  rw [← clAt_get hkl, hx] at h0 h1 h2
  clear h hB hb ht
  obtain ⟨xt, xd, xs⟩ := x
  simp only at h0 h1 h2 hr hM
  have HR := Lib.hid hr
  have HM := Lib.hid hM
  clear hr hM
  have X1 := Lib.hid (Blk.new w 132 #[.int .i64 xt, .bool xd, .int .i64 xs])
  have R1 := Lib.hid (RV.out.alloc HB.out (.cells #[.int .i64 xt, .bool xd, .int .i64 xs] 132))
  have B1 := Lib.hid (Joins.below_alloc1 w (.cells #[.int .i64 xt, .bool xd, .int .i64 xs] 132))
  go_enter Tryz.func67, Tryz.ntmps67
  go_upto_region 6 with (first
    | (refine wpList_load_cells rfl 132 (.tmp 25) rfl ⟨b, off + k * 3, none⟩ rfl [.int .i64 xt, .bool xd, .int .i64 xs] _ (load_cl h0 h1 h2) Tryz.underlying132 rfl (by kernel_rfl) ?_)
    | (go_at_call 114; refine (refTime_any _ _).mono ?_; rintro e w' ⟨rfl, rfl⟩; rw [TI.out]))
  generalize hV : w.alloc (.cells #[.int .i64 xt, .bool xd, .int .i64 xs] 132) = V at X1 R1 B1 ⊢
  have HSZ := Lib.hid (show V.heap.size = w.heap.size + 1 by rw [← hV]; simp)
  clear hV h0 h1 h2
  have c0 : V.cell? ⟨w.heap.size, 0, none⟩ = some (.int .i64 xt) := X1.out.cell 0
  have c1 : V.cell? ⟨w.heap.size, 1, none⟩ = some (.bool xd) := X1.out.cell 1
  have c2 : V.cell? ⟨w.heap.size, 2, none⟩ = some (.int .i64 xs) := X1.out.cell 2
  have f1 := X1.out.frozen 1
  have RN := Lib.hid (R1.out.more (show B ≤ V.heap.size by have := HB.out; have := HSZ.out; omega))
  cases xd with
  | true =>
    obtain rfl : r = 11 := HR.out.symm.trans (if_pos rfl)
    obtain rfl : M = L := HM.out.symm.trans (if_pos rfl)
    go_wp2_with fail
    go_ret2
    first | exact ⟨_, ⟨_, rfl⟩, RN.out, B1.out, fun ad e => .inl e⟩ | exact ⟨_, _, rfl, RN.out, B1.out, fun ad e => .inl e⟩
  | false =>
    obtain rfl : r = 0 := HR.out.symm.trans (if_neg (by simp))
    have HMZ := HM.out.symm.trans (if_neg (by simp))
    subst HMZ
    have X2 := Lib.hid (X1.out.set_ 1 (.bool true))
    have B2 := Lib.hid (B1.out.setCell (p := ⟨w.heap.size, 1, none⟩) (Nat.le_refl _) (.bool true))
    have R2 := Lib.hid (R1.out.setCell (p := ⟨w.heap.size, 1, none⟩) HB.out (.bool true))
    go_upto_region 9 with fail
    generalize hV2 : V.setCell ⟨w.heap.size, 1, none⟩ (.bool true) = V2 at X2 B2 R2 ⊢
    have HSZ2 := Lib.hid (show V2.heap.size = w.heap.size + 1 by rw [← hV2, ← HSZ.out]; simp [World.setCell])
    clear hV2 c0 c1 c2 f1
    have c2 : V2.cell? ⟨w.heap.size, 2, none⟩ = some (.int .i64 xs) := X2.out.cell 2
    have f2 := X2.out.frozen 2
    have X3 := Lib.hid (X2.out.set_ 2 (.int .i64 now))
    have B3 := Lib.hid (B2.out.setCell (p := ⟨w.heap.size, 2, none⟩) (Nat.le_refl _) (.int .i64 now))
    have R3 := Lib.hid (R2.out.setCell (p := ⟨w.heap.size, 2, none⟩) HB.out (.int .i64 now))
    go_upto_region 10 with fail
    generalize hV3 : V2.setCell ⟨w.heap.size, 2, none⟩ (.int .i64 now) = V3 at X3 B3 R3 ⊢
    have HSZ3 := Lib.hid (show V3.heap.size = w.heap.size + 1 by rw [← hV3, ← HSZ2.out]; simp [World.setCell])
    clear hV3 c2 f2
    go_wp2_with (first
      | (refine wpList_load_cells rfl 132 (.tmp 8) rfl ⟨w.heap.size, 0, none⟩ rfl [.int .i64 xt, .bool true, .int .i64 now] _ (load_cl (X3.out.cell 0) (X3.out.cell 1) (X3.out.cell 2)) Tryz.underlying132 rfl (by kernel_rfl) ?_)
      | (go_at_call 115; refine (withR_any _ n c B k L ⟨xt, true, now⟩ _ R3.out (by have := HB.out; have := HSZ3.out; omega) hn hk).mono ?_; rintro e w' ⟨A', c', rfl, hr, hc, hb, hf⟩; have F3 := Lib.hid hf; have R4 := Lib.hid hr; have B4 := Lib.hid (stepB B3.out hb); clear hr hb hf))
    go_ret2
    first | exact ⟨_, ⟨_, rfl⟩, R4.out, B4.out, fun ad e => .inr (by have := F3.out ad e; have := HSZ3.out; omega)⟩ | exact ⟨_, _, rfl, R4.out, B4.out, fun ad e => .inr (by have := F3.out ad e; have := HSZ3.out; omega)⟩
theorem refCrash_any (A : Option Addr) (n c B : Nat) (L : List Cl) (id now : Int) (w : World) (h : Reads w B 3 A n (cls L)) (hB : B ≤ w.heap.size) (hn : n ≤ 1000000) :
    Calls Tryz.prog 67 #[.slice A n c, .int .i64 id, .int .i64 now] w fun e w' => ∃ A' c',
      e = .returned (.tuple #[.slice A' n c', .int .i64 (crashL L id now).2]) ∧ Reads w' w'.heap.size 3 A' n (cls (crashL L id now).1) ∧ Below w.heap.size w w' ∧ NewOr w A A' := by
  have hl := h.c_len
  by_cases ho : id < 1 ∨ (n : Int) < id ∨ isT now = false
  · refine (refCrash_out A n c B L id now w hn ho _ rfl).mono ?_
    rintro e w' ⟨rfl, rfl⟩
    have e1 : crashL L id now = (L, if id < 1 ∨ (n : Int) < id then 10 else 1) := by
      unfold crashL
      rw [hl]
      by_cases h1 : id < 1 ∨ (n : Int) < id
      · rw [if_pos h1, if_pos h1]
      · rw [if_neg h1, if_neg h1, if_pos (by rcases ho with x | x | x; exact absurd (.inl x) h1; exact absurd (.inr x) h1; exact x)]
    rw [e1]
    exact ⟨_, _, rfl, h.more hB, Below.refl _ _, fun ad e => .inl e⟩
  · have hid : id = ((id - 1).toNat : Int) + 1 := by omega
    have hk : (id - 1).toNat < n := by omega
    have e0 : ¬ (id < 1 ∨ (L.length : Int) < id) := by rw [hl]; omega
    have e1 : isT now = true := by cases h9 : isT now; exact absurd (.inr (.inr h9)) ho; rfl
    rw [show (#[.slice A n c, .int .i64 id, .int .i64 now] : Array Value) = #[.slice A n c, .int .i64 (((id - 1).toNat : Int) + 1), .int .i64 now] by rw [← hid]]
    have e2 : crashL L id now = (if (clAt L (id - 1).toNat).dead then L else L.set (id - 1).toNat { clAt L (id - 1).toNat with dead := true, since := now }, if (clAt L (id - 1).toNat).dead then 11 else 0) := by
      unfold crashL
      rw [if_neg e0, if_neg (by rw [e1]; simp)]
      split <;> rfl
    exact refCrash_in A n c B (id - 1).toNat L now w h hB hn hk e1 _ rfl _ (by rw [e2]) _ (by rw [e2])
end Go.Proofs.YtmfoffigmojdcaaGreat
