/- The document's clients: Begin, End, Crash. -/
import Derived.Test.YtmfoffigmojdcaaGreatCliB
import Derived.Test.YtmfoffigmojdcaaGreatTimA
namespace Go.Proofs.YtmfoffigmojdcaaGreat
open Go.RowKit
set_option linter.unusedVariables false
set_option linter.unusedSimpArgs false

def noCl : Cl := ⟨0, false, 0⟩
/-- Who is at a place. -/
def clAt (L : List Cl) (k : Nat) : Cl := L.getD k noCl
theorem clAt_get {L : List Cl} {k : Nat} (h : k < L.length) : clAt L k = L[k] := by simp [clAt, List.getD, h]
def beginL (L : List Cl) (id tx : Int) : List Cl × Int :=
  if id < 1 ∨ (L.length : Int) < id then (L, 10) else if tx < 1 ∨ 1048576 < tx then (L, 1) else
  if (clAt L (id - 1).toNat).dead then (L, 11) else if 0 < (clAt L (id - 1).toNat).tx then (L, 8) else if 0 < ofL tx L then (L, 15) else
  (L.set (id - 1).toNat { clAt L (id - 1).toNat with tx := tx }, 0)
def endL (L : List Cl) (tx : Int) : List Cl × Int :=
  if ofL tx L = 0 then (L, 10) else (L.set (ofL tx L - 1).toNat { clAt L (ofL tx L - 1).toNat with tx := 0 }, 0)
def crashL (L : List Cl) (id now : Int) : List Cl × Int :=
  if id < 1 ∨ (L.length : Int) < id then (L, 10) else if isT now = false then (L, 1) else
  if (clAt L (id - 1).toNat).dead then (L, 11) else (L.set (id - 1).toNat { clAt L (id - 1).toNat with dead := true, since := now }, 0)
theorem beginL_length (L : List Cl) (id tx : Int) : (beginL L id tx).1.length = L.length := by
  unfold beginL; split; rfl; split; rfl; split; rfl; split; rfl; split; rfl; simp
theorem endL_length (L : List Cl) (tx : Int) : (endL L tx).1.length = L.length := by unfold endL; split; rfl; simp
theorem crashL_length (L : List Cl) (id now : Int) : (crashL L id now).1.length = L.length := by
  unfold crashL; split; rfl; split; rfl; split; rfl; simp

set_option maxRecDepth 100000 in
set_option maxHeartbeats 4000000 in
theorem refBegin_out (A : Option Addr) (n c B : Nat) (L : List Cl) (id tx : Int) (w : World) (hn : n ≤ 1000000) (ho : id < 1 ∨ (n : Int) < id ∨ tx < 1 ∨ 1048576 < tx) (r : Int) (hr : (if id < 1 ∨ (n : Int) < id then (10 : Int) else 1) = r) :
    Calls Tryz.prog 73 #[.slice A n c, .int .i64 id, .int .i64 tx] w fun e w' => e = .returned (.tuple #[.slice A n c, .int .i64 r]) ∧ w = w' := by
  by_cases h1 : id < 1
  · have d1 : decide (id < 1) = true := decide_eq_true h1
    obtain rfl : r = 10 := hr.symm.trans (if_pos (.inl h1))
    clear hr
    go_enter Tryz.func73, Tryz.ntmps73
    go_wp2_with fail
    go_ret2
    exact ⟨rfl, rfl⟩
  · have d1 : decide (id < 1) = false := decide_eq_false h1
    by_cases h2 : (n : Int) < id
    · have d2 : decide ((n : Int) < id) = true := decide_eq_true h2
      obtain rfl : r = 10 := hr.symm.trans (if_pos (.inr h2))
      clear hr
      go_enter Tryz.func73, Tryz.ntmps73
      go_wp2_with fail
      go_ret2
      exact ⟨rfl, rfl⟩
    · have d2 : decide ((n : Int) < id) = false := decide_eq_false h2
      obtain rfl : r = 1 := hr.symm.trans (if_neg (fun h => h.elim h1 h2))
      clear hr
      by_cases h3 : tx < 1
      · have d3 : decide (tx < 1) = true := decide_eq_true h3
        go_enter Tryz.func73, Tryz.ntmps73
        go_wp2_with fail
        go_ret2
        exact ⟨rfl, rfl⟩
      · have d3 : decide (tx < 1) = false := decide_eq_false h3
        have d4 : decide (1048576 < tx) = true := decide_eq_true (by rcases ho with h | h | h | h <;> first | exact absurd h (by assumption) | exact h)
        go_enter Tryz.func73, Tryz.ntmps73
        go_wp2_with fail
        go_ret2
        exact ⟨rfl, rfl⟩

set_option maxRecDepth 100000 in
set_option maxHeartbeats 4000000 in
theorem refBegin_in (A : Option Addr) (n c B k : Nat) (L : List Cl) (tx : Int) (w : World) (h : Reads w B 3 A n (cls L)) (hB : B ≤ w.heap.size) (hn : n ≤ 1000000) (hk : k < n) (ht : 1 ≤ tx) (ht2 : tx ≤ 1048576) (x : Cl) (hx : clAt L k = x) (v : Int) (hv : ofL tx L = v)
    (r : Int) (hr : (if x.dead then 11 else if 0 < x.tx then 8 else if 0 < v then 15 else 0) = r) (M : List Cl) (hM : (if x.dead = false ∧ ¬ 0 < x.tx ∧ ¬ 0 < v then L.set k { x with tx := tx } else L) = M) :
    Calls Tryz.prog 73 #[.slice A n c, .int .i64 ((k : Int) + 1), .int .i64 tx] w fun e w' => ∃ A' c',
      e = .returned (.tuple #[.slice A' n c', .int .i64 r]) ∧ Reads w' w'.heap.size 3 A' n (cls M) ∧ Below w.heap.size w w' ∧ NewOr w A A' := by
  have HL := Lib.hid h.c_len
  have hkl : k < L.length := by rw [HL.out]; exact hk
  have HB := Lib.hid hB
  have RV := Lib.hid h
  have OV := Lib.hid hv
  have hwr : IntKind.i64.wrap ((k : Int) + 1 - 1) = k := by rw [show (k : Int) + 1 - 1 = k by omega]; exact IntWalk.i64_in _ (by omega)
  have d1 : decide ((k : Int) + 1 < 1) = false := decide_eq_false (by omega)
  have d2 : decide ((n : Int) < (k : Int) + 1) = false := decide_eq_false (by omega)
  have d3 : decide (tx < 1) = false := decide_eq_false (by omega)
  have d4 : decide (1048576 < tx) = false := decide_eq_false (by omega)
  obtain ⟨b, off, rfl, hb, h0, h1, h2⟩ := h.c_at hkl
  rw [← clAt_get hkl, hx] at h0 h1 h2
  clear h hB hb hv
  obtain ⟨xt, xd, xs⟩ := x
  simp only at h0 h1 h2 hr hM
  have HR := Lib.hid hr
  have HM := Lib.hid hM
  clear hr hM
  have X1 := Lib.hid (Blk.new w 132 #[.int .i64 xt, .bool xd, .int .i64 xs])
  have R1 := Lib.hid (RV.out.alloc HB.out (.cells #[.int .i64 xt, .bool xd, .int .i64 xs] 132))
  have B1 := Lib.hid (Joins.below_alloc1 w (.cells #[.int .i64 xt, .bool xd, .int .i64 xs] 132))
  go_enter Tryz.func73, Tryz.ntmps73
  go_upto_region 6 with (refine wpList_load_cells rfl 132 (.tmp 28) rfl ⟨b, off + k * 3, none⟩ rfl [.int .i64 xt, .bool xd, .int .i64 xs] _ (load_cl h0 h1 h2) Tryz.underlying132 rfl (by kernel_rfl) ?_)
  generalize hV : w.alloc (.cells #[.int .i64 xt, .bool xd, .int .i64 xs] 132) = V at X1 R1 B1 ⊢
  have HSZ := Lib.hid (show V.heap.size = w.heap.size + 1 by rw [← hV]; simp)
  clear hV h0 h1 h2
  have c0 : V.cell? ⟨w.heap.size, 0, none⟩ = some (.int .i64 xt) := X1.out.cell 0
  have c1 : V.cell? ⟨w.heap.size, 1, none⟩ = some (.bool xd) := X1.out.cell 1
  have c2 : V.cell? ⟨w.heap.size, 2, none⟩ = some (.int .i64 xs) := X1.out.cell 2
  have f0 := X1.out.frozen 0
  have RN := Lib.hid (R1.out.more (show B ≤ V.heap.size by have := HB.out; have := HSZ.out; omega))
  cases xd with
  | true =>
    obtain rfl : r = 11 := HR.out.symm.trans (if_pos rfl)
    obtain rfl : M = L := HM.out.symm.trans (if_neg (by simp))
    go_wp2_with fail
    go_ret2
    first | exact ⟨_, ⟨_, rfl⟩, RN.out, B1.out, fun ad e => .inl e⟩ | exact ⟨_, _, rfl, RN.out, B1.out, fun ad e => .inl e⟩
  | false =>
    by_cases hp : 0 < xt
    · have e1 : decide (0 < xt) = true := decide_eq_true hp
      obtain rfl : r = 8 := HR.out.symm.trans (by rw [if_neg (by simp), if_pos hp])
      obtain rfl : M = L := HM.out.symm.trans (if_neg (by simp; omega))
      go_wp2_with fail
      go_ret2
      first | exact ⟨_, ⟨_, rfl⟩, RN.out, B1.out, fun ad e => .inl e⟩ | exact ⟨_, _, rfl, RN.out, B1.out, fun ad e => .inl e⟩
    · have e1 : decide (0 < xt) = false := decide_eq_false hp
      by_cases hq : 0 < v
      · have e2 : decide (0 < v) = true := decide_eq_true hq
        obtain rfl : r = 15 := HR.out.symm.trans (by rw [if_neg (by simp), if_neg hp, if_pos hq])
        obtain rfl : M = L := HM.out.symm.trans (if_neg (by simp; omega))
        go_wp2_with (go_at_call 122; refine (refOf_any _ n c _ _ tx _ R1.out hn).mono ?_; rintro e w' ⟨rfl, rfl⟩; rw [OV.out])
        go_ret2
        first | exact ⟨_, ⟨_, rfl⟩, RN.out, B1.out, fun ad e => .inl e⟩ | exact ⟨_, _, rfl, RN.out, B1.out, fun ad e => .inl e⟩
      · have e2 : decide (0 < v) = false := decide_eq_false hq
        obtain rfl : r = 0 := HR.out.symm.trans (by rw [if_neg (by simp), if_neg hp, if_neg hq])
        have HMZ := HM.out.symm.trans (if_pos ⟨rfl, hp, hq⟩)
        subst HMZ
        have X2 := Lib.hid (X1.out.set_ 0 (.int .i64 tx))
        have B2 := Lib.hid (B1.out.setCell (p := ⟨w.heap.size, 0, none⟩) (Nat.le_refl _) (.int .i64 tx))
        have R2 := Lib.hid (R1.out.setCell (p := ⟨w.heap.size, 0, none⟩) HB.out (.int .i64 tx))
        go_upto_region 13 with (go_at_call 122; refine (refOf_any _ n c _ _ tx _ R1.out hn).mono ?_; rintro e w' ⟨rfl, rfl⟩; rw [OV.out])
        generalize hV2 : V.setCell ⟨w.heap.size, 0, none⟩ (.int .i64 tx) = V2 at X2 B2 R2 ⊢
        have HSZ2 := Lib.hid (show V2.heap.size = w.heap.size + 1 by rw [← hV2, ← HSZ.out]; simp [World.setCell])
        clear hV2 c0 c1 c2 f0
        go_wp2_with (first
          | (refine wpList_load_cells rfl 132 (.tmp 8) rfl ⟨w.heap.size, 0, none⟩ rfl [.int .i64 tx, .bool false, .int .i64 xs] _ (load_cl (X2.out.cell 0) (X2.out.cell 1) (X2.out.cell 2)) Tryz.underlying132 rfl (by kernel_rfl) ?_)
          | (go_at_call 115; refine (withR_any _ n c B k L ⟨tx, false, xs⟩ _ R2.out (by have := HB.out; have := HSZ2.out; omega) hn hk).mono ?_; rintro e w' ⟨A', c', rfl, hr, hc, hb, hf⟩; have F3 := Lib.hid hf; have R3 := Lib.hid hr; have B3 := Lib.hid (stepB B2.out hb); clear hr hb hf))
        go_ret2
        have R4 := R3.out
        first | exact ⟨_, ⟨_, rfl⟩, R4, B3.out, fun ad e => .inr (by have := F3.out ad e; have := HSZ2.out; omega)⟩ | exact ⟨_, _, rfl, R4, B3.out, fun ad e => .inr (by have := F3.out ad e; have := HSZ2.out; omega)⟩
theorem beginL_in (L : List Cl) (tx : Int) {id : Int} (e0 : ¬ (id < 1 ∨ (L.length : Int) < id)) (e1 : ¬ (tx < 1 ∨ 1048576 < tx)) :
    beginL L id tx = (if (clAt L (id - 1).toNat).dead = false ∧ ¬ 0 < (clAt L (id - 1).toNat).tx ∧ ¬ 0 < ofL tx L then L.set (id - 1).toNat { clAt L (id - 1).toNat with tx := tx } else L,
      if (clAt L (id - 1).toNat).dead then 11 else if 0 < (clAt L (id - 1).toNat).tx then 8 else if 0 < ofL tx L then 15 else 0) := by
  unfold beginL
  rw [if_neg e0, if_neg e1]
  generalize clAt L (id - 1).toNat = x
  obtain ⟨xt, xd, xs⟩ := x
  generalize ofL tx L = v
  cases xd
  · by_cases h2 : 0 < xt
    · simp [h2]
    · by_cases h3 : 0 < v
      · simp [h2, h3]
      · simp [h2, h3]
  · simp
/-- Begin, whatever comes. -/
theorem refBegin_any (A : Option Addr) (n c B : Nat) (L : List Cl) (id tx : Int) (w : World) (h : Reads w B 3 A n (cls L)) (hB : B ≤ w.heap.size) (hn : n ≤ 1000000) :
    Calls Tryz.prog 73 #[.slice A n c, .int .i64 id, .int .i64 tx] w fun e w' => ∃ A' c',
      e = .returned (.tuple #[.slice A' n c', .int .i64 (beginL L id tx).2]) ∧ Reads w' w'.heap.size 3 A' n (cls (beginL L id tx).1) ∧ Below w.heap.size w w' ∧ NewOr w A A' := by
  have hl := h.c_len
  by_cases ho : id < 1 ∨ (n : Int) < id ∨ tx < 1 ∨ 1048576 < tx
  · refine (refBegin_out A n c B L id tx w hn ho _ rfl).mono ?_
    rintro e w' ⟨rfl, rfl⟩
    have e1 : beginL L id tx = (L, if id < 1 ∨ (n : Int) < id then 10 else 1) := by
      unfold beginL
      rw [hl]
      by_cases h1 : id < 1 ∨ (n : Int) < id
      · rw [if_pos h1, if_pos h1]
      · rw [if_neg h1, if_neg h1, if_pos (by rcases ho with x | x | x | x; exact absurd (.inl x) h1; exact absurd (.inr x) h1; exact .inl x; exact .inr x)]
    rw [e1]
    exact ⟨_, _, rfl, h.more hB, Below.refl _ _, fun ad e => .inl e⟩
  · have hid : id = ((id - 1).toNat : Int) + 1 := by omega
    have hk : (id - 1).toNat < n := by omega
    have e0 : ¬ (id < 1 ∨ (L.length : Int) < id) := by rw [hl]; omega
    have e1 : ¬ (tx < 1 ∨ 1048576 < tx) := by omega
    rw [show (#[.slice A n c, .int .i64 id, .int .i64 tx] : Array Value) = #[.slice A n c, .int .i64 (((id - 1).toNat : Int) + 1), .int .i64 tx] by rw [← hid]]
    have e2 := beginL_in L tx (id := id) e0 e1
    exact refBegin_in A n c B (id - 1).toNat L tx w h hB hn hk (by omega) (by omega) _ rfl _ rfl _ (by rw [e2]) _ (by rw [e2])

set_option maxRecDepth 100000 in
set_option maxHeartbeats 4000000 in
theorem refEnd_none (A : Option Addr) (n c B : Nat) (L : List Cl) (tx : Int) (w : World) (h : Reads w B 3 A n (cls L)) (hn : n ≤ 1000000) (hv : ofL tx L = 0) :
    Calls Tryz.prog 121 #[.slice A n c, .int .i64 tx] w fun e w' => e = .returned (.tuple #[.slice A n c, .int .i64 10]) ∧ w = w' := by
  have RV := Lib.hid h
  have OV := Lib.hid hv
  clear h hv
  go_enter Tryz.func121, Tryz.ntmps121
  go_wp2_with (go_at_call 122; refine (refOf_any _ n c _ _ tx _ RV.out hn).mono ?_; rintro e w' ⟨rfl, rfl⟩; rw [OV.out])
  go_ret2
  first | exact ⟨rfl, rfl⟩ | rfl

set_option maxRecDepth 100000 in
set_option maxHeartbeats 4000000 in
theorem refEnd_one (A : Option Addr) (n c B k : Nat) (L : List Cl) (tx : Int) (w : World) (h : Reads w B 3 A n (cls L)) (hB : B ≤ w.heap.size) (hn : n ≤ 1000000) (hk : k < n) (hv : ofL tx L = k + 1) (x : Cl) (hx : clAt L k = x) :
    Calls Tryz.prog 121 #[.slice A n c, .int .i64 tx] w fun e w' => ∃ A' c',
      e = .returned (.tuple #[.slice A' n c', .int .i64 0]) ∧ Reads w' w'.heap.size 3 A' n (cls (L.set k { x with tx := 0 })) ∧ Below w.heap.size w w' ∧ NewOr w A A' := by
  have HL := Lib.hid h.c_len
  have hkl : k < L.length := by rw [HL.out]; exact hk
  have HB := Lib.hid hB
  have RV := Lib.hid h
  have OV := Lib.hid hv
  have hwr : IntKind.i64.wrap ((k : Int) + 1 - 1) = k := by rw [show (k : Int) + 1 - 1 = k by omega]; exact IntWalk.i64_in _ (by omega)
  have d1 : ((k : Int) + 1 == 0) = false := by simp; omega
  obtain ⟨b, off, rfl, hb, h0, h1, h2⟩ := h.c_at hkl
  rw [← clAt_get hkl, hx] at h0 h1 h2
  clear h hB hb hv
  obtain ⟨xt, xd, xs⟩ := x
  simp only at h0 h1 h2 ⊢
  have X1 := Lib.hid (Blk.new w 132 #[.int .i64 xt, .bool xd, .int .i64 xs])
  have R1 := Lib.hid (RV.out.alloc HB.out (.cells #[.int .i64 xt, .bool xd, .int .i64 xs] 132))
  have B1 := Lib.hid (Joins.below_alloc1 w (.cells #[.int .i64 xt, .bool xd, .int .i64 xs] 132))
  go_enter Tryz.func121, Tryz.ntmps121
  go_upto_region 5 with (first
    | (refine wpList_load_cells rfl 132 (.tmp 17) rfl ⟨b, off + k * 3, none⟩ rfl [.int .i64 xt, .bool xd, .int .i64 xs] _ (load_cl h0 h1 h2) Tryz.underlying132 rfl (by kernel_rfl) ?_)
    | (go_at_call 122; refine (refOf_any _ n c _ _ tx _ RV.out hn).mono ?_; rintro e w' ⟨rfl, rfl⟩; rw [OV.out]))
  generalize hV : w.alloc (.cells #[.int .i64 xt, .bool xd, .int .i64 xs] 132) = V at X1 R1 B1 ⊢
  have HSZ := Lib.hid (show V.heap.size = w.heap.size + 1 by rw [← hV]; simp)
  clear hV h0 h1 h2
  have c0 : V.cell? ⟨w.heap.size, 0, none⟩ = some (.int .i64 xt) := X1.out.cell 0
  have f0 := X1.out.frozen 0
  have X2 := Lib.hid (X1.out.set_ 0 (.int .i64 0))
  have B2 := Lib.hid (B1.out.setCell (p := ⟨w.heap.size, 0, none⟩) (Nat.le_refl _) (.int .i64 0))
  have R2 := Lib.hid (R1.out.setCell (p := ⟨w.heap.size, 0, none⟩) HB.out (.int .i64 0))
  go_upto_region 6 with fail
  generalize hV2 : V.setCell ⟨w.heap.size, 0, none⟩ (.int .i64 0) = V2 at X2 B2 R2 ⊢
  have HSZ2 := Lib.hid (show V2.heap.size = w.heap.size + 1 by rw [← hV2, ← HSZ.out]; simp [World.setCell])
  clear hV2 c0 f0
  go_wp2_with (first
    | (refine wpList_load_cells rfl 132 (.tmp 7) rfl ⟨w.heap.size, 0, none⟩ rfl [.int .i64 0, .bool xd, .int .i64 xs] _ (load_cl (X2.out.cell 0) (X2.out.cell 1) (X2.out.cell 2)) Tryz.underlying132 rfl (by kernel_rfl) ?_)
    | (go_at_call 115; refine (withR_any _ n c B k L ⟨0, xd, xs⟩ _ R2.out (by have := HB.out; have := HSZ2.out; omega) hn hk).mono ?_; rintro e w' ⟨A', c', rfl, hr, hc, hb, hf⟩; have F3 := Lib.hid hf; have R3 := Lib.hid hr; have B3 := Lib.hid (stepB B2.out hb); clear hr hb hf))
  go_ret2
  first | exact ⟨_, ⟨_, rfl⟩, R3.out, B3.out, fun ad e => .inr (by have := F3.out ad e; have := HSZ2.out; omega)⟩ | exact ⟨_, _, rfl, R3.out, B3.out, fun ad e => .inr (by have := F3.out ad e; have := HSZ2.out; omega)⟩
theorem refEnd_any (A : Option Addr) (n c B : Nat) (L : List Cl) (tx : Int) (w : World) (h : Reads w B 3 A n (cls L)) (hB : B ≤ w.heap.size) (hn : n ≤ 1000000) :
    Calls Tryz.prog 121 #[.slice A n c, .int .i64 tx] w fun e w' => ∃ A' c',
      e = .returned (.tuple #[.slice A' n c', .int .i64 (endL L tx).2]) ∧ Reads w' w'.heap.size 3 A' n (cls (endL L tx).1) ∧ Below w.heap.size w w' ∧ NewOr w A A' := by
  have hl := h.c_len
  by_cases hv : ofL tx L = 0
  · refine (refEnd_none A n c B L tx w h hn hv).mono ?_
    rintro e w' ⟨rfl, rfl⟩
    rw [show endL L tx = (L, 10) from if_pos hv]
    exact ⟨_, _, rfl, h.more hB, Below.refl _ _, fun ad e => .inl e⟩
  · obtain ⟨h1, _⟩ := ofL_get hv
    have h2 := ofL_nonneg tx L
    rw [show endL L tx = (L.set (ofL tx L - 1).toNat { clAt L (ofL tx L - 1).toNat with tx := 0 }, 0) from if_neg hv]
    exact refEnd_one A n c B (ofL tx L - 1).toNat L tx w h hB hn (by omega) (by omega) _ rfl
end Go.Proofs.YtmfoffigmojdcaaGreat
