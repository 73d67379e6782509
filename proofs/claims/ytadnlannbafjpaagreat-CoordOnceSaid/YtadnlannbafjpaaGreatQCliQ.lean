/- The contracts of New, find, isTime, whose. -/
import Derived.Test.YtadnlannbafjpaaGreatQCliP
import Derived.WalkMore
import Derived.Laws.Tables
namespace Go.Proofs.YtadnlannbafjpaaGreat
open Go.RowKit
set_option linter.unusedVariables false
set_option linter.unusedSimpArgs false
set_option maxRecDepth 100000 in
set_option maxHeartbeats 1000000 in
theorem cTime_any (x : Int) (w : World) : Calls Tryz.prog 97 #[.int .i64 x] w fun e w' => e = .returned (.bool (isT x)) ∧ w = w' := by
 by_cases h1 : 0 ≤ x
 · have d1 : decide (0 ≤ x) = true := by simpa using h1
   have e : isT x = decide (x ≤ 1099511627776) := by unfold isT; simp [h1]
   go_enter Tryz.func97, Tryz.ntmps97
   go_wp2_with fail
   go_ret
   exact ⟨by first | rfl | (rw [e]; rfl), rfl⟩
 · have d1 : decide (0 ≤ x) = false := by simpa using h1
   have e : isT x = false := by unfold isT; simp [h1]
   go_enter Tryz.func97, Tryz.ntmps97
   go_wp2_with fail
   go_ret
   exact ⟨by first | rfl | (rw [e]; rfl), rfl⟩
theorem clB_new (n : Nat) (h1 : 1 ≤ n) (h8 : n ≤ 8) : clB n (List.replicate n noCl) = #[.int .i64 (n : Int), .int .i64 0, .bool false, .int .i64 0, .int .i64 0, .bool false, .int .i64 0, .int .i64 0, .bool false, .int .i64 0, .int .i64 0, .bool false, .int .i64 0, .int .i64 0, .bool false, .int .i64 0, .int .i64 0, .bool false, .int .i64 0, .int .i64 0, .bool false, .int .i64 0, .int .i64 0, .bool false, .int .i64 0, .int .i64 0, .bool false, .int .i64 0] := by
 have e : full (List.replicate n noCl) = List.replicate 9 noCl := by
   unfold full
   rw [List.length_replicate, List.replicate_append_replicate, show n + (8 - n) = 8 by omega]; rfl
 unfold clB
 rw [e]; rfl
set_option maxRecDepth 100000 in
set_option maxHeartbeats 1000000 in
theorem cNew_ok (n : Nat) (h1 : 1 ≤ n) (h8 : n ≤ 8) (w : World) :
   Calls Tryz.prog 27 #[.int .i64 (n : Int)] w fun e w' => e = .returned (.tuple #[.pointer (some ⟨w.heap.size, 0, none⟩), .nilIface]) ∧ Cli w' w.heap.size n (List.replicate n noCl) ∧ Below w.heap.size w w' := by
 have d1 : decide ((n : Int) < 1) = false := by simp; omega
 have d2 : decide ((8 : Int) < (n : Int)) = false := by simp; omega
 have HC := Lib.hid (clB_new n h1 h8)
 go_enter Tryz.func27, Tryz.ntmps27
 go_wp2_with fail
 go_ret2
 refine ⟨rfl, ⟨?_, by simp, h1, h8, ClOk.new n⟩, Joins.below_alloc1 w _⟩
 rw [HC.out]
 exact Blk.new w _ _
section
variable {p n : Nat} {L : List Cl}
set_option maxRecDepth 100000 in
set_option maxHeartbeats 1000000 in
theorem cFind_none (id : Int) (hid : id < 1 ∨ (n : Int) < id) (w : World) (h : Cli w p n L) : Calls Tryz.prog 86 #[.pointer (some ⟨p, 0, none⟩), .int .i64 id] w fun e w' => e = .returned (.tuple #[.pointer none, errno 10]) ∧ w = w' := by
 have k0 := h.many
 clear h
 by_cases h1 : id < 1
 · have d1 : decide (id < 1) = true := by simpa using h1
   go_enter Tryz.func86, Tryz.ntmps86
   go_wp2_with fail
   go_ret2
   exact ⟨rfl, rfl⟩
 · have d1 : decide (id < 1) = false := by simpa using h1
   have d2 : decide ((n : Int) < id) = true := by simp; omega
   go_enter Tryz.func86, Tryz.ntmps86
   go_wp2_with fail
   go_ret2
   exact ⟨rfl, rfl⟩
set_option maxRecDepth 100000 in
set_option maxHeartbeats 1000000 in
theorem cFind_ok (j : Nat) (h1 : 1 ≤ j) (hj : j ≤ n) (w : World) (h : Cli w p n L) : Calls Tryz.prog 86 #[.pointer (some ⟨p, 0, none⟩), .int .i64 (j : Int)] w fun e w' => e = .returned (.tuple #[.pointer (some ⟨p, 1 + j * 3, none⟩), .nilIface]) ∧ w = w' := by
 have k0 := h.many
 have h8 := h.hi
 have d1 : decide ((j : Int) < 1) = false := by simp; omega
 have d2 : decide ((n : Int) < (j : Int)) = false := by simp; omega
 clear h
 go_enter Tryz.func86, Tryz.ntmps86
 go_wp2_with fail
 go_ret2
 exact ⟨rfl, rfl⟩
set_option maxRecDepth 100000 in
set_option maxHeartbeats 4000000 in
theorem cWhose_any (tx : Int) (w : World) (h : Cli w p n L) : Calls Tryz.prog 87 #[.pointer (some ⟨p, 0, none⟩), .int .i64 tx] w fun e w' => e = .returned (.int .i64 (ofL tx L)) ∧ w = w' := by
 have k0 := h.many
 have HN := Lib.hid h.hi
 have HH := Lib.hid h
 have HL := Lib.hid h.len
 clear h
 go_enter Tryz.func87, Tryz.ntmps87
 go_wp2_with fail
 go_step3
 go_wp2_with fail
 go_step3
 go_wp2_with fail
 go_loopw [5, 6] (fun f i W => ∃ j : Nat, 1 ≤ j ∧ j ≤ n + 1 ∧ f = .int .i64 0 ∧ i = .int .i64 (j : Int) ∧ (∀ q ∈ L.take (j - 1), ¬ (0 < tx ∧ q.tx = tx)) ∧ w = W) (fun _ i _ => n + 2 - (RowKit.intOf i).toNat)
 case atStart => exact ⟨1, by omega, by omega, rfl, rfl, by simp, rfl⟩
 case round =>
   obtain ⟨j, h1, hj, rfl, rfl, hall, rfl⟩ := hrel
   have HA := Lib.hid hall
   clear hall
   by_cases hlt : j ≤ n
   · have h8 := HN.out
     have hkl : j - 1 < L.length := by rw [HL.out]; omega
     have d0 : decide ((j : Int) ≤ (n : Int)) = true := decide_eq_true (by omega)
     have c0 := (HH.out.cells h1 (by omega)).1
     have HX := Lib.hid (show 0 < tx → (clAt L (j - 1)).tx = tx → ofL tx L = j from fun hp he => by
       have := ofL_hit hkl HA.out hp (by rw [← clAt_get hkl]; exact he); omega)
     have HY := Lib.hid (show ¬ (0 < tx ∧ (clAt L (j - 1)).tx = tx) → ∀ q ∈ L.take j, ¬ (0 < tx ∧ q.tx = tx) from fun hne q hq => by
       rw [show j = j - 1 + 1 by omega, List.take_add_one, List.getElem?_eq_getElem hkl, Option.toList_some] at hq
       rcases List.mem_append.1 hq with hq | hq
       · exact HA.out q hq
       · rw [List.mem_singleton.1 hq, ← clAt_get hkl]; exact hne)
     have hx := (HH.out.ok.tx _ (clAt_mem hkl)).1
     generalize (clAt L (j - 1)).tx = x at c0 HX HY hx
     by_cases hz : x = 0
     · have e1 : (x == 0) = true := by simpa using hz
       have HZ := Lib.hid (HY.out (fun h => by omega))
       clear hz HX HY hx
       go_wp2_with fail
       go_roundw
       case rel => exact ⟨j + 1, by omega, by omega, rfl, by go_num, HZ.out, trivial⟩
       case measure => simp [RowKit.intOf]; omega
     · have e1 : (x == 0) = false := by simpa using hz
       by_cases he : x = tx
       · have e2 : (x == tx) = true := by simpa using he
         have HZ := Lib.hid (HX.out (by omega) he)
         clear hz he HX HY hx
         go_wp2_with fail
         rw [Exit.noGoto_ret]
         go_ret
         exact ⟨by rw [HZ.out]; rfl, rfl⟩
       · have e2 : (x == tx) = false := by simpa using he
         have HZ := Lib.hid (HY.out (fun h => he h.2))
         clear hz he HX HY hx
         go_wp2_with fail
         go_roundw
         case rel => exact ⟨j + 1, by omega, by omega, rfl, by go_num, HZ.out, trivial⟩
         case measure => simp [RowKit.intOf]; omega
   · obtain rfl : j = n + 1 := by omega
     have d0 : decide (((n + 1 : Nat) : Int) ≤ (n : Int)) = false := by simp; omega
     rw [show n + 1 - 1 = n by omega, List.take_of_length_le (by rw [HL.out]; exact Nat.le_refl _)] at HA
     have HZ := Lib.hid (ofL_miss HA.out)
     clear HA
     go_wp2_with fail
     rw [Exit.noGoto_ret]
     go_ret
     exact ⟨by rw [HZ.out]; rfl, rfl⟩
end
def errV (c : Int) : Value := if c = 0 then .nilIface else errno c
theorem errV_pos {c : Int} (h : c ≠ 0) : errV c = errno c := if_neg h
theorem errV_zero : errV 0 = .nilIface := rfl
theorem code_errV (c : Int) (h : c = 0 ∨ codeB c = true) (w : World) : Calls Tryz.prog 12 #[errV c] w fun e w' => e = .returned (.int .i64 c) ∧ w = w' := by
 by_cases h0 : c = 0
 · subst h0; exact code_nil w
 · rw [errV_pos h0]; exact code_errno c (h.resolve_left h0) w
/-! ### of nil clients -/
section
variable {p n : Nat} {L : List Cl}
/-! ### what is only read -/
def ofV (v : Int) : Value := .tuple #[.int .i64 v, if v = 0 then errno 10 else .nilIface]
set_option maxRecDepth 100000 in
set_option maxHeartbeats 1000000 in
theorem cOf_any (tx : Int) (w : World) (h : Cli w p n L) : Calls Tryz.prog 111 #[.pointer (some ⟨p, 0, none⟩), .int .i64 tx] w fun e w' => e = .returned (ofV (ofL tx L)) ∧ w = w' := by
 have HH := Lib.hid h
 clear h
 generalize hv : ofL tx L = v
 have HV := Lib.hid hv
 clear hv
 by_cases h0 : v = 0
 · have e0 : (v == 0) = true := by simpa using h0
   have e1 : ofV v = .tuple #[.int .i64 0, errno 10] := by subst h0; rfl
   clear h0
   go_enter Tryz.func111, Tryz.ntmps111
   go_wp2_with (go_at_call 87; refine (cWhose_any tx _ HH.out).mono ?_; rintro e w' ⟨rfl, rfl⟩; rw [HV.out])
   go_ret2
   exact ⟨by first | rfl | (rw [e1]; rfl), rfl⟩
 · have e0 : (v == 0) = false := by simpa using h0
   have e1 : ofV v = .tuple #[.int .i64 v, .nilIface] := by unfold ofV; rw [if_neg h0]
   clear h0
   go_enter Tryz.func111, Tryz.ntmps111
   go_wp2_with (go_at_call 87; refine (cWhose_any tx _ HH.out).mono ?_; rintro e w' ⟨rfl, rfl⟩; rw [HV.out])
   go_ret2
   exact ⟨by first | rfl | (rw [e1]; rfl), rfl⟩
def nowL (n : Nat) (L : List Cl) (id : Int) : Int := if id < 1 ∨ (n : Int) < id then 0 else (clAt L (id - 1).toNat).tx
def nowV (v : Int) : Value := .tuple #[.int .i64 v, if v = 0 then errno 10 else .nilIface]
set_option maxRecDepth 100000 in
set_option maxHeartbeats 1000000 in
theorem cNow_any (id : Int) (w : World) (h : Cli w p n L) (v : Int) (hv : nowL n L id = v) : Calls Tryz.prog 44 #[.pointer (some ⟨p, 0, none⟩), .int .i64 id] w fun e w' => e = .returned (nowV v) ∧ w = w' := by
 have hnn := fun W => run_neq_held_nil (P := Tryz.prog) W 28 81 (.int .i64 10) Tryz.underlying28
 have hn0 := fun W => run_neq_nil_nil (P := Tryz.prog) W 28 Tryz.underlying28
 have HH := Lib.hid h
 have h8 := h.hi
 by_cases hid : id < 1 ∨ (n : Int) < id
 · have e1 : nowV v = .tuple #[.int .i64 0, errno 10] := by rw [← hv]; unfold nowL; rw [if_pos hid]; rfl
   clear h hv
   go_enter Tryz.func44, Tryz.ntmps44
   go_wp2_with (go_at_call 86; refine (cFind_none id hid _ HH.out).mono ?_; rintro e w' ⟨rfl, rfl⟩)
   go_ret2
   exact ⟨by first | rfl | (rw [e1]; rfl), rfl⟩
 · obtain ⟨j, hj⟩ : ∃ j : Nat, id = j := ⟨id.toNat, by omega⟩
   subst hj
   have hj1 : 1 ≤ j := by omega
   have hjn : j ≤ n := by omega
   have c0 := (h.cells hj1 (by omega)).1
   have e2 : nowL n L (j : Int) = (clAt L (j - 1)).tx := by unfold nowL; rw [if_neg hid, show ((j : Int) - 1).toNat = j - 1 by omega]
   rw [← e2, hv] at c0
   clear h hv e2 hid
   by_cases h0 : v = 0
   · have e0 : (v == 0) = true := by simpa using h0
     have e1 : nowV v = .tuple #[.int .i64 0, errno 10] := by subst h0; rfl
     clear h0
     go_enter Tryz.func44, Tryz.ntmps44
     go_wp2_with (go_at_call 86; refine (cFind_ok j hj1 hjn _ HH.out).mono ?_; rintro e w' ⟨rfl, rfl⟩)
     go_ret2
     exact ⟨by first | rfl | (rw [e1]; rfl), rfl⟩
   · have e0 : (v == 0) = false := by simpa using h0
     have e1 : nowV v = .tuple #[.int .i64 v, .nilIface] := by unfold nowV; rw [if_neg h0]
     clear h0
     go_enter Tryz.func44, Tryz.ntmps44
     go_wp2_with (go_at_call 86; refine (cFind_ok j hj1 hjn _ HH.out).mono ?_; rintro e w' ⟨rfl, rfl⟩)
     go_ret2
     exact ⟨by first | rfl | (rw [e1]; rfl), rfl⟩
def aliveL (n : Nat) (L : List Cl) (id : Int) : Bool := if id < 1 ∨ (n : Int) < id then false else !(clAt L (id - 1).toNat).dead
set_option maxRecDepth 100000 in
set_option maxHeartbeats 1000000 in
theorem cAlive_any (id : Int) (w : World) (h : Cli w p n L) (v : Bool) (hv : aliveL n L id = v) : Calls Tryz.prog 85 #[.pointer (some ⟨p, 0, none⟩), .int .i64 id] w fun e w' => e = .returned (.bool v) ∧ w = w' := by
 have hnn := fun W => run_eql_held_nil (P := Tryz.prog) W 28 81 (.int .i64 10) Tryz.underlying28
 have hn0 := fun W => run_eql_nil_nil (P := Tryz.prog) W 28 Tryz.underlying28
 have HH := Lib.hid h
 have h8 := h.hi
 by_cases hid : id < 1 ∨ (n : Int) < id
 · obtain rfl : v = false := by rw [← hv]; unfold aliveL; rw [if_pos hid]
   clear h hv
   go_enter Tryz.func85, Tryz.ntmps85
   go_wp2_with (go_at_call 86; refine (cFind_none id hid _ HH.out).mono ?_; rintro e w' ⟨rfl, rfl⟩)
   go_ret
   exact ⟨rfl, rfl⟩
 · obtain ⟨j, hj⟩ : ∃ j : Nat, id = j := ⟨id.toNat, by omega⟩
   subst hj
   have hj1 : 1 ≤ j := by omega
   have hjn : j ≤ n := by omega
   have c1 := (h.cells hj1 (by omega)).2.1
   have e2 : v = !(clAt L (j - 1)).dead := by rw [← hv]; unfold aliveL; rw [if_neg hid, show ((j : Int) - 1).toNat = j - 1 by omega]
   generalize (clAt L (j - 1)).dead = d at c1 e2
   subst e2
   clear h hv hid
   go_enter Tryz.func85, Tryz.ntmps85
   go_wp2_with (go_at_call 86; refine (cFind_ok j hj1 hjn _ HH.out).mono ?_; rintro e w' ⟨rfl, rfl⟩)
   go_ret
   exact ⟨rfl, rfl⟩
end
section
variable {p n : Nat} {L : List Cl}
theorem turn_one (w : World) (p i : Nat) (u : Value) : Turn (fun k => k = p) w (w.setCell ⟨p, i, none⟩ u) := Turn.setCell (S := fun k => k = p) (Turn.refl _ _) (p := ⟨p, i, none⟩) (fun _ => rfl) u
set_option maxRecDepth 100000 in
set_option maxHeartbeats 4000000 in
theorem cBegin_any (id tx : Int) (w : World) (h : Cli w p n L) : Calls Tryz.prog 46 #[.pointer (some ⟨p, 0, none⟩), .int .i64 id, .int .i64 tx] w fun e w' =>
   e = .returned (errV (beginL L id tx).2) ∧ Cli w' p n (beginL L id tx).1 ∧ Turn (fun k => k = p) w w' := by
 have hnn := fun W => run_neq_held_nil (P := Tryz.prog) W 28 81 (.int .i64 10) Tryz.underlying28
 have hn0 := fun W => run_neq_nil_nil (P := Tryz.prog) W 28 Tryz.underlying28
 have HH := Lib.hid h
 have h8 := h.hi
 have hl := h.len
 by_cases hid : id < 1 ∨ (n : Int) < id
 · have e1 : beginL L id tx = (L, 10) := by unfold beginL; rw [if_pos (by rw [hl]; exact hid)]
   rw [e1]
   clear h e1
   go_enter Tryz.func46, Tryz.ntmps46
   go_wp2_with (go_at_call 86; refine (cFind_none id hid _ HH.out).mono ?_; rintro e w' ⟨rfl, rfl⟩)
   go_ret
   exact ⟨rfl, HH.out, Turn.refl _ _⟩
 · by_cases htx : tx < 1 ∨ 1048576 < tx
   · have e1 : beginL L id tx = (L, 1) := by unfold beginL; rw [if_neg (by rw [hl]; exact hid), if_pos htx]
     rw [e1]
     obtain ⟨j, hj⟩ : ∃ j : Nat, id = j := ⟨id.toNat, by omega⟩
     subst hj
     have hj1 : 1 ≤ j := by omega
     have hjn : j ≤ n := by omega
     clear h e1
     by_cases ht : tx < 1
     · have d1 : decide (tx < 1) = true := decide_eq_true ht
       clear hid htx
       go_enter Tryz.func46, Tryz.ntmps46
       go_wp2_with (go_at_call 86; refine (cFind_ok j hj1 hjn _ HH.out).mono ?_; rintro e w' ⟨rfl, rfl⟩)
       go_ret
       exact ⟨rfl, HH.out, Turn.refl _ _⟩
     · have d1 : decide (tx < 1) = false := decide_eq_false ht
       have d2 : decide (1048576 < tx) = true := decide_eq_true (by omega)
       clear hid htx
       go_enter Tryz.func46, Tryz.ntmps46
       go_wp2_with (go_at_call 86; refine (cFind_ok j hj1 hjn _ HH.out).mono ?_; rintro e w' ⟨rfl, rfl⟩)
       go_ret
       exact ⟨rfl, HH.out, Turn.refl _ _⟩
   · have e1 := beginL_in L tx (id := id) (by rw [hl]; exact hid) htx
     obtain ⟨j, hj⟩ : ∃ j : Nat, id = j := ⟨id.toNat, by omega⟩
     subst hj
     rw [show ((j : Int) - 1).toNat = j - 1 by omega] at e1
     have hj1 : 1 ≤ j := by omega
     have hjn : j ≤ n := by omega
     have d1 : decide (tx < 1) = false := decide_eq_false (by omega)
     have d2 : decide (1048576 < tx) = false := decide_eq_false (by omega)
     obtain ⟨c0, c1, _⟩ := h.cells hj1 (by omega)
     have hkl : j - 1 < L.length := by omega
     have hx0 := (h.ok.tx _ (clAt_mem hkl)).1
     have hov := ofL_nonneg tx L
     have HS := Lib.hid (fun (hz : ofL tx L = 0) => h.setTx hj1 hjn (t := tx) (by omega) (fun _ => hz))
     have f0 := h.box.frozen (1 + j * 3)
     generalize hv : ofL tx L = v at e1 hov HS
     have HV := Lib.hid hv
     rw [e1]
     clear h e1 hid htx hv
     generalize hxe : clAt L (j - 1) = x at c0 c1 hx0 HS ⊢
     obtain ⟨xt, xd, xs⟩ := x
     simp only at c0 c1 hx0 HS ⊢
     clear hxe
     cases xd with
     | true =>
       clear HS
       go_enter Tryz.func46, Tryz.ntmps46
       go_wp2_with (go_at_call 86; refine (cFind_ok j hj1 hjn _ HH.out).mono ?_; rintro e w' ⟨rfl, rfl⟩)
       go_ret
       exact ⟨rfl, HH.out, Turn.refl _ _⟩
     | false =>
       by_cases hx : xt = 0
       · subst hx
         have e2 : ((0 : Int) != 0) = false := by simp
         by_cases hz : v = 0
         · subst hz
           have HZ := Lib.hid (HS.out rfl)
           clear HS
           go_enter Tryz.func46, Tryz.ntmps46
           go_wp2_with (first
             | (go_at_call 86; refine (cFind_ok j hj1 hjn _ HH.out).mono ?_; rintro e w' ⟨rfl, rfl⟩)
             | (go_at_call 87; refine (cWhose_any tx _ HH.out).mono ?_; rintro e w' ⟨rfl, rfl⟩; rw [HV.out]))
           go_ret
           exact ⟨rfl, HZ.out, turn_one _ _ _ _⟩
         · have e3 : (v != 0) = true := by simpa using hz
           have hv1 : 0 < v := by omega
           clear HS
           go_enter Tryz.func46, Tryz.ntmps46
           go_wp2_with (first
             | (go_at_call 86; refine (cFind_ok j hj1 hjn _ HH.out).mono ?_; rintro e w' ⟨rfl, rfl⟩)
             | (go_at_call 87; refine (cWhose_any tx _ HH.out).mono ?_; rintro e w' ⟨rfl, rfl⟩; rw [HV.out]))
           go_ret
           exact ⟨rfl, HH.out, Turn.refl _ _⟩
       · have e2 : (xt != 0) = true := by simpa using hx
         have hx1 : 0 < xt := by omega
         clear HS
         go_enter Tryz.func46, Tryz.ntmps46
         go_wp2_with (go_at_call 86; refine (cFind_ok j hj1 hjn _ HH.out).mono ?_; rintro e w' ⟨rfl, rfl⟩)
         go_ret
         exact ⟨rfl, HH.out, Turn.refl _ _⟩
set_option maxRecDepth 100000 in
set_option maxHeartbeats 4000000 in
theorem cEnd_any (tx : Int) (w : World) (h : Cli w p n L) : Calls Tryz.prog 89 #[.pointer (some ⟨p, 0, none⟩), .int .i64 tx] w fun e w' =>
   e = .returned (errV (endL L tx).2) ∧ Cli w' p n (endL L tx).1 ∧ Turn (fun k => k = p) w w' := by
 have hnn := fun W => run_neq_held_nil (P := Tryz.prog) W 28 81 (.int .i64 10) Tryz.underlying28
 have hn0 := fun W => run_neq_nil_nil (P := Tryz.prog) W 28 Tryz.underlying28
 have HH := Lib.hid h
 have h8 := h.hi
 have hl := h.len
 by_cases hz : ofL tx L = 0
 · have e1 : endL L tx = (L, 10) := by unfold endL; rw [if_pos hz]
   have e2 : ofV (ofL tx L) = .tuple #[.int .i64 0, errno 10] := by rw [hz]; rfl
   rw [e1]
   have HV := Lib.hid e2
   clear h e1 e2 hz
   go_enter Tryz.func89, Tryz.ntmps89
   go_wp2_with (go_at_call 111; refine (cOf_any tx _ HH.out).mono ?_; rw [HV.out]; rintro e w' ⟨rfl, rfl⟩)
   go_ret
   exact ⟨rfl, HH.out, Turn.refl _ _⟩
 · have hov := ofL_nonneg tx L
   have hole := ofL_le tx L
   obtain ⟨j, hj⟩ : ∃ j : Nat, ofL tx L = j := ⟨(ofL tx L).toNat, by omega⟩
   have hj1 : 1 ≤ j := by omega
   have hjn : j ≤ n := by omega
   have e1 : endL L tx = (L.set (j - 1) { clAt L (j - 1) with tx := 0 }, 0) := by unfold endL; rw [if_neg hz, hj, show ((j : Int) - 1).toNat = j - 1 by omega]
   have e2 : ofV (ofL tx L) = .tuple #[.int .i64 (j : Int), .nilIface] := by unfold ofV; rw [if_neg hz, hj]
   rw [e1]
   have HV := Lib.hid e2
   have HS := Lib.hid (h.setTx hj1 hjn (t := 0) (by omega) (fun h0 => absurd h0 (by omega)))
   have c0 := (h.cells hj1 (by omega)).1
   have f0 := h.box.frozen (1 + j * 3)
   clear h e1 e2 hz hov hole hj
   go_enter Tryz.func89, Tryz.ntmps89
   go_wp2_with (go_at_call 111; refine (cOf_any tx _ HH.out).mono ?_; rw [HV.out]; rintro e w' ⟨rfl, rfl⟩)
   go_ret
   exact ⟨rfl, HS.out, turn_one _ _ _ _⟩
set_option maxRecDepth 100000 in
set_option maxHeartbeats 4000000 in
theorem cCrash_any (id now : Int) (w : World) (h : Cli w p n L) : Calls Tryz.prog 57 #[.pointer (some ⟨p, 0, none⟩), .int .i64 id, .int .i64 now] w fun e w' =>
   e = .returned (errV (crashL L id now).2) ∧ Cli w' p n (crashL L id now).1 ∧ Turn (fun k => k = p) w w' := by
 have hnn := fun W => run_neq_held_nil (P := Tryz.prog) W 28 81 (.int .i64 10) Tryz.underlying28
 have hn0 := fun W => run_neq_nil_nil (P := Tryz.prog) W 28 Tryz.underlying28
 have HH := Lib.hid h
 have h8 := h.hi
 have hl := h.len
 by_cases hid : id < 1 ∨ (n : Int) < id
 · have e1 : crashL L id now = (L, 10) := by unfold crashL; rw [if_pos (by rw [hl]; exact hid)]
   rw [e1]
   clear h e1
   go_enter Tryz.func57, Tryz.ntmps57
   go_wp2_with (go_at_call 86; refine (cFind_none id hid _ HH.out).mono ?_; rintro e w' ⟨rfl, rfl⟩)
   go_ret
   exact ⟨rfl, HH.out, Turn.refl _ _⟩
 · obtain ⟨j, hj⟩ : ∃ j : Nat, id = j := ⟨id.toNat, by omega⟩
   subst hj
   have hj1 : 1 ≤ j := by omega
   have hjn : j ≤ n := by omega
   cases ht : isT now with
   | false =>
     have e1 : crashL L (j : Int) now = (L, 1) := by unfold crashL; rw [if_neg (by rw [hl]; exact hid), if_pos ht]
     rw [e1]
     have HT := Lib.hid ht
     clear h e1 ht hid
     go_enter Tryz.func57, Tryz.ntmps57
     go_wp2_with (first
       | (go_at_call 86; refine (cFind_ok j hj1 hjn _ HH.out).mono ?_; rintro e w' ⟨rfl, rfl⟩)
       | (go_at_call 97; refine (cTime_any _ _).mono ?_; rintro e w' ⟨rfl, rfl⟩; rw [HT.out]))
     go_ret
     exact ⟨rfl, HH.out, Turn.refl _ _⟩
   | true =>
     have e1 : crashL L (j : Int) now = (if (clAt L (j - 1)).dead then (L, 11) else (L.set (j - 1) { clAt L (j - 1) with dead := true, since := now }, 0)) := by
       unfold crashL; rw [if_neg (by rw [hl]; exact hid), if_neg (by rw [ht]; simp), show ((j : Int) - 1).toNat = j - 1 by omega]
     rw [e1]
     have HT := Lib.hid ht
     have HS := Lib.hid (h.setDead hj1 hjn ht)
     obtain ⟨_, c1, c2⟩ := h.cells hj1 (by omega)
     have f1 := h.box.frozen (1 + j * 3 + 1)
     have f2 := h.box.frozen (1 + j * 3 + 2)
     clear h e1 ht hid
     generalize clAt L (j - 1) = x at c1 c2 HS ⊢
     obtain ⟨xt, xd, xs⟩ := x
     simp only at c1 c2 HS ⊢
     cases xd with
     | true =>
       clear HS
       go_enter Tryz.func57, Tryz.ntmps57
       go_wp2_with (first
         | (go_at_call 86; refine (cFind_ok j hj1 hjn _ HH.out).mono ?_; rintro e w' ⟨rfl, rfl⟩)
         | (go_at_call 97; refine (cTime_any _ _).mono ?_; rintro e w' ⟨rfl, rfl⟩; rw [HT.out]))
       go_ret
       exact ⟨rfl, HH.out, Turn.refl _ _⟩
     | false =>
       go_enter Tryz.func57, Tryz.ntmps57
       go_wp2_with (first
         | (go_at_call 86; refine (cFind_ok j hj1 hjn _ HH.out).mono ?_; rintro e w' ⟨rfl, rfl⟩)
         | (go_at_call 97; refine (cTime_any _ _).mono ?_; rintro e w' ⟨rfl, rfl⟩; rw [HT.out]))
       go_ret
       exact ⟨rfl, HS.out, (turn_one _ _ _ _).trans (turn_one _ _ _ _) (fun _ _ h => h)⟩
end
end Go.Proofs.YtadnlannbafjpaaGreat
