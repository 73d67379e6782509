/- The law's act: something that happens to a coordinator. -/
import Derived.Test.YtadnlannbafjpaaGreatQCoVe
import Derived.Test.YtadnlannbafjpaaGreatQTxQ
namespace Go.Proofs.YtadnlannbafjpaaGreat
open Go.RowKit
set_option linter.unusedVariables false
set_option linter.unusedSimpArgs false
def codK (c : Int) : Prop := c = 0 ∨ codeB c = true
theorem codK.lit {c : Int} (h : c = 0 ∨ (1 ≤ c ∧ c ≤ 15)) : codK c := h.elim .inl fun h => .inr (by unfold codeB; exact decide_eq_true h)
theorem cod0 : codK 0 := codK.lit (by decide)
theorem cod1 : codK 1 := codK.lit (by decide)
theorem cod5 : codK 5 := codK.lit (by decide)
theorem cod6 : codK 6 := codK.lit (by decide)
theorem cod8 : codK 8 := codK.lit (by decide)
theorem cod10 : codK 10 := codK.lit (by decide)
theorem cod11 : codK 11 := codK.lit (by decide)
theorem cod15 : codK 15 := codK.lit (by decide)
theorem may_cod (n : Nat) (cl : List Cl) (id : Int) : codK (mayL n cl id) := by
 unfold mayL; split; (first | exact cod0 | exact cod10 | exact cod11); split; (first | exact cod0 | exact cod10 | exact cod11); (first | exact cod0 | exact cod10 | exact cod11)
theorem ask_cod (x : Tr) (sh a0 a1 md : Int) : codK (askL x sh a0 a1 md).2.2 := by
 unfold askL; split; (first | exact cod0 | exact cod1 | exact cod5 | exact cod6 | exact cod8 | exact cod10 | exact cod11 | exact cod15); split; (first | exact cod0 | exact cod1 | exact cod5 | exact cod6 | exact cod8 | exact cod10 | exact cod11 | exact cod15); split; (first | exact cod0 | exact cod1 | exact cod5 | exact cod6 | exact cod8 | exact cod10 | exact cod11 | exact cod15); split; (first | exact cod0 | exact cod1 | exact cod5 | exact cod6 | exact cod8 | exact cod10 | exact cod11 | exact cod15); (first | exact cod0 | exact cod1 | exact cod5 | exact cod6 | exact cod8 | exact cod10 | exact cod11 | exact cod15)
theorem fin_cod (x : Tr) : codK (finL x).2.2 := by
 unfold finL; split; (first | exact cod0 | exact cod1 | exact cod5 | exact cod6 | exact cod8 | exact cod10 | exact cod11 | exact cod15); split; (first | exact cod0 | exact cod1 | exact cod5 | exact cod6 | exact cod8 | exact cod10 | exact cod11 | exact cod15); (first | exact cod0 | exact cod1 | exact cod5 | exact cod6 | exact cod8 | exact cod10 | exact cod11 | exact cod15)
theorem bec_cod (c : Co) (y : Tr) (i : Nat) : codK (becL c y i).2 := by
 unfold becL; split; (first | exact cod0 | exact cod1 | exact cod5 | exact cod6 | exact cod8 | exact cod10 | exact cod11 | exact cod15); split
 · show codK (endL c.cl y.tx).2; unfold endL; split; (first | exact cod0 | exact cod1 | exact cod5 | exact cod6 | exact cod8 | exact cod10 | exact cod11 | exact cod15); (first | exact cod0 | exact cod1 | exact cod5 | exact cod6 | exact cod8 | exact cod10 | exact cod11 | exact cod15)
 · (first | exact cod0 | exact cod1 | exact cod5 | exact cod6 | exact cod8 | exact cod10 | exact cod11 | exact cod15)
theorem act_cod (n : Nat) (c : Co) (a : List Int) : codK (actC n c a).2.2 := by
 unfold actC
 split
 · show codK (lockC n c _ _ _ _).2
   unfold lockC; split; exact may_cod _ _ _; split; (first | exact cod0 | exact cod1 | exact cod5 | exact cod6 | exact cod8 | exact cod10 | exact cod11 | exact cod15); split; (first | exact cod0 | exact cod1 | exact cod5 | exact cod6 | exact cod8 | exact cod10 | exact cod11 | exact cod15); split; (first | exact cod0 | exact cod1 | exact cod5 | exact cod6 | exact cod8 | exact cod10 | exact cod11 | exact cod15); exact ask_cod _ _ _ _ _
 split
 · show codK (finC n c _).2
   unfold finC; split; exact may_cod _ _ _; split; (first | exact cod0 | exact cod1 | exact cod5 | exact cod6 | exact cod8 | exact cod10 | exact cod11 | exact cod15); split; exact bec_cod _ _ _; exact fin_cod _
 split
 · show codK (abrC n c _).2
   unfold abrC; split; exact may_cod _ _ _; split; (first | exact cod0 | exact cod1 | exact cod5 | exact cod6 | exact cod8 | exact cod10 | exact cod11 | exact cod15); split; (first | exact cod0 | exact cod1 | exact cod5 | exact cod6 | exact cod8 | exact cod10 | exact cod11 | exact cod15); (first | exact cod0 | exact cod1 | exact cod5 | exact cod6 | exact cod8 | exact cod10 | exact cod11 | exact cod15)
 split
 · show codK (craC c _).2
   unfold craC; split; (first | exact cod0 | exact cod1 | exact cod5 | exact cod6 | exact cod8 | exact cod10 | exact cod11 | exact cod15); show codK (crashL _ _ _).2; unfold crashL; split; (first | exact cod0 | exact cod1 | exact cod5 | exact cod6 | exact cod8 | exact cod10 | exact cod11 | exact cod15); split; (first | exact cod0 | exact cod1 | exact cod5 | exact cod6 | exact cod8 | exact cod10 | exact cod11 | exact cod15); split; (first | exact cod0 | exact cod1 | exact cod5 | exact cod6 | exact cod8 | exact cod10 | exact cod11 | exact cod15); (first | exact cod0 | exact cod1 | exact cod5 | exact cod6 | exact cod8 | exact cod10 | exact cod11 | exact cod15)
 split
 · show codK (begC n c _).2.2
   unfold begC; split; exact may_cod _ _ _; split; (first | exact cod0 | exact cod1 | exact cod5 | exact cod6 | exact cod8 | exact cod10 | exact cod11 | exact cod15); (first | exact cod0 | exact cod1 | exact cod5 | exact cod6 | exact cod8 | exact cod10 | exact cod11 | exact cod15)
 split
 · show codK (handleL c n _).2
   unfold handleL; split; (first | exact cod0 | exact cod1 | exact cod5 | exact cod6 | exact cod8 | exact cod10 | exact cod11 | exact cod15); split; (first | exact cod0 | exact cod1 | exact cod5 | exact cod6 | exact cod8 | exact cod10 | exact cod11 | exact cod15); split; (first | exact cod0 | exact cod1 | exact cod5 | exact cod6 | exact cod8 | exact cod10 | exact cod11 | exact cod15); split; (first | exact cod0 | exact cod1 | exact cod5 | exact cod6 | exact cod8 | exact cod10 | exact cod11 | exact cod15); (first | exact cod0 | exact cod1 | exact cod5 | exact cod6 | exact cod8 | exact cod10 | exact cod11 | exact cod15)
 split
 · (first | exact cod0 | exact cod1 | exact cod5 | exact cod6 | exact cod8 | exact cod10 | exact cod11 | exact cod15)
 · (first | exact cod0 | exact cod1 | exact cod5 | exact cod6 | exact cod8 | exact cod10 | exact cod11 | exact cod15)
def DoP (w : World) (g n : Nat) (P : Pt) (r : (Co × List (List Int)) × Int × Int) (e : Ending) (w' : World) : Prop := ∃ u, e = .returned (.tuple #[u, .int .i64 r.2.1, .int .i64 r.2.2]) ∧ MsgR w' w.heap.size u r.1.2 ∧ ∃ P', CoS w w' g n P (fun _ => False) r.1.1 P'
section
variable {g n j : Nat} {c : Co} {P : Pt}
set_option maxRecDepth 100000 in
set_option maxHeartbeats 4000000 in
theorem doAct_0 (a : List Int) (w : World) (h : CoM w g n c P) (A : CoA n j c) (hj : j < 100) (hl : a.length = 33) (hk : fld a 0 = 0) (r : (Co × List (List Int)) × Int × Int) (hr : r = actC n c a) :
   Calls Tryz.prog 14 #[.pointer (some ⟨g, 0, none⟩), .agg (mc a)] w (DoP w g n P r) := by
 have HM := Lib.hid h
 have HA := Lib.hid A
 have HL := Lib.hid hl
 have HC := Lib.hid (show codK r.2.2 from by rw [hr]; exact act_cod _ _ _)
 have X1 := Lib.hid (Blk.new w 47 (mc a))
 have B1 := Lib.hid (Joins.below_alloc1 w (.cells (mc a) 47))
 have HMI := Lib.hid (show (Tryz.prog.info? 45).map (·.size) = some (ints (a.drop 5)).length from by have := mc_info (act_drop hl); simpa [mc] using this)
 have e0 : (fld a 0 == 0) = true := by simp; omega
 clear h A hl
 go_enter Tryz.func14, Tryz.ntmps14
 go_upto_region 1 with fail
 obtain ⟨q, hq⟩ : ∃ q, q = w.heap.size := ⟨_, rfl⟩
 rw [← hq] at X1 ⊢
 clear hq
 generalize w.alloc (.cells (mc a) 47) = V at X1 B1 ⊢
 have a0 := act_cell HL.out X1.out (i := 0) (by omega)
 have a1 := act_cell HL.out X1.out (i := 1) (by omega)
 have a2 := act_cell HL.out X1.out (i := 2) (by omega)
 have a3 := act_cell HL.out X1.out (i := 3) (by omega)
 have a4 := act_cell HL.out X1.out (i := 4) (by omega)
 have AM := Lib.hid (act_msg HL.out X1.out)
 have HR := Lib.hid (show r = ((lockC n c (fld a 1) (fld a 2) (fld a 3) (fld a 4)).1, 0, (lockC n c (fld a 1) (fld a 2) (fld a 3) (fld a 4)).2) from by rw [hr]; unfold actC;  rw [if_pos hk])
 clear hr hk
 obtain ⟨z, hz⟩ : ∃ z, z = lockC n c (fld a 1) (fld a 2) (fld a 3) (fld a 4) := ⟨_, rfl⟩
 have CO := Lib.hid (lock_any (fld a 1) (fld a 2) (fld a 3) (fld a 4) V (HM.out.step B1.out) HA.out.k (by omega) HA.out.sh)
 rw [← hz] at CO HR
 have HZC := Lib.hid (show codK z.2 from by have := HC.out; rw [HR.out] at this; exact this)
 clear hz
 obtain ⟨zc, hzc⟩ : ∃ zc, zc = z.2 := ⟨_, rfl⟩
 go_wp2_with (first
   | (refine wpList_load_cells rfl 45 (.tmp 62) rfl ⟨q, 5, none⟩ rfl (ints (a.drop 5)) _ AM.out Tryz.underlying45 rfl HMI.out ?_)
   | (go_at_call 24; refine CO.out.mono ?_; rintro e V2 ⟨u, rfl, hu, P2, hs⟩; have U2 := Lib.hid hu; have S2 := Lib.hid hs; clear hu hs)
   | (go_at_call 12; refine (code_errV _ HZC.out _).mono ?_; rintro e V3 ⟨rfl, rfl⟩))
 go_ret3
 rw [HR.out]
 exact ⟨_, rfl, own_less U2.out B1.out.size, _, ((CoS.below (N := fun _ => False) HM.out B1.out).trans S2.out).fresh (fun k e => by simp only [or_false] at e)⟩
set_option maxRecDepth 100000 in
set_option maxHeartbeats 4000000 in
theorem doAct_1 (a : List Int) (w : World) (h : CoM w g n c P) (A : CoA n j c) (hj : j < 100) (hl : a.length = 33) (hk : fld a 0 = 1) (r : (Co × List (List Int)) × Int × Int) (hr : r = actC n c a) :
   Calls Tryz.prog 14 #[.pointer (some ⟨g, 0, none⟩), .agg (mc a)] w (DoP w g n P r) := by
 have HM := Lib.hid h
 have HA := Lib.hid A
 have HL := Lib.hid hl
 have HC := Lib.hid (show codK r.2.2 from by rw [hr]; exact act_cod _ _ _)
 have X1 := Lib.hid (Blk.new w 47 (mc a))
 have B1 := Lib.hid (Joins.below_alloc1 w (.cells (mc a) 47))
 have HMI := Lib.hid (show (Tryz.prog.info? 45).map (·.size) = some (ints (a.drop 5)).length from by have := mc_info (act_drop hl); simpa [mc] using this)
 have e0 : (fld a 0 == 0) = false := by simp; omega
 have e1 : (fld a 0 == 1) = true := by simp; omega
 clear h A hl
 go_enter Tryz.func14, Tryz.ntmps14
 go_upto_region 1 with fail
 obtain ⟨q, hq⟩ : ∃ q, q = w.heap.size := ⟨_, rfl⟩
 rw [← hq] at X1 ⊢
 clear hq
 generalize w.alloc (.cells (mc a) 47) = V at X1 B1 ⊢
 have a0 := act_cell HL.out X1.out (i := 0) (by omega)
 have a1 := act_cell HL.out X1.out (i := 1) (by omega)
 have a2 := act_cell HL.out X1.out (i := 2) (by omega)
 have a3 := act_cell HL.out X1.out (i := 3) (by omega)
 have a4 := act_cell HL.out X1.out (i := 4) (by omega)
 have AM := Lib.hid (act_msg HL.out X1.out)
 have HR := Lib.hid (show r = ((finC n c (fld a 1)).1, 0, (finC n c (fld a 1)).2) from by rw [hr]; unfold actC; rw [if_neg (by omega)]; rw [if_pos hk])
 clear hr hk
 obtain ⟨z, hz⟩ : ∃ z, z = finC n c (fld a 1) := ⟨_, rfl⟩
 have CO := Lib.hid (commit_any (fld a 1) V (HM.out.step B1.out) HA.out.k (by omega))
 rw [← hz] at CO HR
 have HZC := Lib.hid (show codK z.2 from by have := HC.out; rw [HR.out] at this; exact this)
 clear hz
 obtain ⟨zc, hzc⟩ : ∃ zc, zc = z.2 := ⟨_, rfl⟩
 go_wp2_with (first
   | (refine wpList_load_cells rfl 45 (.tmp 62) rfl ⟨q, 5, none⟩ rfl (ints (a.drop 5)) _ AM.out Tryz.underlying45 rfl HMI.out ?_)
   | (go_at_call 25; refine CO.out.mono ?_; rintro e V2 ⟨u, rfl, hu, P2, hs⟩; have U2 := Lib.hid hu; have S2 := Lib.hid hs; clear hu hs)
   | (go_at_call 12; refine (code_errV _ HZC.out _).mono ?_; rintro e V3 ⟨rfl, rfl⟩))
 go_ret3
 rw [HR.out]
 exact ⟨_, rfl, own_less U2.out B1.out.size, _, ((CoS.below (N := fun _ => False) HM.out B1.out).trans S2.out).fresh (fun k e => by simp only [or_false] at e)⟩
set_option maxRecDepth 100000 in
set_option maxHeartbeats 4000000 in
theorem doAct_2 (a : List Int) (w : World) (h : CoM w g n c P) (A : CoA n j c) (hj : j < 100) (hl : a.length = 33) (hk : fld a 0 = 2) (r : (Co × List (List Int)) × Int × Int) (hr : r = actC n c a) :
   Calls Tryz.prog 14 #[.pointer (some ⟨g, 0, none⟩), .agg (mc a)] w (DoP w g n P r) := by
 have HM := Lib.hid h
 have HA := Lib.hid A
 have HL := Lib.hid hl
 have HC := Lib.hid (show codK r.2.2 from by rw [hr]; exact act_cod _ _ _)
 have X1 := Lib.hid (Blk.new w 47 (mc a))
 have B1 := Lib.hid (Joins.below_alloc1 w (.cells (mc a) 47))
 have HMI := Lib.hid (show (Tryz.prog.info? 45).map (·.size) = some (ints (a.drop 5)).length from by have := mc_info (act_drop hl); simpa [mc] using this)
 have e0 : (fld a 0 == 0) = false := by simp; omega
 have e1 : (fld a 0 == 1) = false := by simp; omega
 have e2 : (fld a 0 == 2) = true := by simp; omega
 clear h A hl
 go_enter Tryz.func14, Tryz.ntmps14
 go_upto_region 1 with fail
 obtain ⟨q, hq⟩ : ∃ q, q = w.heap.size := ⟨_, rfl⟩
 rw [← hq] at X1 ⊢
 clear hq
 generalize w.alloc (.cells (mc a) 47) = V at X1 B1 ⊢
 have a0 := act_cell HL.out X1.out (i := 0) (by omega)
 have a1 := act_cell HL.out X1.out (i := 1) (by omega)
 have a2 := act_cell HL.out X1.out (i := 2) (by omega)
 have a3 := act_cell HL.out X1.out (i := 3) (by omega)
 have a4 := act_cell HL.out X1.out (i := 4) (by omega)
 have AM := Lib.hid (act_msg HL.out X1.out)
 have HR := Lib.hid (show r = ((abrC n c (fld a 1)).1, 0, (abrC n c (fld a 1)).2) from by rw [hr]; unfold actC; rw [if_neg (by omega)]; rw [if_neg (by omega)]; rw [if_pos hk])
 clear hr hk
 obtain ⟨z, hz⟩ : ∃ z, z = abrC n c (fld a 1) := ⟨_, rfl⟩
 have CO := Lib.hid (abrt_any (fld a 1) V (HM.out.step B1.out) HA.out.k (by omega))
 rw [← hz] at CO HR
 have HZC := Lib.hid (show codK z.2 from by have := HC.out; rw [HR.out] at this; exact this)
 clear hz
 obtain ⟨zc, hzc⟩ : ∃ zc, zc = z.2 := ⟨_, rfl⟩
 go_wp2_with (first
   | (refine wpList_load_cells rfl 45 (.tmp 62) rfl ⟨q, 5, none⟩ rfl (ints (a.drop 5)) _ AM.out Tryz.underlying45 rfl HMI.out ?_)
   | (go_at_call 29; refine CO.out.mono ?_; rintro e V2 ⟨u, rfl, hu, P2, hs⟩; have U2 := Lib.hid hu; have S2 := Lib.hid hs; clear hu hs)
   | (go_at_call 12; refine (code_errV _ HZC.out _).mono ?_; rintro e V3 ⟨rfl, rfl⟩))
 go_ret3
 rw [HR.out]
 exact ⟨_, rfl, own_less U2.out B1.out.size, _, ((CoS.below (N := fun _ => False) HM.out B1.out).trans S2.out).fresh (fun k e => by simp only [or_false] at e)⟩
set_option maxRecDepth 100000 in
set_option maxHeartbeats 4000000 in
theorem doAct_3 (a : List Int) (w : World) (h : CoM w g n c P) (A : CoA n j c) (hj : j < 100) (hl : a.length = 33) (hk : fld a 0 = 3) (r : (Co × List (List Int)) × Int × Int) (hr : r = actC n c a) :
   Calls Tryz.prog 14 #[.pointer (some ⟨g, 0, none⟩), .agg (mc a)] w (DoP w g n P r) := by
 have HM := Lib.hid h
 have HA := Lib.hid A
 have HL := Lib.hid hl
 have HC := Lib.hid (show codK r.2.2 from by rw [hr]; exact act_cod _ _ _)
 have X1 := Lib.hid (Blk.new w 47 (mc a))
 have B1 := Lib.hid (Joins.below_alloc1 w (.cells (mc a) 47))
 have HMI := Lib.hid (show (Tryz.prog.info? 45).map (·.size) = some (ints (a.drop 5)).length from by have := mc_info (act_drop hl); simpa [mc] using this)
 have e0 : (fld a 0 == 0) = false := by simp; omega
 have e1 : (fld a 0 == 1) = false := by simp; omega
 have e2 : (fld a 0 == 2) = false := by simp; omega
 have e3 : (fld a 0 == 3) = true := by simp; omega
 clear h A hl
 go_enter Tryz.func14, Tryz.ntmps14
 go_upto_region 1 with fail
 obtain ⟨q, hq⟩ : ∃ q, q = w.heap.size := ⟨_, rfl⟩
 rw [← hq] at X1 ⊢
 clear hq
 generalize w.alloc (.cells (mc a) 47) = V at X1 B1 ⊢
 have a0 := act_cell HL.out X1.out (i := 0) (by omega)
 have a1 := act_cell HL.out X1.out (i := 1) (by omega)
 have a2 := act_cell HL.out X1.out (i := 2) (by omega)
 have a3 := act_cell HL.out X1.out (i := 3) (by omega)
 have a4 := act_cell HL.out X1.out (i := 4) (by omega)
 have AM := Lib.hid (act_msg HL.out X1.out)
 have HR := Lib.hid (show r = (((craC c (fld a 1)).1, []), 0, (craC c (fld a 1)).2) from by rw [hr]; unfold actC; rw [if_neg (by omega)]; rw [if_neg (by omega)]; rw [if_neg (by omega)]; rw [if_pos hk])
 clear hr hk
 obtain ⟨z, hz⟩ : ∃ z, z = craC c (fld a 1) := ⟨_, rfl⟩
 have CO := Lib.hid (crash_any (fld a 1) V (HM.out.step B1.out) (by have := HA.out.k.ev; omega))
 rw [← hz] at CO HR
 have HZC := Lib.hid (show codK z.2 from by have := HC.out; rw [HR.out] at this; exact this)
 clear hz
 go_wp2_with (first
   | (go_at_call 30; refine CO.out.mono ?_; rintro e V2 ⟨rfl, P2, hs⟩; have S2 := Lib.hid hs; clear hs)
   | (go_at_call 12; refine (code_errV _ HZC.out _).mono ?_; rintro e V3 ⟨rfl, rfl⟩))
 go_ret3
 rw [HR.out]
 exact ⟨_, rfl, World.ownsRow_nil _ _ _ _, _, ((CoS.below (N := fun _ => False) HM.out B1.out).trans S2.out).fresh (fun k e => by simp only [or_false] at e)⟩
set_option maxRecDepth 100000 in
set_option maxHeartbeats 4000000 in
theorem doAct_4 (a : List Int) (w : World) (h : CoM w g n c P) (A : CoA n j c) (hj : j < 100) (hl : a.length = 33) (hk : fld a 0 = 4) (r : (Co × List (List Int)) × Int × Int) (hr : r = actC n c a) :
   Calls Tryz.prog 14 #[.pointer (some ⟨g, 0, none⟩), .agg (mc a)] w (DoP w g n P r) := by
 have HM := Lib.hid h
 have HA := Lib.hid A
 have HL := Lib.hid hl
 have HC := Lib.hid (show codK r.2.2 from by rw [hr]; exact act_cod _ _ _)
 have X1 := Lib.hid (Blk.new w 47 (mc a))
 have B1 := Lib.hid (Joins.below_alloc1 w (.cells (mc a) 47))
 have HMI := Lib.hid (show (Tryz.prog.info? 45).map (·.size) = some (ints (a.drop 5)).length from by have := mc_info (act_drop hl); simpa [mc] using this)
 have e0 : (fld a 0 == 0) = false := by simp; omega
 have e1 : (fld a 0 == 1) = false := by simp; omega
 have e2 : (fld a 0 == 2) = false := by simp; omega
 have e3 : (fld a 0 == 3) = false := by simp; omega
 have e4 : (fld a 0 == 4) = true := by simp; omega
 clear h A hl
 go_enter Tryz.func14, Tryz.ntmps14
 go_upto_region 1 with fail
 obtain ⟨q, hq⟩ : ∃ q, q = w.heap.size := ⟨_, rfl⟩
 rw [← hq] at X1 ⊢
 clear hq
 generalize w.alloc (.cells (mc a) 47) = V at X1 B1 ⊢
 have a0 := act_cell HL.out X1.out (i := 0) (by omega)
 have a1 := act_cell HL.out X1.out (i := 1) (by omega)
 have a2 := act_cell HL.out X1.out (i := 2) (by omega)
 have a3 := act_cell HL.out X1.out (i := 3) (by omega)
 have a4 := act_cell HL.out X1.out (i := 4) (by omega)
 have AM := Lib.hid (act_msg HL.out X1.out)
 have HR := Lib.hid (show r = (((begC n c (fld a 1)).1, []), (begC n c (fld a 1)).2.1, (begC n c (fld a 1)).2.2) from by rw [hr]; unfold actC; rw [if_neg (by omega)]; rw [if_neg (by omega)]; rw [if_neg (by omega)]; rw [if_neg (by omega)]; rw [if_pos hk])
 clear hr hk
 obtain ⟨z, hz⟩ : ∃ z, z = begC n c (fld a 1) := ⟨_, rfl⟩
 have CO := Lib.hid (begin_any (fld a 1) V (HM.out.step B1.out) HA.out.k HA.out.f (by omega))
 rw [← hz] at CO HR
 have HZC := Lib.hid (show codK z.2.2 from by have := HC.out; rw [HR.out] at this; exact this)
 clear hz
 go_wp2_with (first
   | (go_at_call 23; refine CO.out.mono ?_; rintro e V2 ⟨rfl, P2, hs⟩; have S2 := Lib.hid hs; clear hs)
   | (go_at_call 12; refine (code_errV _ HZC.out _).mono ?_; rintro e V3 ⟨rfl, rfl⟩))
 go_ret3
 rw [HR.out]
 exact ⟨_, rfl, World.ownsRow_nil _ _ _ _, _, ((CoS.below (N := fun _ => False) HM.out B1.out).trans S2.out).fresh (fun k e => by simp only [or_false] at e)⟩
set_option maxRecDepth 100000 in
set_option maxHeartbeats 4000000 in
theorem doAct_5 (a : List Int) (w : World) (h : CoM w g n c P) (A : CoA n j c) (hj : j < 100) (hl : a.length = 33) (hk : fld a 0 = 5) (r : (Co × List (List Int)) × Int × Int) (hr : r = actC n c a) :
   Calls Tryz.prog 14 #[.pointer (some ⟨g, 0, none⟩), .agg (mc a)] w (DoP w g n P r) := by
 have HM := Lib.hid h
 have HA := Lib.hid A
 have HL := Lib.hid hl
 have HC := Lib.hid (show codK r.2.2 from by rw [hr]; exact act_cod _ _ _)
 have X1 := Lib.hid (Blk.new w 47 (mc a))
 have B1 := Lib.hid (Joins.below_alloc1 w (.cells (mc a) 47))
 have HMI := Lib.hid (show (Tryz.prog.info? 45).map (·.size) = some (ints (a.drop 5)).length from by have := mc_info (act_drop hl); simpa [mc] using this)
 have e0 : (fld a 0 == 0) = false := by simp; omega
 have e1 : (fld a 0 == 1) = false := by simp; omega
 have e2 : (fld a 0 == 2) = false := by simp; omega
 have e3 : (fld a 0 == 3) = false := by simp; omega
 have e4 : (fld a 0 == 4) = false := by simp; omega
 have e5 : (fld a 0 == 5) = true := by simp; omega
 clear h A hl
 go_enter Tryz.func14, Tryz.ntmps14
 go_upto_region 1 with fail
 obtain ⟨q, hq⟩ : ∃ q, q = w.heap.size := ⟨_, rfl⟩
 rw [← hq] at X1 ⊢
 clear hq
 generalize w.alloc (.cells (mc a) 47) = V at X1 B1 ⊢
 have a0 := act_cell HL.out X1.out (i := 0) (by omega)
 have a1 := act_cell HL.out X1.out (i := 1) (by omega)
 have a2 := act_cell HL.out X1.out (i := 2) (by omega)
 have a3 := act_cell HL.out X1.out (i := 3) (by omega)
 have a4 := act_cell HL.out X1.out (i := 4) (by omega)
 have AM := Lib.hid (act_msg HL.out X1.out)
 have HR := Lib.hid (show r = ((handleL c n (a.drop 5)).1, 0, (handleL c n (a.drop 5)).2) from by rw [hr]; unfold actC; rw [if_neg (by omega)]; rw [if_neg (by omega)]; rw [if_neg (by omega)]; rw [if_neg (by omega)]; rw [if_neg (by omega)]; rw [if_pos hk])
 clear hr hk
 obtain ⟨z, hz⟩ : ∃ z, z = handleL c n (a.drop 5) := ⟨_, rfl⟩
 have CO := Lib.hid (handle_any (a.drop 5) V (HM.out.step B1.out) (act_drop HL.out) (HA.out.k.good (by omega)) _ _ rfl)
 have CO' := Lib.hid (show Calls Tryz.prog 31 #[.pointer (some ⟨g, 0, none⟩), .agg (ints (a.drop 5)).toArray] V (MetP V g n P z) from by rw [hz]; exact CO.out)
 rw [← hz] at HR
 have HZC := Lib.hid (show codK z.2 from by have := HC.out; rw [HR.out] at this; exact this)
 clear hz
 obtain ⟨zc, hzc⟩ : ∃ zc, zc = z.2 := ⟨_, rfl⟩
 go_wp2_with (first
   | (refine wpList_load_cells rfl 45 (.tmp 62) rfl ⟨q, 5, none⟩ rfl (ints (a.drop 5)) _ AM.out Tryz.underlying45 rfl HMI.out ?_)
   | (go_at_call 31; refine CO'.out.mono ?_; rintro e V2 ⟨u, rfl, hu, P2, hs⟩; have U2 := Lib.hid hu; have S2 := Lib.hid hs; clear hu hs)
   | (go_at_call 12; refine (code_errV _ HZC.out _).mono ?_; rintro e V3 ⟨rfl, rfl⟩))
 go_ret3
 rw [HR.out]
 exact ⟨_, rfl, own_less U2.out B1.out.size, _, ((CoS.below (N := fun _ => False) HM.out B1.out).trans S2.out).fresh (fun k e => by simp only [or_false] at e)⟩
set_option maxRecDepth 100000 in
set_option maxHeartbeats 4000000 in
theorem doAct_6 (a : List Int) (w : World) (h : CoM w g n c P) (A : CoA n j c) (hj : j < 100) (hl : a.length = 33) (hk : fld a 0 = 6) (r : (Co × List (List Int)) × Int × Int) (hr : r = actC n c a) :
   Calls Tryz.prog 14 #[.pointer (some ⟨g, 0, none⟩), .agg (mc a)] w (DoP w g n P r) := by
 have HM := Lib.hid h
 have HA := Lib.hid A
 have HL := Lib.hid hl
 have HC := Lib.hid (show codK r.2.2 from by rw [hr]; exact act_cod _ _ _)
 have X1 := Lib.hid (Blk.new w 47 (mc a))
 have B1 := Lib.hid (Joins.below_alloc1 w (.cells (mc a) 47))
 have HMI := Lib.hid (show (Tryz.prog.info? 45).map (·.size) = some (ints (a.drop 5)).length from by have := mc_info (act_drop hl); simpa [mc] using this)
 have e0 : (fld a 0 == 0) = false := by simp; omega
 have e1 : (fld a 0 == 1) = false := by simp; omega
 have e2 : (fld a 0 == 2) = false := by simp; omega
 have e3 : (fld a 0 == 3) = false := by simp; omega
 have e4 : (fld a 0 == 4) = false := by simp; omega
 have e5 : (fld a 0 == 5) = false := by simp; omega
 have e6 : (fld a 0 == 6) = true := by simp; omega
 clear h A hl
 go_enter Tryz.func14, Tryz.ntmps14
 go_upto_region 1 with fail
 obtain ⟨q, hq⟩ : ∃ q, q = w.heap.size := ⟨_, rfl⟩
 rw [← hq] at X1 ⊢
 clear hq
 generalize w.alloc (.cells (mc a) 47) = V at X1 B1 ⊢
 have a0 := act_cell HL.out X1.out (i := 0) (by omega)
 have a1 := act_cell HL.out X1.out (i := 1) (by omega)
 have a2 := act_cell HL.out X1.out (i := 2) (by omega)
 have a3 := act_cell HL.out X1.out (i := 3) (by omega)
 have a4 := act_cell HL.out X1.out (i := 4) (by omega)
 have AM := Lib.hid (act_msg HL.out X1.out)
 have HR := Lib.hid (show r = (tickL n c, 0, 0) from by rw [hr]; unfold actC; rw [if_neg (by omega)]; rw [if_neg (by omega)]; rw [if_neg (by omega)]; rw [if_neg (by omega)]; rw [if_neg (by omega)]; rw [if_neg (by omega)]; rw [if_pos hk])
 clear hr hk
 obtain ⟨z, hz⟩ : ∃ z, z = tickL n c := ⟨_, rfl⟩
 have CO := Lib.hid (coTick_any _ V (HM.out.step B1.out) HA.out.k (by omega) HA.out.f ⟨HA.out.tm.1, by have := HA.out.tm; omega⟩ HA.out.re)
 rw [← hz] at CO HR
 clear hz
 go_wp2_with (first
   | (go_at_call 32; refine CO.out.mono ?_; rintro e V2 ⟨u, rfl, hu, P2, hs⟩; have U2 := Lib.hid hu; have S2 := Lib.hid hs; clear hu hs)
   | (go_at_call 12; refine (code_errV 0 (.inl rfl) _).mono ?_; rintro e V3 ⟨rfl, rfl⟩))
 go_ret3
 rw [HR.out]
 exact ⟨_, rfl, own_less U2.out B1.out.size, _, ((CoS.below (N := fun _ => False) HM.out B1.out).trans S2.out).fresh (fun k e => by simp only [or_false] at e)⟩
set_option maxRecDepth 100000 in
set_option maxHeartbeats 4000000 in
theorem doAct_7 (a : List Int) (w : World) (h : CoM w g n c P) (A : CoA n j c) (hj : j < 100) (hl : a.length = 33) (hk : ¬ (fld a 0 = 0 ∨ fld a 0 = 1 ∨ fld a 0 = 2 ∨ fld a 0 = 3 ∨ fld a 0 = 4 ∨ fld a 0 = 5 ∨ fld a 0 = 6)) (r : (Co × List (List Int)) × Int × Int) (hr : r = actC n c a) :
   Calls Tryz.prog 14 #[.pointer (some ⟨g, 0, none⟩), .agg (mc a)] w (DoP w g n P r) := by
 have HM := Lib.hid h
 have HA := Lib.hid A
 have HL := Lib.hid hl
 have HC := Lib.hid (show codK r.2.2 from by rw [hr]; exact act_cod _ _ _)
 have X1 := Lib.hid (Blk.new w 47 (mc a))
 have B1 := Lib.hid (Joins.below_alloc1 w (.cells (mc a) 47))
 have HMI := Lib.hid (show (Tryz.prog.info? 45).map (·.size) = some (ints (a.drop 5)).length from by have := mc_info (act_drop hl); simpa [mc] using this)
 have e0 : (fld a 0 == 0) = false := by simp; omega
 have e1 : (fld a 0 == 1) = false := by simp; omega
 have e2 : (fld a 0 == 2) = false := by simp; omega
 have e3 : (fld a 0 == 3) = false := by simp; omega
 have e4 : (fld a 0 == 4) = false := by simp; omega
 have e5 : (fld a 0 == 5) = false := by simp; omega
 have e6 : (fld a 0 == 6) = false := by simp; omega
 clear h A hl
 go_enter Tryz.func14, Tryz.ntmps14
 go_upto_region 1 with fail
 obtain ⟨q, hq⟩ : ∃ q, q = w.heap.size := ⟨_, rfl⟩
 rw [← hq] at X1 ⊢
 clear hq
 generalize w.alloc (.cells (mc a) 47) = V at X1 B1 ⊢
 have a0 := act_cell HL.out X1.out (i := 0) (by omega)
 have a1 := act_cell HL.out X1.out (i := 1) (by omega)
 have a2 := act_cell HL.out X1.out (i := 2) (by omega)
 have a3 := act_cell HL.out X1.out (i := 3) (by omega)
 have a4 := act_cell HL.out X1.out (i := 4) (by omega)
 have AM := Lib.hid (act_msg HL.out X1.out)
 have HR := Lib.hid (show r = ((c, []), 0, 0) from by rw [hr]; unfold actC; rw [if_neg (by omega)]; rw [if_neg (by omega)]; rw [if_neg (by omega)]; rw [if_neg (by omega)]; rw [if_neg (by omega)]; rw [if_neg (by omega)]; rw [if_neg (by omega)])
 clear hr hk
 go_wp2_with (go_at_call 12; refine (code_errV 0 (.inl rfl) _).mono ?_; rintro e V3 ⟨rfl, rfl⟩)
 go_ret3
 rw [HR.out]
 exact ⟨_, rfl, World.ownsRow_nil _ _ _ _, _, CoS.below (N := fun _ => False) HM.out B1.out⟩
theorem doAct_any (a : List Int) (w : World) (h : CoM w g n c P) (A : CoA n j c) (hj : j < 100) (hl : a.length = 33) (r : (Co × List (List Int)) × Int × Int) (hr : r = actC n c a) :
   Calls Tryz.prog 14 #[.pointer (some ⟨g, 0, none⟩), .agg (mc a)] w (DoP w g n P r) := by
 by_cases h0 : fld a 0 = 0
 · exact doAct_0 a w h A hj hl h0 r hr
 by_cases h1 : fld a 0 = 1
 · exact doAct_1 a w h A hj hl h1 r hr
 by_cases h2 : fld a 0 = 2
 · exact doAct_2 a w h A hj hl h2 r hr
 by_cases h3 : fld a 0 = 3
 · exact doAct_3 a w h A hj hl h3 r hr
 by_cases h4 : fld a 0 = 4
 · exact doAct_4 a w h A hj hl h4 r hr
 by_cases h5 : fld a 0 = 5
 · exact doAct_5 a w h A hj hl h5 r hr
 by_cases h6 : fld a 0 = 6
 · exact doAct_6 a w h A hj hl h6 r hr
 exact doAct_7 a w h A hj hl (by omega) r hr
end
end Go.Proofs.YtadnlannbafjpaaGreat
