/- A coordinator: what a message of a transaction does. -/
import Derived.Test.YtadnlannbafjpaaGreatQCoV
namespace Go.Proofs.YtadnlannbafjpaaGreat
open Go.RowKit
set_option linter.unusedVariables false
set_option linter.unusedSimpArgs false
theorem vot_ok {x y : Tr} {m : List Int} {ms : List (List Int)} (h : votL x m = (y, ms, 0)) : y.tx = x.tx ∧ (y.st = 2 ∨ y.st = 3 ∨ y.st = 4) ∧ x.st = 2 := by
 unfold votL at h
 split at h; · injection h with _ h; injection h with _ h; cases h
 split at h; · injection h with _ h; injection h with _ h; cases h
 split at h; · injection h with _ h; injection h with _ h; cases h
 rename_i h1 h2 h3
 have h2 : x.st = 2 := by omega
 split at h
 · have := abt_ok h
   exact ⟨this.1, .inr (.inr this.2), h2⟩
 · injection h with h _
   subst h
   have hs : (votX x (fld m 1)).st = 2 := h2
   refine ⟨?_, ?_, h2⟩
   · unfold goOnL; split; rfl; split <;> rfl
   · unfold goOnL
     split
     · rename_i h5; omega
     · split
       · exact .inl hs
       · exact .inr (.inl rfl)
section
variable {g n : Nat} {c : Co} {P : Pt}
set_option maxRecDepth 100000 in
set_option maxHeartbeats 16000000 in
theorem comes_exp_err (x : Tr) (s : Sl) (m : List Int) (i : Nat) (w : World) (h : CoM w g n c P) (hi : i < P.L.length) (hl : P.L.length ≤ 1000) (hev : c.ev.length ≤ 90000) (hT : Tm w 0 x s) (hS : Short x) (hm : m.length = 28) (hx : x.tx = (i : Int) + 1) (hk : fld m 0 = 9) (y : Tr) (ms : List (List Int)) (cd : Int) (hcd : cd ≠ 0) (hy : abtL x 5 = (y, ms, cd)) :
   Calls Tryz.prog 61 #[.pointer (some ⟨g, 0, none⟩), .agg (trc x s), .agg (mc m)] w fun e w' => e = .returned (.slice none 0 0) ∧ Below w.heap.size w w' := by
 have X1 := Lib.hid ((Blk.new w 62 (trc x s)).alloc (.cells (mc m) 45))
 have M1 := Lib.hid (Blk.new_at (w := w.alloc (.cells (trc x s) 62)) (n := w.heap.size + 1) (by simp) 45 (mc m))
 have B1 := Lib.hid ((Joins.below_alloc1 w (.cells (trc x s) 62)).alloc (by simp) (.cells (mc m) 45))
 have HM := Lib.hid h
 have HT := Lib.hid hT
 have HS := Lib.hid hS
 have HTU := Lib.hid (fun k (hk : P.tur g k) => h.lt (k := k) (.inl hk))
 have HI := Lib.hid hi
 have HL := Lib.hid hl
 have HEV := Lib.hid hev
 have H28 := Lib.hid hm
 have HIM := Lib.hid (mc_info hm)
 have HX := Lib.hid hx
 have HK := Lib.hid hk
 have HY := Lib.hid hy
 have HCD := Lib.hid hcd
 clear hk hy hcd
 clear h hT hS hi hl hev hm hx
 go_enter Tryz.func61, Tryz.ntmps61
 go_upto_region 1 with fail
 obtain ⟨bt, hg⟩ : ∃ bt, bt = w.heap.size := ⟨_, rfl⟩
 have HG := Lib.hid hg
 rw [← hg] at X1 M1 ⊢
 clear hg
 generalize (w.alloc (.cells (trc x s) 62)).alloc (.cells (mc m) 45) = V at X1 M1 B1 ⊢
 have c0 : V.cell? ⟨bt, 0, none⟩ = some (.int .i64 x.tx) := X1.out.cell 0
 have c6 : V.cell? ⟨bt, 6, none⟩ = some (.int .i64 x.a0) := X1.out.cell 6
 have c7 : V.cell? ⟨bt, 7, none⟩ = some (.int .i64 x.a1) := X1.out.cell 7
 have m8 := mc_cell H28.out M1.out (i := 8) (by omega)
 go_upto_region 2 with fail
 have E2 := Lib.hid (show Blk (V.alloc (.cells #[.int .i64 4, .int .i64 0, .int .i64 x.tx, .int .i64 x.a0, .int .i64 x.a1, .int .i64 0, .int .i64 (fld m 8)] 65)) V.heap.size 65 #[.int .i64 4, .int .i64 0, .int .i64 x.tx, .int .i64 x.a0, .int .i64 x.a1, .int .i64 0, .int .i64 (fld m 8)] from Blk.new _ _ _)
 have X2 := Lib.hid (X1.out.alloc (.cells #[.int .i64 4, .int .i64 0, .int .i64 x.tx, .int .i64 x.a0, .int .i64 x.a1, .int .i64 0, .int .i64 (fld m 8)] 65))
 have M2 := Lib.hid (M1.out.alloc (.cells #[.int .i64 4, .int .i64 0, .int .i64 x.tx, .int .i64 x.a0, .int .i64 x.a1, .int .i64 0, .int .i64 (fld m 8)] 65))
 have B2 := Lib.hid (stepA B1.out (.cells #[.int .i64 4, .int .i64 0, .int .i64 x.tx, .int .i64 x.a0, .int .i64 x.a1, .int .i64 0, .int .i64 (fld m 8)] 65))
 have hbe := X1.out.lt
 have hme := M1.out.lt
 clear X1 M1 B1 c0 c6 c7 m8
 generalize V.heap.size = be at E2 hbe hme ⊢
 generalize V.alloc (.cells #[.int .i64 4, .int .i64 0, .int .i64 x.tx, .int .i64 x.a0, .int .i64 x.a1, .int .i64 0, .int .i64 (fld m 8)] 65) = V2 at E2 X2 M2 B2 ⊢
 have m0 : V2.cell? ⟨bt + 1, 0, none⟩ = some (.int .i64 9) := by rw [← HK.out]; exact mc_cell H28.out M2.out (i := 0) (by omega)
 have BA := B2
 have HBA := Lib.hid BA.out.size
 go_wp2_with (first
   | (refine wpList_load_row rfl 62 (.tmp 4) rfl bt rfl 62 (trc x s) (0, 0) _ X2.out Tryz.underlying62 rfl (tr_info _ _) ?_)
   | (go_at_call 56; refine (abortC_err x s 5 _ (HM.out.step BA.out) (HT.out.step BA.out) HS.out y ms cd HCD.out HY.out).mono ?_; rintro e V3 ⟨rfl, hb⟩; have B3 := Lib.hid (stepB BA.out hb); clear hb))
 go_ret
 exact ⟨rfl, B3.out⟩
set_option maxRecDepth 100000 in
set_option maxHeartbeats 16000000 in
theorem comes_exp_ok (x : Tr) (s : Sl) (m : List Int) (i : Nat) (w : World) (h : CoM w g n c P) (hi : i < P.L.length) (hl : P.L.length ≤ 1000) (hev : c.ev.length ≤ 90000) (hT : Tm w 0 x s) (hS : Short x) (hm : m.length = 28) (hx : x.tx = (i : Int) + 1) (hk : fld m 0 = 9) (y : Tr) (ms : List (List Int)) (hy : abtL x 5 = (y, ms, 0)) (c' : Co) (code : Int) (hbl : becL c y i = (c', code)) :
   Calls Tryz.prog 61 #[.pointer (some ⟨g, 0, none⟩), .agg (trc x s), .agg (mc m)] w fun e w' => ∃ u, e = .returned u ∧ MsgR w' w.heap.size u ms ∧ ∃ P', CoS w w' g n P (fun _ => False) c' P' := by
 have X1 := Lib.hid ((Blk.new w 62 (trc x s)).alloc (.cells (mc m) 45))
 have M1 := Lib.hid (Blk.new_at (w := w.alloc (.cells (trc x s) 62)) (n := w.heap.size + 1) (by simp) 45 (mc m))
 have B1 := Lib.hid ((Joins.below_alloc1 w (.cells (trc x s) 62)).alloc (by simp) (.cells (mc m) 45))
 have HM := Lib.hid h
 have HT := Lib.hid hT
 have HS := Lib.hid hS
 have HTU := Lib.hid (fun k (hk : P.tur g k) => h.lt (k := k) (.inl hk))
 have HI := Lib.hid hi
 have HL := Lib.hid hl
 have HEV := Lib.hid hev
 have H28 := Lib.hid hm
 have HIM := Lib.hid (mc_info hm)
 have HX := Lib.hid hx
 have HK := Lib.hid hk
 have HY := Lib.hid hy
 have HBL := Lib.hid hbl
 clear hk hy hbl
 clear h hT hS hi hl hev hm hx
 go_enter Tryz.func61, Tryz.ntmps61
 go_upto_region 1 with fail
 obtain ⟨bt, hg⟩ : ∃ bt, bt = w.heap.size := ⟨_, rfl⟩
 have HG := Lib.hid hg
 rw [← hg] at X1 M1 ⊢
 clear hg
 generalize (w.alloc (.cells (trc x s) 62)).alloc (.cells (mc m) 45) = V at X1 M1 B1 ⊢
 have c0 : V.cell? ⟨bt, 0, none⟩ = some (.int .i64 x.tx) := X1.out.cell 0
 have c6 : V.cell? ⟨bt, 6, none⟩ = some (.int .i64 x.a0) := X1.out.cell 6
 have c7 : V.cell? ⟨bt, 7, none⟩ = some (.int .i64 x.a1) := X1.out.cell 7
 have m8 := mc_cell H28.out M1.out (i := 8) (by omega)
 go_upto_region 2 with fail
 have E2 := Lib.hid (show Blk (V.alloc (.cells #[.int .i64 4, .int .i64 0, .int .i64 x.tx, .int .i64 x.a0, .int .i64 x.a1, .int .i64 0, .int .i64 (fld m 8)] 65)) V.heap.size 65 #[.int .i64 4, .int .i64 0, .int .i64 x.tx, .int .i64 x.a0, .int .i64 x.a1, .int .i64 0, .int .i64 (fld m 8)] from Blk.new _ _ _)
 have X2 := Lib.hid (X1.out.alloc (.cells #[.int .i64 4, .int .i64 0, .int .i64 x.tx, .int .i64 x.a0, .int .i64 x.a1, .int .i64 0, .int .i64 (fld m 8)] 65))
 have M2 := Lib.hid (M1.out.alloc (.cells #[.int .i64 4, .int .i64 0, .int .i64 x.tx, .int .i64 x.a0, .int .i64 x.a1, .int .i64 0, .int .i64 (fld m 8)] 65))
 have B2 := Lib.hid (stepA B1.out (.cells #[.int .i64 4, .int .i64 0, .int .i64 x.tx, .int .i64 x.a0, .int .i64 x.a1, .int .i64 0, .int .i64 (fld m 8)] 65))
 have hbe := X1.out.lt
 have hme := M1.out.lt
 clear X1 M1 B1 c0 c6 c7 m8
 generalize V.heap.size = be at E2 hbe hme ⊢
 generalize V.alloc (.cells #[.int .i64 4, .int .i64 0, .int .i64 x.tx, .int .i64 x.a0, .int .i64 x.a1, .int .i64 0, .int .i64 (fld m 8)] 65) = V2 at E2 X2 M2 B2 ⊢
 have m0 : V2.cell? ⟨bt + 1, 0, none⟩ = some (.int .i64 9) := by rw [← HK.out]; exact mc_cell H28.out M2.out (i := 0) (by omega)
 have BA := B2
 have HBA := Lib.hid BA.out.size
 go_wp2_with (first
   | (refine wpList_load_row rfl 62 (.tmp 4) rfl bt rfl 62 (trc x s) (0, 0) _ X2.out Tryz.underlying62 rfl (tr_info _ _) ?_)
   | (go_at_call 56; refine (abortC_ok x s 5 _ (HM.out.step BA.out) (HT.out.step BA.out) HS.out y ms i HI.out HL.out HX.out HEV.out HY.out c' code HBL.out).mono ?_; rintro e V3 ⟨u, rfl, hu, P3, hs⟩; have U3 := Lib.hid hu; have S3 := Lib.hid ((CoS.below (N := fun _ => False) HM.out BA.out).trans hs); clear hu hs))
 go_ret
 exact ⟨_, rfl, own_less U3.out HBA.out, _, S3.out.fresh (fun k e => by simp only [or_false] at e)⟩
set_option maxRecDepth 100000 in
set_option maxHeartbeats 16000000 in
theorem comes_other (x : Tr) (s : Sl) (m : List Int) (i : Nat) (w : World) (h : CoM w g n c P) (hi : i < P.L.length) (hl : P.L.length ≤ 1000) (hev : c.ev.length ≤ 90000) (hT : Tm w 0 x s) (hS : Short x) (hm : m.length = 28) (hx : x.tx = (i : Int) + 1) (hk : fld m 0 = 1 ∨ fld m 0 = 4 ∨ fld m 0 = 6 ∨ fld m 0 = 8) :
   Calls Tryz.prog 61 #[.pointer (some ⟨g, 0, none⟩), .agg (trc x s), .agg (mc m)] w fun e w' => e = .returned (.slice none 0 0) ∧ Below w.heap.size w w' := by
 have X1 := Lib.hid ((Blk.new w 62 (trc x s)).alloc (.cells (mc m) 45))
 have M1 := Lib.hid (Blk.new_at (w := w.alloc (.cells (trc x s) 62)) (n := w.heap.size + 1) (by simp) 45 (mc m))
 have B1 := Lib.hid ((Joins.below_alloc1 w (.cells (trc x s) 62)).alloc (by simp) (.cells (mc m) 45))
 have HM := Lib.hid h
 have HT := Lib.hid hT
 have HS := Lib.hid hS
 have HTU := Lib.hid (fun k (hk : P.tur g k) => h.lt (k := k) (.inl hk))
 have HI := Lib.hid hi
 have HL := Lib.hid hl
 have HEV := Lib.hid hev
 have H28 := Lib.hid hm
 have HIM := Lib.hid (mc_info hm)
 have HX := Lib.hid hx
 have HK := Lib.hid (show fld m 0 = fld m 0 from rfl)
 have d2 : (fld m 0 == 2) = false := by simp; omega
 have d3 : (fld m 0 == 3) = false := by simp; omega
 have d5 : (fld m 0 == 5) = false := by simp; omega
 have d7 : (fld m 0 == 7) = false := by simp; omega
 have d10 : (fld m 0 == 10) = false := by simp; omega
 have d9 : (fld m 0 == 9) = false := by simp; omega
 clear h hT hS hi hl hev hm hx
 go_enter Tryz.func61, Tryz.ntmps61
 go_upto_region 1 with fail
 obtain ⟨bt, hg⟩ : ∃ bt, bt = w.heap.size := ⟨_, rfl⟩
 have HG := Lib.hid hg
 rw [← hg] at X1 M1 ⊢
 clear hg
 generalize (w.alloc (.cells (trc x s) 62)).alloc (.cells (mc m) 45) = V at X1 M1 B1 ⊢
 have c0 : V.cell? ⟨bt, 0, none⟩ = some (.int .i64 x.tx) := X1.out.cell 0
 have c6 : V.cell? ⟨bt, 6, none⟩ = some (.int .i64 x.a0) := X1.out.cell 6
 have c7 : V.cell? ⟨bt, 7, none⟩ = some (.int .i64 x.a1) := X1.out.cell 7
 have m8 := mc_cell H28.out M1.out (i := 8) (by omega)
 go_upto_region 2 with fail
 have E2 := Lib.hid (show Blk (V.alloc (.cells #[.int .i64 4, .int .i64 0, .int .i64 x.tx, .int .i64 x.a0, .int .i64 x.a1, .int .i64 0, .int .i64 (fld m 8)] 65)) V.heap.size 65 #[.int .i64 4, .int .i64 0, .int .i64 x.tx, .int .i64 x.a0, .int .i64 x.a1, .int .i64 0, .int .i64 (fld m 8)] from Blk.new _ _ _)
 have X2 := Lib.hid (X1.out.alloc (.cells #[.int .i64 4, .int .i64 0, .int .i64 x.tx, .int .i64 x.a0, .int .i64 x.a1, .int .i64 0, .int .i64 (fld m 8)] 65))
 have M2 := Lib.hid (M1.out.alloc (.cells #[.int .i64 4, .int .i64 0, .int .i64 x.tx, .int .i64 x.a0, .int .i64 x.a1, .int .i64 0, .int .i64 (fld m 8)] 65))
 have B2 := Lib.hid (stepA B1.out (.cells #[.int .i64 4, .int .i64 0, .int .i64 x.tx, .int .i64 x.a0, .int .i64 x.a1, .int .i64 0, .int .i64 (fld m 8)] 65))
 have hbe := X1.out.lt
 have hme := M1.out.lt
 clear X1 M1 B1 c0 c6 c7 m8
 generalize V.heap.size = be at E2 hbe hme ⊢
 generalize V.alloc (.cells #[.int .i64 4, .int .i64 0, .int .i64 x.tx, .int .i64 x.a0, .int .i64 x.a1, .int .i64 0, .int .i64 (fld m 8)] 65) = V2 at E2 X2 M2 B2 ⊢
 have m0 : V2.cell? ⟨bt + 1, 0, none⟩ = some (.int .i64 (fld m 0)) := by rw [← HK.out]; exact mc_cell H28.out M2.out (i := 0) (by omega)
 have BA := B2
 have HBA := Lib.hid BA.out.size
 go_wp2_with fail
 go_ret
 exact ⟨rfl, BA.out⟩
set_option maxRecDepth 100000 in
set_option maxHeartbeats 16000000 in
theorem comes_vote_err (x : Tr) (s : Sl) (m : List Int) (i : Nat) (w : World) (h : CoM w g n c P) (hi : i < P.L.length) (hl : P.L.length ≤ 1000) (hev : c.ev.length ≤ 90000) (hT : Tm w 0 x s) (hS : Short x) (hm : m.length = 28) (hx : x.tx = (i : Int) + 1) (hk : fld m 0 = 5) (ht : Shs x.tch) (hv : Shs x.vts) (y : Tr) (ms : List (List Int)) (cd : Int) (hcd : cd ≠ 0) (hy : votL x m = (y, ms, cd)) :
   Calls Tryz.prog 61 #[.pointer (some ⟨g, 0, none⟩), .agg (trc x s), .agg (mc m)] w fun e w' => e = .returned (.slice none 0 0) ∧ Below w.heap.size w w' := by
 have X1 := Lib.hid ((Blk.new w 62 (trc x s)).alloc (.cells (mc m) 45))
 have M1 := Lib.hid (Blk.new_at (w := w.alloc (.cells (trc x s) 62)) (n := w.heap.size + 1) (by simp) 45 (mc m))
 have B1 := Lib.hid ((Joins.below_alloc1 w (.cells (trc x s) 62)).alloc (by simp) (.cells (mc m) 45))
 have HM := Lib.hid h
 have HT := Lib.hid hT
 have HS := Lib.hid hS
 have HTU := Lib.hid (fun k (hk : P.tur g k) => h.lt (k := k) (.inl hk))
 have HI := Lib.hid hi
 have HL := Lib.hid hl
 have HEV := Lib.hid hev
 have H28 := Lib.hid hm
 have HIM := Lib.hid (mc_info hm)
 have HX := Lib.hid hx
 have HK := Lib.hid hk
 have HY := Lib.hid hy
 have HTC := Lib.hid ht
 have HVC := Lib.hid hv
 have HCD := Lib.hid hcd
 have EV := Lib.hid (errV_pos hcd)
 clear hk hy ht hv hcd
 clear h hT hS hi hl hev hm hx
 go_enter Tryz.func61, Tryz.ntmps61
 go_upto_region 1 with fail
 obtain ⟨bt, hg⟩ : ∃ bt, bt = w.heap.size := ⟨_, rfl⟩
 have HG := Lib.hid hg
 rw [← hg] at X1 M1 ⊢
 clear hg
 generalize (w.alloc (.cells (trc x s) 62)).alloc (.cells (mc m) 45) = V at X1 M1 B1 ⊢
 have c0 : V.cell? ⟨bt, 0, none⟩ = some (.int .i64 x.tx) := X1.out.cell 0
 have c6 : V.cell? ⟨bt, 6, none⟩ = some (.int .i64 x.a0) := X1.out.cell 6
 have c7 : V.cell? ⟨bt, 7, none⟩ = some (.int .i64 x.a1) := X1.out.cell 7
 have m8 := mc_cell H28.out M1.out (i := 8) (by omega)
 go_upto_region 2 with fail
 have E2 := Lib.hid (show Blk (V.alloc (.cells #[.int .i64 4, .int .i64 0, .int .i64 x.tx, .int .i64 x.a0, .int .i64 x.a1, .int .i64 0, .int .i64 (fld m 8)] 65)) V.heap.size 65 #[.int .i64 4, .int .i64 0, .int .i64 x.tx, .int .i64 x.a0, .int .i64 x.a1, .int .i64 0, .int .i64 (fld m 8)] from Blk.new _ _ _)
 have X2 := Lib.hid (X1.out.alloc (.cells #[.int .i64 4, .int .i64 0, .int .i64 x.tx, .int .i64 x.a0, .int .i64 x.a1, .int .i64 0, .int .i64 (fld m 8)] 65))
 have M2 := Lib.hid (M1.out.alloc (.cells #[.int .i64 4, .int .i64 0, .int .i64 x.tx, .int .i64 x.a0, .int .i64 x.a1, .int .i64 0, .int .i64 (fld m 8)] 65))
 have B2 := Lib.hid (stepA B1.out (.cells #[.int .i64 4, .int .i64 0, .int .i64 x.tx, .int .i64 x.a0, .int .i64 x.a1, .int .i64 0, .int .i64 (fld m 8)] 65))
 have hbe := X1.out.lt
 have hme := M1.out.lt
 clear X1 M1 B1 c0 c6 c7 m8
 generalize V.heap.size = be at E2 hbe hme ⊢
 generalize V.alloc (.cells #[.int .i64 4, .int .i64 0, .int .i64 x.tx, .int .i64 x.a0, .int .i64 x.a1, .int .i64 0, .int .i64 (fld m 8)] 65) = V2 at E2 X2 M2 B2 ⊢
 have m0 : V2.cell? ⟨bt + 1, 0, none⟩ = some (.int .i64 5) := by rw [← HK.out]; exact mc_cell H28.out M2.out (i := 0) (by omega)
 have BA := B2
 have HBA := Lib.hid BA.out.size
 go_wp2_with (first
   | (refine wpList_load_row rfl 62 (.tmp 4) rfl bt rfl 62 (trc x s) (0, 0) _ X2.out Tryz.underlying62 rfl (tr_info _ _) ?_)
   | (refine wpList_load_row rfl 45 (.tmp 5) rfl (bt + 1) rfl 45 (mc m) (0, 0) _ M2.out Tryz.underlying45 rfl HIM.out ?_)
   | (go_at_call 105; refine (vote_any x s m _ (HT.out.step BA.out) HS.out H28.out HTC.out HVC.out).mono ?_; rw [HY.out]; rintro e V4 ⟨s2, u, rfl, ht2, hu2, hb2⟩; have T4 := Lib.hid ht2; have U4 := Lib.hid hu2; have B4 := Lib.hid hb2; have H4 := Lib.hid ((HM.out.step BA.out).step hb2); clear ht2 hu2 hb2)
   | (go_at_call 50; refine (becomes_err (g := g) y s2 u cd _ HCD.out).mono ?_; rintro e V5 ⟨rfl, hb⟩; have B5 := Lib.hid (stepB (stepB BA.out B4.out) hb); rw [EV.out]; clear hb))
 go_ret
 exact ⟨rfl, B5.out⟩
set_option maxRecDepth 100000 in
set_option maxHeartbeats 16000000 in
theorem comes_vote_ok (x : Tr) (s : Sl) (m : List Int) (i : Nat) (w : World) (h : CoM w g n c P) (hi : i < P.L.length) (hl : P.L.length ≤ 1000) (hev : c.ev.length ≤ 90000) (hT : Tm w 0 x s) (hS : Short x) (hm : m.length = 28) (hx : x.tx = (i : Int) + 1) (hk : fld m 0 = 5) (ht : Shs x.tch) (hv : Shs x.vts) (y : Tr) (ms : List (List Int)) (hy : votL x m = (y, ms, 0)) (c' : Co) (code : Int) (hbl : becL c y i = (c', code)) :
   Calls Tryz.prog 61 #[.pointer (some ⟨g, 0, none⟩), .agg (trc x s), .agg (mc m)] w fun e w' => ∃ u, e = .returned u ∧ MsgR w' w.heap.size u ms ∧ ∃ P', CoS w w' g n P (fun _ => False) c' P' := by
 have X1 := Lib.hid ((Blk.new w 62 (trc x s)).alloc (.cells (mc m) 45))
 have M1 := Lib.hid (Blk.new_at (w := w.alloc (.cells (trc x s) 62)) (n := w.heap.size + 1) (by simp) 45 (mc m))
 have B1 := Lib.hid ((Joins.below_alloc1 w (.cells (trc x s) 62)).alloc (by simp) (.cells (mc m) 45))
 have HM := Lib.hid h
 have HT := Lib.hid hT
 have HS := Lib.hid hS
 have HTU := Lib.hid (fun k (hk : P.tur g k) => h.lt (k := k) (.inl hk))
 have HI := Lib.hid hi
 have HL := Lib.hid hl
 have HEV := Lib.hid hev
 have H28 := Lib.hid hm
 have HIM := Lib.hid (mc_info hm)
 have HX := Lib.hid hx
 have HK := Lib.hid hk
 have HY := Lib.hid hy
 have HTC := Lib.hid ht
 have HVC := Lib.hid hv
 have HBL := Lib.hid hbl
 have HYX := Lib.hid ((vot_ok hy).1.trans hx)
 have HYS := Lib.hid (show 1 ≤ y.st ∧ y.st ≤ 4 from by have := (vot_ok hy).2.1; omega)
 have HY1 := Lib.hid (show y.st ≠ 1 from by have := (vot_ok hy).2.1; omega)
 clear hk hy ht hv hbl
 clear h hT hS hi hl hev hm hx
 go_enter Tryz.func61, Tryz.ntmps61
 go_upto_region 1 with fail
 obtain ⟨bt, hg⟩ : ∃ bt, bt = w.heap.size := ⟨_, rfl⟩
 have HG := Lib.hid hg
 rw [← hg] at X1 M1 ⊢
 clear hg
 generalize (w.alloc (.cells (trc x s) 62)).alloc (.cells (mc m) 45) = V at X1 M1 B1 ⊢
 have c0 : V.cell? ⟨bt, 0, none⟩ = some (.int .i64 x.tx) := X1.out.cell 0
 have c6 : V.cell? ⟨bt, 6, none⟩ = some (.int .i64 x.a0) := X1.out.cell 6
 have c7 : V.cell? ⟨bt, 7, none⟩ = some (.int .i64 x.a1) := X1.out.cell 7
 have m8 := mc_cell H28.out M1.out (i := 8) (by omega)
 go_upto_region 2 with fail
 have E2 := Lib.hid (show Blk (V.alloc (.cells #[.int .i64 4, .int .i64 0, .int .i64 x.tx, .int .i64 x.a0, .int .i64 x.a1, .int .i64 0, .int .i64 (fld m 8)] 65)) V.heap.size 65 #[.int .i64 4, .int .i64 0, .int .i64 x.tx, .int .i64 x.a0, .int .i64 x.a1, .int .i64 0, .int .i64 (fld m 8)] from Blk.new _ _ _)
 have X2 := Lib.hid (X1.out.alloc (.cells #[.int .i64 4, .int .i64 0, .int .i64 x.tx, .int .i64 x.a0, .int .i64 x.a1, .int .i64 0, .int .i64 (fld m 8)] 65))
 have M2 := Lib.hid (M1.out.alloc (.cells #[.int .i64 4, .int .i64 0, .int .i64 x.tx, .int .i64 x.a0, .int .i64 x.a1, .int .i64 0, .int .i64 (fld m 8)] 65))
 have B2 := Lib.hid (stepA B1.out (.cells #[.int .i64 4, .int .i64 0, .int .i64 x.tx, .int .i64 x.a0, .int .i64 x.a1, .int .i64 0, .int .i64 (fld m 8)] 65))
 have hbe := X1.out.lt
 have hme := M1.out.lt
 clear X1 M1 B1 c0 c6 c7 m8
 generalize V.heap.size = be at E2 hbe hme ⊢
 generalize V.alloc (.cells #[.int .i64 4, .int .i64 0, .int .i64 x.tx, .int .i64 x.a0, .int .i64 x.a1, .int .i64 0, .int .i64 (fld m 8)] 65) = V2 at E2 X2 M2 B2 ⊢
 have m0 : V2.cell? ⟨bt + 1, 0, none⟩ = some (.int .i64 5) := by rw [← HK.out]; exact mc_cell H28.out M2.out (i := 0) (by omega)
 have BA := B2
 have HBA := Lib.hid BA.out.size
 go_wp2_with (first
   | (refine wpList_load_row rfl 62 (.tmp 4) rfl bt rfl 62 (trc x s) (0, 0) _ X2.out Tryz.underlying62 rfl (tr_info _ _) ?_)
   | (refine wpList_load_row rfl 45 (.tmp 5) rfl (bt + 1) rfl 45 (mc m) (0, 0) _ M2.out Tryz.underlying45 rfl HIM.out ?_)
   | (go_at_call 105; refine (vote_any x s m _ (HT.out.step BA.out) HS.out H28.out HTC.out HVC.out).mono ?_; rw [HY.out]; rintro e V4 ⟨s2, u, rfl, ht2, hu2, hb2⟩; have T4 := Lib.hid ht2; have U4 := Lib.hid hu2; have B4 := Lib.hid hb2; have H4 := Lib.hid ((HM.out.step BA.out).step hb2); clear ht2 hu2 hb2)
   | (go_at_call 50
      rw [errV_zero]
      refine (becomes_any y s2 u i _ H4.out (T4.out.less (Nat.zero_le _)) (fun k hk hs => by have h1 := (SlB.lt T4.out hs).1; have h2 := HTU.out k (.inr (.inr (.inr (.inl hk)))); have h3 := BA.out.size; omega) HI.out (by have := HL.out; omega) (by have := HEV.out; omega) HYX.out HYS.out (fun e => by have := HY1.out; omega) c' code HBL.out).mono ?_
      rintro e V5 ⟨rfl, P5, hs5⟩
      have S5 := Lib.hid (((CoS.below (N := fun _ => False) HM.out (stepB BA.out B4.out)).trans hs5).fresh (N' := fun _ => False) (fun k e => by
        rcases e with e | e
        · exact e.elim
        · have h1 := (SlB.lt T4.out e).1; have h3 := BA.out.size; exact .inr (.inl (by omega))))
      have U5 := Lib.hid (own_offM U4.out H4.out hs5.turn (by decide) (by decide) (by decide) (by decide) (by decide))
      clear hs5))
 go_ret
 exact ⟨_, rfl, own_less U5.out HBA.out, _, S5.out⟩
end
end Go.Proofs.YtadnlannbafjpaaGreat
