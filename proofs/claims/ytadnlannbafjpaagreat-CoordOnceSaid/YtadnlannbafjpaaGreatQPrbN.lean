/- The program's steps of a probe, and Live. -/
import Derived.Test.YtadnlannbafjpaaGreatQPrbK
namespace Go.Proofs.YtadnlannbafjpaaGreat
open Go.RowKit
set_option linter.unusedVariables false
set_option linter.unusedSimpArgs false
def stepsL (m : List Int) : List (List Int) := (List.range (fld m 11).toNat).map fun i => [stTx m i, stSeq m i]
theorem steps_2 {m : List Int} : ∀ o ∈ stepsL m, o.length = 2 := fun o ho => by
 unfold stepsL at ho
 obtain ⟨i, _, rfl⟩ := List.mem_map.1 ho
 rfl
theorem steps_len {m : List Int} {N : Nat} (h : fld m 11 = (N : Int)) : (stepsL m).length = N := by unfold stepsL; rw [List.length_map, List.length_range, h]; rfl
theorem liveL_all {m : List Int} {os : List (List Int)} (h : isP m = true) : liveL m os = (stepsL m).all fun s => decide (s ∈ os) := by
 unfold liveL stepsL
 rw [h, Bool.true_and, List.all_map]
 rfl
theorem pairs_len (m : List Int) : ∀ N : Nat, (((List.range N).map fun i => [stTx m i, stSeq m i]).flatten).length = N * 2
 | 0 => rfl
 | N + 1 => by rw [List.range_succ, List.map_append, List.flatten_append, List.length_append, pairs_len m N]; show N * 2 + 2 = _; omega
theorem pairs_at (m : List Int) (hl : m.length = 28) : ∀ N : Nat, N ≤ 8 → ∀ j : Nat, j < N * 2 → (((List.range N).map fun i => [stTx m i, stSeq m i]).flatten)[j]? = some (fld m (12 + j))
 | 0, _, j, hj => by omega
 | N + 1, h8, j, hj => by
   rw [List.range_succ, List.map_append, List.flatten_append]
   have hln : (((List.range N).map fun i => [stTx m i, stSeq m i]).flatten).length = N * 2 := pairs_len m N
   by_cases h : j < N * 2
   · rw [List.getElem?_append_left (by rw [hln]; exact h)]
     exact pairs_at m hl N (by omega) j h
   · rw [List.getElem?_append_right (by rw [hln]; omega), hln]
     rcases (by omega : j = N * 2 ∨ j = N * 2 + 1) with rfl | rfl
     · rw [Nat.sub_self]; rfl
     · rw [show N * 2 + 1 - N * 2 = 1 by omega]; rfl
theorem reads_steps {w : World} {g : Nat} {t : TypeId} {m : List Int} (hl : m.length = 28) (h : Blk w g t (mc m)) {N : Nat} (hN : fld m 11 = (N : Int)) (h8 : N ≤ 8) : Reads w w.heap.size 2 (some ⟨g, 12, none⟩) N (ints (stepsL m).flatten) := by
 have hfl : (stepsL m).flatten.length = N * 2 := by
   unfold stepsL
   rw [hN]
   exact pairs_len m N
 refine ⟨by rw [ints_length]; exact hfl, fun _ => ⟨_, rfl, h.lt, fun j u hu => ?_⟩⟩
 have hj : j < N * 2 := by have := (List.getElem?_eq_some_iff.1 hu).1; rw [ints_length, hfl] at this; exact this
 have h1 : (stepsL m).flatten[j]? = some (fld m (12 + j)) := by
   unfold stepsL
   rw [hN]
   exact pairs_at m hl N h8 j hj
 have h2 : u = .int .i64 (fld m (12 + j)) := by
   unfold ints at hu
   rw [List.getElem?_map, h1] at hu
   injection hu with hu
   exact hu.symm
 rw [h2, show (⟨g, 12, none⟩ : Addr).add j = ⟨g, 12 + j, none⟩ from by unfold Addr.add; split <;> simp_all]
 exact mc_cell hl h (by omega)
theorem slice_steps (g N : Nat) (h8 : N ≤ 8) (W : World) : (Instr.sliceAt 43 (.pointer (some ⟨g, 12, none⟩)) none (some (.int .i64 (N : Int))) none).run Tryz.prog W = .ok (.slice (some ⟨g, 12, none⟩) N 8) W := by
 have h1 := run_sliceAt_array_h (P := Tryz.prog) W 43 ⟨g, 12, none⟩ (by kernel_rfl) .i64 (N : Int) (by omega) (by rw [show Tryz.prog.arrayLen 43 = 8 by kernel_rfl]; omega)
 rw [h1, show (sizeOf (Tryz.prog.elem 43)).run Tryz.prog W = .ok 2 W by kernel_rfl, show Tryz.prog.arrayLen 43 = 8 by kernel_rfl]
 simp only [Result.andThen_ok, slicedAt, Nat.zero_mul, Int.toNat_natCast, Nat.sub_zero]
 unfold Addr.add
 simp
set_option maxRecDepth 100000 in
set_option maxHeartbeats 2000000 in
theorem steps_any (m : List Int) (hl : m.length = 28) (N : Nat) (hN : fld m 11 = (N : Int)) (h8 : N ≤ 8) (w : World) :
   Calls Tryz.prog 139 #[.agg (mc m)] w fun e w' => ∃ g, e = .returned (.slice (some ⟨g, 12, none⟩) N 8) ∧ Reads w' w'.heap.size 2 (some ⟨g, 12, none⟩) N (ints (stepsL m).flatten) ∧ Below w.heap.size w w' := by
 have M1 := Lib.hid (show Blk (w.alloc (.cells (mc m) 45)) w.heap.size 45 (mc m) from Blk.new w _ _)
 have B1 := Lib.hid (Joins.below_alloc1 w (.cells (mc m) 45))
 have HL := Lib.hid hl
 have HN := Lib.hid hN
 have H8 := Lib.hid h8
 clear hl hN
 go_enter Tryz.func139, Tryz.ntmps139
 go_upto_region 1 with fail
 generalize w.heap.size = g at M1 ⊢
 generalize w.alloc (.cells (mc m) 45) = V at M1 B1 ⊢
 have m11 : V.cell? ⟨g, 11, none⟩ = some (.int .i64 (N : Int)) := by rw [← HN.out]; exact mc_cell HL.out M1.out (i := 11) (by omega)
 have hsl := fun W => slice_steps g N H8.out W
 go_wp2_with fail
 go_ret
 exact ⟨g, rfl, reads_steps HL.out M1.out HN.out H8.out, B1.out⟩
set_option maxRecDepth 100000 in
set_option maxHeartbeats 2000000 in
theorem contF_any (A : Option Addr) (n c : Nat) (st : List (List Int)) (A' : Option Addr) (n' c' p : Nat) (os : List (List Int)) (w : World) (hr : Reads w w.heap.size 2 A n (ints st.flatten)) (h2 : ∀ o ∈ st, o.length = 2) (hc : st.length = n) (hn : n ≤ 1000)
   (hpl : p < w.heap.size) (hp : w.cell? ⟨p, 0, none⟩ = some (.slice A' n' c')) (hr' : Reads w w.heap.size 2 A' n' (ints os.flatten)) (h2' : ∀ o ∈ os, o.length = 2) (hc' : os.length = n') (hn' : n' ≤ 1000) (b : Bool) (hb : (st.all fun s => decide (s ∈ os)) = b) :
   Calls Tryz.prog 138 #[.slice A n c, .func (.func 140) #[] #[.pointer (some ⟨p, 0, none⟩)]] w fun e w' => e = .returned (.bool (!b)) ∧ Below w.heap.size w w' := by
 have HC := Lib.hid (indexF_any A n c st A' n' c' p os w hr h2 hc hn hpl hp hr' h2' hc' hn' b hb)
 clear hr h2 hc hn hpl hp hr' h2' hc' hn' hb
 go_enter Tryz.func138, Tryz.ntmps138
 go_wp2_with (go_at_call 155; refine HC.out.mono ?_; rintro e V2 ⟨k, rfl, dk, hb⟩; have B2 := Lib.hid hb; clear hb)
 go_ret
 exact ⟨rfl, B2.out⟩
set_option maxRecDepth 100000 in
set_option maxHeartbeats 2000000 in
theorem live_any (m : List Int) (hl : m.length = 28) (A : Option Addr) (n c : Nat) (os : List (List Int)) (w : World) (hr : Reads w w.heap.size 2 A n (ints os.flatten)) (h2 : ∀ o ∈ os, o.length = 2) (hc : os.length = n) (hn : n ≤ 1000) (b : Bool) (hb : liveL m os = b) :
   Calls Tryz.prog 99 #[.agg (mc m), .slice A n c] w fun e w' => e = .returned (.bool b) ∧ Below w.heap.size w w' := by
 have M1 := Lib.hid ((Blk.new w 45 (mc m)).alloc (.cells #[.slice A n c] 173))
 have Z1 := Lib.hid (show Blk ((w.alloc (.cells (mc m) 45)).alloc (.cells #[.slice A n c] 173)) (w.heap.size + 1) 173 #[.slice A n c] from Blk.new_at (by simp) _ _)
 have B1 := Lib.hid ((Joins.below_alloc1 w (.cells (mc m) 45)).alloc (by simp) (.cells #[.slice A n c] 173))
 have HL := Lib.hid hl
 have HI := Lib.hid (mc_info hl)
 have HR := Lib.hid hr
 have H2 := Lib.hid (And.intro h2 hc)
 have HNN := Lib.hid hn
 have TOK := Lib.hid True.intro
 obtain ⟨p, hp⟩ : ∃ p, isP m = p := ⟨_, rfl⟩
 have HP := Lib.hid hp
 have HB := Lib.hid hb
 clear hr h2 hc hb hp
 go_enter Tryz.func99, Tryz.ntmps99
 go_upto_region 1 with fail
 obtain ⟨g, hg⟩ : ∃ g, g = w.heap.size := ⟨_, rfl⟩
 have HG := Lib.hid hg
 rw [← hg] at M1 Z1 ⊢
 clear hg
 generalize (w.alloc (.cells (mc m) 45)).alloc (.cells #[.slice A n c] 173) = V at M1 Z1 B1 ⊢
 cases p with
 | false =>
   obtain rfl : b = false := by have := HB.out; unfold liveL at this; rw [HP.out] at this; exact this.symm
   go_wp2_with (first
     | (have _t := TOK; refine wpList_load_row_g (by rfl) 45 (.tmp 2) rfl g rfl 45 (mc m) (0, 0) _ M1.out Tryz.underlying45 rfl HI.out ?_; clear _t TOK)
     | (go_at_call 137; refine (isProbe_any m HL.out false HP.out _).mono ?_; rintro e V2 ⟨rfl, hb⟩; have B2 := Lib.hid (stepB B1.out hb); clear hb))
   go_ret
   exact ⟨rfl, B2.out⟩
 | true =>
   have HALL := Lib.hid (show ((stepsL m).all fun s => decide (s ∈ os)) = b from by rw [← liveL_all HP.out]; exact HB.out)
   have hN := isP_N HP.out
   obtain ⟨N, hNN⟩ : ∃ N : Nat, fld m 11 = (N : Int) := ⟨(fld m 11).toNat, by omega⟩
   have HN := Lib.hid hNN
   have H8 := Lib.hid (show N ≤ 8 by omega)
   clear hN hNN
   have TOK2 := Lib.hid True.intro
   go_wp2_with (first
     | (have _t := TOK; refine wpList_load_row_g (by rfl) 45 (.tmp 2) rfl g rfl 45 (mc m) (0, 0) _ M1.out Tryz.underlying45 rfl HI.out ?_; clear _t TOK)
     | (go_at_call 137; refine (isProbe_any m HL.out true HP.out _).mono ?_; rintro e V2 ⟨rfl, hb⟩; have B2 := Lib.hid (stepB B1.out hb); have M2 := Lib.hid (M1.out.here hb); have Z2 := Lib.hid (Z1.out.here hb); clear hb)
     | (have _t := TOK2; refine wpList_load_row_g (by rfl) 45 (.tmp 2) rfl g rfl 45 (mc m) (0, 0) _ M2.out Tryz.underlying45 rfl HI.out ?_; clear _t TOK2)
     | (go_at_call 139; refine (steps_any m HL.out N HN.out H8.out _).mono ?_; rintro e V3 ⟨g3, rfl, hr3, hb⟩; have B3 := Lib.hid (stepB B2.out hb); have Z3 := Lib.hid (Z2.out.here hb); have R3 := Lib.hid hr3; clear hb hr3)
     | (go_at_call 138; refine (contF_any _ N 8 (stepsL m) A n c (g + 1) os _ R3.out steps_2 (steps_len HN.out) (by have := H8.out; omega) Z3.out.lt (Z3.out.cell 0) (reads_up (HR.out.below B3.out) B3.out.size) H2.out.1 H2.out.2 HNN.out b HALL.out).mono ?_; rintro e V4 ⟨rfl, hb⟩; have B4 := Lib.hid (stepB B3.out hb); clear hb))
   go_ret
   exact ⟨rfl, B4.out⟩
set_option maxRecDepth 100000 in
set_option maxHeartbeats 2000000 in
theorem vic_any (m : List Int) (hl : m.length = 28) (hp : isP m = true) (N : Nat) (hN : fld m 11 = (N : Int)) (v : Int) (hv : vicL m N = v) (hst : 0 ≤ stTx m 0) (w : World) :
   Calls Tryz.prog 102 #[.agg (mc m)] w fun e w' => e = .returned (.tuple #[.int .i64 v, .nilIface]) ∧ Below w.heap.size w w' := by
 have M1 := Lib.hid (show Blk (w.alloc (.cells (mc m) 45)) w.heap.size 45 (mc m) from Blk.new w _ _)
 have B1 := Lib.hid (Joins.below_alloc1 w (.cells (mc m) 45))
 have HL := Lib.hid hl
 have HI := Lib.hid (mc_info hl)
 have HP := Lib.hid hp
 have HN := Lib.hid hN
 have hN8 := isP_N hp
 have H8 := Lib.hid (show 1 ≤ N ∧ N ≤ 8 by omega)
 have HV := Lib.hid hv
 have TOK := Lib.hid True.intro
 have TOK2 := Lib.hid True.intro
 have HST := Lib.hid hst
 clear hl hN hv hN8 hst
 go_enter Tryz.func102, Tryz.ntmps102
 go_upto_region 1 with fail
 generalize w.heap.size = g at M1 ⊢
 generalize w.alloc (.cells (mc m) 45) = V at M1 B1 ⊢
 go_wp2_with (first
   | (have _t := TOK; refine wpList_load_row_g (by rfl) 45 (.tmp 1) rfl g rfl 45 (mc m) (0, 0) _ M1.out Tryz.underlying45 rfl HI.out ?_; clear _t TOK)
   | (go_at_call 137; refine (isProbe_any m HL.out true HP.out _).mono ?_; rintro e V2 ⟨rfl, hb⟩; have B2 := Lib.hid (stepB B1.out hb); have M2 := Lib.hid (M1.out.here hb); clear hb)
   | (have _t := TOK2; refine wpList_load_row_g (by rfl) 45 (.tmp 1) rfl g rfl 45 (mc m) (0, 0) _ M2.out Tryz.underlying45 rfl HI.out ?_; clear _t TOK2)
   | (go_at_call 139; refine (steps_any m HL.out N HN.out H8.out.2 _).mono ?_; rintro e V3 ⟨g3, rfl, hr3, hb⟩; have B3 := Lib.hid (stepB B2.out hb); have R3 := Lib.hid hr3; clear hb hr3))
 go_loopw [4, 14] (fun s4 s14 wr => ∃ (i : Nat) (r : Int), s14 = .int .i64 i ∧ s4 = .int .i64 r ∧ i ≤ N ∧ r = (if i = 0 then 0 else vicL m i) ∧ Below w.heap.size w wr ∧ Below V3.heap.size V3 wr) (fun _ s14 _ => N - (RowKit.intOf s14).toNat)
 case atStart => exact ⟨0, 0, rfl, rfl, Nat.zero_le _, rfl, B3.out, Below.refl _ _⟩
 case round =>
   obtain ⟨k, r, rfl, rfl, hk, hr, hb1, hb2⟩ := hrel
   have BA := Lib.hid hb1
   have BB := Lib.hid hb2
   have RR := Lib.hid hr
   clear hb1 hb2 hr
   by_cases hkl : k < N
   · have RW := Lib.hid (R3.out.below BB.out)
     obtain ⟨b1, off, e1, hb, hcell, _⟩ := RW.out.flat_at steps_2 (steps_len HN.out) (by omega) hkl
     injection e1 with e1
     injection e1 with e2 e3 _
     subst e2 e3
     have hko : k < (stepsL m).length := by rw [steps_len HN.out]; exact hkl
     have hg : (stepsL m).getD k [] = [stTx m k, stSeq m k] := by
       have h1 : (stepsL m)[k]? = some [stTx m k, stSeq m k] := by
         unfold stepsL
         rw [List.getElem?_map, List.getElem?_range (by rw [HN.out]; exact hkl)]
         rfl
       rw [List.getD_eq_getElem?_getD, h1]
       rfl
     have h0 := hcell 0 (by omega)
     have h1 := hcell 1 (by omega)
     rw [hg] at h0 h1
     rw [Nat.add_zero] at h0
     have K0 := Lib.hid h0
     have K1 := Lib.hid h1
     have w0 : IntKind.i64.wrap (k : Int) = (k : Int) := IntWalk.i64_in _ (by have := H8.out; omega)
     have d3 : decide ((k : Int) < (N : Int)) = true := by simp; omega
     clear hcell hb hg h0 h1
     have k8 : k < 8 := by have := H8.out; omega
     have NX := Lib.hid (show (if r < stTx m k then stTx m k else r) = vicL m (k + 1) from by
       rw [RR.out]
       by_cases h0 : k = 0
       · subst h0
         have := HST.out
         rw [if_pos rfl, show vicL m (0 + 1) = (if vicL m 0 < stTx m 0 then stTx m 0 else vicL m 0) from rfl, show vicL m 0 = stTx m 0 from rfl, if_neg (by omega : ¬ (stTx m 0 < stTx m 0))]
         split <;> omega
       · rw [if_neg h0]; rfl)
     clear RR
     have K0 := Lib.hid (show wr.cell? ⟨g3, 12 + k * 2, none⟩ = some (.int .i64 (stTx m k)) from K0.out)
     generalize stTx m k = x at K0 NX
     generalize fld [stTx m k, stSeq m k] 1 = y at K1
     go_upto_region 7 with (refine wpList_load_cells rfl 42 (.tmp 16) rfl ⟨g3, 12 + k * 2, none⟩ rfl [.int .i64 x, .int .i64 y] _ (cells_2 K0.out K1.out) Tryz.underlying42 rfl info_step2 ?_)
     have Z := Lib.hid (show Blk (wr.alloc (.cells #[.int .i64 x, .int .i64 y] 42)) wr.heap.size 42 #[.int .i64 x, .int .i64 y] from Blk.new _ _ _)
     have B7 := Lib.hid (stepA BA.out (.cells #[.int .i64 x, .int .i64 y] 42))
     have C7 := Lib.hid (stepA BB.out (.cells #[.int .i64 x, .int .i64 y] 42))
     clear RW K0 K1
     generalize wr.heap.size = z at Z ⊢
     generalize wr.alloc (.cells #[.int .i64 x, .int .i64 y] 42) = W7 at Z B7 C7 ⊢
     have z0 : W7.cell? ⟨z, 0, none⟩ = some (.int .i64 x) := Z.out.cell 0
     by_cases hx : r < x
     · have NV := Lib.hid (NX.out.symm.trans (if_pos hx))
       have dm : decide (r < x) = true := by simpa using hx
       have ip : max r x = x := by omega
       clear NX
       go_wp2_with fail
       go_roundw
       case rel => exact ⟨k + 1, x, by go_num, by first | rfl | (rw [ip]), by omega, by rw [if_neg (by omega), NV.out], B7.out, C7.out⟩
       case measure => simp [RowKit.intOf]; omega
     · have NV := Lib.hid (NX.out.symm.trans (if_neg hx))
       have dm : decide (r < x) = false := by simpa using hx
       have ip : max r x = r := by omega
       clear NX
       go_wp2_with fail
       go_roundw
       case rel => exact ⟨k + 1, r, by go_num, by first | rfl | (rw [ip]), by omega, by rw [if_neg (by omega), NV.out], B7.out, C7.out⟩
       case measure => simp [RowKit.intOf]; omega
   · obtain rfl : k = N := by omega
     have d3 : decide ((k : Int) < (k : Int)) = false := by simp
     have HRV := Lib.hid (show r = v from by rw [RR.out, if_neg (by have := H8.out; omega), HV.out])
     go_wp2_with fail
     go_ret2
     exact ⟨by rw [HRV.out]; rfl, BA.out⟩
end Go.Proofs.YtadnlannbafjpaaGreat
