/- The library's Index, Contains, at steps. -/
import Derived.Test.YtadnlannbafjpaaGreatQPrbJ
import Derived.Test.YtadnlannbafjpaaGreatQFlats
import Derived.Deep.DeepCutAuto
import Derived.Deep.RegionHeld
namespace Go.Proofs.YtadnlannbafjpaaGreat
open Go.RowKit
set_option linter.unusedVariables false
set_option linter.unusedSimpArgs false
theorem reads_up {w : World} {B B' size n : Nat} {A : Option Addr} {xs : List Value} (h : Reads w B size A n xs) (hb : B ≤ B') : Reads w B' size A n xs :=
 ⟨h.1, fun hn => by obtain ⟨ad, e, h1, h2⟩ := h.2 hn; exact ⟨ad, e, Nat.lt_of_lt_of_le h1 hb, h2⟩⟩
set_option maxRecDepth 100000 in
set_option maxHeartbeats 2000000 in
theorem index_any (A : Option Addr) (n c : Nat) (os : List (List Int)) (x y : Int) (w : World) (hr : Reads w w.heap.size 2 A n (ints os.flatten)) (h2 : ∀ o ∈ os, o.length = 2) (hc : os.length = n) (hn : n ≤ 1000) :
   Calls Tryz.prog 156 #[.slice A n c, .agg #[.int .i64 x, .int .i64 y]] w fun e w' => ∃ k, e = .returned (.int .i64 k) ∧ decide (0 ≤ k) = decide ([x, y] ∈ os) ∧ Below w.heap.size w w' := by
 have BX := Lib.hid (show Blk (w.alloc (.cells #[.int .i64 x, .int .i64 y] 42)) w.heap.size 42 #[.int .i64 x, .int .i64 y] from Blk.new w _ _)
 have BW := Lib.hid (Joins.below_alloc1 w (.cells #[.int .i64 x, .int .i64 y] 42))
 have HR := Lib.hid hr
 have H2 := Lib.hid (And.intro h2 hc)
 have HNN := Lib.hid hn
 clear hr h2 hc
 go_enter Tryz.func156, Tryz.ntmps156
 go_upto_region 1 with fail
 have R1 := Lib.hid (HR.out.below BW.out)
 generalize w.heap.size = g at BX ⊢
 generalize w.alloc (.cells #[.int .i64 x, .int .i64 y] 42) = V at BX BW R1 ⊢
 have K12 := Lib.hid (show V.cell? ⟨g, 0, none⟩ = some (.int .i64 x) from BX.out.cell 0)
 have K13 := Lib.hid (show V.cell? ⟨g, 0 + 1, none⟩ = some (.int .i64 y) from BX.out.cell 1)
 go_wp2_with fail
 go_loopw [8] (fun s8 wr => ∃ i q : Nat, s8 = .int .i64 i ∧ i ≤ n ∧ [x, y] ∉ os.take i ∧ wr = V.drewN q) (fun s8 _ => n - (RowKit.intOf s8).toNat)
 case atStart => exact ⟨0, 0, rfl, Nat.zero_le _, by simp, rfl⟩
 case round =>
   obtain ⟨k, q, rfl, hk, hno, rfl⟩ := hrel
   have NO := Lib.hid hno
   clear hno
   by_cases hkl : k < n
   · obtain ⟨b, off, rfl, hb, hcell, _⟩ := R1.out.flat_at H2.out.1 H2.out.2 (by omega) hkl
     have hko : k < os.length := by rw [H2.out.2]; exact hkl
     have hg : os.getD k [] = os[k] := by simp [List.getD, hko]
     have h0 := hcell 0 (by omega)
     have h1 := hcell 1 (by omega)
     rw [hg] at h0 h1
     rw [Nat.add_zero] at h0
     have TK := Lib.hid (show os.take (k + 1) = os.take k ++ [[fld os[k] 0, fld os[k] 1]] from by rw [List.take_add_one, List.getElem?_eq_getElem hko, ← two_of (H2.out.1 _ (List.getElem_mem hko))]; rfl)
     generalize fld os[k] 0 = u at h0 TK
     generalize fld os[k] 1 = v at h1 TK
     have K0 := Lib.hid h0
     have K1 := Lib.hid h1
     have w0 : IntKind.i64.wrap (k : Int) = (k : Int) := IntWalk.i64_in _ (by have := HNN.out; omega)
     have d3 : decide ((k : Int) < (n : Int)) = true := by simp; omega
     clear hcell hb hg h0 h1
     obtain ⟨d, hd⟩ : ∃ d, decide (x = u ∧ y = v) = d := ⟨_, rfl⟩
     have he : ∀ W, (binOp .eql 42 (.agg #[.int .i64 x, .int .i64 y]) (.agg #[.int .i64 u, .int .i64 v])).run Tryz.prog W = .ok (.bool d) W := fun W => (eql_step x y u v W).trans (by rw [hd])
     have HD := Lib.hid hd
     clear hd
     go_upto_region 4 with fail
     refine wp_region_held_drew (S := fun w' => ∃ q, w' = V.drewN q) (by kernel_rfl) ?_ (fun hHeld => ?_)
     · exact ⟨q + 1, rfl⟩
     refine wpAnyH_take (i := 0) (v := .agg #[.int .i64 x, .int .i64 y]) rfl (by kernel_rfl) (by kernel_rfl) (by kernel_rfl) (fun _ _ _ h => h) (Or.inl ⟨by rfl, ?_⟩) (by assumption) ?_
     · intro w0 hSw
       obtain ⟨q1, rfl⟩ := hSw
       exact exec_loadP (x := .tmp 3) rfl (ad := ⟨g, 0, none⟩) rfl (load_step (w := V.drewN q1) K12.out K13.out)
     try simp only [List.getElem_toArray, List.getElem_cons_succ, List.getElem_cons_zero, Act.put, List.setIfInBounds_toArray, List.set_cons_zero, List.set_cons_succ]
     go_simp
     refine wpAnyH_take (i := 1) (v := ?_) rfl (by kernel_rfl) (by kernel_rfl) (by kernel_rfl) (fun _ _ _ h => h) (Or.inl ⟨by rfl, ?_⟩) (by assumption) ?_
     rotate_left
     · (intro w0 hSw; (try dsimp only at hSw); go_simp; try with_reducible rfl)
     try simp only [List.getElem_toArray, List.getElem_cons_succ, List.getElem_cons_zero, Act.put, List.setIfInBounds_toArray, List.set_cons_zero, List.set_cons_succ]
     refine wpAnyH_take (i := 2) (v := ?_) rfl (by kernel_rfl) (by kernel_rfl) (by kernel_rfl) (fun _ _ _ h => h) (Or.inl ⟨by rfl, ?_⟩) (by assumption) ?_
     rotate_left
     · (intro w0 hSw; (try dsimp only at hSw); go_simp; try with_reducible rfl)
     try simp only [List.getElem_toArray, List.getElem_cons_succ, List.getElem_cons_zero, Act.put, List.setIfInBounds_toArray, List.set_cons_zero, List.set_cons_succ]
     refine wpAnyH_take (i := 3) (v := ?_) rfl (by kernel_rfl) (by kernel_rfl) (by kernel_rfl) (fun _ _ _ h => h) (Or.inl ⟨by rfl, ?_⟩) (by assumption) ?_
     rotate_left
     · (intro w0 hSw; (try dsimp only at hSw); go_simp; try with_reducible rfl)
     try simp only [List.getElem_toArray, List.getElem_cons_succ, List.getElem_cons_zero, Act.put, List.setIfInBounds_toArray, List.set_cons_zero, List.set_cons_succ]
     refine wpAnyH_take (i := 4) (v := .agg #[.int .i64 u, .int .i64 v]) rfl (by kernel_rfl) (by kernel_rfl) (by kernel_rfl) (fun _ _ _ h => h) (Or.inl ⟨by rfl, ?_⟩) (by assumption) ?_
     · intro w0 hSw
       obtain ⟨q1, rfl⟩ := hSw
       exact exec_loadP (x := .tmp 14) rfl (ad := ⟨b, off + k * 2, none⟩) rfl (load_step (w := V.drewN q1) K0.out K1.out)
     try simp only [List.getElem_toArray, List.getElem_cons_succ, List.getElem_cons_zero, Act.put, List.setIfInBounds_toArray, List.set_cons_zero, List.set_cons_succ]
     go_simp
     refine wpAnyH_take (i := 5) (v := ?_) rfl (by kernel_rfl) (by kernel_rfl) (by kernel_rfl) (fun _ _ _ h => h) (Or.inl ⟨by rfl, ?_⟩) (by assumption) ?_
     rotate_left
     · (intro w0 hSw; (try dsimp only at hSw); go_simp; try with_reducible rfl)
     try simp only [List.getElem_toArray, List.getElem_cons_succ, List.getElem_cons_zero, Act.put, List.setIfInBounds_toArray, List.set_cons_zero, List.set_cons_succ]
     refine wpAnyH_done (by kernel_rfl) ?_ _
     clear hHeld
     cases d with
     | true =>
       go_wp2_with fail
       go_ret
       refine ⟨_, rfl, ?_, below_drewN BW.out _⟩
       have h1 := of_decide_eq_true HD.out
       rw [decide_eq_true (show (0 : Int) ≤ (k : Int) by omega), eq_comm, decide_eq_true_iff]
       have h3 : [x, y] ∈ os.take (k + 1) := by rw [TK.out, h1.1, h1.2]; simp
       exact List.mem_of_mem_take h3
     | false =>
       have N2 := Lib.hid (show [x, y] ∉ os.take (k + 1) from by
         have h1 := of_decide_eq_false HD.out
         rw [TK.out]
         intro h3
         rcases List.mem_append.1 h3 with h3 | h3
         · exact NO.out h3
         · simp at h3; exact h1 h3)
       go_wp2_with fail
       go_roundw
       case rel => exact ⟨k + 1, _, by go_num, by omega, N2.out, rfl⟩
       case measure => simp [RowKit.intOf]; omega
   · obtain rfl : k = n := by omega
     have d3 : decide ((k : Int) < (k : Int)) = false := by simp
     go_wp2_with fail
     go_ret
     refine ⟨_, rfl, ?_, below_drewN BW.out _⟩
     rw [decide_eq_false (show ¬ ((0 : Int) ≤ -1) by omega), eq_comm, decide_eq_false_iff_not]
     have h3 := NO.out
     rwa [List.take_of_length_le (by have := H2.out.2; omega)] at h3
set_option maxRecDepth 100000 in
set_option maxHeartbeats 2000000 in
theorem contS_any (A : Option Addr) (n c : Nat) (os : List (List Int)) (x y : Int) (w : World) (hr : Reads w w.heap.size 2 A n (ints os.flatten)) (h2 : ∀ o ∈ os, o.length = 2) (hc : os.length = n) (hn : n ≤ 1000) (b : Bool) (hb : decide ([x, y] ∈ os) = b) :
   Calls Tryz.prog 141 #[.slice A n c, .agg #[.int .i64 x, .int .i64 y]] w fun e w' => e = .returned (.bool b) ∧ Below w.heap.size w w' := by
 have BX := Lib.hid (show Blk (w.alloc (.cells #[.int .i64 x, .int .i64 y] 42)) w.heap.size 42 #[.int .i64 x, .int .i64 y] from Blk.new w _ _)
 have BW := Lib.hid (Joins.below_alloc1 w (.cells #[.int .i64 x, .int .i64 y] 42))
 have HR := Lib.hid hr
 have H2 := Lib.hid (And.intro h2 hc)
 have HNN := Lib.hid hn
 have HB := Lib.hid hb
 clear hr h2 hc hb
 go_enter Tryz.func141, Tryz.ntmps141
 go_upto_region 1 with fail
 have R1 := Lib.hid (reads_up (HR.out.below BW.out) BW.out.size)
 generalize w.heap.size = g at BX ⊢
 generalize w.alloc (.cells #[.int .i64 x, .int .i64 y] 42) = V at BX BW R1 ⊢
 have K12 : V.cell? ⟨g, 0, none⟩ = some (.int .i64 x) := BX.out.cell 0
 have K13 : V.cell? ⟨g, 1, none⟩ = some (.int .i64 y) := BX.out.cell 1
 go_wp2_with (go_at_call 156; refine (index_any A n c os x y _ R1.out H2.out.1 H2.out.2 HNN.out).mono ?_; rintro e V2 ⟨k, rfl, hk, hb⟩; have B2 := Lib.hid (stepB BW.out hb); have dk : decide (0 ≤ k) = b := hk.trans HB.out; clear hk hb)
 go_ret
 exact ⟨rfl, B2.out⟩
set_option maxRecDepth 100000 in
set_option maxHeartbeats 2000000 in
theorem live1_any (A : Option Addr) (n c p : Nat) (os : List (List Int)) (x y : Int) (w : World) (hpl : p < w.heap.size) (hp : w.cell? ⟨p, 0, none⟩ = some (.slice A n c)) (hr : Reads w w.heap.size 2 A n (ints os.flatten)) (h2 : ∀ o ∈ os, o.length = 2) (hc : os.length = n) (hn : n ≤ 1000) (b : Bool) (hb : decide ([x, y] ∈ os) = b) :
   Calls Tryz.prog 140 #[.agg #[.int .i64 x, .int .i64 y], .pointer (some ⟨p, 0, none⟩)] w fun e w' => e = .returned (.bool (!b)) ∧ Below w.heap.size w w' := by
 have BX := Lib.hid (show Blk (w.alloc (.cells #[.int .i64 x, .int .i64 y] 42)) w.heap.size 42 #[.int .i64 x, .int .i64 y] from Blk.new w _ _)
 have BW := Lib.hid (Joins.below_alloc1 w (.cells #[.int .i64 x, .int .i64 y] 42))
 have HR := Lib.hid hr
 have H2 := Lib.hid (And.intro h2 hc)
 have HNN := Lib.hid hn
 have HB := Lib.hid hb
 have HPL := Lib.hid hpl
 have HP := Lib.hid hp
 clear hr h2 hc hb hp hpl
 go_enter Tryz.func140, Tryz.ntmps140
 go_upto_region 1 with fail
 have R1 := Lib.hid (reads_up (HR.out.below BW.out) BW.out.size)
 have cp : (w.alloc (.cells #[.int .i64 x, .int .i64 y] 42)).cell? ⟨p, 0, none⟩ = some (.slice A n c) := (BW.out.cell (p := ⟨p, 0, none⟩) HPL.out).trans HP.out
 generalize w.heap.size = g at BX ⊢
 generalize w.alloc (.cells #[.int .i64 x, .int .i64 y] 42) = V at BX BW R1 cp ⊢
 have K12 : V.cell? ⟨g, 0, none⟩ = some (.int .i64 x) := BX.out.cell 0
 have K13 : V.cell? ⟨g, 1, none⟩ = some (.int .i64 y) := BX.out.cell 1
 go_wp2_with (go_at_call 141; refine (contS_any A n c os x y _ R1.out H2.out.1 H2.out.2 HNN.out b HB.out).mono ?_; rintro e V2 ⟨rfl, hb⟩; have B2 := Lib.hid (stepB BW.out hb); clear hb)
 go_ret
 exact ⟨rfl, B2.out⟩
set_option maxRecDepth 100000 in
set_option maxHeartbeats 2000000 in
theorem indexF_any (A : Option Addr) (n c : Nat) (st : List (List Int)) (A' : Option Addr) (n' c' p : Nat) (os : List (List Int)) (w : World) (hr : Reads w w.heap.size 2 A n (ints st.flatten)) (h2 : ∀ o ∈ st, o.length = 2) (hc : st.length = n) (hn : n ≤ 1000)
   (hpl : p < w.heap.size) (hp : w.cell? ⟨p, 0, none⟩ = some (.slice A' n' c')) (hr' : Reads w w.heap.size 2 A' n' (ints os.flatten)) (h2' : ∀ o ∈ os, o.length = 2) (hc' : os.length = n') (hn' : n' ≤ 1000) (b : Bool) (hb : (st.all fun s => decide (s ∈ os)) = b) :
   Calls Tryz.prog 155 #[.slice A n c, .func (.func 140) #[] #[.pointer (some ⟨p, 0, none⟩)]] w fun e w' => ∃ k, e = .returned (.int .i64 k) ∧ decide (0 ≤ k) = !b ∧ Below w.heap.size w w' := by
 have HR := Lib.hid hr
 have H2 := Lib.hid (And.intro h2 hc)
 have HNN := Lib.hid hn
 have HR' := Lib.hid hr'
 have H2' := Lib.hid (And.intro h2' hc')
 have HNN' := Lib.hid hn'
 have HB := Lib.hid hb
 have HPL := Lib.hid hpl
 have HP := Lib.hid hp
 clear hr h2 hc hb hp hpl hr' h2' hc' hn'
 go_enter Tryz.func155, Tryz.ntmps155
 go_wp2_with fail
 go_loopw [8] (fun s8 wr => ∃ i : Nat, s8 = .int .i64 i ∧ i ≤ n ∧ (∀ s ∈ st.take i, s ∈ os) ∧ Below w.heap.size w wr) (fun s8 _ => n - (RowKit.intOf s8).toNat)
 case atStart => exact ⟨0, rfl, Nat.zero_le _, by simp, Below.refl _ _⟩
 case round =>
   obtain ⟨k, rfl, hk, hno, hbl⟩ := hrel
   have NO := Lib.hid hno
   have BL := Lib.hid hbl
   clear hno hbl
   by_cases hkl : k < n
   · have RW := Lib.hid (HR.out.below BL.out)
     obtain ⟨b1, off, rfl, hb, hcell, _⟩ := RW.out.flat_at H2.out.1 H2.out.2 (by omega) hkl
     have hko : k < st.length := by rw [H2.out.2]; exact hkl
     have hg : st.getD k [] = st[k] := by simp [List.getD, hko]
     have h0 := hcell 0 (by omega)
     have h1 := hcell 1 (by omega)
     rw [hg] at h0 h1
     rw [Nat.add_zero] at h0
     have TK := Lib.hid (show st.take (k + 1) = st.take k ++ [[fld st[k] 0, fld st[k] 1]] from by rw [List.take_add_one, List.getElem?_eq_getElem hko, ← two_of (H2.out.1 _ (List.getElem_mem hko))]; rfl)
     generalize fld st[k] 0 = u at h0 TK
     generalize fld st[k] 1 = v at h1 TK
     have K0 := Lib.hid h0
     have K1 := Lib.hid h1
     have d3 : decide ((k : Int) < (n : Int)) = true := by simp; omega
     have w0 : IntKind.i64.wrap (k : Int) = (k : Int) := IntWalk.i64_in _ (by have := HNN.out; omega)
     clear hcell hb hg h0 h1
     obtain ⟨d, hd⟩ : ∃ d, decide ([u, v] ∈ os) = d := ⟨_, rfl⟩
     have HD := Lib.hid hd
     clear hd
     go_upto_region 4 with fail
     cases d with
     | true =>
       have N2 := Lib.hid (show ∀ s ∈ st.take (k + 1), s ∈ os from by
         rw [TK.out]
         intro s hs
         rcases List.mem_append.1 hs with hs | hs
         · exact NO.out s hs
         · rw [List.mem_singleton.1 hs]; exact of_decide_eq_true HD.out)
       go_wp2_with (first
         | (refine wpList_load_cells rfl 42 (.tmp 14) rfl ⟨b1, off + k * 2, none⟩ rfl [.int .i64 u, .int .i64 v] _ (cells_2 K0.out K1.out) Tryz.underlying42 rfl info_step2 ?_)
         | (go_at_call 140; refine (live1_any A' n' c' p os u v _ (Nat.lt_of_lt_of_le HPL.out BL.out.size) ((BL.out.cell (p := ⟨p, 0, none⟩) HPL.out).trans HP.out) (reads_up (HR'.out.below BL.out) BL.out.size) H2'.out.1 H2'.out.2 HNN'.out true HD.out).mono ?_; rintro e W2 ⟨rfl, hb⟩; have B2 := Lib.hid (stepB BL.out hb); clear hb))
       go_roundw
       case rel => exact ⟨k + 1, by go_num, by omega, N2.out, B2.out⟩
       case measure => simp [RowKit.intOf]; omega
     | false =>
       have N2 := Lib.hid (show b = false from by
         rw [← HB.out, List.all_eq_false]
         refine ⟨[u, v], List.mem_of_mem_take (i := k + 1) (by rw [TK.out]; simp), ?_⟩
         rw [HD.out]; simp)
       go_wp2_with (first
         | (refine wpList_load_cells rfl 42 (.tmp 14) rfl ⟨b1, off + k * 2, none⟩ rfl [.int .i64 u, .int .i64 v] _ (cells_2 K0.out K1.out) Tryz.underlying42 rfl info_step2 ?_)
         | (go_at_call 140; refine (live1_any A' n' c' p os u v _ (Nat.lt_of_lt_of_le HPL.out BL.out.size) ((BL.out.cell (p := ⟨p, 0, none⟩) HPL.out).trans HP.out) (reads_up (HR'.out.below BL.out) BL.out.size) H2'.out.1 H2'.out.2 HNN'.out false HD.out).mono ?_; rintro e W2 ⟨rfl, hb⟩; have B2 := Lib.hid (stepB BL.out hb); clear hb))
       go_ret
       exact ⟨_, rfl, by rw [N2.out, decide_eq_true (show (0 : Int) ≤ (k : Int) by omega)]; rfl, B2.out⟩
   · obtain rfl : k = n := by omega
     have d3 : decide ((k : Int) < (k : Int)) = false := by simp
     go_wp2_with fail
     go_ret
     refine ⟨_, rfl, ?_, BL.out⟩
     have h3 : b = true := by
       rw [← HB.out, List.all_eq_true]
       intro s hs
       exact decide_eq_true (NO.out s (by rw [List.take_of_length_le (by have := H2.out.2; omega)]; exact hs))
     rw [h3, decide_eq_false (show ¬ ((0 : Int) ≤ -1) by omega)]; rfl
end Go.Proofs.YtadnlannbafjpaaGreat
