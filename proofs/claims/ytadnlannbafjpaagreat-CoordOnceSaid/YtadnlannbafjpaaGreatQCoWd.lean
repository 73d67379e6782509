/- CoordOnce. -/
import Derived.Test.YtadnlannbafjpaaGreatQCoWa
import Derived.Test.YtadnlannbafjpaaGreatQCoVm
import Derived.Test.YtadnlannbafjpaaGreatQBase
namespace Go.Proofs.YtadnlannbafjpaaGreat
open Go.RowKit
set_option linter.unusedVariables false
set_option linter.unusedSimpArgs false
theorem trF_bd2 {n k : Nat} (l : List (List Int)) : ∀ (s : TrS), (∀ t, 0 ≤ s.2 t ∧ s.2 t ≤ (k : Int)) → (∀ e ∈ l, EvB n k e) → ∀ t, 0 ≤ (l.foldl trS s).2 t ∧ (l.foldl trS s).2 t ≤ (k : Int) := by
 induction l with
 | nil => intro s h _ t; exact h t
 | cons e r ih =>
   intro s h he t
   rw [List.foldl_cons]
   refine ih (trS s e) (fun t => ?_) (fun d hd => he d (List.mem_cons_of_mem _ hd)) t
   have := h t
   have h2 := (he e (by simp)).2.1
   unfold trS
   split
   · exact this
   split
   · show 0 ≤ (if t = fld e 1 then fld e 2 else s.2 t) ∧ (if t = fld e 1 then fld e 2 else s.2 t) ≤ (k : Int)
     split
     · exact h2
     · exact this
   split
   · exact this
   · exact this
theorem wfD_small {x : Int} (h : -100000 ≤ x ∧ x ≤ 100000) : (Lit.int .i64 x).wf = true := by
 have h1 : IntKind.i64.min = -9223372036854775808 := by decide
 have h2 : IntKind.i64.max = 9223372036854775807 := by decide
 unfold Lit.wf
 simp only [decide_eq_true_eq, Bool.and_eq_true]
 first | omega | exact ⟨by omega, by omega⟩
theorem take_snoc {l : List (List Int)} {p : Nat} (hp : p < l.length) : l.take (p + 1) = l.take p ++ [l.getD p []] := by
 rw [List.take_add_one, List.getD_eq_getElem?_getD, List.getElem?_eq_getElem hp]; rfl
theorem ev_at {W : World} {B b off L ec : Nat} {ev : List (List Int)} (h : W.ownsRow B 65 7 (.slice (some ⟨b, off, none⟩) L ec) L (ints ev.flatten)) (h7 : ∀ e ∈ ev, e.length = 7) (hL : ev.length = L) {p : Nat} (hp : p < L) : ∀ j, j < 7 → W.cell? ⟨b, off + p * 7 + j, none⟩ = some (.int .i64 (fld (ev.getD p []) j)) := by
 obtain ⟨b', off', e, _, hc, _⟩ := (Reads.of_own h).flat_at h7 hL (by omega) hp
 injection e with e
 injection e with e1 e2
 subst e1 e2
 exact hc
theorem tkH {P : Program} {ops : Array Oper} {md : Region.Mode} {Q : Exit → Act → World → Prop} {S : World → Prop} {i : Nat} {oi : Oper} {v : Value} {fuel : Nat} {listed : Array Bool} {a : Act} {w : World} (hi : ops[i]? = some oi := by rfl)
   (hs : Region.noSelect ops = true := by kernel_rfl) (hf : Region.free md ops listed i = true := by kernel_rfl) (hr : (Region.ready md ops listed).contains i = true := by kernel_rfl)
   (hQ : ∀ c a w, Q (.panic c) (a.put oi.dst v) w → Q (.panic c) a w := by exact fun _ _ _ h => h) (hy : YieldsIf P ops S oi v a) (hS : S w := by assumption)
   (h : wpAnyH P md ops Q S fuel (listed.setIfInBounds i true) (a.put oi.dst v) w) : wpAnyH P md ops Q S (fuel + 1) listed a w := wpAnyH_take hi hs hf hr hQ hy hS h
theorem zeroIntD (W : World) : (zeroValue 3).run Tryz.prog W = .ok (.int .i64 0) W := by kernel_rfl
set_option maxRecDepth 100000 in
set_option maxHeartbeats 32000000 in
theorem coordOnce_walk (b0 : Bool) (A : Option Addr) (n cp : Nat) (l : List (List Int)) (w : World) (hl : l.length = n) (ha : ∀ x ∈ l, x.length = 33) (hr : Reads w w.heap.size 33 A n (ints l.flatten)) :
   Calls Tryz.prog 4 #[.bool b0, .slice A n cp] w fun e w' => e = .returned (.bool true) ∧ Below w.heap.size w w' := by
 have hen := fun W => run_eql_nil_nil (P := Tryz.prog) W 28 Tryz.underlying28
 have hn0 := fun W => run_neq_nil_nil (P := Tryz.prog) W 28 Tryz.underlying28
 have hvf := fun (a b c d : Value) W => run_view3 a b c d W
 have hmm := @run_makeMap Tryz.prog
 have H := Lib.hid hr
 have HL := Lib.hid hl
 have HA := Lib.hid ha
 clear hr hl ha
 by_cases hn : 100 < n
 · have d0 : decide ((100 : Int) < (n : Int)) = true := by simp; omega
   go_enter Tryz.func4, Tryz.ntmps4
   go_wp2_with (go_at_call 9; refine (coordAlive _).mono ?_; rintro e w0 ⟨rfl, hb0⟩; have B0 := Lib.hid hb0; clear hb0)
   go_ret
   exact ⟨rfl, B0.out⟩
 · have d0 : decide ((100 : Int) < (n : Int)) = false := by simp; omega
   go_enter Tryz.func4, Tryz.ntmps4
   go_upto_region 6 with (first
     | (go_at_call 9; refine (coordAlive _).mono ?_; rintro e w0 ⟨rfl, hb0⟩; have B0 := Lib.hid hb0; clear hb0)
     | (go_at_call 18; refine (cfF_plain b0 _).mono ?_; rintro e V1 ⟨rfl, hb⟩; have B1 := Lib.hid (stepB B0.out hb); clear hb B0)
     | (go_at_call 10; refine (cfF_new 3 b0 _ (by omega) (by omega)).mono ?_; rintro e V2 ⟨g, rfl, P0, hm, ho, hb⟩; have M2 := Lib.hid hm; have O2 := Lib.hid (fun k hk => Nat.le_trans B1.out.size (ho k hk)); have B2 := Lib.hid (stepB B1.out hb); clear hm ho hb B1))
   go_wp2_with fail
   go_loopw [7, 8, 9, 10] (fun i _ _ _ wr => ∃ (m : Nat) (P : Pt), m ≤ n ∧ i = .int .i64 m ∧ CoM wr g 3 (runC 3 (newCo (cfF b0) 3) l m) P ∧ (∀ k, P.own g k → w.heap.size ≤ k) ∧ Below w.heap.size w wr) (fun i _ _ _ _ => n - (RowKit.intOf i).toNat)
   case atStart => exact ⟨0, P0, Nat.zero_le _, rfl, M2.out, O2.out, B2.out⟩
   case round =>
     clear M2 O2 B2
     rename World => X
     obtain ⟨m, P, hm, rfl, hM, hO, hB⟩ := hrel
     have OX := Lib.hid hO
     have BX := Lib.hid hB
     by_cases hmn : m < n
     · have d3 : decide ((m : Int) < (n : Int)) = true := by simp; omega
       obtain ⟨ab, aoff, rfl, hab, ha33, hac⟩ := H.out.at33 HA.out HL.out hmn
       have HCK := Lib.hid (show ∀ Y, Below w.heap.size w Y → ∀ j v, (ints (l.getD m []))[j]? = some v → Y.cell? ((⟨ab, aoff + m * 33, none⟩ : Addr).add j) = some v from fun Y hy j v hv => (hy.cell (p := (⟨ab, aoff + m * 33, none⟩ : Addr).add j) (by rw [block_of_add]; exact hab)).trans (hac j v hv))
       have A33 := Lib.hid ha33
       obtain ⟨c, hc⟩ : ∃ c, c = runC 3 (newCo (cfF b0) 3) l m := ⟨_, rfl⟩
       have CA := Lib.hid (show CoA 3 m c from by rw [hc]; exact CoA.run (CoA.start 3 b0 (by omega)) l m (by omega))
       have CF := Lib.hid (show c.cf.pb = b0 from by rw [hc, run_cf]; rfl)
       have HS := Lib.hid (show runC 3 (newCo (cfF b0) 3) l (m + 1) = (actC 3 c (l.getD m [])).1.1 from by rw [hc]; rfl)
       rw [← hc] at hM
       have MX := Lib.hid hM
       clear hac ha33 hM hO hB hc
       generalize l.getD m [] = a at HCK A33 HS
       have HAI := Lib.hid (act18_info A33.out)
       obtain ⟨z, hz⟩ : ∃ z, z = actC 3 c a := ⟨_, rfl⟩
       have CZ := Lib.hid (show CoA 3 (m + 1) z.1.1 from by rw [hz]; exact CA.out.act (by omega) a)
       have SY := Lib.hid (show Stays c z.1.1 from by rw [hz]; exact Stays.act CA.out a)
       have ML := Lib.hid (show c.txs.length ≤ z.1.1.txs.length from by rw [hz]; exact act_more 3 c a)
       have HZ := Lib.hid hz
       rw [← hz] at HS
       obtain ⟨N1, hN1⟩ : ∃ N1, c.txs.length = N1 := ⟨_, rfl⟩
       obtain ⟨N2, hN2⟩ : ∃ N2, z.1.1.txs.length = N2 := ⟨_, rfl⟩
       have HN1 := Lib.hid hN1
       have HN2 := Lib.hid hN2
       have hl1 : N1 ≤ 900 := by have := CA.out.k.len; omega
       have hl2 : N2 ≤ 909 := by have := CZ.out.k.len; omega
       have h12 : N1 ≤ N2 := by have := ML.out; omega
       clear hz hN1 hN2 ML
       go_upto_region 12 with (first
         | (go_at_call 19; refine (view_N N1 HN1.out _ MX.out (CA.out.k.good (by omega))).mono ?_; rintro e X1 ⟨r1, L1, ve1, rfl, hv, hev, hb⟩; obtain ⟨eA1, ec1, rfl⟩ := own_len hev; have V1 := Lib.hid hv; have M1 := Lib.hid (MX.out.step hb); have B1 := Lib.hid (stepB BX.out hb); have TU := Lib.hid (show ∀ k, P.tur g k → k < X.heap.size from fun k hk => MX.out.lt (.inl hk)); have GX1 := Lib.hid hb.size; clear hv hev hb)
         | (refine wpList_store_mid (by rfl) 56 (.tmp 8) (.tmp 39) (by rfl) X1.heap.size 0 #[.int .i64 c.tm, .int .i64 N1, .slice (some ⟨r1, 0, none⟩) N1 N1, .slice eA1 c.ev.length ec1] (by rfl) (by rfl) ((show Blk (X1.alloc (.cells zVw 56)) X1.heap.size 56 zVw from Blk.new X1 _ _).there (Nat.le_refl 4)) info_view (by kernel_rfl) ?_
            have ZB := Lib.hid ((show Blk (X1.alloc (.cells zVw 56)) X1.heap.size 56 zVw from Blk.new X1 _ _).put #[.int .i64 c.tm, .int .i64 N1, .slice (some ⟨r1, 0, none⟩) N1 N1, .slice eA1 c.ev.length ec1] rfl)
            have EB := Lib.hid (show Below X1.heap.size X1 ((X1.alloc (.cells zVw 56)).setCells X1.heap.size 0 (#[.int .i64 c.tm, .int .i64 N1, .slice (some ⟨r1, 0, none⟩) N1 N1, .slice eA1 c.ev.length ec1] : Array Value).toList) from Below.setCells (b := X1.heap.size) (Nat.le_refl _) (#[.int .i64 c.tm, .int .i64 N1, .slice (some ⟨r1, 0, none⟩) N1 N1, .slice eA1 c.ev.length ec1] : Array Value).toList 0 _ (Joins.below_alloc1 X1 (.cells zVw 56)))
            generalize (X1.alloc (.cells zVw 56)).setCells X1.heap.size 0 (#[.int .i64 c.tm, .int .i64 N1, .slice (some ⟨r1, 0, none⟩) N1 N1, .slice eA1 c.ev.length ec1] : Array Value).toList = XB at ZB EB ⊢))
       have VB := Lib.hid (V1.out.step EB.out)
       have MB := Lib.hid (M1.out.step EB.out)
       have BB := Lib.hid (stepB B1.out EB.out)
       obtain ⟨p8, hp8⟩ : ∃ p8, p8 = X1.heap.size := ⟨_, rfl⟩
       have G8 := Lib.hid (show X.heap.size ≤ p8 from by rw [hp8]; exact GX1.out)
       rw [← hp8] at ZB ⊢
       clear hp8
       go_upto_region 13 with (first
         | (refine wpList_load_cells rfl 47 (.tmp 43) rfl ⟨ab, aoff + m * 33, none⟩ rfl (ints a) _ (HCK.out _ BB.out) Tryz.underlying47 rfl HAI.out ?_)
         | (go_at_call 14; refine (doAct_any a _ MB.out CA.out (by omega) A33.out z HZ.out).mono ?_; rintro e X2 ⟨u, rfl, _, P2, hs⟩; have V2 := Lib.hid (hs.view TU.out VB.out); have M2 := Lib.hid hs.m; have B2 := Lib.hid (hs.old OX.out BB.out).1; have O2 := Lib.hid (hs.old OX.out BB.out).2; have Z2 := Lib.hid (ZB.out.turn hs.turn (fun hk => by have := TU.out p8 hk; have := G8.out; omega)); clear hs))
       go_upto_region 14 with (first
         | (go_at_call 19; refine (view_N N2 HN2.out _ M2.out (CZ.out.k.good (by omega))).mono ?_; rintro e X3 ⟨r2, L2, ve2, rfl, hv, hev, hb⟩; obtain ⟨eA2, ec2, rfl⟩ := own_len hev; have W2 := Lib.hid hv; have W1 := Lib.hid (V2.out.step hb); have M3 := Lib.hid (M2.out.step hb); have B3 := Lib.hid (stepB B2.out hb); have Z3 := Lib.hid (Z2.out.here hb); clear hv hev hb)
         | (refine wpList_store_mid (by rfl) 56 (.tmp 9) (.tmp 47) (by rfl) X3.heap.size 0 #[.int .i64 z.1.1.tm, .int .i64 N2, .slice (some ⟨r2, 0, none⟩) N2 N2, .slice eA2 z.1.1.ev.length ec2] (by rfl) (by rfl) ((show Blk (X3.alloc (.cells zVw 56)) X3.heap.size 56 zVw from Blk.new X3 _ _).there (Nat.le_refl 4)) info_view (by kernel_rfl) ?_
            have Z9 := Lib.hid ((show Blk (X3.alloc (.cells zVw 56)) X3.heap.size 56 zVw from Blk.new X3 _ _).put #[.int .i64 z.1.1.tm, .int .i64 N2, .slice (some ⟨r2, 0, none⟩) N2 N2, .slice eA2 z.1.1.ev.length ec2] rfl)
            have EC := Lib.hid (show Below X3.heap.size X3 ((X3.alloc (.cells zVw 56)).setCells X3.heap.size 0 (#[.int .i64 z.1.1.tm, .int .i64 N2, .slice (some ⟨r2, 0, none⟩) N2 N2, .slice eA2 z.1.1.ev.length ec2] : Array Value).toList) from Below.setCells (b := X3.heap.size) (Nat.le_refl _) (#[.int .i64 z.1.1.tm, .int .i64 N2, .slice (some ⟨r2, 0, none⟩) N2 N2, .slice eA2 z.1.1.ev.length ec2] : Array Value).toList 0 _ (Joins.below_alloc1 X3 (.cells zVw 56)))
            generalize (X3.alloc (.cells zVw 56)).setCells X3.heap.size 0 (#[.int .i64 z.1.1.tm, .int .i64 N2, .slice (some ⟨r2, 0, none⟩) N2 N2, .slice eA2 z.1.1.ev.length ec2] : Array Value).toList = X4 at Z9 EC ⊢
            generalize X3.heap.size = p9 at Z9 ⊢))
       have W1 := Lib.hid (W1.out.step EC.out)
       have W2 := Lib.hid (W2.out.step EC.out)
       have M4 := Lib.hid (M3.out.step EC.out)
       have B4 := Lib.hid (stepB B3.out EC.out)
       have Z8 := Lib.hid (Z3.out.here EC.out)
       have C8 := Lib.hid (show ∀ Y, Below X4.heap.size X4 Y → Y.cell? ⟨p8, 2, none⟩ = some (.slice (some ⟨r1, 0, none⟩) N1 N1) ∧ Y.cell? ⟨p9, 2, none⟩ = some (.slice (some ⟨r2, 0, none⟩) N2 N2) from fun Y hY => ⟨(Z8.out.here hY).cell 2, (Z9.out.here hY).cell 2⟩)
       have c8 : X4.cell? ⟨p8, 2, none⟩ = some (.slice (some ⟨r1, 0, none⟩) N1 N1) := (C8.out _ (Below.refl _ _)).1
       have c9 : X4.cell? ⟨p9, 2, none⟩ = some (.slice (some ⟨r2, 0, none⟩) N2 N2) := (C8.out _ (Below.refl _ _)).2
       have d9 : decide ((N2 : Int) < (N1 : Int)) = false := by simp; omega
       have d9n : decide (N2 < N1) = false := by simp; omega
       go_wp2_with fail
       clear c8 c9
       go_loopw [10] (fun i wr => ∃ (k : Nat), k ≤ N1 ∧ i = .int .i64 k ∧ Below X4.heap.size X4 wr) (fun i _ => N1 - (RowKit.intOf i).toNat)
       case atStart => exact ⟨0, Nat.zero_le _, rfl, Below.refl _ _⟩
       case round =>
         rename World => Y
         obtain ⟨k, hk, rfl, hBY⟩ := hrel
         have EY := Lib.hid hBY
         clear hBY
         have c8 : Y.cell? ⟨p8, 2, none⟩ = some (.slice (some ⟨r1, 0, none⟩) N1 N1) := (C8.out _ EY.out).1
         by_cases hkn : k < N1
         · have d4 : decide ((k : Int) < (N1 : Int)) = true := by simp; omega
           have d5 : (k : Int) < (N1 : Int) := by omega
           have d6 : (k : Int) < (N2 : Int) := by omega
           obtain ⟨x, hx⟩ : ∃ x, c.txs[k]? = some x := ⟨_, List.getElem?_eq_getElem (by rw [HN1.out]; exact hkn)⟩
           obtain ⟨y, hy⟩ : ∃ y, z.1.1.txs[k]? = some y := ⟨_, List.getElem?_eq_getElem (by rw [HN2.out]; omega)⟩
           obtain ⟨sx, hcx⟩ := W1.out.at_ hx
           obtain ⟨sy, hcy⟩ := W2.out.at_ hy
           have KX := Lib.hid hcx
           have KY := Lib.hid hcy
           have SS := Lib.hid (show decided x = true → y.st = x.st ∧ y.rs = x.rs from fun hd => by
             obtain ⟨y', hy', _, h1, h2⟩ := SY.out k x hx hd
             rw [hy] at hy'
             obtain rfl := Option.some.inj hy'
             exact ⟨h1, h2⟩)
           clear hcx hcy hx hy
           go_upto_region 19 with fail
           cases hd : decided x with
           | false =>
             have HD := Lib.hid hd
             clear hd c8
             refine wp_region_held_drew (S := fun w' => w'.cell? ⟨p8, 2, none⟩ = some (.slice (some ⟨r1, 0, none⟩) N1 N1) ∧ Below X4.heap.size X4 w') (by kernel_rfl) ⟨(C8.out _ EY.out).1, EY.out.drew⟩ (fun hHeld => ?_)
             generalize Y.drew = Y0 at hHeld ⊢
             refine tkH (i := 0) (v := ?_) (hy := Or.inl ⟨by rfl, ?_⟩) (h := ?_)
             rotate_left
             · (intro w0 hSw; (try dsimp only at hSw); go_simp; try with_reducible rfl)
             try simp only [List.getElem_toArray, List.getElem_cons_succ, List.getElem_cons_zero, Act.put, List.setIfInBounds_toArray, List.set_cons_zero, List.set_cons_succ]
             refine tkH (i := 1) (v := ?_) (hy := Or.inl ⟨by rfl, ?_⟩) (h := ?_)
             rotate_left
             · (intro w0 hSw; (try dsimp only at hSw); go_simp; try with_reducible rfl)
             try simp only [List.getElem_toArray, List.getElem_cons_succ, List.getElem_cons_zero, Act.put, List.setIfInBounds_toArray, List.set_cons_zero, List.set_cons_succ]
             refine tkH (i := 2) (v := ?_) (hy := Or.inl ⟨by rfl, ?_⟩) (h := ?_)
             rotate_left
             · (intro w0 hSw; (try dsimp only at hSw); go_simp; try with_reducible rfl)
             try simp only [List.getElem_toArray, List.getElem_cons_succ, List.getElem_cons_zero, Act.put, List.setIfInBounds_toArray, List.set_cons_zero, List.set_cons_succ]
             refine tkH (i := 3) (v := ?_) (hy := Or.inl ⟨by rfl, ?_⟩) (h := ?_)
             rotate_left
             · (intro w0 hSw; (try dsimp only at hSw); go_simp; try with_reducible rfl)
             try simp only [List.getElem_toArray, List.getElem_cons_succ, List.getElem_cons_zero, Act.put, List.setIfInBounds_toArray, List.set_cons_zero, List.set_cons_succ]
             refine tkH (i := 4) (v := .agg (trc x sx)) (hy := Or.inl ⟨by rfl, fun w0 hSw => exec_load (x := .tmp 65) rfl (ad := ⟨r1, k * 13, none⟩) rfl (run_loadVar_cells w0 _ _ (trv (x, sx)) _ (TxR.row (KX.out _ hSw.2)) Tryz.underlying62 rfl (trv_info (x, sx)))⟩) (h := ?_)
             try simp only [List.getElem_toArray, List.getElem_cons_succ, List.getElem_cons_zero, Act.put, List.setIfInBounds_toArray, List.set_cons_zero, List.set_cons_succ]
             refine wpAnyH_ready (rs := [5]) (by kernel_rfl) (by simp) ?_
             refine AllReadyH.cons rfl (fun K hK => ?_) AllReadyH.nil
             go_simp
             have ED := Lib.hid hHeld.2
             refine (decided_b x sx _ false HD.out).mono ?_
             rintro e Y1 ⟨rfl, hb⟩
             try go_simp
             have E1 := Lib.hid (stepB ED.out hb)
             clear hb
             refine hK.out _ _ ⟨(C8.out _ E1.out).1, E1.out⟩ (fun hHeld => ?_)
             clear hK K
             refine tkH (i := 6) (v := ?_) (hy := Or.inl ⟨by rfl, ?_⟩) (h := ?_)
             rotate_left
             · (intro w0 hSw; (try dsimp only at hSw); go_simp; try with_reducible rfl)
             try simp only [List.getElem_toArray, List.getElem_cons_succ, List.getElem_cons_zero, Act.put, List.setIfInBounds_toArray, List.set_cons_zero, List.set_cons_succ]
             refine tkH (i := 7) (v := undef) (hy := Or.inr ⟨by rfl, rfl⟩) (h := ?_)
             try simp only [List.getElem_toArray, List.getElem_cons_succ, List.getElem_cons_zero, Act.put, List.setIfInBounds_toArray, List.set_cons_zero, List.set_cons_succ]
             refine tkH (i := 8) (v := undef) (hy := Or.inr ⟨by rfl, rfl⟩) (h := ?_)
             try simp only [List.getElem_toArray, List.getElem_cons_succ, List.getElem_cons_zero, Act.put, List.setIfInBounds_toArray, List.set_cons_zero, List.set_cons_succ]
             refine tkH (i := 9) (v := undef) (hy := Or.inr ⟨by rfl, rfl⟩) (h := ?_)
             try simp only [List.getElem_toArray, List.getElem_cons_succ, List.getElem_cons_zero, Act.put, List.setIfInBounds_toArray, List.set_cons_zero, List.set_cons_succ]
             refine tkH (i := 10) (v := undef) (hy := Or.inr ⟨by rfl, rfl⟩) (h := ?_)
             try simp only [List.getElem_toArray, List.getElem_cons_succ, List.getElem_cons_zero, Act.put, List.setIfInBounds_toArray, List.set_cons_zero, List.set_cons_succ]
             refine tkH (i := 11) (v := undef) (hy := Or.inr ⟨by rfl, rfl⟩) (h := ?_)
             try simp only [List.getElem_toArray, List.getElem_cons_succ, List.getElem_cons_zero, Act.put, List.setIfInBounds_toArray, List.set_cons_zero, List.set_cons_succ]
             refine tkH (i := 12) (v := undef) (hy := Or.inr ⟨by rfl, rfl⟩) (h := ?_)
             try simp only [List.getElem_toArray, List.getElem_cons_succ, List.getElem_cons_zero, Act.put, List.setIfInBounds_toArray, List.set_cons_zero, List.set_cons_succ]
             refine tkH (i := 13) (v := undef) (hy := Or.inr ⟨by rfl, rfl⟩) (h := ?_)
             try simp only [List.getElem_toArray, List.getElem_cons_succ, List.getElem_cons_zero, Act.put, List.setIfInBounds_toArray, List.set_cons_zero, List.set_cons_succ]
             refine tkH (i := 14) (v := undef) (hy := Or.inr ⟨by rfl, rfl⟩) (h := ?_)
             try simp only [List.getElem_toArray, List.getElem_cons_succ, List.getElem_cons_zero, Act.put, List.setIfInBounds_toArray, List.set_cons_zero, List.set_cons_succ]
             refine tkH (i := 15) (v := undef) (hy := Or.inr ⟨by rfl, rfl⟩) (h := ?_)
             try simp only [List.getElem_toArray, List.getElem_cons_succ, List.getElem_cons_zero, Act.put, List.setIfInBounds_toArray, List.set_cons_zero, List.set_cons_succ]
             refine tkH (i := 16) (v := undef) (hy := Or.inr ⟨by rfl, rfl⟩) (h := ?_)
             try simp only [List.getElem_toArray, List.getElem_cons_succ, List.getElem_cons_zero, Act.put, List.setIfInBounds_toArray, List.set_cons_zero, List.set_cons_succ]
             refine tkH (i := 17) (v := undef) (hy := Or.inr ⟨by rfl, rfl⟩) (h := ?_)
             try simp only [List.getElem_toArray, List.getElem_cons_succ, List.getElem_cons_zero, Act.put, List.setIfInBounds_toArray, List.set_cons_zero, List.set_cons_succ]
             refine tkH (i := 18) (v := undef) (hy := Or.inr ⟨by rfl, rfl⟩) (h := ?_)
             try simp only [List.getElem_toArray, List.getElem_cons_succ, List.getElem_cons_zero, Act.put, List.setIfInBounds_toArray, List.set_cons_zero, List.set_cons_succ]
             refine tkH (i := 19) (v := undef) (hy := Or.inr ⟨by rfl, rfl⟩) (h := ?_)
             try simp only [List.getElem_toArray, List.getElem_cons_succ, List.getElem_cons_zero, Act.put, List.setIfInBounds_toArray, List.set_cons_zero, List.set_cons_succ]
             refine tkH (i := 20) (v := undef) (hy := Or.inr ⟨by rfl, rfl⟩) (h := ?_)
             try simp only [List.getElem_toArray, List.getElem_cons_succ, List.getElem_cons_zero, Act.put, List.setIfInBounds_toArray, List.set_cons_zero, List.set_cons_succ]
             refine tkH (i := 21) (v := undef) (hy := Or.inr ⟨by rfl, rfl⟩) (h := ?_)
             try simp only [List.getElem_toArray, List.getElem_cons_succ, List.getElem_cons_zero, Act.put, List.setIfInBounds_toArray, List.set_cons_zero, List.set_cons_succ]
             refine tkH (i := 22) (v := undef) (hy := Or.inr ⟨by rfl, rfl⟩) (h := ?_)
             try simp only [List.getElem_toArray, List.getElem_cons_succ, List.getElem_cons_zero, Act.put, List.setIfInBounds_toArray, List.set_cons_zero, List.set_cons_succ]
             refine tkH (i := 23) (v := undef) (hy := Or.inr ⟨by rfl, rfl⟩) (h := ?_)
             try simp only [List.getElem_toArray, List.getElem_cons_succ, List.getElem_cons_zero, Act.put, List.setIfInBounds_toArray, List.set_cons_zero, List.set_cons_succ]
             refine tkH (i := 24) (v := undef) (hy := Or.inr ⟨by rfl, rfl⟩) (h := ?_)
             try simp only [List.getElem_toArray, List.getElem_cons_succ, List.getElem_cons_zero, Act.put, List.setIfInBounds_toArray, List.set_cons_zero, List.set_cons_succ]
             refine tkH (i := 25) (v := undef) (hy := Or.inr ⟨by rfl, rfl⟩) (h := ?_)
             try simp only [List.getElem_toArray, List.getElem_cons_succ, List.getElem_cons_zero, Act.put, List.setIfInBounds_toArray, List.set_cons_zero, List.set_cons_succ]
             refine tkH (i := 26) (v := undef) (hy := Or.inr ⟨by rfl, rfl⟩) (h := ?_)
             try simp only [List.getElem_toArray, List.getElem_cons_succ, List.getElem_cons_zero, Act.put, List.setIfInBounds_toArray, List.set_cons_zero, List.set_cons_succ]
             refine tkH (i := 27) (v := undef) (hy := Or.inr ⟨by rfl, rfl⟩) (h := ?_)
             try simp only [List.getElem_toArray, List.getElem_cons_succ, List.getElem_cons_zero, Act.put, List.setIfInBounds_toArray, List.set_cons_zero, List.set_cons_succ]
             refine tkH (i := 28) (v := undef) (hy := Or.inr ⟨by rfl, rfl⟩) (h := ?_)
             try simp only [List.getElem_toArray, List.getElem_cons_succ, List.getElem_cons_zero, Act.put, List.setIfInBounds_toArray, List.set_cons_zero, List.set_cons_succ]
             refine tkH (i := 29) (v := undef) (hy := Or.inr ⟨by rfl, rfl⟩) (h := ?_)
             try simp only [List.getElem_toArray, List.getElem_cons_succ, List.getElem_cons_zero, Act.put, List.setIfInBounds_toArray, List.set_cons_zero, List.set_cons_succ]
             refine tkH (i := 30) (v := undef) (hy := Or.inr ⟨by rfl, rfl⟩) (h := ?_)
             try simp only [List.getElem_toArray, List.getElem_cons_succ, List.getElem_cons_zero, Act.put, List.setIfInBounds_toArray, List.set_cons_zero, List.set_cons_succ]
             refine tkH (i := 31) (v := undef) (hy := Or.inr ⟨by rfl, rfl⟩) (h := ?_)
             try simp only [List.getElem_toArray, List.getElem_cons_succ, List.getElem_cons_zero, Act.put, List.setIfInBounds_toArray, List.set_cons_zero, List.set_cons_succ]
             refine tkH (i := 32) (v := undef) (hy := Or.inr ⟨by rfl, rfl⟩) (h := ?_)
             try simp only [List.getElem_toArray, List.getElem_cons_succ, List.getElem_cons_zero, Act.put, List.setIfInBounds_toArray, List.set_cons_zero, List.set_cons_succ]
             refine tkH (i := 33) (v := undef) (hy := Or.inr ⟨by rfl, rfl⟩) (h := ?_)
             try simp only [List.getElem_toArray, List.getElem_cons_succ, List.getElem_cons_zero, Act.put, List.setIfInBounds_toArray, List.set_cons_zero, List.set_cons_succ]
             refine tkH (i := 34) (v := undef) (hy := Or.inr ⟨by rfl, rfl⟩) (h := ?_)
             try simp only [List.getElem_toArray, List.getElem_cons_succ, List.getElem_cons_zero, Act.put, List.setIfInBounds_toArray, List.set_cons_zero, List.set_cons_succ]
             refine tkH (i := 35) (v := ?_) (hy := Or.inl ⟨by rfl, ?_⟩) (h := ?_)
             rotate_left
             · (intro w0 hSw; (try dsimp only at hSw); go_simp; try with_reducible rfl)
             try simp only [List.getElem_toArray, List.getElem_cons_succ, List.getElem_cons_zero, Act.put, List.setIfInBounds_toArray, List.set_cons_zero, List.set_cons_succ]
             refine wpAnyH_done (by kernel_rfl) ?_ _
             clear hHeld
             go_wp2_with fail
             go_roundw
             case rel => exact ⟨k + 1, by omega, by go_num, E1.out⟩
             case measure => simp [RowKit.intOf]; omega
           | true =>
             have HD := Lib.hid hd
             have hss := SS.out hd
             have YC := Lib.hid (show ∀ W, Below X4.heap.size X4 W → W.cell? ⟨r2, k * 13 + 1, none⟩ = some (.int .i64 x.st) ∧ W.cell? ⟨r2, k * 13 + 2, none⟩ = some (.int .i64 x.rs) ∧ W.cell? ⟨r1, k * 13 + 1, none⟩ = some (.int .i64 x.st) ∧ W.cell? ⟨r1, k * 13 + 2, none⟩ = some (.int .i64 x.rs) from fun W hW =>
               ⟨by rw [← hss.1]; exact KY.out W hW 1 _ rfl, by rw [← hss.2]; exact KY.out W hW 2 _ rfl, KX.out W hW 1 _ rfl, KX.out W hW 2 _ rfl⟩)
             clear hd c8 hss
             refine wp_region_held_drew (S := fun w' => w'.cell? ⟨p8, 2, none⟩ = some (.slice (some ⟨r1, 0, none⟩) N1 N1) ∧ w'.cell? ⟨p9, 2, none⟩ = some (.slice (some ⟨r2, 0, none⟩) N2 N2) ∧ w'.cell? ⟨r2, k * 13 + 1, none⟩ = some (.int .i64 x.st) ∧ w'.cell? ⟨r2, k * 13 + 2, none⟩ = some (.int .i64 x.rs) ∧ w'.cell? ⟨r1, k * 13 + 1, none⟩ = some (.int .i64 x.st) ∧ w'.cell? ⟨r1, k * 13 + 2, none⟩ = some (.int .i64 x.rs) ∧ Below X4.heap.size X4 w') (by kernel_rfl) ⟨(C8.out _ EY.out.drew).1, (C8.out _ EY.out.drew).2, (YC.out _ EY.out.drew).1, (YC.out _ EY.out.drew).2.1, (YC.out _ EY.out.drew).2.2.1, (YC.out _ EY.out.drew).2.2.2, EY.out.drew⟩ (fun hHeld => ?_)
             generalize Y.drew = Y0 at hHeld ⊢
             refine tkH (i := 0) (v := ?_) (hy := Or.inl ⟨by rfl, ?_⟩) (h := ?_)
             rotate_left
             · (intro w0 hSw; (try dsimp only at hSw); go_simp; try with_reducible rfl)
             try simp only [List.getElem_toArray, List.getElem_cons_succ, List.getElem_cons_zero, Act.put, List.setIfInBounds_toArray, List.set_cons_zero, List.set_cons_succ]
             refine tkH (i := 1) (v := ?_) (hy := Or.inl ⟨by rfl, ?_⟩) (h := ?_)
             rotate_left
             · (intro w0 hSw; (try dsimp only at hSw); go_simp; try with_reducible rfl)
             try simp only [List.getElem_toArray, List.getElem_cons_succ, List.getElem_cons_zero, Act.put, List.setIfInBounds_toArray, List.set_cons_zero, List.set_cons_succ]
             refine tkH (i := 2) (v := ?_) (hy := Or.inl ⟨by rfl, ?_⟩) (h := ?_)
             rotate_left
             · (intro w0 hSw; (try dsimp only at hSw); go_simp; try with_reducible rfl)
             try simp only [List.getElem_toArray, List.getElem_cons_succ, List.getElem_cons_zero, Act.put, List.setIfInBounds_toArray, List.set_cons_zero, List.set_cons_succ]
             refine tkH (i := 3) (v := ?_) (hy := Or.inl ⟨by rfl, ?_⟩) (h := ?_)
             rotate_left
             · (intro w0 hSw; (try dsimp only at hSw); go_simp; try with_reducible rfl)
             try simp only [List.getElem_toArray, List.getElem_cons_succ, List.getElem_cons_zero, Act.put, List.setIfInBounds_toArray, List.set_cons_zero, List.set_cons_succ]
             refine tkH (i := 4) (v := .agg (trc x sx)) (hy := Or.inl ⟨by rfl, fun w0 hSw => exec_load (x := .tmp 65) rfl (ad := ⟨r1, k * 13, none⟩) rfl (run_loadVar_cells w0 _ _ (trv (x, sx)) _ (TxR.row (KX.out _ hSw.2.2.2.2.2.2)) Tryz.underlying62 rfl (trv_info (x, sx)))⟩) (h := ?_)
             try simp only [List.getElem_toArray, List.getElem_cons_succ, List.getElem_cons_zero, Act.put, List.setIfInBounds_toArray, List.set_cons_zero, List.set_cons_succ]
             refine wpAnyH_ready (rs := [5]) (by kernel_rfl) (by simp) ?_
             refine AllReadyH.cons rfl (fun K hK => ?_) AllReadyH.nil
             go_simp
             have ED := Lib.hid hHeld.2.2.2.2.2.2
             refine (decided_b x sx _ true HD.out).mono ?_
             rintro e Y1 ⟨rfl, hb⟩
             try go_simp
             have E1 := Lib.hid (stepB ED.out hb)
             clear hb
             refine hK.out _ _ ⟨(C8.out _ E1.out).1, (C8.out _ E1.out).2, (YC.out _ E1.out).1, (YC.out _ E1.out).2.1, (YC.out _ E1.out).2.2.1, (YC.out _ E1.out).2.2.2, E1.out⟩ (fun hHeld => ?_)
             clear hK K
             refine tkH (i := 6) (v := ?_) (hy := Or.inl ⟨by rfl, ?_⟩) (h := ?_)
             rotate_left
             · (intro w0 hSw; (try dsimp only at hSw); go_simp; try with_reducible rfl)
             try simp only [List.getElem_toArray, List.getElem_cons_succ, List.getElem_cons_zero, Act.put, List.setIfInBounds_toArray, List.set_cons_zero, List.set_cons_succ]
             refine tkH (i := 7) (v := ?_) (hy := Or.inl ⟨by rfl, ?_⟩) (h := ?_)
             rotate_left
             · (intro w0 hSw; (try dsimp only at hSw); go_simp; try with_reducible rfl)
             try simp only [List.getElem_toArray, List.getElem_cons_succ, List.getElem_cons_zero, Act.put, List.setIfInBounds_toArray, List.set_cons_zero, List.set_cons_succ]
             refine tkH (i := 8) (v := ?_) (hy := Or.inl ⟨by rfl, ?_⟩) (h := ?_)
             rotate_left
             · (intro w0 hSw; (try dsimp only at hSw); go_simp; try with_reducible rfl)
             try simp only [List.getElem_toArray, List.getElem_cons_succ, List.getElem_cons_zero, Act.put, List.setIfInBounds_toArray, List.set_cons_zero, List.set_cons_succ]
             refine tkH (i := 9) (v := ?_) (hy := Or.inl ⟨by rfl, ?_⟩) (h := ?_)
             rotate_left
             · (intro w0 hSw; (try dsimp only at hSw); go_simp; try with_reducible rfl)
             try simp only [List.getElem_toArray, List.getElem_cons_succ, List.getElem_cons_zero, Act.put, List.setIfInBounds_toArray, List.set_cons_zero, List.set_cons_succ]
             refine tkH (i := 10) (v := ?_) (hy := Or.inl ⟨by rfl, ?_⟩) (h := ?_)
             rotate_left
             · (intro w0 hSw; (try dsimp only at hSw); go_simp; try with_reducible rfl)
             try simp only [List.getElem_toArray, List.getElem_cons_succ, List.getElem_cons_zero, Act.put, List.setIfInBounds_toArray, List.set_cons_zero, List.set_cons_succ]
             refine tkH (i := 11) (v := ?_) (hy := Or.inl ⟨by rfl, ?_⟩) (h := ?_)
             rotate_left
             · (intro w0 hSw; (try dsimp only at hSw); go_simp; try with_reducible rfl)
             try simp only [List.getElem_toArray, List.getElem_cons_succ, List.getElem_cons_zero, Act.put, List.setIfInBounds_toArray, List.set_cons_zero, List.set_cons_succ]
             refine tkH (i := 12) (v := ?_) (hy := Or.inl ⟨by rfl, ?_⟩) (h := ?_)
             rotate_left
             · (intro w0 hSw; (try dsimp only at hSw); go_simp; try with_reducible rfl)
             try simp only [List.getElem_toArray, List.getElem_cons_succ, List.getElem_cons_zero, Act.put, List.setIfInBounds_toArray, List.set_cons_zero, List.set_cons_succ]
             refine tkH (i := 13) (v := ?_) (hy := Or.inl ⟨by rfl, ?_⟩) (h := ?_)
             rotate_left
             · (intro w0 hSw; (try dsimp only at hSw); go_simp; try with_reducible rfl)
             try simp only [List.getElem_toArray, List.getElem_cons_succ, List.getElem_cons_zero, Act.put, List.setIfInBounds_toArray, List.set_cons_zero, List.set_cons_succ]
             refine tkH (i := 14) (v := ?_) (hy := Or.inl ⟨by rfl, ?_⟩) (h := ?_)
             rotate_left
             · (intro w0 hSw; (try dsimp only at hSw); go_simp; try with_reducible rfl)
             try simp only [List.getElem_toArray, List.getElem_cons_succ, List.getElem_cons_zero, Act.put, List.setIfInBounds_toArray, List.set_cons_zero, List.set_cons_succ]
             refine tkH (i := 15) (v := ?_) (hy := Or.inl ⟨by rfl, ?_⟩) (h := ?_)
             rotate_left
             · (intro w0 hSw; (try dsimp only at hSw); go_simp; try with_reducible rfl)
             try simp only [List.getElem_toArray, List.getElem_cons_succ, List.getElem_cons_zero, Act.put, List.setIfInBounds_toArray, List.set_cons_zero, List.set_cons_succ]
             refine tkH (i := 16) (v := ?_) (hy := Or.inl ⟨by rfl, ?_⟩) (h := ?_)
             rotate_left
             · (intro w0 hSw; (try dsimp only at hSw); go_simp; try with_reducible rfl)
             try simp only [List.getElem_toArray, List.getElem_cons_succ, List.getElem_cons_zero, Act.put, List.setIfInBounds_toArray, List.set_cons_zero, List.set_cons_succ]
             refine tkH (i := 17) (v := ?_) (hy := Or.inl ⟨by rfl, ?_⟩) (h := ?_)
             rotate_left
             · (intro w0 hSw; (try dsimp only at hSw); go_simp; try with_reducible rfl)
             try simp only [List.getElem_toArray, List.getElem_cons_succ, List.getElem_cons_zero, Act.put, List.setIfInBounds_toArray, List.set_cons_zero, List.set_cons_succ]
             refine tkH (i := 18) (v := ?_) (hy := Or.inl ⟨by rfl, ?_⟩) (h := ?_)
             rotate_left
             · (intro w0 hSw; (try dsimp only at hSw); go_simp; try with_reducible rfl)
             try simp only [List.getElem_toArray, List.getElem_cons_succ, List.getElem_cons_zero, Act.put, List.setIfInBounds_toArray, List.set_cons_zero, List.set_cons_succ]
             refine tkH (i := 19) (v := ?_) (hy := Or.inl ⟨by rfl, ?_⟩) (h := ?_)
             rotate_left
             · (intro w0 hSw; (try dsimp only at hSw); go_simp; try with_reducible rfl)
             try simp only [List.getElem_toArray, List.getElem_cons_succ, List.getElem_cons_zero, Act.put, List.setIfInBounds_toArray, List.set_cons_zero, List.set_cons_succ]
             refine tkH (i := 20) (v := ?_) (hy := Or.inl ⟨by rfl, ?_⟩) (h := ?_)
             rotate_left
             · (intro w0 hSw; (try dsimp only at hSw); go_simp; try with_reducible rfl)
             try simp only [List.getElem_toArray, List.getElem_cons_succ, List.getElem_cons_zero, Act.put, List.setIfInBounds_toArray, List.set_cons_zero, List.set_cons_succ]
             refine tkH (i := 21) (v := ?_) (hy := Or.inl ⟨by rfl, ?_⟩) (h := ?_)
             rotate_left
             · (intro w0 hSw; (try dsimp only at hSw); go_simp; try with_reducible rfl)
             try simp only [List.getElem_toArray, List.getElem_cons_succ, List.getElem_cons_zero, Act.put, List.setIfInBounds_toArray, List.set_cons_zero, List.set_cons_succ]
             refine tkH (i := 22) (v := ?_) (hy := Or.inl ⟨by rfl, ?_⟩) (h := ?_)
             rotate_left
             · (intro w0 hSw; (try dsimp only at hSw); go_simp; try with_reducible rfl)
             try simp only [List.getElem_toArray, List.getElem_cons_succ, List.getElem_cons_zero, Act.put, List.setIfInBounds_toArray, List.set_cons_zero, List.set_cons_succ]
             refine tkH (i := 23) (v := ?_) (hy := Or.inl ⟨by rfl, ?_⟩) (h := ?_)
             rotate_left
             · (intro w0 hSw; (try dsimp only at hSw); go_simp; try with_reducible rfl)
             try simp only [List.getElem_toArray, List.getElem_cons_succ, List.getElem_cons_zero, Act.put, List.setIfInBounds_toArray, List.set_cons_zero, List.set_cons_succ]
             refine tkH (i := 24) (v := ?_) (hy := Or.inl ⟨by rfl, ?_⟩) (h := ?_)
             rotate_left
             · (intro w0 hSw; (try dsimp only at hSw); go_simp; try with_reducible rfl)
             try simp only [List.getElem_toArray, List.getElem_cons_succ, List.getElem_cons_zero, Act.put, List.setIfInBounds_toArray, List.set_cons_zero, List.set_cons_succ]
             refine tkH (i := 25) (v := ?_) (hy := Or.inl ⟨by rfl, ?_⟩) (h := ?_)
             rotate_left
             · (intro w0 hSw; (try dsimp only at hSw); go_simp; try with_reducible rfl)
             try simp only [List.getElem_toArray, List.getElem_cons_succ, List.getElem_cons_zero, Act.put, List.setIfInBounds_toArray, List.set_cons_zero, List.set_cons_succ]
             refine tkH (i := 26) (v := ?_) (hy := Or.inl ⟨by rfl, ?_⟩) (h := ?_)
             rotate_left
             · (intro w0 hSw; (try dsimp only at hSw); go_simp; try with_reducible rfl)
             try simp only [List.getElem_toArray, List.getElem_cons_succ, List.getElem_cons_zero, Act.put, List.setIfInBounds_toArray, List.set_cons_zero, List.set_cons_succ]
             refine tkH (i := 27) (v := ?_) (hy := Or.inl ⟨by rfl, ?_⟩) (h := ?_)
             rotate_left
             · (intro w0 hSw; (try dsimp only at hSw); go_simp; try with_reducible rfl)
             try simp only [List.getElem_toArray, List.getElem_cons_succ, List.getElem_cons_zero, Act.put, List.setIfInBounds_toArray, List.set_cons_zero, List.set_cons_succ]
             refine tkH (i := 28) (v := ?_) (hy := Or.inl ⟨by rfl, ?_⟩) (h := ?_)
             rotate_left
             · (intro w0 hSw; (try dsimp only at hSw); go_simp; try with_reducible rfl)
             try simp only [List.getElem_toArray, List.getElem_cons_succ, List.getElem_cons_zero, Act.put, List.setIfInBounds_toArray, List.set_cons_zero, List.set_cons_succ]
             refine tkH (i := 29) (v := ?_) (hy := Or.inl ⟨by rfl, ?_⟩) (h := ?_)
             rotate_left
             · (intro w0 hSw; (try dsimp only at hSw); go_simp; try with_reducible rfl)
             try simp only [List.getElem_toArray, List.getElem_cons_succ, List.getElem_cons_zero, Act.put, List.setIfInBounds_toArray, List.set_cons_zero, List.set_cons_succ]
             refine tkH (i := 30) (v := ?_) (hy := Or.inl ⟨by rfl, ?_⟩) (h := ?_)
             rotate_left
             · (intro w0 hSw; (try dsimp only at hSw); go_simp; try with_reducible rfl)
             try simp only [List.getElem_toArray, List.getElem_cons_succ, List.getElem_cons_zero, Act.put, List.setIfInBounds_toArray, List.set_cons_zero, List.set_cons_succ]
             refine tkH (i := 31) (v := ?_) (hy := Or.inl ⟨by rfl, ?_⟩) (h := ?_)
             rotate_left
             · (intro w0 hSw; (try dsimp only at hSw); go_simp; try with_reducible rfl)
             try simp only [List.getElem_toArray, List.getElem_cons_succ, List.getElem_cons_zero, Act.put, List.setIfInBounds_toArray, List.set_cons_zero, List.set_cons_succ]
             refine tkH (i := 32) (v := ?_) (hy := Or.inl ⟨by rfl, ?_⟩) (h := ?_)
             rotate_left
             · (intro w0 hSw; (try dsimp only at hSw); go_simp; try with_reducible rfl)
             try simp only [List.getElem_toArray, List.getElem_cons_succ, List.getElem_cons_zero, Act.put, List.setIfInBounds_toArray, List.set_cons_zero, List.set_cons_succ]
             refine tkH (i := 33) (v := ?_) (hy := Or.inl ⟨by rfl, ?_⟩) (h := ?_)
             rotate_left
             · (intro w0 hSw; (try dsimp only at hSw); go_simp; try with_reducible rfl)
             try simp only [List.getElem_toArray, List.getElem_cons_succ, List.getElem_cons_zero, Act.put, List.setIfInBounds_toArray, List.set_cons_zero, List.set_cons_succ]
             refine tkH (i := 34) (v := ?_) (hy := Or.inl ⟨by rfl, ?_⟩) (h := ?_)
             rotate_left
             · (intro w0 hSw; (try dsimp only at hSw); go_simp; try with_reducible rfl)
             try simp only [List.getElem_toArray, List.getElem_cons_succ, List.getElem_cons_zero, Act.put, List.setIfInBounds_toArray, List.set_cons_zero, List.set_cons_succ]
             refine tkH (i := 35) (v := ?_) (hy := Or.inl ⟨by rfl, ?_⟩) (h := ?_)
             rotate_left
             · (intro w0 hSw; (try dsimp only at hSw); go_simp; try with_reducible rfl)
             try simp only [List.getElem_toArray, List.getElem_cons_succ, List.getElem_cons_zero, Act.put, List.setIfInBounds_toArray, List.set_cons_zero, List.set_cons_succ]
             refine wpAnyH_done (by kernel_rfl) ?_ _
             clear hHeld
             go_wp2_with fail
             go_roundw
             case rel => exact ⟨k + 1, by omega, by go_num, E1.out⟩
             case measure => simp [RowKit.intOf]; omega
         · obtain rfl : k = N1 := by omega
           have d4 : decide ((k : Int) < (k : Int)) = false := by simp
           go_wp2_with fail
           go_roundw
           case rel => exact ⟨m + 1, P2, by omega, by go_num, by rw [HS.out]; exact M4.out.step EY.out, O2.out, stepB B4.out EY.out⟩
           case measure => simp [RowKit.intOf]; omega
     · obtain rfl : m = n := by omega
       have d3 : decide ((m : Int) < (m : Int)) = false := by simp
       obtain ⟨c, hc⟩ : ∃ c, c = runC 3 (newCo (cfF b0) 3) l m := ⟨_, rfl⟩
       have CA := Lib.hid (show CoA 3 m c from by rw [hc]; exact CoA.run (CoA.start 3 b0 (by omega)) l m (by omega))
       have TT := Lib.hid (show TI 3 c from by rw [hc]; exact TI.run (CoA.start 3 b0 (by omega)) (TI.new 3 (cfF b0)) l m (by omega))
       rw [← hc] at hM
       have MX := Lib.hid hM
       clear hM hc hB hO
       obtain ⟨N1, hN1⟩ : ∃ N1, c.txs.length = N1 := ⟨_, rfl⟩
       have HN1 := Lib.hid hN1
       have hl1 : N1 ≤ 900 := by have := CA.out.k.len; omega
       obtain ⟨L, hL⟩ : ∃ L, c.ev.length = L := ⟨_, rfl⟩
       have HLL := Lib.hid hL
       have hL1 : L ≤ 1800 := by have := CA.out.k.ev; omega
       have H7 := Lib.hid (show ∀ e ∈ c.ev, e.length = 7 from fun e he => (TT.out.sv e he).1)
       clear hN1 hL
       go_upto_region 22 with (go_at_call 19; refine (view_N N1 HN1.out _ MX.out (CA.out.k.good (by omega))).mono ?_; rintro e X1 ⟨r1, L1, ve1, rfl, _, hev, hb⟩; rw [HLL.out] at hev; obtain ⟨eA, ec, rfl⟩ := own_len hev; have RW := Lib.hid hev; have B1 := Lib.hid (stepB BX.out hb); clear hev hb)
       obtain ⟨be, hbe⟩ : ∃ be, be = X1.heap.size := ⟨_, rfl⟩
       go_upto_region 24 with fail
       have ME := Lib.hid ((mapV_made X1).alloc (.map #[] 0))
       have MW := Lib.hid (show MapV ((X1.alloc (.map #[] 0)).alloc (.map #[] 0)) (X1.heap.size + 1) 0 (fun _ => none) from by have := mapV_made (X1.alloc (.map #[] 0)); simpa using this)
       have RA := Lib.hid (own_step (own_step RW.out (Joins.below_alloc1 X1 (.map #[] 0))) (Joins.below_alloc1 _ (.map #[] 0)))
       have BA := Lib.hid (stepA (stepA B1.out (.map #[] 0)) (.map #[] 0))
       have GE := Lib.hid (show w.heap.size ≤ be from by rw [hbe]; exact B1.out.size)
       rw [← hbe] at ME MW ⊢
       clear hbe
       generalize (X1.alloc (.map #[] 0)).alloc (.map #[] 0) = XA at ME MW RA BA ⊢
       go_wp2_with fail
       go_loopw [14] (fun i wr => ∃ (p : Nat) (fE fW : Int → Option Value), p ≤ L ∧ i = .int .i64 p ∧ wr.ownsRow X.heap.size 65 7 (.slice eA L ec) L (ints c.ev.flatten) ∧ MapV wr be p fE ∧ MapV wr (be + 1) p fW ∧
         (∀ t, (fE t).getD (.int .i64 0) = .int .i64 ((trF (c.ev.take p)).1 t)) ∧ (∀ t, (fW t).getD (.int .i64 0) = .int .i64 ((trF (c.ev.take p)).2 t)) ∧ Below w.heap.size w wr) (fun i _ => L - (RowKit.intOf i).toNat)
       case atStart => exact ⟨0, _, _, Nat.zero_le _, rfl, RA.out, ME.out, MW.out, fun _ => rfl, fun _ => rfl, BA.out⟩
       case round =>
         rename World => Z
         obtain ⟨p, fE, fW, hp, rfl, hrw, hme, hmw, hfe, hfw, hbz⟩ := hrel
         have RZ := Lib.hid hrw
         have EZ := Lib.hid hme
         have WZ := Lib.hid hmw
         have FE := Lib.hid hfe
         have FW := Lib.hid hfw
         have BZ := Lib.hid hbz
         clear hrw hme hmw hfe hfw hbz
         by_cases hpL : p < L
         · have d4 : decide ((p : Int) < (L : Int)) = true := by simp; omega
           have d5 : (p : Int) < (L : Int) := by omega
           obtain ⟨bt, toff, rfl, _, hcl, _⟩ := (Reads.of_own RZ.out).flat_at H7.out HLL.out (by omega) hpL
           have hpl : p < c.ev.length := by rw [HLL.out]; exact hpL
           have hget : c.ev[p]? = some (c.ev.getD p []) := by rw [List.getD_eq_getElem?_getD, List.getElem?_eq_getElem hpl]; rfl
           have OK := Lib.hid (TT.out.ok p _ hget)
           have SV := Lib.hid (TT.out.sv _ (List.mem_of_getElem? hget))
           have SN := Lib.hid (show trF (c.ev.take (p + 1)) = trS (trF (c.ev.take p)) (c.ev.getD p []) from by rw [take_snoc hpl, trF_add])
           have W2 := Lib.hid (fun t => trF_bd2 (n := 3) (k := N1) (c.ev.take p) (fun _ => 0, fun _ => 0) (fun _ => ⟨Int.le_refl _, by show (0 : Int) ≤ (N1 : Int); omega⟩) (fun e he => by rw [← HN1.out]; exact TT.out.sv e (List.mem_of_mem_take he)) t)
           have EC := Lib.hid (fun (W : World) (h : W.ownsRow X.heap.size 65 7 (.slice (some ⟨bt, toff, none⟩) L ec) L (ints c.ev.flatten)) => ev_at h H7.out HLL.out hpL)
           obtain ⟨s, hs⟩ : ∃ s, s = trF (c.ev.take p) := ⟨_, rfl⟩
           have W3 := Lib.hid (show ∀ t, 0 ≤ s.2 t ∧ s.2 t ≤ (N1 : Int) from fun t => by rw [hs]; exact W2.out t)
           rw [← hs] at OK SN FE FW
           clear hs W2 hget hpl
           generalize c.ev.getD p [] = e at OK SV SN EC hcl
           have hc0 : Z.cell? ⟨bt, toff + p * 7, none⟩ = some (.int .i64 (fld e 0)) := hcl 0 (by omega)
           have hc1 : Z.cell? ⟨bt, toff + p * 7 + 1, none⟩ = some (.int .i64 (fld e 1)) := hcl 1 (by omega)
           have hc2 : Z.cell? ⟨bt, toff + p * 7 + 2, none⟩ = some (.int .i64 (fld e 2)) := hcl 2 (by omega)
           have TW := Lib.hid (show (Lit.int .i64 (fld e 2)).wf = true from wfD_small (by have := SV.out.2.1; have := HN1.out; omega))
           clear hcl
           obtain ⟨kd, hkd⟩ : ∃ kd, fld e 0 = kd := ⟨_, rfl⟩
           obtain ⟨cc, hcc⟩ : ∃ cc, fld e 1 = cc := ⟨_, rfl⟩
           obtain ⟨tx, htx⟩ : ∃ tx, fld e 2 = tx := ⟨_, rfl⟩
           have HKD := Lib.hid hkd
           have HCC := Lib.hid hcc
           have HTX := Lib.hid htx
           rw [hkd] at hc0
           rw [hcc] at hc1
           rw [htx] at hc2 TW
           clear hkd hcc htx
           by_cases h8 : kd = 8
           · have SN2 := Lib.hid (show trF (c.ev.take (p + 1)) = s from by rw [SN.out]; unfold trS; rw [if_pos (by rw [HKD.out]; exact h8)])
             have f8 : (kd == 8) = true := by simp [h8]
             go_wp2_with fail
             go_roundw
             case rel => exact ⟨p + 1, fE, fW, by omega, by go_num, RZ.out, EZ.out.more (by omega), WZ.out.more (by omega), by rw [SN2.out]; exact FE.out, by rw [SN2.out]; exact FW.out, BZ.out⟩
             case measure => simp [RowKit.intOf]; omega
           · have f8 : (kd == 8) = false := by simp [h8]
             have hok := OK.out.resolve_left (by rw [HKD.out]; exact h8)
             have E0 := Lib.hid (show s.1 tx = 0 from by rw [← HTX.out]; exact hok.1)
             have hl := EZ.out.look Tryz.underlying63 (zeroIntD Z) TW.out
             rw [FE.out tx, E0.out] at hl
             by_cases h1 : kd = 1
             · have f1 : (kd == 1) = true := by simp [h1]
               have hok2 := hok.2 (by rw [HKD.out]; exact h1)
               rw [HCC.out] at hok2
               have CB := Lib.hid (show (Lit.int .i64 cc).wf = true from wfD_small (by have := SV.out.2.2 (by rw [HKD.out]; exact h1); have := HCC.out; omega))
               have hlw := WZ.out.look Tryz.underlying63 (zeroIntD Z) CB.out
               rw [FW.out cc] at hlw
               have SN2 := Lib.hid (show trF (c.ev.take (p + 1)) = (s.1, fun k => if k = cc then tx else s.2 k) from by rw [SN.out]; unfold trS; rw [if_neg (by rw [HKD.out]; omega), if_pos (by rw [HKD.out]; exact h1), HCC.out, HTX.out])
               have WS := Lib.hid (wfD_small (x := s.2 cc) (by have := W3.out cc; omega))
               have hlv := EZ.out.look Tryz.underlying63 (zeroIntD Z) WS.out
               rw [FE.out] at hlv
               have H32 := Lib.hid (show s.2 cc = 0 ∨ s.1 (s.2 cc) ≠ 0 from hok2)
               clear hok hok2
               generalize s.1 (s.2 cc) = ev0 at hlv H32
               generalize s.2 cc = wh at hlw hlv H32
               by_cases hw0 : wh = 0
               · have f9 : (wh != 0) = false := by simp [hw0]
                 clear hlv
                 go_upto_region 34 with fail
                 refine wp_region_held_drew (S := fun w' => w'.cell? ⟨bt, toff + p * 7 + 1, none⟩ = some (.int .i64 cc) ∧ w'.cell? ⟨bt, toff + p * 7 + 2, none⟩ = some (.int .i64 tx)) (by kernel_rfl) ⟨hc1, hc2⟩ (fun hHeld => ?_)
                 have RD := Lib.hid (own_step RZ.out (Below.refl _ _).drew)
                 have ED := Lib.hid (EZ.out.here (Below.refl _ _).drew)
                 have WD := Lib.hid (WZ.out.here (Below.refl _ _).drew)
                 have BD := Lib.hid BZ.out.drew
                 generalize Z.drew = Z0 at RD ED WD BD hHeld ⊢
                 refine tkH (i := 0) (v := ?_) (hy := Or.inl ⟨by rfl, ?_⟩) (h := ?_)
                 rotate_left
                 · (intro w0 hSw; (try dsimp only at hSw); go_simp; try with_reducible rfl)
                 try simp only [List.getElem_toArray, List.getElem_cons_succ, List.getElem_cons_zero, Act.put, List.setIfInBounds_toArray, List.set_cons_zero, List.set_cons_succ]
                 refine tkH (i := 1) (v := ?_) (hy := Or.inl ⟨by rfl, ?_⟩) (h := ?_)
                 rotate_left
                 · (intro w0 hSw; (try dsimp only at hSw); go_simp; try with_reducible rfl)
                 try simp only [List.getElem_toArray, List.getElem_cons_succ, List.getElem_cons_zero, Act.put, List.setIfInBounds_toArray, List.set_cons_zero, List.set_cons_succ]
                 refine tkH (i := 2) (v := ?_) (hy := Or.inl ⟨by rfl, ?_⟩) (h := ?_)
                 rotate_left
                 · (intro w0 hSw; (try dsimp only at hSw); go_simp; try with_reducible rfl)
                 try simp only [List.getElem_toArray, List.getElem_cons_succ, List.getElem_cons_zero, Act.put, List.setIfInBounds_toArray, List.set_cons_zero, List.set_cons_succ]
                 refine tkH (i := 3) (v := ?_) (hy := Or.inl ⟨by rfl, ?_⟩) (h := ?_)
                 rotate_left
                 · (intro w0 hSw; (try dsimp only at hSw); go_simp; try with_reducible rfl)
                 try simp only [List.getElem_toArray, List.getElem_cons_succ, List.getElem_cons_zero, Act.put, List.setIfInBounds_toArray, List.set_cons_zero, List.set_cons_succ]
                 refine tkH (i := 4) (v := ?_) (hy := Or.inl ⟨by rfl, ?_⟩) (h := ?_)
                 rotate_left
                 · (intro w0 hSw; (try dsimp only at hSw); go_simp; try with_reducible rfl)
                 try simp only [List.getElem_toArray, List.getElem_cons_succ, List.getElem_cons_zero, Act.put, List.setIfInBounds_toArray, List.set_cons_zero, List.set_cons_succ]
                 refine tkH (i := 5) (v := ?_) (hy := Or.inl ⟨by rfl, ?_⟩) (h := ?_)
                 rotate_left
                 · (intro w0 hSw; (try dsimp only at hSw); go_simp; try with_reducible rfl)
                 try simp only [List.getElem_toArray, List.getElem_cons_succ, List.getElem_cons_zero, Act.put, List.setIfInBounds_toArray, List.set_cons_zero, List.set_cons_succ]
                 refine tkH (i := 6) (v := ?_) (hy := Or.inl ⟨by rfl, ?_⟩) (h := ?_)
                 rotate_left
                 · (intro w0 hSw; (try dsimp only at hSw); go_simp; try with_reducible rfl)
                 try simp only [List.getElem_toArray, List.getElem_cons_succ, List.getElem_cons_zero, Act.put, List.setIfInBounds_toArray, List.set_cons_zero, List.set_cons_succ]
                 refine tkH (i := 7) (v := ?_) (hy := Or.inl ⟨by rfl, ?_⟩) (h := ?_)
                 rotate_left
                 · (intro w0 hSw; (try dsimp only at hSw); go_simp; try with_reducible rfl)
                 try simp only [List.getElem_toArray, List.getElem_cons_succ, List.getElem_cons_zero, Act.put, List.setIfInBounds_toArray, List.set_cons_zero, List.set_cons_succ]
                 refine tkH (i := 8) (v := ?_) (hy := Or.inl ⟨by rfl, ?_⟩) (h := ?_)
                 rotate_left
                 · (intro w0 hSw; (try dsimp only at hSw); go_simp; try with_reducible rfl)
                 try simp only [List.getElem_toArray, List.getElem_cons_succ, List.getElem_cons_zero, Act.put, List.setIfInBounds_toArray, List.set_cons_zero, List.set_cons_succ]
                 refine tkH (i := 9) (v := ?_) (hy := Or.inl ⟨by rfl, ?_⟩) (h := ?_)
                 rotate_left
                 · (intro w0 hSw; (try dsimp only at hSw); go_simp; try with_reducible rfl)
                 try simp only [List.getElem_toArray, List.getElem_cons_succ, List.getElem_cons_zero, Act.put, List.setIfInBounds_toArray, List.set_cons_zero, List.set_cons_succ]
                 refine tkH (i := 10) (v := ?_) (hy := Or.inl ⟨by rfl, ?_⟩) (h := ?_)
                 rotate_left
                 · (intro w0 hSw; (try dsimp only at hSw); go_simp; try with_reducible rfl)
                 try simp only [List.getElem_toArray, List.getElem_cons_succ, List.getElem_cons_zero, Act.put, List.setIfInBounds_toArray, List.set_cons_zero, List.set_cons_succ]
                 refine wpAnyH_ready (rs := [11]) (by kernel_rfl) (by simp) ?_
                 refine AllReadyH.cons rfl (fun K hK => ?_) AllReadyH.nil
                 refine step_putV (b := be + 1) (n := p) (f := fW) (k := cc) (v := .int .i64 tx) Z0 ⟨.tmp 150, .tmp 155, .tmp 160, 63, 3, rfl, Tryz.underlying63, rfl, rfl, rfl⟩ WD.out (by simp only [maxLen]; omega) CB.out ?_
                 intro W' hm hg hsz
                 have TG := Turn.grown (S := fun k => k = be + 1) (Turn.refl _ Z0) hg (fun k hk _ => by injection hk with hk; exact hk.symm)
                 have RW' := Lib.hid (own_turn RD.out TG fun k hk e => by subst e; exact WD.out.ne_row RD.out hk)
                 have EW' := Lib.hid (ED.out.turn TG (by omega))
                 have BW' := Lib.hid (BD.out.trans (TG.below (B := w.heap.size) (fun k hk e => by have := GE.out; omega) BD.out.size))
                 have HM' := Lib.hid hm
                 have q1 := EC.out W' RW'.out 1 (by omega)
                 have q2 := EC.out W' RW'.out 2 (by omega)
                 rw [HCC.out] at q1
                 rw [HTX.out] at q2
                 refine hK.out _ _ ⟨q1, q2⟩ (fun hHeld => ?_)
                 clear hK K hm hg hsz TG q1 q2
                 refine wpAnyH_done (by kernel_rfl) ?_ _
                 clear hHeld
                 go_wp2_with fail
                 go_roundw
                 case rel => exact ⟨p + 1, fE, _, by omega, by go_num, RW'.out, EW'.out.more (by omega), HM'.out, by rw [SN2.out]; exact FE.out, by
                   rw [SN2.out]
                   intro t
                   show (if t = cc then some (.int .i64 tx) else fW t : Option Value).getD (.int .i64 0) = .int .i64 (if t = cc then tx else s.2 t)
                   by_cases e1 : t = cc
                   · rw [if_pos e1, if_pos e1]; rfl
                   · rw [if_neg e1, if_neg e1]; exact FW.out t, BW'.out⟩
                 case measure => simp [RowKit.intOf]; omega
               · have f9 : (wh != 0) = true := by simp [hw0]
                 have f10 : (ev0 == 0) = false := by have := H32.out.resolve_left hw0; simpa using this
                 go_upto_region 34 with fail
                 refine wp_region_held_drew (S := fun w' => w'.cell? ⟨bt, toff + p * 7 + 1, none⟩ = some (.int .i64 cc) ∧ w'.cell? ⟨bt, toff + p * 7 + 2, none⟩ = some (.int .i64 tx)) (by kernel_rfl) ⟨hc1, hc2⟩ (fun hHeld => ?_)
                 have RD := Lib.hid (own_step RZ.out (Below.refl _ _).drew)
                 have ED := Lib.hid (EZ.out.here (Below.refl _ _).drew)
                 have WD := Lib.hid (WZ.out.here (Below.refl _ _).drew)
                 have BD := Lib.hid BZ.out.drew
                 generalize Z.drew = Z0 at RD ED WD BD hHeld ⊢
                 refine tkH (i := 0) (v := ?_) (hy := Or.inl ⟨by rfl, ?_⟩) (h := ?_)
                 rotate_left
                 · (intro w0 hSw; (try dsimp only at hSw); go_simp; try with_reducible rfl)
                 try simp only [List.getElem_toArray, List.getElem_cons_succ, List.getElem_cons_zero, Act.put, List.setIfInBounds_toArray, List.set_cons_zero, List.set_cons_succ]
                 refine tkH (i := 1) (v := ?_) (hy := Or.inl ⟨by rfl, ?_⟩) (h := ?_)
                 rotate_left
                 · (intro w0 hSw; (try dsimp only at hSw); go_simp; try with_reducible rfl)
                 try simp only [List.getElem_toArray, List.getElem_cons_succ, List.getElem_cons_zero, Act.put, List.setIfInBounds_toArray, List.set_cons_zero, List.set_cons_succ]
                 refine tkH (i := 2) (v := ?_) (hy := Or.inl ⟨by rfl, ?_⟩) (h := ?_)
                 rotate_left
                 · (intro w0 hSw; (try dsimp only at hSw); go_simp; try with_reducible rfl)
                 try simp only [List.getElem_toArray, List.getElem_cons_succ, List.getElem_cons_zero, Act.put, List.setIfInBounds_toArray, List.set_cons_zero, List.set_cons_succ]
                 refine tkH (i := 3) (v := ?_) (hy := Or.inl ⟨by rfl, ?_⟩) (h := ?_)
                 rotate_left
                 · (intro w0 hSw; (try dsimp only at hSw); go_simp; try with_reducible rfl)
                 try simp only [List.getElem_toArray, List.getElem_cons_succ, List.getElem_cons_zero, Act.put, List.setIfInBounds_toArray, List.set_cons_zero, List.set_cons_succ]
                 refine tkH (i := 4) (v := ?_) (hy := Or.inl ⟨by rfl, ?_⟩) (h := ?_)
                 rotate_left
                 · (intro w0 hSw; (try dsimp only at hSw); go_simp; try with_reducible rfl)
                 try simp only [List.getElem_toArray, List.getElem_cons_succ, List.getElem_cons_zero, Act.put, List.setIfInBounds_toArray, List.set_cons_zero, List.set_cons_succ]
                 refine tkH (i := 5) (v := ?_) (hy := Or.inl ⟨by rfl, ?_⟩) (h := ?_)
                 rotate_left
                 · (intro w0 hSw; (try dsimp only at hSw); go_simp; try with_reducible rfl)
                 try simp only [List.getElem_toArray, List.getElem_cons_succ, List.getElem_cons_zero, Act.put, List.setIfInBounds_toArray, List.set_cons_zero, List.set_cons_succ]
                 refine tkH (i := 6) (v := ?_) (hy := Or.inl ⟨by rfl, ?_⟩) (h := ?_)
                 rotate_left
                 · (intro w0 hSw; (try dsimp only at hSw); go_simp; try with_reducible rfl)
                 try simp only [List.getElem_toArray, List.getElem_cons_succ, List.getElem_cons_zero, Act.put, List.setIfInBounds_toArray, List.set_cons_zero, List.set_cons_succ]
                 refine tkH (i := 7) (v := ?_) (hy := Or.inl ⟨by rfl, ?_⟩) (h := ?_)
                 rotate_left
                 · (intro w0 hSw; (try dsimp only at hSw); go_simp; try with_reducible rfl)
                 try simp only [List.getElem_toArray, List.getElem_cons_succ, List.getElem_cons_zero, Act.put, List.setIfInBounds_toArray, List.set_cons_zero, List.set_cons_succ]
                 refine tkH (i := 8) (v := ?_) (hy := Or.inl ⟨by rfl, ?_⟩) (h := ?_)
                 rotate_left
                 · (intro w0 hSw; (try dsimp only at hSw); go_simp; try with_reducible rfl)
                 try simp only [List.getElem_toArray, List.getElem_cons_succ, List.getElem_cons_zero, Act.put, List.setIfInBounds_toArray, List.set_cons_zero, List.set_cons_succ]
                 refine tkH (i := 9) (v := ?_) (hy := Or.inl ⟨by rfl, ?_⟩) (h := ?_)
                 rotate_left
                 · (intro w0 hSw; (try dsimp only at hSw); go_simp; try with_reducible rfl)
                 try simp only [List.getElem_toArray, List.getElem_cons_succ, List.getElem_cons_zero, Act.put, List.setIfInBounds_toArray, List.set_cons_zero, List.set_cons_succ]
                 refine tkH (i := 10) (v := ?_) (hy := Or.inl ⟨by rfl, ?_⟩) (h := ?_)
                 rotate_left
                 · (intro w0 hSw; (try dsimp only at hSw); go_simp; try with_reducible rfl)
                 try simp only [List.getElem_toArray, List.getElem_cons_succ, List.getElem_cons_zero, Act.put, List.setIfInBounds_toArray, List.set_cons_zero, List.set_cons_succ]
                 refine wpAnyH_ready (rs := [11]) (by kernel_rfl) (by simp) ?_
                 refine AllReadyH.cons rfl (fun K hK => ?_) AllReadyH.nil
                 refine step_putV (b := be + 1) (n := p) (f := fW) (k := cc) (v := .int .i64 tx) Z0 ⟨.tmp 150, .tmp 155, .tmp 160, 63, 3, rfl, Tryz.underlying63, rfl, rfl, rfl⟩ WD.out (by simp only [maxLen]; omega) CB.out ?_
                 intro W' hm hg hsz
                 have TG := Turn.grown (S := fun k => k = be + 1) (Turn.refl _ Z0) hg (fun k hk _ => by injection hk with hk; exact hk.symm)
                 have RW' := Lib.hid (own_turn RD.out TG fun k hk e => by subst e; exact WD.out.ne_row RD.out hk)
                 have EW' := Lib.hid (ED.out.turn TG (by omega))
                 have BW' := Lib.hid (BD.out.trans (TG.below (B := w.heap.size) (fun k hk e => by have := GE.out; omega) BD.out.size))
                 have HM' := Lib.hid hm
                 have q1 := EC.out W' RW'.out 1 (by omega)
                 have q2 := EC.out W' RW'.out 2 (by omega)
                 rw [HCC.out] at q1
                 rw [HTX.out] at q2
                 refine hK.out _ _ ⟨q1, q2⟩ (fun hHeld => ?_)
                 clear hK K hm hg hsz TG q1 q2
                 refine wpAnyH_done (by kernel_rfl) ?_ _
                 clear hHeld
                 go_wp2_with fail
                 go_roundw
                 case rel => exact ⟨p + 1, fE, _, by omega, by go_num, RW'.out, EW'.out.more (by omega), HM'.out, by rw [SN2.out]; exact FE.out, by
                   rw [SN2.out]
                   intro t
                   show (if t = cc then some (.int .i64 tx) else fW t : Option Value).getD (.int .i64 0) = .int .i64 (if t = cc then tx else s.2 t)
                   by_cases e1 : t = cc
                   · rw [if_pos e1, if_pos e1]; rfl
                   · rw [if_neg e1, if_neg e1]; exact FW.out t, BW'.out⟩
                 case measure => simp [RowKit.intOf]; omega
             · have f1 : (kd == 1) = false := by simp [h1]
               by_cases h67 : kd = 6 ∨ kd = 7
               · have SN2 := Lib.hid (show trF (c.ev.take (p + 1)) = (fun k => if k = tx then s.1 k + 1 else s.1 k, s.2) from by rw [SN.out]; unfold trS; rw [if_neg (by rw [HKD.out]; exact h8), if_neg (by rw [HKD.out]; exact h1), if_pos (by rw [HKD.out]; exact h67), HTX.out])
                 rcases h67 with h6 | h7
                 · have f6 : (kd == 6) = true := by simp [h6]
                   go_wp2_with (first
                     | (at_mapUpdate; refine wpList_putV _ rfl _ _ _ 63 rfl 3 Tryz.underlying63 rfl EZ.out (by simp only [maxLen]; omega) tx rfl TW.out (.int .i64 1) rfl ?_
                        intro W' hm hg hsz
                        have TG := Turn.grown (S := fun k => k = be) (Turn.refl _ Z) hg (fun k hk _ => by injection hk with hk; exact hk.symm)
                        have RW' := Lib.hid (own_turn RZ.out TG fun k hk e => by subst e; exact EZ.out.ne_row RZ.out hk)
                        have WW' := Lib.hid (WZ.out.turn TG (by omega))
                        have BW' := Lib.hid (BZ.out.trans (TG.below (B := w.heap.size) (fun k hk e => by have := GE.out; omega) BZ.out.size))
                        have HM' := Lib.hid hm
                        clear hm hg hsz TG))
                   go_roundw
                   case rel => exact ⟨p + 1, _, fW, by omega, by go_num, RW'.out, HM'.out, WW'.out.more (by omega), by
                     rw [SN2.out]
                     intro t
                     show (if t = tx then some (.int .i64 1) else fE t : Option Value).getD (.int .i64 0) = .int .i64 (if t = tx then s.1 t + 1 else s.1 t)
                     by_cases e1 : t = tx
                     · rw [if_pos e1, if_pos e1, e1, E0.out]; rfl
                     · rw [if_neg e1, if_neg e1]; exact FE.out t, by rw [SN2.out]; exact FW.out, BW'.out⟩
                   case measure => simp [RowKit.intOf]; omega
                 · have f6 : (kd == 6) = false := by simp [h7]
                   have f7 : (kd == 7) = true := by simp [h7]
                   go_wp2_with (first
                     | (at_mapUpdate; refine wpList_putV _ rfl _ _ _ 63 rfl 3 Tryz.underlying63 rfl EZ.out (by simp only [maxLen]; omega) tx rfl TW.out (.int .i64 1) rfl ?_
                        intro W' hm hg hsz
                        have TG := Turn.grown (S := fun k => k = be) (Turn.refl _ Z) hg (fun k hk _ => by injection hk with hk; exact hk.symm)
                        have RW' := Lib.hid (own_turn RZ.out TG fun k hk e => by subst e; exact EZ.out.ne_row RZ.out hk)
                        have WW' := Lib.hid (WZ.out.turn TG (by omega))
                        have BW' := Lib.hid (BZ.out.trans (TG.below (B := w.heap.size) (fun k hk e => by have := GE.out; omega) BZ.out.size))
                        have HM' := Lib.hid hm
                        clear hm hg hsz TG))
                   go_roundw
                   case rel => exact ⟨p + 1, _, fW, by omega, by go_num, RW'.out, HM'.out, WW'.out.more (by omega), by
                     rw [SN2.out]
                     intro t
                     show (if t = tx then some (.int .i64 1) else fE t : Option Value).getD (.int .i64 0) = .int .i64 (if t = tx then s.1 t + 1 else s.1 t)
                     by_cases e1 : t = tx
                     · rw [if_pos e1, if_pos e1, e1, E0.out]; rfl
                     · rw [if_neg e1, if_neg e1]; exact FE.out t, by rw [SN2.out]; exact FW.out, BW'.out⟩
                   case measure => simp [RowKit.intOf]; omega
               · have f6 : (kd == 6) = false := by simp; omega
                 have f7 : (kd == 7) = false := by simp; omega
                 have SN2 := Lib.hid (show trF (c.ev.take (p + 1)) = s from by rw [SN.out]; unfold trS; rw [if_neg (by rw [HKD.out]; exact h8), if_neg (by rw [HKD.out]; exact h1), if_neg (by rw [HKD.out]; exact h67)])
                 go_wp2_with fail
                 go_roundw
                 case rel => exact ⟨p + 1, fE, fW, by omega, by go_num, RZ.out, EZ.out.more (by omega), WZ.out.more (by omega), by rw [SN2.out]; exact FE.out, by rw [SN2.out]; exact FW.out, BZ.out⟩
                 case measure => simp [RowKit.intOf]; omega
         · obtain rfl : p = L := by omega
           have d4 : decide ((p : Int) < (p : Int)) = false := by simp
           go_wp2_with fail
           go_ret
           exact ⟨rfl, BZ.out⟩
end Go.Proofs.YtadnlannbafjpaaGreat
