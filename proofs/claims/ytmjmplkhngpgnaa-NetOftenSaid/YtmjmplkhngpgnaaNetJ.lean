/- The document's Do of a net: one goes. -/
import Derived.Test.YtmjmplkhngpgnaaNetH
namespace Go.Proofs.Ytmjmplkhngpgnaa
open Go.RowKit
set_option linter.unusedVariables false
set_option linter.unusedSimpArgs false

set_option maxRecDepth 100000 in
set_option maxHeartbeats 8000000 in
theorem do_drop {B h : Nat} {lim : Int} {ms : List (List Int)} {v : Value} {a : List Int} (w : World) (R : RNet w B h lim ms v) (hl : a.length = 30) (hk : fld a 0 = 2) (h0 : 0 < ms.length) (hw : (Lit.int .i64 (fld a 1)).wf = true) :
    Calls Try.prog 18 #[.pointer (some ⟨h, 0, none⟩), .agg (ints a).toArray] w fun e w' => e = .returned (.tuple #[.agg (mc zM), .int .i64 0]) ∧ ∃ v', RNet w' B h lim (dlvMs ms (fld a 1)) v' ∧ Turn (fun k => k = h) w w' := by
  have hlt := R.box.lt
  have HL := Lib.hid hl
  have HZ := Lib.hid (mc_info zM_length)
  have K0 := Lib.hid (KD.begin w a)
  have HR := Lib.hid R
  have HX := Lib.hid (fun X (hb : Below w.heap.size w X) => R.step hb)
  have ha0 : (ints a).toArray[0]? = some (.int .i64 (fld a 0)) := by have : a[0]? = some (fld a 0) := fld_get (by omega); simp [ints, this]
  have ha1 : (ints a).toArray[1]? = some (.int .i64 (fld a 1)) := by have : a[1]? = some (fld a 1) := fld_get (by omega); simp [ints, this]
  have e0 : (fld a 0 == 0) = false := by rw [beq_eq_false_iff_ne]; omega
  have e4 : (fld a 0 == 4) = false := by rw [beq_eq_false_iff_ne]; omega
  have el1 : decide (fld a 0 < 1) = false := by simp; omega
  have eg3 : decide (3 < fld a 0) = false := by simp; omega
  obtain ⟨A, c, hv, hsl⟩ := R.slice
  have HV := Lib.hid hv
  have HSL := Lib.hid (fun X (hb : Below w.heap.size w X) => hsl.below hb)
  have HALL := Lib.hid R.all
  have hsml := R.small
  have HSU := Lib.hid (fun j => dlvM_length R.all j)
  clear hsl
  have hz : ((ms.length : Int) == 0) = false := by rw [beq_eq_false_iff_ne]; omega
  have hz2 : (ms.length == 0) = false := by rw [beq_eq_false_iff_ne]; omega
  have H0 := Lib.hid h0
  have hkw := hw
  clear h0 hw
  have hnh : w.heap.size + 1 ≠ h := by omega
  obtain ⟨i0, hi0, hz0, hz1, hz2⟩ := info_parts info_msg
  have HCAP := Lib.hid (R.cap hv)
  have e3 : (fld a 0 == 3) = false := by rw [hk]; rfl
  have e2 : (fld a 0 == 2) = true := by rw [hk]; rfl
  clear hl
  go_enter Try.func18, Try.ntmps18
  rw [mc_zero] at K0
  go_upto_region 1 with fail
  generalize World.alloc _ _ = W0 at K0 ⊢
  have c0 := K0.out.field HL.out (i := 0) (by omega)
  have c1 := K0.out.field HL.out (i := 1) (by omega)
  have k1 : W0.cell? ⟨h, 1, none⟩ = some v := (HX.out _ K0.out.bel).box.cell 1
  have f1 := (HX.out _ K0.out.bel).box.frozen 1
  rw [HV.out] at k1
  have k0 : W0.cell? ⟨h, 0, none⟩ = some (.int .i64 lim) := (HX.out _ K0.out.bel).box.cell 0
  go_wp2_with fail
  refine (rpick_any W0 (HX.out _ K0.out.bel) H0.out hkw).mono ?_
  rintro e w1 ⟨rfl, hww⟩
  obtain rfl := hww.symm
  have hpl : pickN (fld a 1) ms.length < ms.length := pickN_lt _ H0.out
  have hpi : ((pickN (fld a 1) ms.length : Nat) : Int) < (ms.length : Int) := by omega
  obtain ⟨ad, hA, hadb, hadc⟩ := (HSL.out _ K0.out.bel).msg_at HALL.out rfl hpl
  have HA := Lib.hid (show ∀ j v, (ints (dlvM ms (fld a 1)))[j]? = some v → W0.cell? ((ad.add (pickN (fld a 1) ms.length * 28)).add j) = some v from hadc)
  have HDL := Lib.hid (HSU.out (fld a 1))
  have HDI := Lib.hid (show (Try.prog.info? 31).map (·.size) = some (ints (dlvM ms (fld a 1))).length from by have := mc_info (HSU.out (fld a 1)); simpa [mc] using this)
  have HDJ := Lib.hid (mc_info (HSU.out (fld a 1)))
  subst hA
  clear hadb hadc
  generalize hq0 : dlvM ms (fld a 1) = q at HA HDL HDI HDJ
  have HQ := Lib.hid hq0
  clear hq0
  have HI0 := Lib.hid (show dlvMs ms (fld a 1) = ms.eraseIdx (pickN (fld a 1) ms.length) from rfl)
  generalize pickN (fld a 1) ms.length = i at hpl hpi HA HI0 ⊢
  have HI := Lib.hid HI0.out
  have N1 := Lib.hid (Blk.new W0 31 (mc zM))
  rw [mc_zero] at N1
  have KN := Lib.hid (K0.out.alloc (.cells (mc zM) 31))
  have hw0 := K0.out.lt
  go_upto_region 17 with (first
    | (refine wpList_load_cells rfl 31 (.tmp 73) rfl (ad.add (i * 28)) rfl (ints q) _ HA.out Try.underlying31 rfl HDI.out ?_)
    | (refine wpList_store_mid (by rfl) 31 (.tmp 7) (.tmp 74) (by rfl) W0.heap.size 0 (mc q) (by rfl) (by rfl) (mc_there zM_length HDL.out N1.out) HDJ.out (ints_oneCell _) ?_))
  have Q1 := Lib.hid (mc_put zM_length HDL.out N1.out)
  have K1 := Lib.hid (KN.out.turn_new hw0 (mc q).toList)
  rw [mc_zero] at K1
  generalize World.setCells _ _ _ _ = W1 at Q1 K1 ⊢
  clear k1 k0 c0 c1 f1
  have c0 := K1.out.field HL.out (i := 0) (by omega)
  have k1 : W1.cell? ⟨h, 1, none⟩ = some (.slice (some ad) ms.length c) := by rw [← HV.out]; exact (HX.out _ K1.out.bel).box.cell 1
  have k0 : W1.cell? ⟨h, 0, none⟩ = some (.int .i64 lim) := (HX.out _ K1.out.bel).box.cell 0
  have hb0 : w.heap.size + 2 ≤ W1.heap.size := K1.out.lt
  have hcap : ms.length ≤ c := HCAP.out
  have s1 : IntKind.i64.wrap ((i : Int) + 1) = (i : Int) + 1 := IntWalk.i64_in _ (by omega)
  have b1 : (i : Int) ≤ (c : Int) := by omega
  have b2 : (i : Int) + 1 ≤ (ms.length : Int) := by omega
  have b3 : 0 ≤ (i : Int) + 1 := by omega
  have b4 : ((i : Int) + 1).toNat = i + 1 := by omega
  have b5 : i ≤ c := by omega
  have b6 : i + 1 ≤ ms.length := by omega
  have b7 : i + 1 ≤ c := by omega
  have KQ1 := Lib.hid (show KQ w a W0.heap.size q W1.heap.size W1 from ⟨K1.out, Q1.out, Q1.out.lt, Nat.le_refl _⟩)
  have HS := Lib.hid (fun X (k : KQ w a W0.heap.size q W1.heap.size X) => (show X.cell? ⟨h, 1, none⟩ = some (.slice (some ad) ms.length c) ∧ KQ w a W0.heap.size q W1.heap.size X from ⟨by rw [← HV.out]; exact (HX.out _ k.bel).box.cell 1, k⟩))
  go_wp2_with fail
  have KV0 := Lib.hid KQ1.out.drew
  refine wp_region_till 19 (fun w' => w'.cell? ⟨h, 1, none⟩ = some (.slice (some ad) ms.length c) ∧ KQ w a W0.heap.size q W1.heap.size w') (by kernel_rfl) (HS.out _ KV0.out) (fun hHeld => ?_)
  generalize W1.drew = V0 at KV0 hHeld ⊢
  clear k1 k0 c0
  refine wpTill_take (i := 0) (v := ?_) rfl (by kernel_rfl) (by kernel_rfl) (by kernel_rfl) (by kernel_rfl) (fun _ _ _ h => h) (Or.inl ⟨by rfl, ?_⟩) (by assumption) ?_
  rotate_left
  · (intro w0 hSw; (try dsimp only at hSw); go_simp; try with_reducible rfl)
  try simp only [List.getElem_toArray, List.getElem_cons_succ, List.getElem_cons_zero, Act.put, List.setIfInBounds_toArray, List.set_cons_zero, List.set_cons_succ]
  refine wpTill_take (i := 2) (v := ?_) rfl (by kernel_rfl) (by kernel_rfl) (by kernel_rfl) (by kernel_rfl) (fun _ _ _ h => h) (Or.inl ⟨by rfl, ?_⟩) (by assumption) ?_
  rotate_left
  · (intro w0 hSw; (try dsimp only at hSw); go_simp; try with_reducible rfl)
  try simp only [List.getElem_toArray, List.getElem_cons_succ, List.getElem_cons_zero, Act.put, List.setIfInBounds_toArray, List.set_cons_zero, List.set_cons_succ]
  refine wpTill_take (i := 3) (v := ?_) rfl (by kernel_rfl) (by kernel_rfl) (by kernel_rfl) (by kernel_rfl) (fun _ _ _ h => h) (Or.inl ⟨by rfl, ?_⟩) (by assumption) ?_
  rotate_left
  · (intro w0 hSw; (try dsimp only at hSw); go_simp; try with_reducible rfl)
  try simp only [List.getElem_toArray, List.getElem_cons_succ, List.getElem_cons_zero, Act.put, List.setIfInBounds_toArray, List.set_cons_zero, List.set_cons_succ]
  refine wpTill_take (i := 4) (v := ?_) rfl (by kernel_rfl) (by kernel_rfl) (by kernel_rfl) (by kernel_rfl) (fun _ _ _ h => h) (Or.inl ⟨by rfl, ?_⟩) (by assumption) ?_
  rotate_left
  · (intro w0 hSw; (try dsimp only at hSw); go_simp; try with_reducible rfl)
  try simp only [List.getElem_toArray, List.getElem_cons_succ, List.getElem_cons_zero, Act.put, List.setIfInBounds_toArray, List.set_cons_zero, List.set_cons_succ]
  refine wpTill_take (i := 5) (v := ?_) rfl (by kernel_rfl) (by kernel_rfl) (by kernel_rfl) (by kernel_rfl) (fun _ _ _ h => h) (Or.inl ⟨by rfl, ?_⟩) (by assumption) ?_
  rotate_left
  · (intro w0 hSw; (try dsimp only at hSw); go_simp; try with_reducible rfl)
  try simp only [List.getElem_toArray, List.getElem_cons_succ, List.getElem_cons_zero, Act.put, List.setIfInBounds_toArray, List.set_cons_zero, List.set_cons_succ]
  go_simp
  refine wpTill_take (i := 6) (v := ?_) rfl (by kernel_rfl) (by kernel_rfl) (by kernel_rfl) (by kernel_rfl) (fun _ _ _ h => h) (Or.inl ⟨by rfl, ?_⟩) (by assumption) ?_
  rotate_left
  · (intro w0 hSw; (try dsimp only at hSw); go_simp; try with_reducible rfl)
  try simp only [List.getElem_toArray, List.getElem_cons_succ, List.getElem_cons_zero, Act.put, List.setIfInBounds_toArray, List.set_cons_zero, List.set_cons_succ]
  refine wpTill_take (i := 7) (v := ?_) rfl (by kernel_rfl) (by kernel_rfl) (by kernel_rfl) (by kernel_rfl) (fun _ _ _ h => h) (Or.inl ⟨by rfl, ?_⟩) (by assumption) ?_
  rotate_left
  · (intro w0 hSw; (try dsimp only at hSw); go_simp; try with_reducible rfl)
  try simp only [List.getElem_toArray, List.getElem_cons_succ, List.getElem_cons_zero, Act.put, List.setIfInBounds_toArray, List.set_cons_zero, List.set_cons_succ]
  go_simp
  refine wpTill_take (i := 9) (v := ?_) rfl (by kernel_rfl) (by kernel_rfl) (by kernel_rfl) (by kernel_rfl) (fun _ _ _ h => h) (Or.inl ⟨by rfl, ?_⟩) (by assumption) ?_
  rotate_left
  · (intro w0 hSw; (try dsimp only at hSw); go_simp; try with_reducible rfl)
  try simp only [List.getElem_toArray, List.getElem_cons_succ, List.getElem_cons_zero, Act.put, List.setIfInBounds_toArray, List.set_cons_zero, List.set_cons_succ]
  refine wpTill_take (i := 10) (v := ?_) rfl (by kernel_rfl) (by kernel_rfl) (by kernel_rfl) (by kernel_rfl) (fun _ _ _ h => h) (Or.inl ⟨by rfl, ?_⟩) (by assumption) ?_
  rotate_left
  · (intro w0 hSw; (try dsimp only at hSw); go_simp; try with_reducible rfl)
  try simp only [List.getElem_toArray, List.getElem_cons_succ, List.getElem_cons_zero, Act.put, List.setIfInBounds_toArray, List.set_cons_zero, List.set_cons_succ]
  refine wpTill_take (i := 11) (v := ?_) rfl (by kernel_rfl) (by kernel_rfl) (by kernel_rfl) (by kernel_rfl) (fun _ _ _ h => h) (Or.inl ⟨by rfl, ?_⟩) (by assumption) ?_
  rotate_left
  · (intro w0 hSw; (try dsimp only at hSw); go_simp; try with_reducible rfl)
  try simp only [List.getElem_toArray, List.getElem_cons_succ, List.getElem_cons_zero, Act.put, List.setIfInBounds_toArray, List.set_cons_zero, List.set_cons_succ]
  refine wpTill_take (i := 12) (v := ?_) rfl (by kernel_rfl) (by kernel_rfl) (by kernel_rfl) (by kernel_rfl) (fun _ _ _ h => h) (Or.inl ⟨by rfl, ?_⟩) (by assumption) ?_
  rotate_left
  · (intro w0 hSw; (try dsimp only at hSw); go_simp; try with_reducible rfl)
  try simp only [List.getElem_toArray, List.getElem_cons_succ, List.getElem_cons_zero, Act.put, List.setIfInBounds_toArray, List.set_cons_zero, List.set_cons_succ]
  go_simp
  refine wpTill_take (i := 13) (v := ?_) rfl (by kernel_rfl) (by kernel_rfl) (by kernel_rfl) (by kernel_rfl) (fun _ _ _ h => h) (Or.inl ⟨by rfl, ?_⟩) (by assumption) ?_
  rotate_left
  · (intro w0 hSw; (try dsimp only at hSw); go_simp; try with_reducible rfl)
  try simp only [List.getElem_toArray, List.getElem_cons_succ, List.getElem_cons_zero, Act.put, List.setIfInBounds_toArray, List.set_cons_zero, List.set_cons_succ]
  refine wpTill_take (i := 14) (v := ?_) rfl (by kernel_rfl) (by kernel_rfl) (by kernel_rfl) (by kernel_rfl) (fun _ _ _ h => h) (Or.inl ⟨by rfl, ?_⟩) (by assumption) ?_
  rotate_left
  · (intro w0 hSw; (try dsimp only at hSw); go_simp; try with_reducible rfl)
  try simp only [List.getElem_toArray, List.getElem_cons_succ, List.getElem_cons_zero, Act.put, List.setIfInBounds_toArray, List.set_cons_zero, List.set_cons_succ]
  refine wpTill_take (i := 15) (v := ?_) rfl (by kernel_rfl) (by kernel_rfl) (by kernel_rfl) (by kernel_rfl) (fun _ _ _ h => h) (Or.inl ⟨by rfl, ?_⟩) (by assumption) ?_
  rotate_left
  · (intro w0 hSw; (try dsimp only at hSw); go_simp; try with_reducible rfl)
  try simp only [List.getElem_toArray, List.getElem_cons_succ, List.getElem_cons_zero, Act.put, List.setIfInBounds_toArray, List.set_cons_zero, List.set_cons_succ]
  go_simp
  refine wpTill_ready (rs := [1]) (by kernel_rfl) (by simp) ?_
  refine AllTill.cons rfl (fun K hK => ?_) AllTill.nil
  go_simp
  have KX1 := Lib.hid (KV0.out.alloc (.cells #[] 31))
  have OX1 := Lib.hid (own_made28 (base := W1.heap.size) V0 (by have := KV0.out.lt; omega))
  refine hK.out _ _ (HS.out _ KX1.out) (fun hHeld => ?_)
  clear hK K hHeld
  have hHeld := HS.out _ KX1.out
  generalize V0.alloc (.cells #[] 31) = X1 at KX1 OX1 hHeld ⊢
  refine wpTill_ready (rs := [8]) (by kernel_rfl) (by simp) ?_
  refine AllTill.cons rfl (fun K hK => ?_) AllTill.nil
  refine step_append_any _ rfl (.tmp 103) (.tmp 109) _ rfl (W1.heap.size) 31 i0 _ 28 224 Try.underlying45 hi0 hz0 hz1 hz2 (mc_size zM_length) (by omega) (.slice (some ⟨V0.heap.size, 0, none⟩) 0 0) 0 [] rfl
    OX1.out w.heap.size (some ad) i c ((ints ms.flatten).take (i * 28)) rfl ((HSL.out _ KX1.out.bel).first (by omega)) (by rw [take_flat HALL.out (by omega)]; exact ints_one _) (by simp only [maxLen]; omega) (by omega) (by have := KX1.out.lt; omega) ?_
  intro v6 X2 hown hg _
  rw [Nat.zero_add, List.nil_append, take_flat HALL.out (by omega)] at hown
  have KX2 := Lib.hid (KX1.out.grown hg (fun g e => (ownBlock_ge OX1.out g e)) hb0)
  have OX2 := Lib.hid hown
  clear hown hg
  refine hK.out _ _ (HS.out _ KX2.out) (fun hHeld => ?_)
  clear hK K
  refine wpTill_ready (rs := [16]) (by kernel_rfl) (by simp) ?_
  refine AllTill.cons rfl (fun K hK => ?_) AllTill.nil
  refine step_append_any _ rfl (.tmp 110) (.tmp 117) _ rfl (W1.heap.size) 31 i0 _ 28 224 Try.underlying45 hi0 hz0 hz1 hz2 (mc_size zM_length) (by omega) v6 i (ints (ms.take i).flatten) rfl
    OX2.out w.heap.size (if c = i + 1 then some ad else (some ad).map (·.add ((i + 1) * 28))) (ms.length - (i + 1)) _ ((ints ms.flatten).drop ((i + 1) * 28)) (by rfl) ((HSL.out _ KX2.out.bel).cut b6 hcap) (by rw [drop_flat HALL.out b6]; exact ints_one _) (by simp only [maxLen]; omega) (by omega) (by have := KX2.out.lt; omega) ?_
  intro v9 W9 hown hg _
  have K9 := Lib.hid (KX2.out.grown hg (fun g e => (ownBlock_ge OX2.out g e)) hb0)
  obtain ⟨A9, c9, rfl, _, _⟩ := own_slice_any hown
  rw [drop_flat HALL.out b6, ← ints_append, show (ms.take i).flatten ++ (ms.drop (i + 1)).flatten = (ms.eraseIdx i).flatten by rw [List.eraseIdx_eq_take_drop_succ]; simp] at hown
  have hel : (ms.eraseIdx i).length = i + (ms.length - (i + 1)) := by rw [List.length_eraseIdx, if_pos hpl]; omega
  obtain ⟨R9, T9⟩ := HR.out.set (ms' := ms.eraseIdx i) (Turn.of_below K9.out.bel) (by rw [hel]; exact own_less hown (by omega)) (fun m hm => HALL.out m (List.mem_of_mem_eraseIdx hm)) (by rw [hel]; omega)
  have hv9 := fun k hk => ownBlock_ge hown k hk
  have k9 := (HX.out _ K9.out.bel).box.cell 1
  have f9 := (HX.out _ K9.out.bel).box.frozen 1
  have hgh : W0.heap.size ≠ h := by omega
  have hgm : W0.heap.size ≠ w.heap.size + 1 := by omega
  have R9h := Lib.hid R9
  have T9h := Lib.hid T9
  have V9h := Lib.hid hv9
  have AN := Lib.hid (K9.out.kd.ans.far (p := ⟨h, 1, none⟩) hnh (.slice A9 (i + (ms.length - (i + 1))) c9))
  have QN := Lib.hid (K9.out.msg.far (p := ⟨h, 1, none⟩) hgh (.slice A9 (i + (ms.length - (i + 1))) c9))
  have CN := Lib.hid (show (W9.setCell ⟨h, 1, none⟩ (.slice A9 (i + (ms.length - (i + 1))) c9)).cell? ⟨w.heap.size, 0, none⟩ = some (.int .i64 (fld a 0)) from ((World.cell?_setCell_other _ _ _ _ (by intro e; injection e; omega)).trans (K9.out.kd.field HL.out (i := 0) (by omega))))
  clear hown hg R9 T9 hv9 hel
  refine hK.out _ _ (HS.out _ K9.out) (fun hHeld => ?_)
  clear hK K
  refine wpTill_ready (rs := [17]) (by kernel_rfl) (by simp) ?_
  refine AllTill.cons rfl (fun K hK => ?_) AllTill.nil
  go_simp
  refine hK.out _ _ hHeld (fun hHeld => ?_)
  clear hK K
  refine wpTill_take (i := 18) (v := ?_) rfl (by kernel_rfl) (by kernel_rfl) (by kernel_rfl) (by kernel_rfl) (fun _ _ _ h => h) (Or.inl ⟨by rfl, ?_⟩) (by assumption) ?_
  rotate_left
  · (intro w0 hSw; (try dsimp only at hSw); go_simp; try with_reducible rfl)
  try simp only [List.getElem_toArray, List.getElem_cons_succ, List.getElem_cons_zero, Act.put, List.setIfInBounds_toArray, List.set_cons_zero, List.set_cons_succ]
  refine wpTill_ready (rs := [19]) (by kernel_rfl) (by simp) ?_
  refine AllTill.last rfl (of_decide_eq_true (by kernel_rfl)) (fun K hK => ?_)
  go_simp
  refine hK.out _ _ ?_
  clear hK K hHeld k9 f9
  refine wpTill_done (by kernel_rfl) ?_ _
  generalize W9.setCell ⟨h, 1, none⟩ (.slice A9 (i + (ms.length - (i + 1))) c9) = V9 at R9h T9h AN QN CN ⊢
  have c0 := CN.out
  go_wp2_with (refine wpList_store_mid (by rfl) 31 (.tmp 4) (.tmp 124) (by rfl) (w.heap.size + 1) 0 (mc zM) (by rfl) (by rfl) (mc_there zM_length zM_length AN.out) HZ.out (ints_oneCell _) ?_)
  all_goals exact bodyPost_ret (v := .tuple #[.agg (mc zM), .int .i64 0]) (results_cell_and rfl rfl rfl (loadM zM_length (mc_put zM_length zM_length AN.out))) rfl ⟨rfl, by have hA := R9h.out.ans hlt (fun k hk => by have := V9h.out k hk; omega) (mc zM).toList; have hB := Turn.setCells (b := w.heap.size + 1) (fun h => absurd h (by omega)) (mc zM).toList 0 _ T9h.out; rw [← HI.out] at hA; first | exact ⟨_, hA, hB⟩ | exact ⟨⟨_, hA⟩, hB⟩⟩

set_option maxRecDepth 100000 in
set_option maxHeartbeats 8000000 in
theorem do_deliver {B h : Nat} {lim : Int} {ms : List (List Int)} {v : Value} {a : List Int} (w : World) (R : RNet w B h lim ms v) (hl : a.length = 30) (hk : fld a 0 = 1) (h0 : 0 < ms.length) (hw : (Lit.int .i64 (fld a 1)).wf = true) :
    Calls Try.prog 18 #[.pointer (some ⟨h, 0, none⟩), .agg (ints a).toArray] w fun e w' => e = .returned (.tuple #[.agg (mc (dlvM ms (fld a 1))), .int .i64 0]) ∧ ∃ v', RNet w' B h lim (dlvMs ms (fld a 1)) v' ∧ Turn (fun k => k = h) w w' := by
  have hlt := R.box.lt
  have HL := Lib.hid hl
  have HZ := Lib.hid (mc_info zM_length)
  have K0 := Lib.hid (KD.begin w a)
  have HR := Lib.hid R
  have HX := Lib.hid (fun X (hb : Below w.heap.size w X) => R.step hb)
  have ha0 : (ints a).toArray[0]? = some (.int .i64 (fld a 0)) := by have : a[0]? = some (fld a 0) := fld_get (by omega); simp [ints, this]
  have ha1 : (ints a).toArray[1]? = some (.int .i64 (fld a 1)) := by have : a[1]? = some (fld a 1) := fld_get (by omega); simp [ints, this]
  have e0 : (fld a 0 == 0) = false := by rw [beq_eq_false_iff_ne]; omega
  have e4 : (fld a 0 == 4) = false := by rw [beq_eq_false_iff_ne]; omega
  have el1 : decide (fld a 0 < 1) = false := by simp; omega
  have eg3 : decide (3 < fld a 0) = false := by simp; omega
  obtain ⟨A, c, hv, hsl⟩ := R.slice
  have HV := Lib.hid hv
  have HSL := Lib.hid (fun X (hb : Below w.heap.size w X) => hsl.below hb)
  have HALL := Lib.hid R.all
  have hsml := R.small
  have HSU := Lib.hid (fun j => dlvM_length R.all j)
  clear hsl
  have hz : ((ms.length : Int) == 0) = false := by rw [beq_eq_false_iff_ne]; omega
  have hz2 : (ms.length == 0) = false := by rw [beq_eq_false_iff_ne]; omega
  have H0 := Lib.hid h0
  have hkw := hw
  clear h0 hw
  have hnh : w.heap.size + 1 ≠ h := by omega
  obtain ⟨i0, hi0, hz0, hz1, hz2⟩ := info_parts info_msg
  have HCAP := Lib.hid (R.cap hv)
  have e3 : (fld a 0 == 3) = false := by rw [hk]; rfl
  have e2 : (fld a 0 == 2) = false := by rw [hk]; rfl
  clear hl
  go_enter Try.func18, Try.ntmps18
  rw [mc_zero] at K0
  go_upto_region 1 with fail
  generalize World.alloc _ _ = W0 at K0 ⊢
  have c0 := K0.out.field HL.out (i := 0) (by omega)
  have c1 := K0.out.field HL.out (i := 1) (by omega)
  have k1 : W0.cell? ⟨h, 1, none⟩ = some v := (HX.out _ K0.out.bel).box.cell 1
  have f1 := (HX.out _ K0.out.bel).box.frozen 1
  rw [HV.out] at k1
  have k0 : W0.cell? ⟨h, 0, none⟩ = some (.int .i64 lim) := (HX.out _ K0.out.bel).box.cell 0
  go_wp2_with fail
  refine (rpick_any W0 (HX.out _ K0.out.bel) H0.out hkw).mono ?_
  rintro e w1 ⟨rfl, hww⟩
  obtain rfl := hww.symm
  have hpl : pickN (fld a 1) ms.length < ms.length := pickN_lt _ H0.out
  have hpi : ((pickN (fld a 1) ms.length : Nat) : Int) < (ms.length : Int) := by omega
  obtain ⟨ad, hA, hadb, hadc⟩ := (HSL.out _ K0.out.bel).msg_at HALL.out rfl hpl
  have HA := Lib.hid (show ∀ j v, (ints (dlvM ms (fld a 1)))[j]? = some v → W0.cell? ((ad.add (pickN (fld a 1) ms.length * 28)).add j) = some v from hadc)
  have HDL := Lib.hid (HSU.out (fld a 1))
  have HDI := Lib.hid (show (Try.prog.info? 31).map (·.size) = some (ints (dlvM ms (fld a 1))).length from by have := mc_info (HSU.out (fld a 1)); simpa [mc] using this)
  have HDJ := Lib.hid (mc_info (HSU.out (fld a 1)))
  subst hA
  clear hadb hadc
  generalize hq0 : dlvM ms (fld a 1) = q at HA HDL HDI HDJ
  have HQ := Lib.hid hq0
  clear hq0
  have HI0 := Lib.hid (show dlvMs ms (fld a 1) = ms.eraseIdx (pickN (fld a 1) ms.length) from rfl)
  generalize pickN (fld a 1) ms.length = i at hpl hpi HA HI0 ⊢
  have HI := Lib.hid HI0.out
  have N1 := Lib.hid (Blk.new W0 31 (mc zM))
  rw [mc_zero] at N1
  have KN := Lib.hid (K0.out.alloc (.cells (mc zM) 31))
  have hw0 := K0.out.lt
  go_upto_region 17 with (first
    | (refine wpList_load_cells rfl 31 (.tmp 73) rfl (ad.add (i * 28)) rfl (ints q) _ HA.out Try.underlying31 rfl HDI.out ?_)
    | (refine wpList_store_mid (by rfl) 31 (.tmp 7) (.tmp 74) (by rfl) W0.heap.size 0 (mc q) (by rfl) (by rfl) (mc_there zM_length HDL.out N1.out) HDJ.out (ints_oneCell _) ?_))
  have Q1 := Lib.hid (mc_put zM_length HDL.out N1.out)
  have K1 := Lib.hid (KN.out.turn_new hw0 (mc q).toList)
  rw [mc_zero] at K1
  generalize World.setCells _ _ _ _ = W1 at Q1 K1 ⊢
  clear k1 k0 c0 c1 f1
  have c0 := K1.out.field HL.out (i := 0) (by omega)
  have k1 : W1.cell? ⟨h, 1, none⟩ = some (.slice (some ad) ms.length c) := by rw [← HV.out]; exact (HX.out _ K1.out.bel).box.cell 1
  have k0 : W1.cell? ⟨h, 0, none⟩ = some (.int .i64 lim) := (HX.out _ K1.out.bel).box.cell 0
  have hb0 : w.heap.size + 2 ≤ W1.heap.size := K1.out.lt
  have hcap : ms.length ≤ c := HCAP.out
  have s1 : IntKind.i64.wrap ((i : Int) + 1) = (i : Int) + 1 := IntWalk.i64_in _ (by omega)
  have b1 : (i : Int) ≤ (c : Int) := by omega
  have b2 : (i : Int) + 1 ≤ (ms.length : Int) := by omega
  have b3 : 0 ≤ (i : Int) + 1 := by omega
  have b4 : ((i : Int) + 1).toNat = i + 1 := by omega
  have b5 : i ≤ c := by omega
  have b6 : i + 1 ≤ ms.length := by omega
  have b7 : i + 1 ≤ c := by omega
  have KQ1 := Lib.hid (show KQ w a W0.heap.size q W1.heap.size W1 from ⟨K1.out, Q1.out, Q1.out.lt, Nat.le_refl _⟩)
  have HS := Lib.hid (fun X (k : KQ w a W0.heap.size q W1.heap.size X) => (show X.cell? ⟨h, 1, none⟩ = some (.slice (some ad) ms.length c) ∧ KQ w a W0.heap.size q W1.heap.size X from ⟨by rw [← HV.out]; exact (HX.out _ k.bel).box.cell 1, k⟩))
  go_wp2_with fail
  have KV0 := Lib.hid KQ1.out.drew
  refine wp_region_till 19 (fun w' => w'.cell? ⟨h, 1, none⟩ = some (.slice (some ad) ms.length c) ∧ KQ w a W0.heap.size q W1.heap.size w') (by kernel_rfl) (HS.out _ KV0.out) (fun hHeld => ?_)
  generalize W1.drew = V0 at KV0 hHeld ⊢
  clear k1 k0 c0
  refine wpTill_take (i := 0) (v := ?_) rfl (by kernel_rfl) (by kernel_rfl) (by kernel_rfl) (by kernel_rfl) (fun _ _ _ h => h) (Or.inl ⟨by rfl, ?_⟩) (by assumption) ?_
  rotate_left
  · (intro w0 hSw; (try dsimp only at hSw); go_simp; try with_reducible rfl)
  try simp only [List.getElem_toArray, List.getElem_cons_succ, List.getElem_cons_zero, Act.put, List.setIfInBounds_toArray, List.set_cons_zero, List.set_cons_succ]
  refine wpTill_take (i := 2) (v := ?_) rfl (by kernel_rfl) (by kernel_rfl) (by kernel_rfl) (by kernel_rfl) (fun _ _ _ h => h) (Or.inl ⟨by rfl, ?_⟩) (by assumption) ?_
  rotate_left
  · (intro w0 hSw; (try dsimp only at hSw); go_simp; try with_reducible rfl)
  try simp only [List.getElem_toArray, List.getElem_cons_succ, List.getElem_cons_zero, Act.put, List.setIfInBounds_toArray, List.set_cons_zero, List.set_cons_succ]
  refine wpTill_take (i := 3) (v := ?_) rfl (by kernel_rfl) (by kernel_rfl) (by kernel_rfl) (by kernel_rfl) (fun _ _ _ h => h) (Or.inl ⟨by rfl, ?_⟩) (by assumption) ?_
  rotate_left
  · (intro w0 hSw; (try dsimp only at hSw); go_simp; try with_reducible rfl)
  try simp only [List.getElem_toArray, List.getElem_cons_succ, List.getElem_cons_zero, Act.put, List.setIfInBounds_toArray, List.set_cons_zero, List.set_cons_succ]
  refine wpTill_take (i := 4) (v := ?_) rfl (by kernel_rfl) (by kernel_rfl) (by kernel_rfl) (by kernel_rfl) (fun _ _ _ h => h) (Or.inl ⟨by rfl, ?_⟩) (by assumption) ?_
  rotate_left
  · (intro w0 hSw; (try dsimp only at hSw); go_simp; try with_reducible rfl)
  try simp only [List.getElem_toArray, List.getElem_cons_succ, List.getElem_cons_zero, Act.put, List.setIfInBounds_toArray, List.set_cons_zero, List.set_cons_succ]
  refine wpTill_take (i := 5) (v := ?_) rfl (by kernel_rfl) (by kernel_rfl) (by kernel_rfl) (by kernel_rfl) (fun _ _ _ h => h) (Or.inl ⟨by rfl, ?_⟩) (by assumption) ?_
  rotate_left
  · (intro w0 hSw; (try dsimp only at hSw); go_simp; try with_reducible rfl)
  try simp only [List.getElem_toArray, List.getElem_cons_succ, List.getElem_cons_zero, Act.put, List.setIfInBounds_toArray, List.set_cons_zero, List.set_cons_succ]
  go_simp
  refine wpTill_take (i := 6) (v := ?_) rfl (by kernel_rfl) (by kernel_rfl) (by kernel_rfl) (by kernel_rfl) (fun _ _ _ h => h) (Or.inl ⟨by rfl, ?_⟩) (by assumption) ?_
  rotate_left
  · (intro w0 hSw; (try dsimp only at hSw); go_simp; try with_reducible rfl)
  try simp only [List.getElem_toArray, List.getElem_cons_succ, List.getElem_cons_zero, Act.put, List.setIfInBounds_toArray, List.set_cons_zero, List.set_cons_succ]
  refine wpTill_take (i := 7) (v := ?_) rfl (by kernel_rfl) (by kernel_rfl) (by kernel_rfl) (by kernel_rfl) (fun _ _ _ h => h) (Or.inl ⟨by rfl, ?_⟩) (by assumption) ?_
  rotate_left
  · (intro w0 hSw; (try dsimp only at hSw); go_simp; try with_reducible rfl)
  try simp only [List.getElem_toArray, List.getElem_cons_succ, List.getElem_cons_zero, Act.put, List.setIfInBounds_toArray, List.set_cons_zero, List.set_cons_succ]
  go_simp
  refine wpTill_take (i := 9) (v := ?_) rfl (by kernel_rfl) (by kernel_rfl) (by kernel_rfl) (by kernel_rfl) (fun _ _ _ h => h) (Or.inl ⟨by rfl, ?_⟩) (by assumption) ?_
  rotate_left
  · (intro w0 hSw; (try dsimp only at hSw); go_simp; try with_reducible rfl)
  try simp only [List.getElem_toArray, List.getElem_cons_succ, List.getElem_cons_zero, Act.put, List.setIfInBounds_toArray, List.set_cons_zero, List.set_cons_succ]
  refine wpTill_take (i := 10) (v := ?_) rfl (by kernel_rfl) (by kernel_rfl) (by kernel_rfl) (by kernel_rfl) (fun _ _ _ h => h) (Or.inl ⟨by rfl, ?_⟩) (by assumption) ?_
  rotate_left
  · (intro w0 hSw; (try dsimp only at hSw); go_simp; try with_reducible rfl)
  try simp only [List.getElem_toArray, List.getElem_cons_succ, List.getElem_cons_zero, Act.put, List.setIfInBounds_toArray, List.set_cons_zero, List.set_cons_succ]
  refine wpTill_take (i := 11) (v := ?_) rfl (by kernel_rfl) (by kernel_rfl) (by kernel_rfl) (by kernel_rfl) (fun _ _ _ h => h) (Or.inl ⟨by rfl, ?_⟩) (by assumption) ?_
  rotate_left
  · (intro w0 hSw; (try dsimp only at hSw); go_simp; try with_reducible rfl)
  try simp only [List.getElem_toArray, List.getElem_cons_succ, List.getElem_cons_zero, Act.put, List.setIfInBounds_toArray, List.set_cons_zero, List.set_cons_succ]
  refine wpTill_take (i := 12) (v := ?_) rfl (by kernel_rfl) (by kernel_rfl) (by kernel_rfl) (by kernel_rfl) (fun _ _ _ h => h) (Or.inl ⟨by rfl, ?_⟩) (by assumption) ?_
  rotate_left
  · (intro w0 hSw; (try dsimp only at hSw); go_simp; try with_reducible rfl)
  try simp only [List.getElem_toArray, List.getElem_cons_succ, List.getElem_cons_zero, Act.put, List.setIfInBounds_toArray, List.set_cons_zero, List.set_cons_succ]
  go_simp
  refine wpTill_take (i := 13) (v := ?_) rfl (by kernel_rfl) (by kernel_rfl) (by kernel_rfl) (by kernel_rfl) (fun _ _ _ h => h) (Or.inl ⟨by rfl, ?_⟩) (by assumption) ?_
  rotate_left
  · (intro w0 hSw; (try dsimp only at hSw); go_simp; try with_reducible rfl)
  try simp only [List.getElem_toArray, List.getElem_cons_succ, List.getElem_cons_zero, Act.put, List.setIfInBounds_toArray, List.set_cons_zero, List.set_cons_succ]
  refine wpTill_take (i := 14) (v := ?_) rfl (by kernel_rfl) (by kernel_rfl) (by kernel_rfl) (by kernel_rfl) (fun _ _ _ h => h) (Or.inl ⟨by rfl, ?_⟩) (by assumption) ?_
  rotate_left
  · (intro w0 hSw; (try dsimp only at hSw); go_simp; try with_reducible rfl)
  try simp only [List.getElem_toArray, List.getElem_cons_succ, List.getElem_cons_zero, Act.put, List.setIfInBounds_toArray, List.set_cons_zero, List.set_cons_succ]
  refine wpTill_take (i := 15) (v := ?_) rfl (by kernel_rfl) (by kernel_rfl) (by kernel_rfl) (by kernel_rfl) (fun _ _ _ h => h) (Or.inl ⟨by rfl, ?_⟩) (by assumption) ?_
  rotate_left
  · (intro w0 hSw; (try dsimp only at hSw); go_simp; try with_reducible rfl)
  try simp only [List.getElem_toArray, List.getElem_cons_succ, List.getElem_cons_zero, Act.put, List.setIfInBounds_toArray, List.set_cons_zero, List.set_cons_succ]
  go_simp
  refine wpTill_ready (rs := [1]) (by kernel_rfl) (by simp) ?_
  refine AllTill.cons rfl (fun K hK => ?_) AllTill.nil
  go_simp
  have KX1 := Lib.hid (KV0.out.alloc (.cells #[] 31))
  have OX1 := Lib.hid (own_made28 (base := W1.heap.size) V0 (by have := KV0.out.lt; omega))
  refine hK.out _ _ (HS.out _ KX1.out) (fun hHeld => ?_)
  clear hK K hHeld
  have hHeld := HS.out _ KX1.out
  generalize V0.alloc (.cells #[] 31) = X1 at KX1 OX1 hHeld ⊢
  refine wpTill_ready (rs := [8]) (by kernel_rfl) (by simp) ?_
  refine AllTill.cons rfl (fun K hK => ?_) AllTill.nil
  refine step_append_any _ rfl (.tmp 103) (.tmp 109) _ rfl (W1.heap.size) 31 i0 _ 28 224 Try.underlying45 hi0 hz0 hz1 hz2 (mc_size zM_length) (by omega) (.slice (some ⟨V0.heap.size, 0, none⟩) 0 0) 0 [] rfl
    OX1.out w.heap.size (some ad) i c ((ints ms.flatten).take (i * 28)) rfl ((HSL.out _ KX1.out.bel).first (by omega)) (by rw [take_flat HALL.out (by omega)]; exact ints_one _) (by simp only [maxLen]; omega) (by omega) (by have := KX1.out.lt; omega) ?_
  intro v6 X2 hown hg _
  rw [Nat.zero_add, List.nil_append, take_flat HALL.out (by omega)] at hown
  have KX2 := Lib.hid (KX1.out.grown hg (fun g e => (ownBlock_ge OX1.out g e)) hb0)
  have OX2 := Lib.hid hown
  clear hown hg
  refine hK.out _ _ (HS.out _ KX2.out) (fun hHeld => ?_)
  clear hK K
  refine wpTill_ready (rs := [16]) (by kernel_rfl) (by simp) ?_
  refine AllTill.cons rfl (fun K hK => ?_) AllTill.nil
  refine step_append_any _ rfl (.tmp 110) (.tmp 117) _ rfl (W1.heap.size) 31 i0 _ 28 224 Try.underlying45 hi0 hz0 hz1 hz2 (mc_size zM_length) (by omega) v6 i (ints (ms.take i).flatten) rfl
    OX2.out w.heap.size (if c = i + 1 then some ad else (some ad).map (·.add ((i + 1) * 28))) (ms.length - (i + 1)) _ ((ints ms.flatten).drop ((i + 1) * 28)) (by rfl) ((HSL.out _ KX2.out.bel).cut b6 hcap) (by rw [drop_flat HALL.out b6]; exact ints_one _) (by simp only [maxLen]; omega) (by omega) (by have := KX2.out.lt; omega) ?_
  intro v9 W9 hown hg _
  have K9 := Lib.hid (KX2.out.grown hg (fun g e => (ownBlock_ge OX2.out g e)) hb0)
  obtain ⟨A9, c9, rfl, _, _⟩ := own_slice_any hown
  rw [drop_flat HALL.out b6, ← ints_append, show (ms.take i).flatten ++ (ms.drop (i + 1)).flatten = (ms.eraseIdx i).flatten by rw [List.eraseIdx_eq_take_drop_succ]; simp] at hown
  have hel : (ms.eraseIdx i).length = i + (ms.length - (i + 1)) := by rw [List.length_eraseIdx, if_pos hpl]; omega
  obtain ⟨R9, T9⟩ := HR.out.set (ms' := ms.eraseIdx i) (Turn.of_below K9.out.bel) (by rw [hel]; exact own_less hown (by omega)) (fun m hm => HALL.out m (List.mem_of_mem_eraseIdx hm)) (by rw [hel]; omega)
  have hv9 := fun k hk => ownBlock_ge hown k hk
  have k9 := (HX.out _ K9.out.bel).box.cell 1
  have f9 := (HX.out _ K9.out.bel).box.frozen 1
  have hgh : W0.heap.size ≠ h := by omega
  have hgm : W0.heap.size ≠ w.heap.size + 1 := by omega
  have R9h := Lib.hid R9
  have T9h := Lib.hid T9
  have V9h := Lib.hid hv9
  have AN := Lib.hid (K9.out.kd.ans.far (p := ⟨h, 1, none⟩) hnh (.slice A9 (i + (ms.length - (i + 1))) c9))
  have QN := Lib.hid (K9.out.msg.far (p := ⟨h, 1, none⟩) hgh (.slice A9 (i + (ms.length - (i + 1))) c9))
  have CN := Lib.hid (show (W9.setCell ⟨h, 1, none⟩ (.slice A9 (i + (ms.length - (i + 1))) c9)).cell? ⟨w.heap.size, 0, none⟩ = some (.int .i64 (fld a 0)) from ((World.cell?_setCell_other _ _ _ _ (by intro e; injection e; omega)).trans (K9.out.kd.field HL.out (i := 0) (by omega))))
  clear hown hg R9 T9 hv9 hel
  refine hK.out _ _ (HS.out _ K9.out) (fun hHeld => ?_)
  clear hK K
  refine wpTill_ready (rs := [17]) (by kernel_rfl) (by simp) ?_
  refine AllTill.cons rfl (fun K hK => ?_) AllTill.nil
  go_simp
  refine hK.out _ _ hHeld (fun hHeld => ?_)
  clear hK K
  refine wpTill_take (i := 18) (v := ?_) rfl (by kernel_rfl) (by kernel_rfl) (by kernel_rfl) (by kernel_rfl) (fun _ _ _ h => h) (Or.inl ⟨by rfl, ?_⟩) (by assumption) ?_
  rotate_left
  · (intro w0 hSw; (try dsimp only at hSw); go_simp; try with_reducible rfl)
  try simp only [List.getElem_toArray, List.getElem_cons_succ, List.getElem_cons_zero, Act.put, List.setIfInBounds_toArray, List.set_cons_zero, List.set_cons_succ]
  refine wpTill_ready (rs := [19]) (by kernel_rfl) (by simp) ?_
  refine AllTill.last rfl (of_decide_eq_true (by kernel_rfl)) (fun K hK => ?_)
  go_simp
  refine hK.out _ _ ?_
  clear hK K hHeld k9 f9
  refine wpTill_done (by kernel_rfl) ?_ _
  generalize W9.setCell ⟨h, 1, none⟩ (.slice A9 (i + (ms.length - (i + 1))) c9) = V9 at R9h T9h AN QN CN ⊢
  have c0 := CN.out
  go_wp2_with (first
    | (refine wpList_load_row rfl 31 (.tmp 7) rfl W0.heap.size rfl 31 (mc q) (0, 0) _ QN.out Try.underlying31 rfl HDJ.out ?_)
    | (refine wpList_store_mid (by rfl) 31 (.tmp 4) (.tmp 125) (by rfl) (w.heap.size + 1) 0 (mc q) (by rfl) (by rfl) (mc_there zM_length HDL.out AN.out) HDJ.out (ints_oneCell _) ?_))
  all_goals exact bodyPost_ret (v := .tuple #[.agg (mc q), .int .i64 0]) (results_cell_and rfl rfl rfl (loadM HDL.out (mc_put zM_length HDL.out AN.out))) rfl ⟨by rw [HQ.out], by have hA := R9h.out.ans hlt (fun k hk => by have := V9h.out k hk; omega) (mc q).toList; have hB := Turn.setCells (b := w.heap.size + 1) (fun h => absurd h (by omega)) (mc q).toList 0 _ T9h.out; rw [← HI.out] at hA; first | exact ⟨_, hA, hB⟩ | exact ⟨⟨_, hA⟩, hB⟩⟩
end Go.Proofs.Ytmjmplkhngpgnaa
