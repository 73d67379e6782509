/- The document's Do of a net: one is doubled. -/
import Derived.Test.YtmjmplkhngpgnaaNetH
namespace Go.Proofs.Ytmjmplkhngpgnaa
open Go.RowKit
set_option linter.unusedVariables false
set_option linter.unusedSimpArgs false

set_option maxRecDepth 100000 in
set_option maxHeartbeats 8000000 in
theorem do_twice_full {B h : Nat} {lim : Int} {ms : List (List Int)} {v : Value} {a : List Int} (w : World) (R : RNet w B h lim ms v) (hl : a.length = 30) (hk : fld a 0 = 3) (h0 : 0 < ms.length) (hw : (Lit.int .i64 (fld a 1)).wf = true) (hf : lim ≤ ms.length) :
    Calls Try.prog 18 #[.pointer (some ⟨h, 0, none⟩), .agg (ints a).toArray] w fun e w' => e = .returned (.tuple #[.agg (mc zM), .int .i64 6]) ∧ ∃ v', RNet w' B h lim ms v' ∧ Turn (fun k => k = h) w w' := by
  have hlt := R.box.lt
  have HL := Lib.hid hl
  have HZ := Lib.hid (mc_info zM_length)
  have K0 := Lib.hid (KD.begin w a)
  have HR := Lib.hid R
  have HX := Lib.hid (fun X (hb : Below w.heap.size w X) => R.step hb)
  have ha0 : (ints a).toArray[0]? = some (.int .i64 (fld a 0)) := by have : a[0]? = some (fld a 0) := fld_get (by omega); simp [ints, this]
  have ha1 : (ints a).toArray[1]? = some (.int .i64 (fld a 1)) := by have : a[1]? = some (fld a 1) := fld_get (by omega); simp [ints, this]
  have e0 : (fld a 0 == 0) = false := by rw [beq_eq_false_iff_ne]; omega
  have e4 : (fld a 0 == 4) = false := by rw [beq_eq_false_iff_ne]; omega
  have el1 : decide (fld a 0 < 1) = false := by simp; omega
  have eg3 : decide (3 < fld a 0) = false := by simp; omega
  have e3 : (fld a 0 == 3) = true := by rw [hk]; rfl
  obtain ⟨A, c, hv, hsl⟩ := R.slice
  have HV := Lib.hid hv
  have HSL := Lib.hid (fun X (hb : Below w.heap.size w X) => hsl.below hb)
  have HALL := Lib.hid R.all
  have hsml := R.small
  have HSU := Lib.hid (fun j => dlvM_length R.all j)
  clear hsl
  have hz : ((ms.length : Int) == 0) = false := by rw [beq_eq_false_iff_ne]; omega
  have hz2 : (ms.length == 0) = false := by rw [beq_eq_false_iff_ne]; omega
  have H0 := Lib.hid h0
  have hkw := hw
  clear h0 hw
  have d1 : decide (lim ≤ (ms.length : Int)) = true := by simpa using hf
  clear hl
  go_enter Try.func18, Try.ntmps18
  rw [mc_zero] at K0
  go_upto_region 1 with fail
  generalize World.alloc _ _ = W0 at K0 ⊢
  have c0 := K0.out.field HL.out (i := 0) (by omega)
  have c1 := K0.out.field HL.out (i := 1) (by omega)
  have k1 : W0.cell? ⟨h, 1, none⟩ = some v := (HX.out _ K0.out.bel).box.cell 1
  have f1 := (HX.out _ K0.out.bel).box.frozen 1
  rw [HV.out] at k1
  have k0 : W0.cell? ⟨h, 0, none⟩ = some (.int .i64 lim) := (HX.out _ K0.out.bel).box.cell 0
  go_wp2_with fail
  refine (rpick_any W0 (HX.out _ K0.out.bel) H0.out hkw).mono ?_
  rintro e w1 ⟨rfl, hww⟩
  obtain rfl := hww.symm
  have hpl : pickN (fld a 1) ms.length < ms.length := pickN_lt _ H0.out
  have hpi : ((pickN (fld a 1) ms.length : Nat) : Int) < (ms.length : Int) := by omega
  obtain ⟨ad, hA, hadb, hadc⟩ := (HSL.out _ K0.out.bel).msg_at HALL.out rfl hpl
  have HA := Lib.hid (show ∀ j v, (ints (dlvM ms (fld a 1)))[j]? = some v → W0.cell? ((ad.add (pickN (fld a 1) ms.length * 28)).add j) = some v from hadc)
  have HDL := Lib.hid (HSU.out (fld a 1))
  have HDI := Lib.hid (show (Try.prog.info? 31).map (·.size) = some (ints (dlvM ms (fld a 1))).length from by have := mc_info (HSU.out (fld a 1)); simpa [mc] using this)
  have HDJ := Lib.hid (mc_info (HSU.out (fld a 1)))
  subst hA
  clear hadb hadc
  generalize hq0 : dlvM ms (fld a 1) = q at HA HDL HDI HDJ
  have HQ := Lib.hid hq0
  clear hq0
  generalize pickN (fld a 1) ms.length = i at hpl hpi HA ⊢
  have N1 := Lib.hid (Blk.new W0 31 (mc zM))
  rw [mc_zero] at N1
  have KN := Lib.hid (K0.out.alloc (.cells (mc zM) 31))
  have hw0 := K0.out.lt
  go_upto_region 17 with (first
    | (refine wpList_load_cells rfl 31 (.tmp 73) rfl (ad.add (i * 28)) rfl (ints q) _ HA.out Try.underlying31 rfl HDI.out ?_)
    | (refine wpList_store_mid (by rfl) 31 (.tmp 7) (.tmp 74) (by rfl) W0.heap.size 0 (mc q) (by rfl) (by rfl) (mc_there zM_length HDL.out N1.out) HDJ.out (ints_oneCell _) ?_))
  have Q1 := Lib.hid (mc_put zM_length HDL.out N1.out)
  have K1 := Lib.hid (KN.out.turn_new hw0 (mc q).toList)
  rw [mc_zero] at K1
  generalize World.setCells _ _ _ _ = W1 at Q1 K1 ⊢
  clear k1 k0 c0 c1 f1
  have c0 := K1.out.field HL.out (i := 0) (by omega)
  have k1 : W1.cell? ⟨h, 1, none⟩ = some (.slice (some ad) ms.length c) := by rw [← HV.out]; exact (HX.out _ K1.out.bel).box.cell 1
  have k0 : W1.cell? ⟨h, 0, none⟩ = some (.int .i64 lim) := (HX.out _ K1.out.bel).box.cell 0
  go_wp2_with fail
  go_quiet (fail)
  generalize hq : W1.drewN _ = W
  have K2 := Lib.hid (show KD w a W by rw [← hq]; exact K1.out.drewN _)
  clear hq k0 k1
  go_wp2_with (refine wpList_store_mid (by rfl) 31 (.tmp 4) (.tmp 88) (by rfl) (w.heap.size + 1) 0 (mc zM) (by rfl) (by rfl) (K2.out.there zM_length) HZ.out (ints_oneCell _) ?_)
  exact bodyPost_ret (v := .tuple #[.agg (mc zM), .int .i64 6]) (results_cell_and rfl rfl rfl (loadM zM_length (K2.out.done zM_length))) rfl ⟨rfl, v, (HX.out _ K2.out.bel).ans hlt (fun k hk => by have := HR.out.row_lt k hk; omega) _, K2.out.turn (Turn.of_below K2.out.bel)⟩

set_option maxRecDepth 100000 in
set_option maxHeartbeats 8000000 in
theorem do_twice_room {B h : Nat} {lim : Int} {ms : List (List Int)} {v : Value} {a : List Int} (w : World) (R : RNet w B h lim ms v) (hl : a.length = 30) (hk : fld a 0 = 3) (h0 : 0 < ms.length) (hw : (Lit.int .i64 (fld a 1)).wf = true) (hf : (ms.length : Int) < lim) (hlim : lim ≤ 65536) :
    Calls Try.prog 18 #[.pointer (some ⟨h, 0, none⟩), .agg (ints a).toArray] w fun e w' => e = .returned (.tuple #[.agg (mc zM), .int .i64 0]) ∧ ∃ v', RNet w' B h lim (ms ++ [dlvM ms (fld a 1)]) v' ∧ Turn (fun k => k = h) w w' := by
  have hlt := R.box.lt
  have HL := Lib.hid hl
  have HZ := Lib.hid (mc_info zM_length)
  have K0 := Lib.hid (KD.begin w a)
  have HR := Lib.hid R
  have HX := Lib.hid (fun X (hb : Below w.heap.size w X) => R.step hb)
  have ha0 : (ints a).toArray[0]? = some (.int .i64 (fld a 0)) := by have : a[0]? = some (fld a 0) := fld_get (by omega); simp [ints, this]
  have ha1 : (ints a).toArray[1]? = some (.int .i64 (fld a 1)) := by have : a[1]? = some (fld a 1) := fld_get (by omega); simp [ints, this]
  have e0 : (fld a 0 == 0) = false := by rw [beq_eq_false_iff_ne]; omega
  have e4 : (fld a 0 == 4) = false := by rw [beq_eq_false_iff_ne]; omega
  have el1 : decide (fld a 0 < 1) = false := by simp; omega
  have eg3 : decide (3 < fld a 0) = false := by simp; omega
  have e3 : (fld a 0 == 3) = true := by rw [hk]; rfl
  obtain ⟨A, c, hv, hsl⟩ := R.slice
  have HV := Lib.hid hv
  have HSL := Lib.hid (fun X (hb : Below w.heap.size w X) => hsl.below hb)
  have HALL := Lib.hid R.all
  have hsml := R.small
  have HSU := Lib.hid (fun j => dlvM_length R.all j)
  clear hsl
  have hz : ((ms.length : Int) == 0) = false := by rw [beq_eq_false_iff_ne]; omega
  have hz2 : (ms.length == 0) = false := by rw [beq_eq_false_iff_ne]; omega
  have H0 := Lib.hid h0
  have hkw := hw
  clear h0 hw
  have d1 : decide (lim ≤ (ms.length : Int)) = false := by simp; omega
  have hsm : ms.length + 1 ≤ 65536 := by omega
  have hnh : w.heap.size + 1 ≠ h := by omega
  obtain ⟨i0, hi0, hz0, hz1, hz2⟩ := info_parts info_msg
  clear hl
  go_enter Try.func18, Try.ntmps18
  rw [mc_zero] at K0
  go_upto_region 1 with fail
  generalize World.alloc _ _ = W0 at K0 ⊢
  have c0 := K0.out.field HL.out (i := 0) (by omega)
  have c1 := K0.out.field HL.out (i := 1) (by omega)
  have k1 : W0.cell? ⟨h, 1, none⟩ = some v := (HX.out _ K0.out.bel).box.cell 1
  have f1 := (HX.out _ K0.out.bel).box.frozen 1
  rw [HV.out] at k1
  have k0 : W0.cell? ⟨h, 0, none⟩ = some (.int .i64 lim) := (HX.out _ K0.out.bel).box.cell 0
  go_wp2_with fail
  refine (rpick_any W0 (HX.out _ K0.out.bel) H0.out hkw).mono ?_
  rintro e w1 ⟨rfl, hww⟩
  obtain rfl := hww.symm
  have hpl : pickN (fld a 1) ms.length < ms.length := pickN_lt _ H0.out
  have hpi : ((pickN (fld a 1) ms.length : Nat) : Int) < (ms.length : Int) := by omega
  obtain ⟨ad, hA, hadb, hadc⟩ := (HSL.out _ K0.out.bel).msg_at HALL.out rfl hpl
  have HA := Lib.hid (show ∀ j v, (ints (dlvM ms (fld a 1)))[j]? = some v → W0.cell? ((ad.add (pickN (fld a 1) ms.length * 28)).add j) = some v from hadc)
  have HDL := Lib.hid (HSU.out (fld a 1))
  have HDI := Lib.hid (show (Try.prog.info? 31).map (·.size) = some (ints (dlvM ms (fld a 1))).length from by have := mc_info (HSU.out (fld a 1)); simpa [mc] using this)
  have HDJ := Lib.hid (mc_info (HSU.out (fld a 1)))
  subst hA
  clear hadb hadc
  generalize hq0 : dlvM ms (fld a 1) = q at HA HDL HDI HDJ
  have HQ := Lib.hid hq0
  clear hq0
  generalize pickN (fld a 1) ms.length = i at hpl hpi HA ⊢
  have N1 := Lib.hid (Blk.new W0 31 (mc zM))
  rw [mc_zero] at N1
  have KN := Lib.hid (K0.out.alloc (.cells (mc zM) 31))
  have hw0 := K0.out.lt
  go_upto_region 17 with (first
    | (refine wpList_load_cells rfl 31 (.tmp 73) rfl (ad.add (i * 28)) rfl (ints q) _ HA.out Try.underlying31 rfl HDI.out ?_)
    | (refine wpList_store_mid (by rfl) 31 (.tmp 7) (.tmp 74) (by rfl) W0.heap.size 0 (mc q) (by rfl) (by rfl) (mc_there zM_length HDL.out N1.out) HDJ.out (ints_oneCell _) ?_))
  have Q1 := Lib.hid (mc_put zM_length HDL.out N1.out)
  have K1 := Lib.hid (KN.out.turn_new hw0 (mc q).toList)
  rw [mc_zero] at K1
  generalize World.setCells _ _ _ _ = W1 at Q1 K1 ⊢
  clear k1 k0 c0 c1 f1
  have c0 := K1.out.field HL.out (i := 0) (by omega)
  have k1 : W1.cell? ⟨h, 1, none⟩ = some (.slice (some ad) ms.length c) := by rw [← HV.out]; exact (HX.out _ K1.out.bel).box.cell 1
  have k0 : W1.cell? ⟨h, 0, none⟩ = some (.int .i64 lim) := (HX.out _ K1.out.bel).box.cell 0
  go_wp2_with fail
  go_quiet (fail)
  generalize hq : W1.drewN _ = W
  have K2 := Lib.hid (show KQ w a W0.heap.size q W1.heap.size W by rw [← hq]; exact ⟨K1.out.drewN _, Q1.out.drewN _, Q1.out.lt, Nat.le_refl _⟩)
  clear hq k0 k1
  have k1 : W.cell? ⟨h, 1, none⟩ = some (.slice (some ad) ms.length c) := by rw [← HV.out]; exact (HX.out _ K2.out.bel).box.cell 1
  have hb0 : w.heap.size + 2 ≤ W1.heap.size := K1.out.lt
  have HALLQ := Lib.hid (show ∀ m ∈ ms ++ [q], m.length = 28 from fun m hm => by
    rcases List.mem_append.1 hm with h1 | h1
    · exact HALL.out m h1
    · simp at h1; subst h1; exact HDL.out)
  have HS := Lib.hid (fun X (k : KQ w a W0.heap.size q W1.heap.size X) => (show X.cell? ⟨h, 1, none⟩ = some (.slice (some ad) ms.length c) ∧ KQ w a W0.heap.size q W1.heap.size X from ⟨by rw [← HV.out]; exact (HX.out _ k.bel).box.cell 1, k⟩))
  go_wp2_with fail
  have KV0 := Lib.hid K2.out.drew
  refine wp_region_till 12 (fun w' => w'.cell? ⟨h, 1, none⟩ = some (.slice (some ad) ms.length c) ∧ KQ w a W0.heap.size q W1.heap.size w') (by kernel_rfl) (HS.out _ KV0.out) (fun hHeld => ?_)
  generalize W.drew = V0 at KV0 hHeld ⊢
  clear k1 c0
  refine wpTill_take (i := 0) (v := ?_) rfl (by kernel_rfl) (by kernel_rfl) (by kernel_rfl) (by kernel_rfl) (fun _ _ _ h => h) (Or.inl ⟨by rfl, ?_⟩) (by assumption) ?_
  rotate_left
  · (intro w0 hSw; (try dsimp only at hSw); go_simp; try with_reducible rfl)
  try simp only [List.getElem_toArray, List.getElem_cons_succ, List.getElem_cons_zero, Act.put, List.setIfInBounds_toArray, List.set_cons_zero, List.set_cons_succ]
  refine wpTill_take (i := 2) (v := ?_) rfl (by kernel_rfl) (by kernel_rfl) (by kernel_rfl) (by kernel_rfl) (fun _ _ _ h => h) (Or.inl ⟨by rfl, ?_⟩) (by assumption) ?_
  rotate_left
  · (intro w0 hSw; (try dsimp only at hSw); go_simp; try with_reducible rfl)
  try simp only [List.getElem_toArray, List.getElem_cons_succ, List.getElem_cons_zero, Act.put, List.setIfInBounds_toArray, List.set_cons_zero, List.set_cons_succ]
  refine wpTill_take (i := 3) (v := ?_) rfl (by kernel_rfl) (by kernel_rfl) (by kernel_rfl) (by kernel_rfl) (fun _ _ _ h => h) (Or.inl ⟨by rfl, ?_⟩) (by assumption) ?_
  rotate_left
  · (intro w0 hSw; (try dsimp only at hSw); go_simp; try with_reducible rfl)
  try simp only [List.getElem_toArray, List.getElem_cons_succ, List.getElem_cons_zero, Act.put, List.setIfInBounds_toArray, List.set_cons_zero, List.set_cons_succ]
  refine wpTill_take (i := 4) (v := ?_) rfl (by kernel_rfl) (by kernel_rfl) (by kernel_rfl) (by kernel_rfl) (fun _ _ _ h => h) (Or.inl ⟨by rfl, ?_⟩) (by assumption) ?_
  rotate_left
  · (intro w0 hSw; (try dsimp only at hSw); go_simp; try with_reducible rfl)
  try simp only [List.getElem_toArray, List.getElem_cons_succ, List.getElem_cons_zero, Act.put, List.setIfInBounds_toArray, List.set_cons_zero, List.set_cons_succ]
  refine wpTill_take (i := 5) (v := ?_) rfl (by kernel_rfl) (by kernel_rfl) (by kernel_rfl) (by kernel_rfl) (fun _ _ _ h => h) (Or.inl ⟨by rfl, ?_⟩) (by assumption) ?_
  rotate_left
  · (intro w0 hSw; (try dsimp only at hSw); go_simp; try with_reducible rfl)
  try simp only [List.getElem_toArray, List.getElem_cons_succ, List.getElem_cons_zero, Act.put, List.setIfInBounds_toArray, List.set_cons_zero, List.set_cons_succ]
  refine wpTill_take (i := 7) (v := .agg (mc q)) rfl (by kernel_rfl) (by kernel_rfl) (by kernel_rfl) (by kernel_rfl) (fun _ _ _ h => h) (Or.inl ⟨by rfl, fun w0 hSw => exec_load (x := .tmp 7) rfl (ad := ⟨W0.heap.size, 0, none⟩) rfl (loadM HDL.out hSw.2.msg)⟩) (by assumption) ?_
  try simp only [List.getElem_toArray, List.getElem_cons_succ, List.getElem_cons_zero, Act.put, List.setIfInBounds_toArray, List.set_cons_zero, List.set_cons_succ]
  go_simp
  refine wpTill_ready (rs := [1, 8]) (by kernel_rfl) (by simp) ?_
  refine AllTill.cons rfl (fun K hK => ?_) (AllTill.cons rfl (fun K hK => ?_) AllTill.nil)
  · go_simp
    have KX1 := Lib.hid (KV0.out.alloc (.cells #[] 31))
    have OX1 := Lib.hid (own_made28 (base := W1.heap.size) V0 (by have := KV0.out.lt; omega))
    refine hK.out _ _ (HS.out _ KX1.out) (fun hHeld => ?_)
    clear hK K hHeld
    have hHeld := HS.out _ KX1.out
    generalize V0.alloc (.cells #[] 31) = X1 at KX1 OX1 hHeld ⊢
    refine wpTill_ready (rs := [6, 8]) (by kernel_rfl) (by simp) ?_
    refine AllTill.cons rfl (fun K hK => ?_) (AllTill.cons rfl (fun K hK => ?_) AllTill.nil)
    · have hb1 : V0.heap.size < X1.heap.size := own_lt (own_heap OX1.out _ rfl).choose_spec.1
      refine step_append_any _ rfl (.tmp 90) (.tmp 94) _ rfl (W1.heap.size) 31 i0 _ 28 224 Try.underlying45 hi0 hz0 hz1 hz2 (mc_size zM_length) (by omega) (.slice (some ⟨V0.heap.size, 0, none⟩) 0 0) 0 [] rfl
        OX1.out w.heap.size (some ad) ms.length c (ints ms.flatten) rfl (HSL.out _ KX1.out.bel) (ints_one _) (by simp only [maxLen]; omega) (by omega) (by have := KX1.out.lt; omega) ?_
      intro v6 X2 hown hg _
      rw [Nat.zero_add, List.nil_append] at hown
      have KX2 := Lib.hid (KX1.out.grown hg (fun g e => (ownBlock_ge OX1.out g e)) hb0)
      have OX2 := Lib.hid hown
      clear hown hg
      refine hK.out _ _ (HS.out _ KX2.out) (fun hHeld => ?_)
      clear hK K
      refine wpTill_ready (rs := [8]) (by kernel_rfl) (by simp) ?_
      refine AllTill.cons rfl (fun K hK => ?_) AllTill.nil
      refine step_build_msgs (by rfl) 1 _ rfl [q] (by simpa using HDL.out) rfl (by omega) (by rfl) ?_
      rw [show (ints [q].flatten).toArray = mc q by simp [mc]]
      have KX3 := Lib.hid (KX2.out.alloc (.cells (mc q) 31))
      have NX3 := Lib.hid (Blk.new X2 31 (mc q))
      have OX3 := Lib.hid (World.ownsRow.alloc OX2.out (.cells (mc q) 31))
      refine hK.out _ _ (HS.out _ KX3.out) (fun hHeld => ?_)
      clear hK K hHeld
      have hHeld := HS.out _ KX3.out
      generalize X2.alloc (.cells (mc q) 31) = X3 at KX3 NX3 OX3 hHeld ⊢
      refine wpTill_ready (rs := [9]) (by kernel_rfl) (by simp) ?_
      refine AllTill.cons rfl (fun K hK => ?_) AllTill.nil
      refine step_append_any _ rfl (.tmp 95) (.tmp 97) _ rfl (W1.heap.size) 31 i0 _ 28 224 Try.underlying45 hi0 hz0 hz1 hz2 (mc_size zM_length) (by omega) v6 ms.length (ints ms.flatten) rfl
        OX3.out X3.heap.size (some ⟨X2.heap.size, 0, none⟩) 1 1 (ints q) rfl (reads_one NX3.out HDL.out) (ints_one _) (by simp only [maxLen]; omega) (by omega) (by have := KX3.out.lt; omega) ?_
      intro v9 W9 hown hg _
      have K9 := Lib.hid (KX3.out.grown hg (fun g e => (ownBlock_ge OX3.out g e)) hb0)
      obtain ⟨A9, c9, rfl, _, _⟩ := own_slice_any hown
      rw [← ints_append, show ms.flatten ++ q = (ms ++ [q]).flatten by simp] at hown
      obtain ⟨R9, T9⟩ := HR.out.set (ms' := ms ++ [q]) (Turn.of_below K9.out.bel) (by rw [List.length_append]; exact own_less hown (by omega)) HALLQ.out (by rw [List.length_append]; exact hsm)
      have hv9 := fun k hk => ownBlock_ge hown k hk
      have k9 := (HX.out _ K9.out.bel).box.cell 1
      have f9 := (HX.out _ K9.out.bel).box.frozen 1
      have R9h := Lib.hid R9
      have T9h := Lib.hid T9
      have V9h := Lib.hid hv9
      have AN := Lib.hid (K9.out.kd.ans.far (p := ⟨h, 1, none⟩) hnh (.slice A9 (ms.length + 1) c9))
      clear hown hg R9 T9 hv9
      refine hK.out _ _ (HS.out _ K9.out) (fun hHeld => ?_)
      clear hK K
      refine wpTill_ready (rs := [10]) (by kernel_rfl) (by simp) ?_
      refine AllTill.cons rfl (fun K hK => ?_) AllTill.nil
      go_simp
      refine hK.out _ _ hHeld (fun hHeld => ?_)
      clear hK K
      refine wpTill_take (i := 11) (v := ?_) rfl (by kernel_rfl) (by kernel_rfl) (by kernel_rfl) (by kernel_rfl) (fun _ _ _ h => h) (Or.inl ⟨by rfl, ?_⟩) (by assumption) ?_
      rotate_left
      · (intro w0 hSw; (try dsimp only at hSw); go_simp; try with_reducible rfl)
      try simp only [List.getElem_toArray, List.getElem_cons_succ, List.getElem_cons_zero, Act.put, List.setIfInBounds_toArray, List.set_cons_zero, List.set_cons_succ]
      refine wpTill_ready (rs := [12]) (by kernel_rfl) (by simp) ?_
      refine AllTill.last rfl (of_decide_eq_true (by kernel_rfl)) (fun K hK => ?_)
      go_simp
      refine hK.out _ _ ?_
      clear hK K hHeld k9 f9
      refine wpTill_done (by kernel_rfl) ?_ _
      generalize W9.setCell ⟨h, 1, none⟩ (.slice A9 (ms.length + 1) c9) = V9 at R9h T9h AN ⊢
      go_wp2_with (refine wpList_store_mid (by rfl) 31 (.tmp 4) (.tmp 101) (by rfl) (w.heap.size + 1) 0 (mc zM) (by rfl) (by rfl) (mc_there zM_length zM_length AN.out) HZ.out (ints_oneCell _) ?_)
      exact bodyPost_ret (v := .tuple #[.agg (mc zM), .int .i64 0]) (results_cell_and rfl rfl rfl (loadM zM_length (mc_put zM_length zM_length AN.out))) rfl ⟨rfl, _, by rw [HQ.out]; exact R9h.out.ans hlt (fun k hk => by have := V9h.out k hk; omega) _, Turn.setCells (fun h => absurd h (by omega)) _ _ _ T9h.out⟩
    · refine step_build_msgs (by rfl) 1 _ rfl [q] (by simpa using HDL.out) rfl (by omega) (by rfl) ?_
      have hb1 : V0.heap.size < X1.heap.size := own_lt (own_heap OX1.out _ rfl).choose_spec.1
      rw [show (ints [q].flatten).toArray = mc q by simp [mc]]
      have KX2 := Lib.hid (KX1.out.alloc (.cells (mc q) 31))
      have NX2 := Lib.hid (Blk.new X1 31 (mc q))
      have OX2 := Lib.hid (World.ownsRow.alloc OX1.out (.cells (mc q) 31))
      refine hK.out _ _ (HS.out _ KX2.out) (fun hHeld => ?_)
      clear hK K hHeld
      have hHeld := HS.out _ KX2.out
      generalize X1.alloc (.cells (mc q) 31) = X2 at KX2 NX2 OX2 hHeld ⊢
      refine wpTill_ready (rs := [6]) (by kernel_rfl) (by simp) ?_
      refine AllTill.cons rfl (fun K hK => ?_) AllTill.nil
      refine step_append_any _ rfl (.tmp 90) (.tmp 94) _ rfl (W1.heap.size) 31 i0 _ 28 224 Try.underlying45 hi0 hz0 hz1 hz2 (mc_size zM_length) (by omega) (.slice (some ⟨V0.heap.size, 0, none⟩) 0 0) 0 [] rfl
        OX2.out w.heap.size (some ad) ms.length c (ints ms.flatten) rfl (HSL.out _ KX2.out.bel) (ints_one _) (by simp only [maxLen]; omega) (by omega) (by have := KX2.out.lt; omega) ?_
      intro v6 X3 hown hg _
      rw [Nat.zero_add, List.nil_append] at hown
      have KX3 := Lib.hid (KX2.out.grown hg (fun g e => (ownBlock_ge OX2.out g e)) hb0)
      have OX3 := Lib.hid hown
      have NX3 := Lib.hid (NX2.out.grown hg (fun e => by simp [Value.ownBlock] at e; omega))
      clear hown hg
      refine hK.out _ _ (HS.out _ KX3.out) (fun hHeld => ?_)
      clear hK K
      refine wpTill_ready (rs := [9]) (by kernel_rfl) (by simp) ?_
      refine AllTill.cons rfl (fun K hK => ?_) AllTill.nil
      refine step_append_any _ rfl (.tmp 95) (.tmp 97) _ rfl (W1.heap.size) 31 i0 _ 28 224 Try.underlying45 hi0 hz0 hz1 hz2 (mc_size zM_length) (by omega) v6 ms.length (ints ms.flatten) rfl
        OX3.out X3.heap.size (some ⟨X1.heap.size, 0, none⟩) 1 1 (ints q) rfl (reads_one NX3.out HDL.out) (ints_one _) (by simp only [maxLen]; omega) (by omega) (by have := KX3.out.lt; omega) ?_
      intro v9 W9 hown hg _
      have K9 := Lib.hid (KX3.out.grown hg (fun g e => (ownBlock_ge OX3.out g e)) hb0)
      obtain ⟨A9, c9, rfl, _, _⟩ := own_slice_any hown
      rw [← ints_append, show ms.flatten ++ q = (ms ++ [q]).flatten by simp] at hown
      obtain ⟨R9, T9⟩ := HR.out.set (ms' := ms ++ [q]) (Turn.of_below K9.out.bel) (by rw [List.length_append]; exact own_less hown (by omega)) HALLQ.out (by rw [List.length_append]; exact hsm)
      have hv9 := fun k hk => ownBlock_ge hown k hk
      have k9 := (HX.out _ K9.out.bel).box.cell 1
      have f9 := (HX.out _ K9.out.bel).box.frozen 1
      have R9h := Lib.hid R9
      have T9h := Lib.hid T9
      have V9h := Lib.hid hv9
      have AN := Lib.hid (K9.out.kd.ans.far (p := ⟨h, 1, none⟩) hnh (.slice A9 (ms.length + 1) c9))
      clear hown hg R9 T9 hv9
      refine hK.out _ _ (HS.out _ K9.out) (fun hHeld => ?_)
      clear hK K
      refine wpTill_ready (rs := [10]) (by kernel_rfl) (by simp) ?_
      refine AllTill.cons rfl (fun K hK => ?_) AllTill.nil
      go_simp
      refine hK.out _ _ hHeld (fun hHeld => ?_)
      clear hK K
      refine wpTill_take (i := 11) (v := ?_) rfl (by kernel_rfl) (by kernel_rfl) (by kernel_rfl) (by kernel_rfl) (fun _ _ _ h => h) (Or.inl ⟨by rfl, ?_⟩) (by assumption) ?_
      rotate_left
      · (intro w0 hSw; (try dsimp only at hSw); go_simp; try with_reducible rfl)
      try simp only [List.getElem_toArray, List.getElem_cons_succ, List.getElem_cons_zero, Act.put, List.setIfInBounds_toArray, List.set_cons_zero, List.set_cons_succ]
      refine wpTill_ready (rs := [12]) (by kernel_rfl) (by simp) ?_
      refine AllTill.last rfl (of_decide_eq_true (by kernel_rfl)) (fun K hK => ?_)
      go_simp
      refine hK.out _ _ ?_
      clear hK K hHeld k9 f9
      refine wpTill_done (by kernel_rfl) ?_ _
      generalize W9.setCell ⟨h, 1, none⟩ (.slice A9 (ms.length + 1) c9) = V9 at R9h T9h AN ⊢
      go_wp2_with (refine wpList_store_mid (by rfl) 31 (.tmp 4) (.tmp 101) (by rfl) (w.heap.size + 1) 0 (mc zM) (by rfl) (by rfl) (mc_there zM_length zM_length AN.out) HZ.out (ints_oneCell _) ?_)
      exact bodyPost_ret (v := .tuple #[.agg (mc zM), .int .i64 0]) (results_cell_and rfl rfl rfl (loadM zM_length (mc_put zM_length zM_length AN.out))) rfl ⟨rfl, _, by rw [HQ.out]; exact R9h.out.ans hlt (fun k hk => by have := V9h.out k hk; omega) _, Turn.setCells (fun h => absurd h (by omega)) _ _ _ T9h.out⟩
  · refine step_build_msgs (by rfl) 1 _ rfl [q] (by simpa using HDL.out) rfl (by omega) (by rfl) ?_
    rw [show (ints [q].flatten).toArray = mc q by simp [mc]]
    have KX1 := Lib.hid (KV0.out.alloc (.cells (mc q) 31))
    have NX1 := Lib.hid (Blk.new V0 31 (mc q))
    refine hK.out _ _ (HS.out _ KX1.out) (fun hHeld => ?_)
    clear hK K hHeld
    have hHeld := HS.out _ KX1.out
    generalize V0.alloc (.cells (mc q) 31) = X1 at KX1 NX1 hHeld ⊢
    have hb1 : V0.heap.size < X1.heap.size := NX1.out.lt
    refine wpTill_ready (rs := [1]) (by kernel_rfl) (by simp) ?_
    refine AllTill.cons rfl (fun K hK => ?_) AllTill.nil
    go_simp
    have KX2 := Lib.hid (KX1.out.alloc (.cells #[] 31))
    have OX2 := Lib.hid (own_made28 (base := W1.heap.size) X1 (by have := KX1.out.lt; omega))
    have NX2 := Lib.hid (NX1.out.alloc (.cells #[] 31))
    refine hK.out _ _ (HS.out _ KX2.out) (fun hHeld => ?_)
    clear hK K hHeld
    have hHeld := HS.out _ KX2.out
    generalize X1.alloc (.cells #[] 31) = X2 at KX2 OX2 NX2 hHeld ⊢
    refine wpTill_ready (rs := [6]) (by kernel_rfl) (by simp) ?_
    refine AllTill.cons rfl (fun K hK => ?_) AllTill.nil
    refine step_append_any _ rfl (.tmp 90) (.tmp 94) _ rfl (W1.heap.size) 31 i0 _ 28 224 Try.underlying45 hi0 hz0 hz1 hz2 (mc_size zM_length) (by omega) (.slice (some ⟨X1.heap.size, 0, none⟩) 0 0) 0 [] rfl
      OX2.out w.heap.size (some ad) ms.length c (ints ms.flatten) rfl (HSL.out _ KX2.out.bel) (ints_one _) (by simp only [maxLen]; omega) (by omega) (by have := KX2.out.lt; omega) ?_
    intro v6 X3 hown hg _
    rw [Nat.zero_add, List.nil_append] at hown
    have KX3 := Lib.hid (KX2.out.grown hg (fun g e => (ownBlock_ge OX2.out g e)) hb0)
    have OX3 := Lib.hid hown
    have NX3 := Lib.hid (NX2.out.grown hg (fun e => by simp [Value.ownBlock] at e; omega))
    clear hown hg
    refine hK.out _ _ (HS.out _ KX3.out) (fun hHeld => ?_)
    clear hK K
    refine wpTill_ready (rs := [9]) (by kernel_rfl) (by simp) ?_
    refine AllTill.cons rfl (fun K hK => ?_) AllTill.nil
    refine step_append_any _ rfl (.tmp 95) (.tmp 97) _ rfl (W1.heap.size) 31 i0 _ 28 224 Try.underlying45 hi0 hz0 hz1 hz2 (mc_size zM_length) (by omega) v6 ms.length (ints ms.flatten) rfl
      OX3.out X3.heap.size (some ⟨V0.heap.size, 0, none⟩) 1 1 (ints q) rfl (reads_one NX3.out HDL.out) (ints_one _) (by simp only [maxLen]; omega) (by omega) (by have := KX3.out.lt; omega) ?_
    intro v9 W9 hown hg _
    have K9 := Lib.hid (KX3.out.grown hg (fun g e => (ownBlock_ge OX3.out g e)) hb0)
    obtain ⟨A9, c9, rfl, _, _⟩ := own_slice_any hown
    rw [← ints_append, show ms.flatten ++ q = (ms ++ [q]).flatten by simp] at hown
    obtain ⟨R9, T9⟩ := HR.out.set (ms' := ms ++ [q]) (Turn.of_below K9.out.bel) (by rw [List.length_append]; exact own_less hown (by omega)) HALLQ.out (by rw [List.length_append]; exact hsm)
    have hv9 := fun k hk => ownBlock_ge hown k hk
    have k9 := (HX.out _ K9.out.bel).box.cell 1
    have f9 := (HX.out _ K9.out.bel).box.frozen 1
    have R9h := Lib.hid R9
    have T9h := Lib.hid T9
    have V9h := Lib.hid hv9
    have AN := Lib.hid (K9.out.kd.ans.far (p := ⟨h, 1, none⟩) hnh (.slice A9 (ms.length + 1) c9))
    clear hown hg R9 T9 hv9
    refine hK.out _ _ (HS.out _ K9.out) (fun hHeld => ?_)
    clear hK K
    refine wpTill_ready (rs := [10]) (by kernel_rfl) (by simp) ?_
    refine AllTill.cons rfl (fun K hK => ?_) AllTill.nil
    go_simp
    refine hK.out _ _ hHeld (fun hHeld => ?_)
    clear hK K
    refine wpTill_take (i := 11) (v := ?_) rfl (by kernel_rfl) (by kernel_rfl) (by kernel_rfl) (by kernel_rfl) (fun _ _ _ h => h) (Or.inl ⟨by rfl, ?_⟩) (by assumption) ?_
    rotate_left
    · (intro w0 hSw; (try dsimp only at hSw); go_simp; try with_reducible rfl)
    try simp only [List.getElem_toArray, List.getElem_cons_succ, List.getElem_cons_zero, Act.put, List.setIfInBounds_toArray, List.set_cons_zero, List.set_cons_succ]
    refine wpTill_ready (rs := [12]) (by kernel_rfl) (by simp) ?_
    refine AllTill.last rfl (of_decide_eq_true (by kernel_rfl)) (fun K hK => ?_)
    go_simp
    refine hK.out _ _ ?_
    clear hK K hHeld k9 f9
    refine wpTill_done (by kernel_rfl) ?_ _
    generalize W9.setCell ⟨h, 1, none⟩ (.slice A9 (ms.length + 1) c9) = V9 at R9h T9h AN ⊢
    go_wp2_with (refine wpList_store_mid (by rfl) 31 (.tmp 4) (.tmp 101) (by rfl) (w.heap.size + 1) 0 (mc zM) (by rfl) (by rfl) (mc_there zM_length zM_length AN.out) HZ.out (ints_oneCell _) ?_)
    exact bodyPost_ret (v := .tuple #[.agg (mc zM), .int .i64 0]) (results_cell_and rfl rfl rfl (loadM zM_length (mc_put zM_length zM_length AN.out))) rfl ⟨rfl, _, by rw [HQ.out]; exact R9h.out.ans hlt (fun k hk => by have := V9h.out k hk; omega) _, Turn.setCells (fun h => absurd h (by omega)) _ _ _ T9h.out⟩
end Go.Proofs.Ytmjmplkhngpgnaa
