/- The heap of numbers: Push and Pop. -/
import Derived.Test.YtiapnaecdefonaaHeapB
import Derived.Test.YtiapnaecdefonaaHeld
import Derived.Test.YtiapnaecdefonaaBase
namespace Go.Proofs.Ytiapnaecdefonaa
open Go.RowKit
set_option linter.unusedVariables false
set_option linter.unusedSimpArgs false

theorem assertI (x : Int) (w : World) : (Instr.typeAssert (.iface 3 (.int .i64 x)) 20 3 false).run Try.prog w = .ok (.int .i64 x) w := by kernel_rfl
theorem take_own {w : World} {B r n m c : Nat} {t : TypeId} {H : List Int} (h : w.ownsRow B t 1 (.slice (some ⟨r, 0, none⟩) n c) n (i64s H)) (hm : m ≤ n) : w.ownsRow B t 1 (.slice (some ⟨r, 0, none⟩) m c) m (i64s (H.take m)) := by
  obtain ⟨h0, h1 | ⟨g, cap, cur, hv, hb, hh, hnc, hcm, hcs, ht⟩⟩ := h
  · obtain ⟨h1, _⟩ := h1; cases h1
  · injection hv with e1 e2 e3
    injection e1 with e1
    injection e1 with e1 _ _
    subst e1 e3
    rw [i64s_length] at h0
    refine ⟨by rw [i64s_length, List.length_take]; omega, .inr ⟨r, c, cur, rfl, hb, hh, by omega, hcm, hcs, ?_⟩⟩
    have : i64s (H.take m) = (i64s H).take m := by simp [i64s, List.map_take]
    rw [this, ← ht, List.take_take]
    congr 1; omega
section
variable {w : World} {B g n : Nat} {H : List Int} {v : Value}
set_option maxRecDepth 100000 in
set_option maxHeartbeats 4000000 in
theorem popL_any {r c : Nat} (w : World) (h : HeapM w B g (.slice (some ⟨r, 0, none⟩) n c) H) (he : H.length = n) (h0 : 0 < n) (hn : n ≤ 1000000) :
    Calls Try.prog 88 #[.pointer (some ⟨g, 0, none⟩)] w fun e w' => e = .returned (.iface 3 (.int .i64 (gd H (n - 1)))) ∧ HeapM w' B g (.slice (some ⟨r, 0, none⟩) (n - 1) c) (H.take (n - 1)) ∧ Turn (fun k => k = g) w w' := by
  obtain ⟨m, rfl⟩ : ∃ m, n = m + 1 := ⟨n - 1, by omega⟩
  rw [Nat.add_sub_cancel]
  have hc : m + 1 ≤ c := by
    obtain ⟨_, h1 | ⟨g', cap, cur, hv, hb, hh, hnc, _⟩⟩ := h.row
    · obtain ⟨h1, _⟩ := h1; cases h1
    · injection hv with e1 e2 e3; omega
  have k0 : w.cell? ⟨g, 0, none⟩ = some (.slice (some ⟨r, 0, none⟩) (m + 1) c) := h.box.cell 0
  have kf : w.frozen? ⟨g, 0, none⟩ = false := h.box.frozen 0
  have k1 : w.cell? ⟨r, m, none⟩ = some (.int .i64 (gd H m)) := own_gd h.row (by omega)
  have k2 : w.cell? ⟨r, 0 + m, none⟩ = some (.int .i64 (gd H m)) := by rw [Nat.zero_add]; exact k1
  have q1 : IntKind.i64.wrap ((m : Int) + 1 - 1) = (m : Int) := by rw [show (m : Int) + 1 - 1 = m by omega]; exact IntWalk.i64_in _ (by omega)
  have HH := Lib.hid h
  have HE := Lib.hid he
  clear h he
  go_enter Try.func88, Try.ntmps88
  go_wp2_with (go_at_call 35; refine (lenI_any _ _ _ _).mono ?_; rintro e w' ⟨rfl, rfl⟩)
  go_ret
  have hlen : (H.take m).length = m := by rw [List.length_take, HE.out]; omega
  have hrow := HH.out.row
  rw [HE.out] at hrow
  refine ⟨rfl, ⟨?_, ?_, HH.out.geB⟩, (Turn.refl (fun k => k = g) w).setCell (p := ⟨g, 0, none⟩) (fun _ => rfl) _⟩
  · have := HH.out.box.set_ 0 (.slice (some ⟨r, 0, none⟩) m c)
    simpa using this
  · rw [hlen]
    exact own_turn (take_own hrow (Nat.le_succ m)) ((Turn.refl (fun k => k = g) w).setCell (p := ⟨g, 0, none⟩) (fun _ => rfl) _) fun k hk e => HH.out.ne (by rw [← e]; exact hk)
set_option maxRecDepth 100000 in
set_option maxHeartbeats 4000000 in
theorem pushL_any (x : Int) (w : World) (h : HeapM w B g v H) (hn : H.length < 1000000) (hB : B ≤ w.heap.size) :
    Calls Try.prog 89 #[.pointer (some ⟨g, 0, none⟩), .iface 3 (.int .i64 x)] w fun e w' => e = .returned (.tuple #[]) ∧ ∃ v', HeapM w' B g v' (H ++ [x]) ∧ Turn (HS g v) w w' ∧ (v'.ownBlock = v.ownBlock ∨ ∀ k, v'.ownBlock = some k → w.heap.size ≤ k) := by
  obtain ⟨i0, hi0, hz0, hz1, hz2⟩ := info_parts info_int
  have k0 : w.cell? ⟨g, 0, none⟩ = some v := h.box.cell 0
  have HH := Lib.hid h
  clear h
  go_enter Try.func89, Try.ntmps89
  refine wp_region_till 11 (fun w' => w'.cell? ⟨g, 0, none⟩ = some v) (by kernel_rfl) k0 (fun hHeld => ?_)
  refine wpTill_take (i := 0) (v := ?_) rfl (by kernel_rfl) (by kernel_rfl) (by kernel_rfl) (by kernel_rfl) (fun _ _ _ h => h) (Or.inl ⟨by rfl, ?_⟩) (by assumption) ?_
  rotate_left
  · (intro w0 hSw; (try dsimp only at hSw); go_simp; try with_reducible rfl)
  try simp only [List.getElem_toArray, List.getElem_cons_succ, List.getElem_cons_zero, Act.put, List.setIfInBounds_toArray, List.set_cons_zero, List.set_cons_succ]
  refine wpTill_take (i := 1) (v := ?_) rfl (by kernel_rfl) (by kernel_rfl) (by kernel_rfl) (by kernel_rfl) (fun _ _ _ h => h) (Or.inl ⟨by rfl, ?_⟩) (by assumption) ?_
  rotate_left
  · (intro w0 hSw; (try dsimp only at hSw); go_simp; try with_reducible rfl)
  try simp only [List.getElem_toArray, List.getElem_cons_succ, List.getElem_cons_zero, Act.put, List.setIfInBounds_toArray, List.set_cons_zero, List.set_cons_succ]
  refine wpTill_take (i := 2) (v := ?_) rfl (by kernel_rfl) (by kernel_rfl) (by kernel_rfl) (by kernel_rfl) (fun _ _ _ h => h) (Or.inl ⟨by rfl, ?_⟩) (by assumption) ?_
  rotate_left
  · (intro w0 hSw; (try dsimp only at hSw); go_simp; try with_reducible rfl)
  try simp only [List.getElem_toArray, List.getElem_cons_succ, List.getElem_cons_zero, Act.put, List.setIfInBounds_toArray, List.set_cons_zero, List.set_cons_succ]
  refine wpTill_take (i := 3) (v := ?_) rfl (by kernel_rfl) (by kernel_rfl) (by kernel_rfl) (by kernel_rfl) (fun _ _ _ h => h) (Or.inl ⟨by rfl, ?_⟩) (by assumption) ?_
  rotate_left
  · (intro w0 hSw; (try dsimp only at hSw); go_simp; try with_reducible rfl)
  try simp only [List.getElem_toArray, List.getElem_cons_succ, List.getElem_cons_zero, Act.put, List.setIfInBounds_toArray, List.set_cons_zero, List.set_cons_succ]
  refine wpTill_take (i := 4) (v := ?_) rfl (by kernel_rfl) (by kernel_rfl) (by kernel_rfl) (by kernel_rfl) (fun _ _ _ h => h) (Or.inl ⟨by rfl, ?_⟩) (by assumption) ?_
  rotate_left
  · (intro w0 hSw; (try dsimp only at hSw); go_simp; try with_reducible rfl)
  try simp only [List.getElem_toArray, List.getElem_cons_succ, List.getElem_cons_zero, Act.put, List.setIfInBounds_toArray, List.set_cons_zero, List.set_cons_succ]
  refine wpTill_take (i := 5) (v := ?_) rfl (by kernel_rfl) (by kernel_rfl) (by kernel_rfl) (by kernel_rfl) (fun _ _ _ h => h) (Or.inl ⟨by rfl, ?_⟩) (by assumption) ?_
  rotate_left
  · (intro w0 hSw; (try dsimp only at hSw); go_simp; try with_reducible rfl)
  try simp only [List.getElem_toArray, List.getElem_cons_succ, List.getElem_cons_zero, Act.put, List.setIfInBounds_toArray, List.set_cons_zero, List.set_cons_succ]
  have hA := assertI x
  refine wpTill_take (i := 6) (v := ?_) rfl (by kernel_rfl) (by kernel_rfl) (by kernel_rfl) (by kernel_rfl) (fun _ _ _ h => h) (Or.inl ⟨by rfl, ?_⟩) (by assumption) ?_
  rotate_left
  · (intro w0 hSw; (try dsimp only at hSw); go_simp; try with_reducible rfl)
  try simp only [List.getElem_toArray, List.getElem_cons_succ, List.getElem_cons_zero, Act.put, List.setIfInBounds_toArray, List.set_cons_zero, List.set_cons_succ]
  clear hA
  refine wpTill_ready (rs := [7]) (by kernel_rfl) (by simp) ?_
  refine AllTill.cons rfl (fun K hK => ?_) AllTill.nil
  go_simp
  have hd : w.drew.heap.size = w.heap.size := rfl
  have hrow := HH.out.row.alloc (.cells #[.int .i64 x] 3)
  have hbox := HH.out.box.alloc (.cells #[.int .i64 x] 3)
  have HROW := Lib.hid hrow
  have HBOX := Lib.hid hbox
  have RN := Lib.hid (reads_newInt w 3 x)
  clear hrow hbox
  refine hK.out _ _ (HBOX.out.cell 0) (fun hHeld => ?_)
  clear hK K
  refine wpTill_ready (rs := [8]) (by kernel_rfl) (by simp) ?_
  refine AllTill.cons rfl (fun K hK => ?_) AllTill.nil
  refine step_append_any _ rfl (.tmp 8) (.tmp 11) _ rfl B 3 i0 _ 1 8 Try.underlying64 hi0 hz0 hz1 hz2 rfl (by omega) v H.length (i64s H) rfl
    HROW.out (w.heap.size + 1) (some ⟨w.heap.size, 0, none⟩) 1 1 (i64s [x]) rfl RN.out (i64s_one _) (by simp only [maxLen]; omega) (by omega) (by simp; omega) ?_
  intro v9 W9 hown9 hg9 hv9
  rw [show i64s H ++ i64s [x] = i64s (H ++ [x]) by simp [i64s]] at hown9
  obtain ⟨r9, c9, rfl, _⟩ := hown9.form (by omega)
  have T9 := Lib.hid (((Turn.refl (HS g v) w).alloc (.cells #[.int .i64 x] 3)).drew.grown hg9 (fun k hk _ => .inr hk))
  have V9 := Lib.hid hv9
  have B9 := Lib.hid (HBOX.out.drew.grown hg9 HH.out.ne)
  have O9 := Lib.hid hown9
  have k9 : W9.cell? ⟨g, 0, none⟩ = some v := B9.out.cell 0
  have kf9 : W9.frozen? ⟨g, 0, none⟩ = false := B9.out.frozen 0
  clear hown9 hg9 hv9
  refine hK.out _ _ k9 (fun hHeld => ?_)
  clear hK K
  refine wpTill_ready (rs := [9]) (by kernel_rfl) (by simp) ?_
  refine AllTill.cons rfl (fun K hK => ?_) AllTill.nil
  go_simp
  refine hK.out _ _ k9 (fun hHeld => ?_)
  clear hK K
  refine wpTill_take (i := 10) (v := ?_) rfl (by kernel_rfl) (by kernel_rfl) (by kernel_rfl) (by kernel_rfl) (fun _ _ _ h => h) (Or.inl ⟨by rfl, ?_⟩) (by assumption) ?_
  rotate_left
  · (intro w0 hSw; (try dsimp only at hSw); go_simp; try with_reducible rfl)
  try simp only [List.getElem_toArray, List.getElem_cons_succ, List.getElem_cons_zero, Act.put, List.setIfInBounds_toArray, List.set_cons_zero, List.set_cons_succ]
  refine wpTill_ready (rs := [11]) (by kernel_rfl) (by simp) ?_
  refine AllTill.last rfl (of_decide_eq_true (by kernel_rfl)) (fun K hK => ?_)
  go_simp
  refine hK.out _ _ ?_
  clear hK K hHeld
  refine wpTill_done (by kernel_rfl) ?_ _
  go_wp2_with fail
  go_end0
  have hlen : (H ++ [x]).length = H.length + 1 := by simp
  have hne9 : (Value.slice (some ⟨r9, 0, none⟩) (H.length + 1) c9).ownBlock ≠ some g := fun e => by
    obtain ⟨cur, hh, _⟩ := own_heap O9.out g e
    have h2 := B9.out
    unfold Blk at h2
    rw [h2] at hh
    injection hh with hh
    injection hh with _ hh
    exact absurd hh (by decide)
  refine ⟨rfl, .slice (some ⟨r9, 0, none⟩) (H.length + 1) c9, ⟨?_, ?_, HH.out.geB⟩, T9.out.setCell (p := ⟨g, 0, none⟩) (fun _ => .inl rfl) _, ?_⟩
  · have := B9.out.set_ 0 (.slice (some ⟨r9, 0, none⟩) (H.length + 1) c9)
    simpa using this
  · rw [hlen]
    exact own_turn O9.out ((Turn.refl (fun k => k = g) W9).setCell (p := ⟨g, 0, none⟩) (fun _ => rfl) _) fun k hk e => hne9 (by rw [← e]; exact hk)
  · rcases V9.out with h | h
    · exact .inl h
    · right
      intro k hk
      rw [h] at hk
      injection hk with hk
      have h3 : (w.alloc (.cells #[.int .i64 x] 3)).drew.heap.size = w.heap.size + 1 := by simp
      omega
/-- What package heap's Push does. -/
theorem HP.push_of {H' : List Int} {x : Int} (h : HP H' H'.length) (hp : H'.Perm (H ++ [x])) : H'.length = H.length + 1 := by have := hp.length_eq; simpa using this
set_option maxRecDepth 100000 in
set_option maxHeartbeats 4000000 in
theorem push_any (x : Int) (w : World) (h : HeapM w B g v H) (hh : HP H H.length) (hn : H.length < 1000000) (hB : B ≤ w.heap.size) :
    Calls Try.prog 34 #[.iface 63 (.pointer (some ⟨g, 0, none⟩)), .iface 3 (.int .i64 x)] w fun e w' => e = .returned (.tuple #[]) ∧ ∃ v' H', HeapM w' B g v' H' ∧ H'.Perm (H ++ [x]) ∧ HP H' H'.length ∧ Turn (HS g v) w w' ∧ (v'.ownBlock = v.ownBlock ∨ ∀ k, v'.ownBlock = some k → w.heap.size ≤ k) := by
  have HH := Lib.hid h
  have HP0 := Lib.hid hh
  have m0 := mPush (.pointer (some ⟨g, 0, none⟩)) w
  clear h hh
  go_enter Try.func34, Try.ntmps34
  go_wp2_with fail
  refine (pushL_any x w HH.out hn hB).mono ?_
  rintro e w1 ⟨rfl, v1, h1, ht1, hv1⟩
  obtain ⟨r1, c1, e1, hr1⟩ := h1.form (by simp)
  subst e1
  have H1 := Lib.hid h1
  have T1 := Lib.hid ht1
  have V1 := Lib.hid hv1
  have m1 := mLoad len_row g _ w1 (h1.box.cell 0)
  have e2 : (((H ++ [x]).length : Nat) : Int) = (H.length : Int) + 1 := by simp
  rw [e2] at *
  have q1 : IntKind.i64.wrap ((H.length : Int) + 1 - 1) = (H.length : Int) := by rw [show (H.length : Int) + 1 - 1 = H.length by omega]; exact IntWalk.i64_in _ (by omega)
  clear h1 ht1 hv1 e2
  go_wp2_with fail
  refine (lenI_any _ _ _ _).mono ?_
  rintro e w2 ⟨rfl, rfl⟩
  go_wp2_with fail
  have h2 := H1.out
  have hl2 : (H ++ [x]).length = H.length + 1 := by simp
  rw [show ((H ++ [x]).length : Nat) = H.length + 1 by simp] at h2
  refine (up_any w1 H.length h2 (UpI.push HP0.out x) hl2 (by omega)).mono ?_
  rintro e w2 ⟨rfl, H', h3, hp3, hh3, ht3⟩
  have H3 := Lib.hid h3
  have P3 := Lib.hid hp3
  have Q3 := Lib.hid hh3
  have T3 := Lib.hid ht3
  clear h3 hp3 hh3 ht3 h2
  go_wp2_with fail
  go_end0
  refine ⟨rfl, _, H', H3.out, P3.out, Q3.out, T1.out.trans T3.out (fun k hk e => ?_), V1.out⟩
  subst e
  rcases V1.out with h | h
  · exact .inr (by rw [← h]; rfl)
  · have := h k rfl; omega
set_option maxRecDepth 100000 in
set_option maxHeartbeats 4000000 in
/-- What package heap's Pop does: the least number comes out. -/
theorem pop_any {x : Int} (w : World) (h : HeapM w B g v H) (hh : HP H H.length) (h0 : 0 < H.length) (hx : gd H 0 = x) (hn : H.length ≤ 1000000) :
    Calls Try.prog 36 #[.iface 63 (.pointer (some ⟨g, 0, none⟩))] w fun e w' => e = .returned (.iface 3 (.int .i64 x)) ∧ ∃ v' H', HeapM w' B g v' H' ∧ (H' ++ [x]).Perm H ∧ HP H' H'.length ∧ Turn (HS g v) w w' ∧ v'.ownBlock = v.ownBlock := by
  obtain ⟨r, c, rfl, hr⟩ := h.form h0
  obtain ⟨n, hN⟩ : ∃ n, n = H.length := ⟨_, rfl⟩
  rw [← hN] at h h0 hn ⊢
  obtain ⟨m, rfl⟩ : ∃ m, n = m + 1 := ⟨n - 1, by omega⟩
  have HH := Lib.hid h
  have HN := Lib.hid hN
  have HX := Lib.hid hx
  have hd := DnI.pop hh (by omega)
  rw [← hN, Nat.add_sub_cancel] at hd
  have HD := Lib.hid hd
  have m0 := mLoad len_row g _ w (h.box.cell 0)
  have m1 := mLoad swap_row g _ w (h.box.cell 0)
  have q1 : IntKind.i64.wrap ((m : Int) + 1 - 1) = (m : Int) := by rw [show (m : Int) + 1 - 1 = m by omega]; exact IntWalk.i64_in _ (by omega)
  have C0 := Lib.hid (own_gd h.row (k := 0) (by omega))
  have C1 := Lib.hid (own_gd h.row (k := m) (by omega))
  have hsw := HeapM.swap h (i := 0) (j := m) (by omega) (by omega)
  have HSW := Lib.hid hsw
  clear h hh hd hsw hN hx
  go_enter Try.func36, Try.ntmps36
  go_wp2_with fail
  refine (lenI_any _ _ _ _).mono ?_
  rintro e w2 ⟨rfl, rfl⟩
  go_wp2_with fail
  refine (swapI_any (w := w) (i := 0) (j := m) (by omega) (by omega) C0.out C1.out (own_hot HH.out.row _) (own_hot HH.out.row _)).mono ?_
  rintro e w2 ⟨rfl, q, rfl⟩
  have T2 := Lib.hid (turn_two (S := HS g (.slice (some ⟨r, 0, none⟩) (m + 1) c)) w r 0 m (.int .i64 (gd H m)) (.int .i64 (gd H 0)) (.inr rfl) q)
  generalize (w.setCell ⟨r, 0, none⟩ (.int .i64 (gd H m))).setCell ⟨r, m, none⟩ (.int .i64 (gd H 0)) = w2 at HSW T2 ⊢
  go_wp2_with fail
  refine (down_any (w2.drewN q) m (HSW.out.drewN q) HD.out (by rw [swp_length]; exact HN.out.symm) (by omega)).mono ?_
  rintro e w3 ⟨⟨b, rfl⟩, H', h3, hp3, hh3, hg3, ht3⟩
  have hl3 : H'.length = m + 1 := by have := hp3.length_eq; rw [swp_length] at this; rw [this]; exact HN.out.symm
  have H3 := Lib.hid h3
  have P3 := Lib.hid hp3
  have Q3 := Lib.hid hh3
  have G3 := Lib.hid (hg3 m (Nat.le_refl _))
  have T3 := Lib.hid ht3
  have L3 := Lib.hid hl3
  have m3 := mPop (.pointer (some ⟨g, 0, none⟩)) w3
  clear h3 hp3 hh3 hg3 ht3 hl3
  go_wp2_with fail
  refine (popL_any w3 H3.out L3.out (by omega) (by omega)).mono ?_
  rintro e w4 ⟨rfl, h4, ht4⟩
  have H4 := Lib.hid h4
  have T4 := Lib.hid ht4
  clear h4 ht4
  go_wp2_with fail
  go_ret
  have hlm : m < H'.length := by have := L3.out; omega
  have hgm : gd H' m = x := by rw [G3.out, gd_swp (by have := HN.out; omega) (by have := HN.out; omega), if_pos rfl]; exact HX.out
  have hsplit : H'.take m ++ [x] = H' := by
    rw [← hgm, gd_get hlm]
    have h1 : H'.take (m + 1) = H'.take m ++ [H'[m]] := by rw [List.take_add_one, List.getElem?_eq_getElem hlm]; rfl
    rw [← h1, List.take_of_length_le (by have := L3.out; omega)]
  have hlt : (H'.take m).length = m := by rw [List.length_take]; omega
  refine ⟨by rw [hgm]; rfl, _, H'.take m, H4.out, ?_, ?_, ?_, rfl⟩
  · rw [hsplit]
    exact P3.out.trans (swp_perm (by have := HN.out; omega) (by have := HN.out; omega))
  · rw [hlt]
    intro i i0 hi
    have g0 : ∀ k, k < m → gd (H'.take m) k = gd H' k := fun k hk => by simp [gd, List.getD, hk]
    rw [g0 _ (by omega), g0 _ hi]
    exact Q3.out i i0 hi
  · exact (T2.out.trans T3.out (fun k _ hk => .inr (by subst hk; rfl))).trans T4.out (fun k _ hk => .inl hk)
end
end Go.Proofs.Ytiapnaecdefonaa
