/- The heap of numbers: package container/heap over it. -/
import Derived.Test.YtiapnaecdefonaaHeapA
namespace Go.Proofs.Ytiapnaecdefonaa
open Go.RowKit
set_option linter.unusedVariables false
set_option linter.unusedSimpArgs false

theorem less_row : (Try.prog.info? 63).bind (fun i => (i.methods.find? (·.name == "Less")).map (fun m => (m.path, m.func))) = some (#[⟨66, 0, true⟩], some (87, false)) := by kernel_rfl
theorem swap_row : (Try.prog.info? 63).bind (fun i => (i.methods.find? (·.name == "Swap")).map (fun m => (m.path, m.func))) = some (#[⟨66, 0, true⟩], some (91, false)) := by kernel_rfl
theorem len_row : (Try.prog.info? 63).bind (fun i => (i.methods.find? (·.name == "Len")).map (fun m => (m.path, m.func))) = some (#[⟨66, 0, true⟩], some (35, false)) := by kernel_rfl
theorem mPush (v : Value) (w : World) : (Go.method 228 63 v "Push").run Try.prog w = .ok (89, v) w := by kernel_rfl
theorem mPop (v : Value) (w : World) : (Go.method 228 63 v "Pop").run Try.prog w = .ok (88, v) w := by kernel_rfl

/-- A heap in memory: block g holds the slice v, whose numbers are H. -/
structure HeapM (w : World) (B g : Nat) (v : Value) (H : List Int) : Prop where
  box : Blk w g 66 #[v]
  row : w.ownsRow B 3 1 v H.length (i64s H)
  geB : B ≤ g
/-- The two blocks of a heap. -/
def HS (g : Nat) (v : Value) (k : Nat) : Prop := k = g ∨ v.ownBlock = some k
section
variable {w w' : World} {B g : Nat} {v : Value} {H : List Int}
theorem HeapM.ne (h : HeapM w B g v H) : v.ownBlock ≠ some g := fun e => by
  obtain ⟨cur, hh, _⟩ := own_heap h.row g e
  have h2 := h.box
  unfold Blk at h2
  rw [h2] at hh
  injection hh with hh
  injection hh with _ hh
  exact absurd hh (by decide)
theorem HeapM.turn {S : Nat → Prop} (h : HeapM w B g v H) (ht : Turn S w w') (hn : ∀ k, HS g v k → ¬ S k) : HeapM w' B g v H := ⟨h.box.turn ht (hn g (.inl rfl)), own_turn h.row ht fun k hk => hn k (.inr hk), h.geB⟩
theorem HeapM.drewN (h : HeapM w B g v H) (q : Nat) : HeapM (w.drewN q) B g v H := ⟨h.box, h.row, h.geB⟩
theorem HeapM.geS (h : HeapM w B g v H) : ∀ k, HS g v k → B ≤ k ∧ k < w.heap.size := by
  rintro k (rfl | hk)
  · exact ⟨h.geB, h.box.lt⟩
  · obtain ⟨cur, hh, hb⟩ := own_heap h.row k hk
    exact ⟨hb, own_lt hh⟩
theorem HeapM.form (h : HeapM w B g v H) (h0 : 0 < H.length) : ∃ r c, v = .slice (some ⟨r, 0, none⟩) H.length c ∧ r ≠ g := by
  obtain ⟨r, c, e, _⟩ := h.row.form h0
  refine ⟨r, c, e, fun e2 => h.ne ?_⟩
  rw [e, ← e2]; rfl
end
section
variable {w : World} {B g r n c : Nat} {H : List Int}
theorem HeapM.swap (h : HeapM w B g (.slice (some ⟨r, 0, none⟩) n c) H) {i j : Nat} (hi : i < H.length) (hj : j < H.length) :
    HeapM ((w.setCell ⟨r, i, none⟩ (.int .i64 (gd H j))).setCell ⟨r, j, none⟩ (.int .i64 (gd H i))) B g (.slice (some ⟨r, 0, none⟩) n c) (swp H i j) := by
  have hne : r ≠ g := fun e => h.ne (by rw [← e]; rfl)
  have h1 := own_set h.row hi (gd H j)
  have h2 := own_set h1 (by simpa using hj) (gd H i)
  refine ⟨(h.box.far (Ne.symm hne) _).far (Ne.symm hne) _, ?_, h.geB⟩
  rw [swp_length]
  exact h2
theorem turn_two {S : Nat → Prop} (w : World) (r i j : Nat) (x y : Value) (hS : S r) (q : Nat) : Turn S w (((w.setCell ⟨r, i, none⟩ x).setCell ⟨r, j, none⟩ y).drewN q) :=
  (((Turn.refl S w).setCell (p := ⟨r, i, none⟩) (fun _ => hS) x).setCell (p := ⟨r, j, none⟩) (fun _ => hS) y).drewN q
set_option maxRecDepth 100000 in
set_option maxHeartbeats 4000000 in
theorem up_any (w : World) (j : Nat) (h : HeapM w B g (.slice (some ⟨r, 0, none⟩) n c) H) (hu : UpI H j) (he : H.length = n) (hn : n ≤ 1000000) :
    Calls Try.prog 46 #[.iface 63 (.pointer (some ⟨g, 0, none⟩)), .int .i64 j] w fun e w' => e = .returned (.tuple #[]) ∧ ∃ H', HeapM w' B g (.slice (some ⟨r, 0, none⟩) n c) H' ∧ H'.Perm H ∧ HP H' H'.length ∧ Turn (fun k => k = r) w w' := by
  have HM := Lib.hid h
  have HU := Lib.hid hu
  have HE := Lib.hid he
  clear h hu he
  go_enter Try.func46, Try.ntmps46
  go_wp2_with fail
  go_loopw [1] (fun s1 wr => ∃ (k : Nat) (H' : List Int), s1 = .int .i64 k ∧ HeapM wr B g (.slice (some ⟨r, 0, none⟩) n c) H' ∧ H'.Perm H ∧ UpI H' k ∧ Turn (fun k => k = r) w wr) (fun s1 _ => (RowKit.intOf s1).toNat)
  case atStart => exact ⟨j, H, rfl, HM.out, List.Perm.refl _, HU.out, Turn.refl _ _⟩
  case round =>
    obtain ⟨k, H', rfl, hh, hp, hu, ht⟩ := hrel
    rename World => W
    have hl : H'.length = n := hp.length_eq.trans HE.out
    have hk9 : k < 1000000 := by have := hu.lt; omega
    have hk := hu.lt
    have HH := Lib.hid hh
    have HP' := Lib.hid hp
    have HU' := Lib.hid hu
    have HT := Lib.hid ht
    have HL := Lib.hid hl
    clear hh hp hu ht hl
    have m1 := mLoad less_row g _ W (HH.out.box.cell 0)
    have m2 := fun q => mLoad swap_row g _ (W.drewN q) (HH.out.box.cell 0)
    by_cases k0 : k = 0
    · subst k0
      go_wp2_with fail
      go_end0
      exact ⟨rfl, H', HH.out, HP'.out, HU'.out.done (.inl rfl), HT.out⟩
    · obtain ⟨p, hp⟩ : ∃ p, p = (k - 1) / 2 := ⟨_, rfl⟩
      have q1 : IntKind.i64.wrap ((k : Int) - 1) = (k : Int) - 1 := IntWalk.i64_in _ (by omega)
      have q2 : ((k : Int) - 1).tdiv 2 = (p : Int) := by rw [Int.tdiv_eq_ediv_of_nonneg (by omega)]; omega
      have q3 : IntKind.i64.wrap (p : Int) = (p : Int) := IntWalk.i64_in _ (by omega)
      have e1 : ((p : Int) == (k : Int)) = false := by simp; omega
      have HPE := Lib.hid hp
      have hpl : p < H'.length := by omega
      have hpk : p < k := by omega
      clear hp
      have c0 := own_gd HH.out.row hk
      have c1 := own_gd HH.out.row hpl
      have C0 := Lib.hid c0
      have C1 := Lib.hid c1
      have L0 := Lib.hid (show k < n by have := HL.out; omega)
      have L1 := Lib.hid (show p < n by have := HL.out; omega)
      clear c0 c1 hpl
      by_cases hlt : gd H' k < gd H' p
      · have d0 : decide (gd H' k < gd H' p) = true := by simpa using hlt
        have HLT := Lib.hid hlt
        clear hlt
        have D0 := Lib.hid d0
        clear d0
        go_wp2_with fail
        refine (lessI_any L0.out L1.out C0.out C1.out).mono ?_
        rintro e w1 ⟨rfl, q, rfl⟩
        rw [D0.out]
        go_wp2_with fail
        refine (swapI_any (w := W.drewN q) L1.out L0.out C1.out C0.out (own_hot (HH.out.drewN q).row _) (own_hot (HH.out.drewN q).row _)).mono ?_
        rintro e w1 ⟨rfl, q', rfl⟩
        go_wp2_with fail
        go_roundw
        case rel =>
          have hsw := (HeapM.swap (HH.out.drewN q) (i := p) (j := k) (by have := HL.out; have := L1.out; omega) hk).drewN q'
          refine ⟨p, swp H' p k, rfl, hsw, (swp_perm (by omega) hk).trans HP'.out, ?_, HT.out.trans ((Turn.refl _ _).drewN q |>.trans (turn_two (S := fun x => x = r) _ r p k _ _ rfl q') fun _ _ h => h) fun _ _ h => h⟩
          have := HU'.out.step (by omega) (by rw [← HPE.out]; exact HLT.out)
          rw [← HPE.out] at this
          exact this
        case measure => simp [RowKit.intOf]; omega
      · have d0 : decide (gd H' k < gd H' p) = false := by simpa using hlt
        have HLT := Lib.hid hlt
        clear hlt
        have D0 := Lib.hid d0
        clear d0
        go_wp2_with fail
        refine (lessI_any L0.out L1.out C0.out C1.out).mono ?_
        rintro e w1 ⟨rfl, q, rfl⟩
        rw [D0.out]
        go_wp2_with fail
        go_end0
        exact ⟨rfl, H', HH.out.drewN q, HP'.out, HU'.out.done (.inr (by rw [← HPE.out]; have := HLT.out; omega)), HT.out.drewN q⟩
/-! ### down -/
set_option maxRecDepth 100000 in
set_option maxHeartbeats 8000000 in
theorem down_any (w : World) (m : Nat) (h : HeapM w B g (.slice (some ⟨r, 0, none⟩) n c) H) (hu : DnI H 0 m) (he : H.length = n) (hn : n ≤ 1000000) :
    Calls Try.prog 47 #[.iface 63 (.pointer (some ⟨g, 0, none⟩)), .int .i64 0, .int .i64 m] w fun e w' => (∃ b, e = .returned (.bool b)) ∧ ∃ H', HeapM w' B g (.slice (some ⟨r, 0, none⟩) n c) H' ∧ H'.Perm H ∧ HP H' m ∧ (∀ k, m ≤ k → gd H' k = gd H k) ∧ Turn (fun k => k = r) w w' := by
  have HM := Lib.hid h
  have HU := Lib.hid hu
  have HE := Lib.hid he
  have hm9 : m ≤ 1000000 := by have := hu.le; omega
  clear h hu he
  go_enter Try.func47, Try.ntmps47
  go_wp2_with fail
  go_loopw [7] (fun s1 wr => ∃ (k : Nat) (H' : List Int), s1 = .int .i64 k ∧ k ≤ 1000000 ∧ HeapM wr B g (.slice (some ⟨r, 0, none⟩) n c) H' ∧ H'.Perm H ∧ DnI H' k m ∧ (∀ x, m ≤ x → gd H' x = gd H x) ∧ Turn (fun k => k = r) w wr) (fun s1 _ => 1000001 - (RowKit.intOf s1).toNat)
  case atStart => exact ⟨0, H, rfl, by omega, HM.out, List.Perm.refl _, HU.out, fun _ _ => rfl, Turn.refl _ _⟩
  case round =>
    obtain ⟨k, H', rfl, hk9, hh, hp, hu, hb, ht⟩ := hrel
    rename World => W
    have hl : H'.length = n := hp.length_eq.trans HE.out
    have hml := hu.le
    have HH := Lib.hid hh
    have HP' := Lib.hid hp
    have HD := Lib.hid hu
    have HB := Lib.hid hb
    have HT := Lib.hid ht
    have HL := Lib.hid hl
    clear hh hp hu hb ht
    have m1 := mLoad less_row g _ W (HH.out.box.cell 0)
    have m3 := fun q => mLoad less_row g _ (W.drewN q) (HH.out.box.cell 0)
    have m2 := fun q => mLoad swap_row g _ (W.drewN q) (HH.out.box.cell 0)
    have m4 := fun q q1 => mLoad swap_row g _ ((W.drewN q).drewN q1) (HH.out.box.cell 0)
    by_cases h1 : m ≤ 2 * k + 1
    · have q1 : IntKind.i64.wrap (2 * (k : Int)) = 2 * (k : Int) := IntWalk.i64_in _ (by omega)
      have q2 : IntKind.i64.wrap (2 * (k : Int) + 1) = 2 * (k : Int) + 1 := IntWalk.i64_in _ (by omega)
      have d1 : decide ((m : Int) ≤ 2 * (k : Int) + 1) = true := by simp; omega
      clear hl hml
      go_wp2_with fail
      go_ret
      exact ⟨⟨_, rfl⟩, H', HH.out, HP'.out, HD.out.done (fun c c0 c1 c2 => by omega), HB.out, HT.out⟩
    · have hkm : k < m := by omega
      have hkl : k < H'.length := by omega
      have hjl : 2 * k + 1 < H'.length := by omega
      have q1 : IntKind.i64.wrap (2 * (k : Int)) = 2 * (k : Int) := IntWalk.i64_in _ (by omega)
      have q2 : IntKind.i64.wrap (2 * (k : Int) + 1) = 2 * (k : Int) + 1 := IntWalk.i64_in _ (by omega)
      have q3 : IntKind.i64.wrap (2 * (k : Int) + 1 + 1) = 2 * (k : Int) + 1 + 1 := IntWalk.i64_in _ (by omega)
      have d1 : decide ((m : Int) ≤ 2 * (k : Int) + 1) = false := by simp; omega
      have d2 : decide (2 * (k : Int) + 1 < 0) = false := by simp; omega
      have C0 := Lib.hid (own_gd HH.out.row hkl)
      have C1 := Lib.hid (own_gd HH.out.row hjl)
      have L0 := Lib.hid (show k < n by omega)
      have L1 := Lib.hid (show 2 * k + 1 < n by omega)
      by_cases h2 : 2 * k + 2 < m
      · have hj2 : 2 * k + 2 < H'.length := by omega
        have C2 := Lib.hid (own_gd HH.out.row hj2)
        have L2 := Lib.hid (show 2 * k + 2 < n by omega)
        have d3 : decide (2 * (k : Int) + 1 + 1 < (m : Int)) = true := by simp; omega
        clear hl hml hkl hjl hj2
        have n1 : 2 * (k : Int) + 1 = ((2 * k + 1 : Nat) : Int) := by omega
        have n2 : 2 * (k : Int) + 1 + 1 = ((2 * k + 2 : Nat) : Int) := by omega
        have N1 := Lib.hid n1
        have N2 := Lib.hid n2
        clear n1 n2
        by_cases h3 : gd H' (2 * k + 2) < gd H' (2 * k + 1)
        · have LJ := L2
          have CJ := C2
          have H3 := Lib.hid h3
          have d4 : decide (gd H' (2 * k + 2) < gd H' (2 * k + 1)) = true := by simpa using h3
          have D4 := Lib.hid d4
          clear h3 d4
          go_wp2_with fail
          rw [N2.out, N1.out]
          refine (lessI_any (w := W) L2.out L1.out C2.out C1.out).mono ?_
          rintro e w1 ⟨rfl, q0, rfl⟩
          rw [D4.out]
          go_wp2_with fail
          have NX := Lib.hid (show 2 * (k : Int) + 2 = ((2 * k + 2 : Nat) : Int) by omega)
          have hmin : ∀ c, 0 < c → c < m → (c - 1) / 2 = k → gd H' (2 * k + 2) ≤ gd H' c := (fun c c0 c1 c2 => by have := H3.out; rcases (show c = 2 * k + 1 ∨ c = 2 * k + 2 by omega) with rfl | rfl <;> omega)
          have HMIN := Lib.hid hmin
          clear hmin
          by_cases hlt : gd H' (2 * k + 2) < gd H' k
          · have d0 : decide (gd H' (2 * k + 2) < gd H' k) = true := by simpa using hlt
            have HLT := Lib.hid hlt
            have D0 := Lib.hid d0
            clear hlt d0
            try simp only [NX.out]
            refine (lessI_any (w := (W.drewN q0)) LJ.out L0.out CJ.out C0.out).mono ?_
            rintro e w1 ⟨rfl, q, rfl⟩
            rw [D0.out]
            go_wp2_with fail
            try simp only [NX.out]
            refine (swapI_any (w := W.drewN (q0 + q)) L0.out LJ.out C0.out CJ.out (own_hot (HH.out.drewN (q0 + q)).row _) (own_hot (HH.out.drewN (q0 + q)).row _)).mono ?_
            rintro e w1 ⟨rfl, q', rfl⟩
            go_wp2_with fail
            go_roundw
            case rel =>
              have hkl : k < H'.length := by have := HL.out; have := L0.out; omega
              have hjl : (2 * k + 2) < H'.length := by have := HL.out; have := LJ.out; omega
              have hsw := (HeapM.swap (HH.out.drewN (q0 + q)) (i := k) (j := (2 * k + 2)) hkl hjl).drewN q'
              refine ⟨(2 * k + 2), swp H' k (2 * k + 2), by first | rfl | (rw [NX.out]), by omega, hsw, (swp_perm hkl hjl).trans HP'.out, HD.out.step (by omega) (by omega) (by omega) HMIN.out HLT.out, fun x hx => ?_, HT.out.trans (((Turn.refl _ W).drewN (q0 + q)).trans (turn_two (S := fun x => x = r) _ r k (2 * k + 2) _ _ rfl q') fun _ _ h => h) fun _ _ h => h⟩
              rw [gd_swp hkl hjl, if_neg (by omega), if_neg (by omega)]; exact HB.out x hx
            case measure => simp [RowKit.intOf]; omega
          · have d0 : decide (gd H' (2 * k + 2) < gd H' k) = false := by simpa using hlt
            have HLT := Lib.hid hlt
            have D0 := Lib.hid d0
            clear hlt d0
            try simp only [NX.out]
            refine (lessI_any (w := (W.drewN q0)) LJ.out L0.out CJ.out C0.out).mono ?_
            rintro e w1 ⟨rfl, q, rfl⟩
            rw [D0.out]
            go_wp2_with fail
            go_ret
            exact ⟨⟨_, rfl⟩, H', HH.out.drewN (q0 + q), HP'.out, HD.out.done (fun c c0 c1 c2 => by have h1 := HMIN.out c c0 c1 c2; have := HLT.out; omega), HB.out, HT.out.drewN (q0 + q)⟩
        · have LJ := L1
          have CJ := C1
          have H3 := Lib.hid h3
          have d4 : decide (gd H' (2 * k + 2) < gd H' (2 * k + 1)) = false := by simpa using h3
          have D4 := Lib.hid d4
          clear h3 d4
          go_wp2_with fail
          rw [N2.out, N1.out]
          refine (lessI_any (w := W) L2.out L1.out C2.out C1.out).mono ?_
          rintro e w1 ⟨rfl, q0, rfl⟩
          rw [D4.out]
          go_wp2_with fail
          have NX := Lib.hid (show 2 * (k : Int) + 1 = ((2 * k + 1 : Nat) : Int) by omega)
          have hmin : ∀ c, 0 < c → c < m → (c - 1) / 2 = k → gd H' (2 * k + 1) ≤ gd H' c := (fun c c0 c1 c2 => by have := H3.out; rcases (show c = 2 * k + 1 ∨ c = 2 * k + 2 by omega) with rfl | rfl <;> omega)
          have HMIN := Lib.hid hmin
          clear hmin
          by_cases hlt : gd H' (2 * k + 1) < gd H' k
          · have d0 : decide (gd H' (2 * k + 1) < gd H' k) = true := by simpa using hlt
            have HLT := Lib.hid hlt
            have D0 := Lib.hid d0
            clear hlt d0
            try simp only [NX.out]
            refine (lessI_any (w := (W.drewN q0)) LJ.out L0.out CJ.out C0.out).mono ?_
            rintro e w1 ⟨rfl, q, rfl⟩
            rw [D0.out]
            go_wp2_with fail
            try simp only [NX.out]
            refine (swapI_any (w := W.drewN (q0 + q)) L0.out LJ.out C0.out CJ.out (own_hot (HH.out.drewN (q0 + q)).row _) (own_hot (HH.out.drewN (q0 + q)).row _)).mono ?_
            rintro e w1 ⟨rfl, q', rfl⟩
            go_wp2_with fail
            go_roundw
            case rel =>
              have hkl : k < H'.length := by have := HL.out; have := L0.out; omega
              have hjl : (2 * k + 1) < H'.length := by have := HL.out; have := LJ.out; omega
              have hsw := (HeapM.swap (HH.out.drewN (q0 + q)) (i := k) (j := (2 * k + 1)) hkl hjl).drewN q'
              refine ⟨(2 * k + 1), swp H' k (2 * k + 1), by first | rfl | (rw [NX.out]), by omega, hsw, (swp_perm hkl hjl).trans HP'.out, HD.out.step (by omega) (by omega) (by omega) HMIN.out HLT.out, fun x hx => ?_, HT.out.trans (((Turn.refl _ W).drewN (q0 + q)).trans (turn_two (S := fun x => x = r) _ r k (2 * k + 1) _ _ rfl q') fun _ _ h => h) fun _ _ h => h⟩
              rw [gd_swp hkl hjl, if_neg (by omega), if_neg (by omega)]; exact HB.out x hx
            case measure => simp [RowKit.intOf]; omega
          · have d0 : decide (gd H' (2 * k + 1) < gd H' k) = false := by simpa using hlt
            have HLT := Lib.hid hlt
            have D0 := Lib.hid d0
            clear hlt d0
            try simp only [NX.out]
            refine (lessI_any (w := (W.drewN q0)) LJ.out L0.out CJ.out C0.out).mono ?_
            rintro e w1 ⟨rfl, q, rfl⟩
            rw [D0.out]
            go_wp2_with fail
            go_ret
            exact ⟨⟨_, rfl⟩, H', HH.out.drewN (q0 + q), HP'.out, HD.out.done (fun c c0 c1 c2 => by have h1 := HMIN.out c c0 c1 c2; have := HLT.out; omega), HB.out, HT.out.drewN (q0 + q)⟩
      · have LJ := L1
        have CJ := C1
        have d3 : decide (2 * (k : Int) + 1 + 1 < (m : Int)) = false := by simp; omega
        clear hl hml hkl hjl
        have n1 : 2 * (k : Int) + 1 = ((2 * k + 1 : Nat) : Int) := by omega
        have N1 := Lib.hid n1
        clear n1
        go_wp2_with fail
        have NX := Lib.hid (show 2 * (k : Int) + 1 = ((2 * k + 1 : Nat) : Int) by omega)
        have hmin : ∀ c, 0 < c → c < m → (c - 1) / 2 = k → gd H' (2 * k + 1) ≤ gd H' c := (fun c c0 c1 c2 => by rw [show c = 2 * k + 1 by omega]; exact Int.le_refl _)
        have HMIN := Lib.hid hmin
        clear hmin
        by_cases hlt : gd H' (2 * k + 1) < gd H' k
        · have d0 : decide (gd H' (2 * k + 1) < gd H' k) = true := by simpa using hlt
          have HLT := Lib.hid hlt
          have D0 := Lib.hid d0
          clear hlt d0
          try simp only [NX.out]
          refine (lessI_any (w := W) LJ.out L0.out CJ.out C0.out).mono ?_
          rintro e w1 ⟨rfl, q, rfl⟩
          rw [D0.out]
          go_wp2_with fail
          try simp only [NX.out]
          refine (swapI_any (w := W.drewN q) L0.out LJ.out C0.out CJ.out (own_hot (HH.out.drewN q).row _) (own_hot (HH.out.drewN q).row _)).mono ?_
          rintro e w1 ⟨rfl, q', rfl⟩
          go_wp2_with fail
          go_roundw
          case rel =>
            have hkl : k < H'.length := by have := HL.out; have := L0.out; omega
            have hjl : (2 * k + 1) < H'.length := by have := HL.out; have := LJ.out; omega
            have hsw := (HeapM.swap (HH.out.drewN q) (i := k) (j := (2 * k + 1)) hkl hjl).drewN q'
            refine ⟨(2 * k + 1), swp H' k (2 * k + 1), by first | rfl | (rw [NX.out]), by omega, hsw, (swp_perm hkl hjl).trans HP'.out, HD.out.step (by omega) (by omega) (by omega) HMIN.out HLT.out, fun x hx => ?_, HT.out.trans (((Turn.refl _ W).drewN q).trans (turn_two (S := fun x => x = r) _ r k (2 * k + 1) _ _ rfl q') fun _ _ h => h) fun _ _ h => h⟩
            rw [gd_swp hkl hjl, if_neg (by omega), if_neg (by omega)]; exact HB.out x hx
          case measure => simp [RowKit.intOf]; omega
        · have d0 : decide (gd H' (2 * k + 1) < gd H' k) = false := by simpa using hlt
          have HLT := Lib.hid hlt
          have D0 := Lib.hid d0
          clear hlt d0
          try simp only [NX.out]
          refine (lessI_any (w := W) LJ.out L0.out CJ.out C0.out).mono ?_
          rintro e w1 ⟨rfl, q, rfl⟩
          rw [D0.out]
          go_wp2_with fail
          go_ret
          exact ⟨⟨_, rfl⟩, H', HH.out.drewN q, HP'.out, HD.out.done (fun c c0 c1 c2 => by have h1 := HMIN.out c c0 c1 c2; have := HLT.out; omega), HB.out, HT.out.drewN q⟩
end
end Go.Proofs.Ytiapnaecdefonaa
