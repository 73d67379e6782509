/- The document's Order. -/
import Derived.Test.YtfaciajnopkjlaaGraL
import Derived.Test.YtfaciajnopkjlaaGraH
namespace Go.Proofs.Ytfaciajnopkjlaa
open Go.RowKit
set_option linter.unusedVariables false
set_option linter.unusedSimpArgs false

theorem pick_at {E : Egs} {N o : List Int} {j : Nat} (hj : j < N.length) (h : ∀ y ∈ N.take j, isFree E o y = false) (hx : isFree E o N[j] = true) : pick E N o = some N[j] := by
  unfold pick
  refine List.find?_eq_some_iff_getElem.2 ⟨hx, j, hj, rfl, fun i hi => ?_⟩
  have := h N[i] (List.mem_take_iff_getElem.2 ⟨i, by omega, rfl⟩)
  rw [this]; rfl
theorem pick_end {E : Egs} {N o : List Int} (h : ∀ y ∈ N, isFree E o y = false) : pick E N o = none := by
  unfold pick
  exact List.find?_eq_none.2 fun y hy => by rw [h y hy]; simp
theorem take_more {N : List Int} {j : Nat} (hj : j < N.length) {p : Int → Prop} (h : ∀ y ∈ N.take j, p y) (hx : p N[j]) : ∀ y ∈ N.take (j + 1), p y := by
  intro y hy
  rw [List.take_add_one, List.getElem?_eq_getElem hj] at hy
  rcases List.mem_append.1 hy with hy | hy
  · exact h y hy
  · simp at hy; rw [hy]; exact hx
section
variable {w : World} {n : Nat} {A : Option Addr} {ls : List (List Int)}
set_option maxRecDepth 100000 in
set_option maxHeartbeats 16000000 in
theorem orderR_any {c : Nat} (w : World) (h : EdgM w w.heap.size A n ls) (hn : n ≤ 200) :
    Calls Try.prog 17 #[.slice A n c] w fun e w' => ∃ v, e = .returned (.tuple #[v, .bool (decide ((ordF (eds ls) (nds (eds ls))).length = (nds (eds ls)).length))]) ∧ w'.ownsRow w.heap.size 3 1 v (ordR (eds ls)).length (i64s (ordR (eds ls))) ∧ Below w.heap.size w w' := by
  have hN : (nds (eds ls)).length ≤ 400 := by have := nds_len (eds ls); rw [h.elen] at this; omega
  have HH := Lib.hid h
  have RS := Lib.hid (nds_ris (eds ls))
  clear h
  go_enter Try.func17, Try.ntmps17
  go_wp2_with fail
  refine (nodesR_any (c := c) w HH.out hn).mono ?_
  rintro e w1 ⟨vn, rfl, hrn, hb1⟩
  obtain ⟨An, cn, rfl, hrd, hcn, _⟩ := own_slice hrn
  have RD := Lib.hid hrd
  have B1 := Lib.hid hb1
  clear hrn hb1 hrd
  go_wp2_with fail
  go_loopg [2, 3, 5] 401 (fun gk s2 s3 s5 wr => ∃ (i : Nat), i + gk = 401 ∧ s2 = .slice none 0 0 ∧ s3 = .bool false ∧ (ordN (eds ls) (nds (eds ls)) i).length = i ∧ wr.ownsRow w1.heap.size 3 1 s5 i (i64s (ordN (eds ls) (nds (eds ls)) i)) ∧ Below w1.heap.size w1 wr)
  case atStart => exact ⟨0, rfl, rfl, rfl, rfl, World.ownsRow_nil _ _ _ _, Below.refl _ _⟩
  case round =>
    obtain ⟨i, hig, rfl, rfl, hil, hrow, hb⟩ := hrel
    rename World => W
    have hi4 : i ≤ (nds (eds ls)).length := by have := ordN_len (E := eds ls) RS.out i; omega
    obtain ⟨G, rfl⟩ : ∃ G, gk = G + 1 := ⟨gk - 1, by omega⟩
    obtain ⟨A5, c5, rfl, _⟩ := own_slice hrow
    have RO := Lib.hid hrow
    have IL := Lib.hid hil
    have HB := Lib.hid hb
    clear hrow hil hb
    by_cases hlt : i < (nds (eds ls)).length
    · go_wp2_with fail
      go_loopw [5, 6, 7] (fun s5 s6 s7 wr => ∃ (j : Nat) (f : Bool), s6 = .bool f ∧ s7 = .int .i64 j ∧ j ≤ (nds (eds ls)).length ∧ Below w1.heap.size w1 wr ∧
          (f = false → s5 = .slice A5 i c5 ∧ wr.ownsRow w1.heap.size 3 1 s5 i (i64s (ordN (eds ls) (nds (eds ls)) i)) ∧ ∀ y ∈ (nds (eds ls)).take j, isFree (eds ls) (ordN (eds ls) (nds (eds ls)) i) y = false) ∧
          (f = true → ∃ x, pick (eds ls) (nds (eds ls)) (ordN (eds ls) (nds (eds ls)) i) = some x ∧ wr.ownsRow w1.heap.size 3 1 s5 (i + 1) (i64s (ordN (eds ls) (nds (eds ls)) i ++ [x])))) (fun _ _ s7 _ => 1000 - (RowKit.intOf s7).toNat)
      case atStart => exact ⟨0, false, rfl, rfl, Nat.zero_le _, HB.out, fun _ => ⟨rfl, RO.out, by simp⟩, fun h => by simp at h⟩
      case round =>
        clear RO HB
        obtain ⟨j, f, rfl, rfl, hj, hb, hf0, hf1⟩ := hrel
        rename World => Y
        have HB := Lib.hid hb
        clear hb
        cases f with
        | true =>
          obtain ⟨x, hpk, hrow⟩ := hf1 rfl
          have OS := Lib.hid (ordN_succ hpk)
          have RO := Lib.hid hrow
          clear hpk hrow hf0 hf1
          by_cases hjl : j < (nds (eds ls)).length
          · go_wp2_with fail
            go_roundg G
            case rel => exact ⟨i + 1, by omega, rfl, rfl, by rw [OS.out, List.length_append, IL.out]; rfl, by rw [OS.out]; exact RO.out, HB.out⟩
            case measure => omega
          · obtain rfl : j = (nds (eds ls)).length := by omega
            go_wp2_with fail
            go_roundg G
            case rel => exact ⟨i + 1, by omega, rfl, rfl, by rw [OS.out, List.length_append, IL.out]; rfl, by rw [OS.out]; exact RO.out, HB.out⟩
            case measure => omega
        | false =>
          obtain ⟨rfl, hrow, hnf⟩ := hf0 rfl
          have RO := Lib.hid hrow
          have NF := Lib.hid hnf
          clear hrow hnf hf0 hf1
          by_cases hjl : j < (nds (eds ls)).length
          · obtain ⟨bn, on, rfl, hbn, hcell⟩ := int_cells RD.out (by omega)
            have hcx := hcell j hjl
            rw [gd_get hjl] at hcx
            have CX := Lib.hid (show ∀ X, Below w1.heap.size w1 X → X.cell? ⟨bn, on + j, none⟩ = some (.int .i64 (nds (eds ls))[j]) from fun X hx => (hx.cell (p := ⟨bn, on + j, none⟩) hbn).trans hcx)
            have PA := Lib.hid (fun h => pick_at (E := eds ls) (o := ordN (eds ls) (nds (eds ls)) i) hjl NF.out h)
            have TM := Lib.hid (fun h => take_more (p := fun y => isFree (eds ls) (ordN (eds ls) (nds (eds ls)) i) y = false) hjl NF.out h)
            clear hcell hcx
            generalize (nds (eds ls))[j] = x at CX PA TM
            have kx := CX.out _ HB.out
            obtain ⟨_, _, e5, hr5, _⟩ := own_slice RO.out
            cases e5
            have RX := Lib.hid hr5
            clear hr5
            obtain ⟨o, ho⟩ : ∃ o, ordN (eds ls) (nds (eds ls)) i = o := ⟨_, rfl⟩
            rw [ho] at RO RX PA TM IL
            have HO := Lib.hid ho
            clear ho NF
            cases hdx : decide (x ∈ o) with
            | true =>
              have DX := Lib.hid hdx
              clear hdx
              go_wp2_with (go_at_call 23; refine (has_any _ _ _ _ o _ _ (by omega) RX.out).mono ?_; rintro e w' ⟨rfl, hww⟩; subst hww; rw [DX.out])
              go_roundw
              case rel =>
                refine ⟨j + 1, false, rfl, by go_num, hjl, HB.out, fun _ => ⟨rfl, by rw [HO.out]; exact RO.out, ?_⟩, fun h => by simp at h⟩
                rw [HO.out]
                exact TM.out (by unfold isFree; rw [show decide (x ∉ o) = false by have := DX.out; simpa using this]; rfl)
              case measure => simp [RowKit.intOf]; omega
            | false =>
              have DX := Lib.hid hdx
              clear hdx
              go_wp2_with (go_at_call 23; refine (has_any _ _ _ _ o _ _ (by omega) RX.out).mono ?_; rintro e w' ⟨rfl, hww⟩; subst hww; rw [DX.out])
              go_loopw [8, 9] (fun s8 s9 wr => ∃ (k : Nat) (f : Bool), s8 = .bool f ∧ s9 = .int .i64 k ∧ k ≤ n ∧ (f = true ↔ ∀ a, (a, x) ∈ eds (ls.take k) → a ∈ o) ∧ wr.ownsRow w1.heap.size 3 1 (.slice A5 i c5) i (i64s o) ∧ Below w1.heap.size w1 wr) (fun _ s9 _ => 1000 - (RowKit.intOf s9).toNat)
              case atStart => exact ⟨0, true, rfl, rfl, Nat.zero_le _, by simp [eds], RO.out, HB.out⟩
              case round =>
                clear kx RX RO HB
                obtain ⟨k, f, rfl, rfl, hk, hf, hrow, hb⟩ := hrel
                rename World => Z
                have RO := Lib.hid hrow
                have HB := Lib.hid hb
                have FF := Lib.hid hf
                have kx := CX.out _ hb
                have KX := Lib.hid kx
                obtain ⟨_, _, e5, hr5, _⟩ := own_slice RO.out
                cases e5
                have RX := Lib.hid hr5
                clear hr5 hrow hb hf
                by_cases hkn : k < n
                · obtain ⟨b, off, a, s, t, u, rfl, hbl, ⟨hl, e⟩, hc, wa, wt⟩ := ((HH.out.below B1.out).below (HB.out.mono B1.out.size)).at_ hkn
                  have HE := Lib.hid (eds_take ls hl e)
                  have k0 : Z.cell? ⟨b, off + k * 4, none⟩ = some (.int .i64 a) := by have := hc 0 _ rfl; simpa [Addr.add] using this
                  have k2 : Z.cell? ⟨b, off + k * 4 + 2, none⟩ = some (.int .i64 t) := by have := hc 2 _ rfl; simpa [Addr.add] using this
                  have K0 := Lib.hid k0
                  have K2 := Lib.hid k2
                  clear hc wa wt e kx k0 k2
                  by_cases htx : t = x
                  · have d1 : (t == x) = true := by simpa using htx
                    have HTX := Lib.hid htx
                    clear htx
                    go_wp2_with fail
                    refine wp_region_held_drew (S := fun w' => w'.cell? ⟨b, off + k * 4, none⟩ = some (.int .i64 a) ∧ w'.cell? ⟨b, off + k * 4 + 2, none⟩ = some (.int .i64 t) ∧ w'.cell? ⟨bn, on + j, none⟩ = some (.int .i64 x)) (by kernel_rfl) ⟨K0.out, K2.out, KX.out⟩ (fun hHeld => ?_)
                    refine wpAnyH_take (i := 0) (v := ?_) rfl (by kernel_rfl) (by kernel_rfl) (by kernel_rfl) (fun _ _ _ h => h) (Or.inl ⟨by rfl, ?_⟩) (by assumption) ?_
                    rotate_left
                    · (intro w0 hSw; (try dsimp only at hSw); go_simp; try with_reducible rfl)
                    try simp only [List.getElem_toArray, List.getElem_cons_succ, List.getElem_cons_zero, Act.put, List.setIfInBounds_toArray, List.set_cons_zero, List.set_cons_succ]
                    refine wpAnyH_take (i := 1) (v := ?_) rfl (by kernel_rfl) (by kernel_rfl) (by kernel_rfl) (fun _ _ _ h => h) (Or.inl ⟨by rfl, ?_⟩) (by assumption) ?_
                    rotate_left
                    · (intro w0 hSw; (try dsimp only at hSw); go_simp; try with_reducible rfl)
                    try simp only [List.getElem_toArray, List.getElem_cons_succ, List.getElem_cons_zero, Act.put, List.setIfInBounds_toArray, List.set_cons_zero, List.set_cons_succ]
                    refine wpAnyH_take (i := 2) (v := ?_) rfl (by kernel_rfl) (by kernel_rfl) (by kernel_rfl) (fun _ _ _ h => h) (Or.inl ⟨by rfl, ?_⟩) (by assumption) ?_
                    rotate_left
                    · (intro w0 hSw; (try dsimp only at hSw); go_simp; try with_reducible rfl)
                    try simp only [List.getElem_toArray, List.getElem_cons_succ, List.getElem_cons_zero, Act.put, List.setIfInBounds_toArray, List.set_cons_zero, List.set_cons_succ]
                    refine wpAnyH_take (i := 3) (v := ?_) rfl (by kernel_rfl) (by kernel_rfl) (by kernel_rfl) (fun _ _ _ h => h) (Or.inl ⟨by rfl, ?_⟩) (by assumption) ?_
                    rotate_left
                    · (intro w0 hSw; (try dsimp only at hSw); go_simp; try with_reducible rfl)
                    try simp only [List.getElem_toArray, List.getElem_cons_succ, List.getElem_cons_zero, Act.put, List.setIfInBounds_toArray, List.set_cons_zero, List.set_cons_succ]
                    refine wpAnyH_take (i := 4) (v := ?_) rfl (by kernel_rfl) (by kernel_rfl) (by kernel_rfl) (fun _ _ _ h => h) (Or.inl ⟨by rfl, ?_⟩) (by assumption) ?_
                    rotate_left
                    · (intro w0 hSw; (try dsimp only at hSw); go_simp; try with_reducible rfl)
                    try simp only [List.getElem_toArray, List.getElem_cons_succ, List.getElem_cons_zero, Act.put, List.setIfInBounds_toArray, List.set_cons_zero, List.set_cons_succ]
                    refine wpAnyH_take (i := 5) (v := ?_) rfl (by kernel_rfl) (by kernel_rfl) (by kernel_rfl) (fun _ _ _ h => h) (Or.inl ⟨by rfl, ?_⟩) (by assumption) ?_
                    rotate_left
                    · (intro w0 hSw; (try dsimp only at hSw); go_simp; try with_reducible rfl)
                    try simp only [List.getElem_toArray, List.getElem_cons_succ, List.getElem_cons_zero, Act.put, List.setIfInBounds_toArray, List.set_cons_zero, List.set_cons_succ]
                    refine wpAnyH_take (i := 6) (v := ?_) rfl (by kernel_rfl) (by kernel_rfl) (by kernel_rfl) (fun _ _ _ h => h) (Or.inl ⟨by rfl, ?_⟩) (by assumption) ?_
                    rotate_left
                    · (intro w0 hSw; (try dsimp only at hSw); go_simp; try with_reducible rfl)
                    try simp only [List.getElem_toArray, List.getElem_cons_succ, List.getElem_cons_zero, Act.put, List.setIfInBounds_toArray, List.set_cons_zero, List.set_cons_succ]
                    refine wpAnyH_take (i := 7) (v := ?_) rfl (by kernel_rfl) (by kernel_rfl) (by kernel_rfl) (fun _ _ _ h => h) (Or.inl ⟨by rfl, ?_⟩) (by assumption) ?_
                    rotate_left
                    · (intro w0 hSw; (try dsimp only at hSw); go_simp; try with_reducible rfl)
                    try simp only [List.getElem_toArray, List.getElem_cons_succ, List.getElem_cons_zero, Act.put, List.setIfInBounds_toArray, List.set_cons_zero, List.set_cons_succ]
                    refine wpAnyH_take (i := 8) (v := ?_) rfl (by kernel_rfl) (by kernel_rfl) (by kernel_rfl) (fun _ _ _ h => h) (Or.inl ⟨by rfl, ?_⟩) (by assumption) ?_
                    rotate_left
                    · (intro w0 hSw; (try dsimp only at hSw); go_simp; try with_reducible rfl)
                    try simp only [List.getElem_toArray, List.getElem_cons_succ, List.getElem_cons_zero, Act.put, List.setIfInBounds_toArray, List.set_cons_zero, List.set_cons_succ]
                    refine wpAnyH_take (i := 9) (v := ?_) rfl (by kernel_rfl) (by kernel_rfl) (by kernel_rfl) (fun _ _ _ h => h) (Or.inl ⟨by rfl, ?_⟩) (by assumption) ?_
                    rotate_left
                    · (intro w0 hSw; (try dsimp only at hSw); go_simp; try with_reducible rfl)
                    try simp only [List.getElem_toArray, List.getElem_cons_succ, List.getElem_cons_zero, Act.put, List.setIfInBounds_toArray, List.set_cons_zero, List.set_cons_succ]
                    refine wpAnyH_take (i := 10) (v := ?_) rfl (by kernel_rfl) (by kernel_rfl) (by kernel_rfl) (fun _ _ _ h => h) (Or.inl ⟨by rfl, ?_⟩) (by assumption) ?_
                    rotate_left
                    · (intro w0 hSw; (try dsimp only at hSw); go_simp; try with_reducible rfl)
                    try simp only [List.getElem_toArray, List.getElem_cons_succ, List.getElem_cons_zero, Act.put, List.setIfInBounds_toArray, List.set_cons_zero, List.set_cons_succ]
                    go_simp
                    refine wpAnyH_take (i := 11) (v := ?_) rfl (by kernel_rfl) (by kernel_rfl) (by kernel_rfl) (fun _ _ _ h => h) (Or.inl ⟨by rfl, ?_⟩) (by assumption) ?_
                    rotate_left
                    · (intro w0 hSw; (try dsimp only at hSw); go_simp; try with_reducible rfl)
                    try simp only [List.getElem_toArray, List.getElem_cons_succ, List.getElem_cons_zero, Act.put, List.setIfInBounds_toArray, List.set_cons_zero, List.set_cons_succ]
                    refine wpAnyH_take (i := 12) (v := ?_) rfl (by kernel_rfl) (by kernel_rfl) (by kernel_rfl) (fun _ _ _ h => h) (Or.inl ⟨by rfl, ?_⟩) (by assumption) ?_
                    rotate_left
                    · (intro w0 hSw; (try dsimp only at hSw); go_simp; try with_reducible rfl)
                    try simp only [List.getElem_toArray, List.getElem_cons_succ, List.getElem_cons_zero, Act.put, List.setIfInBounds_toArray, List.set_cons_zero, List.set_cons_succ]
                    refine wpAnyH_take (i := 13) (v := ?_) rfl (by kernel_rfl) (by kernel_rfl) (by kernel_rfl) (fun _ _ _ h => h) (Or.inl ⟨by rfl, ?_⟩) (by assumption) ?_
                    rotate_left
                    · (intro w0 hSw; (try dsimp only at hSw); go_simp; try with_reducible rfl)
                    try simp only [List.getElem_toArray, List.getElem_cons_succ, List.getElem_cons_zero, Act.put, List.setIfInBounds_toArray, List.set_cons_zero, List.set_cons_succ]
                    refine wpAnyH_take (i := 14) (v := ?_) rfl (by kernel_rfl) (by kernel_rfl) (by kernel_rfl) (fun _ _ _ h => h) (Or.inl ⟨by rfl, ?_⟩) (by assumption) ?_
                    rotate_left
                    · (intro w0 hSw; (try dsimp only at hSw); go_simp; try with_reducible rfl)
                    try simp only [List.getElem_toArray, List.getElem_cons_succ, List.getElem_cons_zero, Act.put, List.setIfInBounds_toArray, List.set_cons_zero, List.set_cons_succ]
                    refine wpAnyH_take (i := 15) (v := ?_) rfl (by kernel_rfl) (by kernel_rfl) (by kernel_rfl) (fun _ _ _ h => h) (Or.inl ⟨by rfl, ?_⟩) (by assumption) ?_
                    rotate_left
                    · (intro w0 hSw; (try dsimp only at hSw); go_simp; try with_reducible rfl)
                    try simp only [List.getElem_toArray, List.getElem_cons_succ, List.getElem_cons_zero, Act.put, List.setIfInBounds_toArray, List.set_cons_zero, List.set_cons_succ]
                    refine wpAnyH_take (i := 16) (v := ?_) rfl (by kernel_rfl) (by kernel_rfl) (by kernel_rfl) (fun _ _ _ h => h) (Or.inl ⟨by rfl, ?_⟩) (by assumption) ?_
                    rotate_left
                    · (intro w0 hSw; (try dsimp only at hSw); go_simp; try with_reducible rfl)
                    try simp only [List.getElem_toArray, List.getElem_cons_succ, List.getElem_cons_zero, Act.put, List.setIfInBounds_toArray, List.set_cons_zero, List.set_cons_succ]
                    refine wpAnyH_ready (rs := [17]) (by kernel_rfl) (by simp) ?_
                    refine AllReadyH.cons rfl (fun K hK => ?_) AllReadyH.nil
                    go_simp
                    have RXd : Reads Z.drew Z.heap.size 1 A5 i (i64s o) := RX.out
                    refine (has_any _ _ _ _ o a _ (by omega) RXd).mono ?_
                    rintro e w' ⟨rfl, hww⟩
                    subst hww
                    try go_simp
                    cases hda : decide (a ∈ o) with
                    | true =>
                      refine hK.out _ _ ⟨K0.out, K2.out, KX.out⟩ (fun hHeld => ?_)
                      clear hK K
                      refine wpAnyH_take (i := 18) (v := ?_) rfl (by kernel_rfl) (by kernel_rfl) (by kernel_rfl) (fun _ _ _ h => h) (Or.inl ⟨by rfl, ?_⟩) (by assumption) ?_
                      rotate_left
                      · (intro w0 hSw; (try dsimp only at hSw); go_simp; try with_reducible rfl)
                      try simp only [List.getElem_toArray, List.getElem_cons_succ, List.getElem_cons_zero, Act.put, List.setIfInBounds_toArray, List.set_cons_zero, List.set_cons_succ]
                      refine wpAnyH_take (i := 19) (v := ?_) rfl (by kernel_rfl) (by kernel_rfl) (by kernel_rfl) (fun _ _ _ h => h) (Or.inl ⟨by rfl, ?_⟩) (by assumption) ?_
                      rotate_left
                      · (intro w0 hSw; (try dsimp only at hSw); go_simp; try with_reducible rfl)
                      try simp only [List.getElem_toArray, List.getElem_cons_succ, List.getElem_cons_zero, Act.put, List.setIfInBounds_toArray, List.set_cons_zero, List.set_cons_succ]
                      refine wpAnyH_done (by kernel_rfl) ?_ _
                      go_wp2_with fail
                      go_roundw
                      case rel =>
                        refine ⟨k + 1, f, rfl, by go_num, hkn, ?_, World.ownsRow.drew RO.out, HB.out.drew⟩
                        rw [FF.out, HE.out]
                        constructor
                        · intro h y hy
                          rcases List.mem_append.1 hy with hy | hy
                          · exact h y hy
                          · simp at hy; rw [hy.1]; simpa using hda
                        · exact fun h y hy => h y (List.mem_append_left _ hy)
                      case measure => simp [RowKit.intOf]; omega
                    | false =>
                      refine hK.out _ _ ⟨K0.out, K2.out, KX.out⟩ (fun hHeld => ?_)
                      clear hK K
                      refine wpAnyH_take (i := 18) (v := ?_) rfl (by kernel_rfl) (by kernel_rfl) (by kernel_rfl) (fun _ _ _ h => h) (Or.inl ⟨by rfl, ?_⟩) (by assumption) ?_
                      rotate_left
                      · (intro w0 hSw; (try dsimp only at hSw); go_simp; try with_reducible rfl)
                      try simp only [List.getElem_toArray, List.getElem_cons_succ, List.getElem_cons_zero, Act.put, List.setIfInBounds_toArray, List.set_cons_zero, List.set_cons_succ]
                      refine wpAnyH_take (i := 19) (v := ?_) rfl (by kernel_rfl) (by kernel_rfl) (by kernel_rfl) (fun _ _ _ h => h) (Or.inl ⟨by rfl, ?_⟩) (by assumption) ?_
                      rotate_left
                      · (intro w0 hSw; (try dsimp only at hSw); go_simp; try with_reducible rfl)
                      try simp only [List.getElem_toArray, List.getElem_cons_succ, List.getElem_cons_zero, Act.put, List.setIfInBounds_toArray, List.set_cons_zero, List.set_cons_succ]
                      refine wpAnyH_done (by kernel_rfl) ?_ _
                      go_wp2_with fail
                      go_roundw
                      case rel =>
                        refine ⟨k + 1, false, rfl, by go_num, hkn, ?_, World.ownsRow.drew RO.out, HB.out.drew⟩
                        rw [HE.out]
                        constructor
                        · intro h; simp at h
                        · intro h
                          have := h a (List.mem_append_right _ (by rw [HTX.out]; simp))
                          simp at hda; exact absurd this hda
                      case measure => simp [RowKit.intOf]; omega
                  · have d1 : (t == x) = false := by simpa using htx
                    go_wp2_with fail
                    refine wp_region_held_drew (S := fun w' => w'.cell? ⟨b, off + k * 4, none⟩ = some (.int .i64 a) ∧ w'.cell? ⟨b, off + k * 4 + 2, none⟩ = some (.int .i64 t) ∧ w'.cell? ⟨bn, on + j, none⟩ = some (.int .i64 x)) (by kernel_rfl) ⟨K0.out, K2.out, KX.out⟩ (fun hHeld => ?_)
                    refine wpAnyH_take (i := 0) (v := ?_) rfl (by kernel_rfl) (by kernel_rfl) (by kernel_rfl) (fun _ _ _ h => h) (Or.inl ⟨by rfl, ?_⟩) (by assumption) ?_
                    rotate_left
                    · (intro w0 hSw; (try dsimp only at hSw); go_simp; try with_reducible rfl)
                    try simp only [List.getElem_toArray, List.getElem_cons_succ, List.getElem_cons_zero, Act.put, List.setIfInBounds_toArray, List.set_cons_zero, List.set_cons_succ]
                    refine wpAnyH_take (i := 1) (v := ?_) rfl (by kernel_rfl) (by kernel_rfl) (by kernel_rfl) (fun _ _ _ h => h) (Or.inl ⟨by rfl, ?_⟩) (by assumption) ?_
                    rotate_left
                    · (intro w0 hSw; (try dsimp only at hSw); go_simp; try with_reducible rfl)
                    try simp only [List.getElem_toArray, List.getElem_cons_succ, List.getElem_cons_zero, Act.put, List.setIfInBounds_toArray, List.set_cons_zero, List.set_cons_succ]
                    refine wpAnyH_take (i := 2) (v := ?_) rfl (by kernel_rfl) (by kernel_rfl) (by kernel_rfl) (fun _ _ _ h => h) (Or.inl ⟨by rfl, ?_⟩) (by assumption) ?_
                    rotate_left
                    · (intro w0 hSw; (try dsimp only at hSw); go_simp; try with_reducible rfl)
                    try simp only [List.getElem_toArray, List.getElem_cons_succ, List.getElem_cons_zero, Act.put, List.setIfInBounds_toArray, List.set_cons_zero, List.set_cons_succ]
                    refine wpAnyH_take (i := 3) (v := ?_) rfl (by kernel_rfl) (by kernel_rfl) (by kernel_rfl) (fun _ _ _ h => h) (Or.inl ⟨by rfl, ?_⟩) (by assumption) ?_
                    rotate_left
                    · (intro w0 hSw; (try dsimp only at hSw); go_simp; try with_reducible rfl)
                    try simp only [List.getElem_toArray, List.getElem_cons_succ, List.getElem_cons_zero, Act.put, List.setIfInBounds_toArray, List.set_cons_zero, List.set_cons_succ]
                    refine wpAnyH_take (i := 4) (v := ?_) rfl (by kernel_rfl) (by kernel_rfl) (by kernel_rfl) (fun _ _ _ h => h) (Or.inl ⟨by rfl, ?_⟩) (by assumption) ?_
                    rotate_left
                    · (intro w0 hSw; (try dsimp only at hSw); go_simp; try with_reducible rfl)
                    try simp only [List.getElem_toArray, List.getElem_cons_succ, List.getElem_cons_zero, Act.put, List.setIfInBounds_toArray, List.set_cons_zero, List.set_cons_succ]
                    refine wpAnyH_take (i := 5) (v := ?_) rfl (by kernel_rfl) (by kernel_rfl) (by kernel_rfl) (fun _ _ _ h => h) (Or.inl ⟨by rfl, ?_⟩) (by assumption) ?_
                    rotate_left
                    · (intro w0 hSw; (try dsimp only at hSw); go_simp; try with_reducible rfl)
                    try simp only [List.getElem_toArray, List.getElem_cons_succ, List.getElem_cons_zero, Act.put, List.setIfInBounds_toArray, List.set_cons_zero, List.set_cons_succ]
                    refine wpAnyH_take (i := 6) (v := ?_) rfl (by kernel_rfl) (by kernel_rfl) (by kernel_rfl) (fun _ _ _ h => h) (Or.inl ⟨by rfl, ?_⟩) (by assumption) ?_
                    rotate_left
                    · (intro w0 hSw; (try dsimp only at hSw); go_simp; try with_reducible rfl)
                    try simp only [List.getElem_toArray, List.getElem_cons_succ, List.getElem_cons_zero, Act.put, List.setIfInBounds_toArray, List.set_cons_zero, List.set_cons_succ]
                    refine wpAnyH_take (i := 7) (v := ?_) rfl (by kernel_rfl) (by kernel_rfl) (by kernel_rfl) (fun _ _ _ h => h) (Or.inl ⟨by rfl, ?_⟩) (by assumption) ?_
                    rotate_left
                    · (intro w0 hSw; (try dsimp only at hSw); go_simp; try with_reducible rfl)
                    try simp only [List.getElem_toArray, List.getElem_cons_succ, List.getElem_cons_zero, Act.put, List.setIfInBounds_toArray, List.set_cons_zero, List.set_cons_succ]
                    refine wpAnyH_take (i := 8) (v := ?_) rfl (by kernel_rfl) (by kernel_rfl) (by kernel_rfl) (fun _ _ _ h => h) (Or.inl ⟨by rfl, ?_⟩) (by assumption) ?_
                    rotate_left
                    · (intro w0 hSw; (try dsimp only at hSw); go_simp; try with_reducible rfl)
                    try simp only [List.getElem_toArray, List.getElem_cons_succ, List.getElem_cons_zero, Act.put, List.setIfInBounds_toArray, List.set_cons_zero, List.set_cons_succ]
                    refine wpAnyH_take (i := 9) (v := ?_) rfl (by kernel_rfl) (by kernel_rfl) (by kernel_rfl) (fun _ _ _ h => h) (Or.inl ⟨by rfl, ?_⟩) (by assumption) ?_
                    rotate_left
                    · (intro w0 hSw; (try dsimp only at hSw); go_simp; try with_reducible rfl)
                    try simp only [List.getElem_toArray, List.getElem_cons_succ, List.getElem_cons_zero, Act.put, List.setIfInBounds_toArray, List.set_cons_zero, List.set_cons_succ]
                    refine wpAnyH_take (i := 10) (v := ?_) rfl (by kernel_rfl) (by kernel_rfl) (by kernel_rfl) (fun _ _ _ h => h) (Or.inl ⟨by rfl, ?_⟩) (by assumption) ?_
                    rotate_left
                    · (intro w0 hSw; (try dsimp only at hSw); go_simp; try with_reducible rfl)
                    try simp only [List.getElem_toArray, List.getElem_cons_succ, List.getElem_cons_zero, Act.put, List.setIfInBounds_toArray, List.set_cons_zero, List.set_cons_succ]
                    go_simp
                    refine wpAnyH_take (i := 11) (v := undef) rfl (by kernel_rfl) (by kernel_rfl) (by kernel_rfl) (fun _ _ _ h => h) (Or.inr ⟨by rfl, rfl⟩) (by assumption) ?_
                    try simp only [List.getElem_toArray, List.getElem_cons_succ, List.getElem_cons_zero, Act.put, List.setIfInBounds_toArray, List.set_cons_zero, List.set_cons_succ]
                    refine wpAnyH_take (i := 12) (v := undef) rfl (by kernel_rfl) (by kernel_rfl) (by kernel_rfl) (fun _ _ _ h => h) (Or.inr ⟨by rfl, rfl⟩) (by assumption) ?_
                    try simp only [List.getElem_toArray, List.getElem_cons_succ, List.getElem_cons_zero, Act.put, List.setIfInBounds_toArray, List.set_cons_zero, List.set_cons_succ]
                    refine wpAnyH_take (i := 13) (v := undef) rfl (by kernel_rfl) (by kernel_rfl) (by kernel_rfl) (fun _ _ _ h => h) (Or.inr ⟨by rfl, rfl⟩) (by assumption) ?_
                    try simp only [List.getElem_toArray, List.getElem_cons_succ, List.getElem_cons_zero, Act.put, List.setIfInBounds_toArray, List.set_cons_zero, List.set_cons_succ]
                    refine wpAnyH_take (i := 14) (v := undef) rfl (by kernel_rfl) (by kernel_rfl) (by kernel_rfl) (fun _ _ _ h => h) (Or.inr ⟨by rfl, rfl⟩) (by assumption) ?_
                    try simp only [List.getElem_toArray, List.getElem_cons_succ, List.getElem_cons_zero, Act.put, List.setIfInBounds_toArray, List.set_cons_zero, List.set_cons_succ]
                    refine wpAnyH_take (i := 15) (v := undef) rfl (by kernel_rfl) (by kernel_rfl) (by kernel_rfl) (fun _ _ _ h => h) (Or.inr ⟨by rfl, rfl⟩) (by assumption) ?_
                    try simp only [List.getElem_toArray, List.getElem_cons_succ, List.getElem_cons_zero, Act.put, List.setIfInBounds_toArray, List.set_cons_zero, List.set_cons_succ]
                    refine wpAnyH_take (i := 16) (v := undef) rfl (by kernel_rfl) (by kernel_rfl) (by kernel_rfl) (fun _ _ _ h => h) (Or.inr ⟨by rfl, rfl⟩) (by assumption) ?_
                    try simp only [List.getElem_toArray, List.getElem_cons_succ, List.getElem_cons_zero, Act.put, List.setIfInBounds_toArray, List.set_cons_zero, List.set_cons_succ]
                    refine wpAnyH_take (i := 17) (v := undef) rfl (by kernel_rfl) (by kernel_rfl) (by kernel_rfl) (fun _ _ _ h => h) (Or.inr ⟨by rfl, rfl⟩) (by assumption) ?_
                    try simp only [List.getElem_toArray, List.getElem_cons_succ, List.getElem_cons_zero, Act.put, List.setIfInBounds_toArray, List.set_cons_zero, List.set_cons_succ]
                    refine wpAnyH_take (i := 18) (v := undef) rfl (by kernel_rfl) (by kernel_rfl) (by kernel_rfl) (fun _ _ _ h => h) (Or.inr ⟨by rfl, rfl⟩) (by assumption) ?_
                    try simp only [List.getElem_toArray, List.getElem_cons_succ, List.getElem_cons_zero, Act.put, List.setIfInBounds_toArray, List.set_cons_zero, List.set_cons_succ]
                    refine wpAnyH_take (i := 19) (v := ?_) rfl (by kernel_rfl) (by kernel_rfl) (by kernel_rfl) (fun _ _ _ h => h) (Or.inl ⟨by rfl, ?_⟩) (by assumption) ?_
                    rotate_left
                    · (intro w0 hSw; (try dsimp only at hSw); go_simp; try with_reducible rfl)
                    try simp only [List.getElem_toArray, List.getElem_cons_succ, List.getElem_cons_zero, Act.put, List.setIfInBounds_toArray, List.set_cons_zero, List.set_cons_succ]
                    refine wpAnyH_done (by kernel_rfl) ?_ _
                    go_wp2_with fail
                    go_roundw
                    case rel =>
                      refine ⟨k + 1, f, rfl, by go_num, hkn, ?_, World.ownsRow.drew RO.out, HB.out.drew⟩
                      rw [FF.out, HE.out]
                      constructor
                      · intro h y hy
                        rcases List.mem_append.1 hy with hy | hy
                        · exact h y hy
                        · simp at hy; exact absurd hy.2.symm htx
                      · exact fun h y hy => h y (List.mem_append_left _ hy)
                    case measure => simp [RowKit.intOf]; omega
                · obtain rfl : k = n := by omega
                  rw [List.take_of_length_le (by have := HH.out.count; omega)] at FF
                  have HS := Lib.hid (show w1.heap.size ≤ Z.heap.size from HB.out.size)
                  cases f with
                  | true =>
                    have PK := Lib.hid (PA.out (free_iff.2 ⟨by have := DX.out; simpa using this, FF.out.1 rfl⟩))
                    go_wp2_with (at_builtin
                                 refine wpList_app_new _ rfl (.tmp 60) (.tmp 65) _ rfl Try.underlying25 w1.heap.size _ i o rfl (RO.out.alloc _) [x] 1 1 _ _ rfl _ rfl (by first | rfl | simp) rfl (by omega) (by have := HS.out; simp; omega) ?_
                                 intro v9 w9 hown9 hg9 hv9
                                 have O9 := Lib.hid hown9
                                 have G9 := Lib.hid hg9
                                 clear hown9 hg9 hv9)
                    go_roundw
                    case rel =>
                      refine ⟨j + 1, true, rfl, by go_num, hjl, below_own (HB.out.alloc HS.out _) G9.out (RO.out.alloc _) (Nat.le_refl _) (by have := HS.out; simp; omega), fun h => by simp at h, fun _ => ⟨x, ?_, ?_⟩⟩
                      · rw [HO.out]; exact PK.out
                      · rw [HO.out]; exact O9.out
                    case measure => simp [RowKit.intOf]; omega
                  | false =>
                    go_wp2_with fail
                    go_roundw
                    case rel =>
                      refine ⟨j + 1, false, rfl, by go_num, hjl, HB.out, fun _ => ⟨rfl, by rw [HO.out]; exact RO.out, ?_⟩, fun h => by simp at h⟩
                      rw [HO.out]
                      refine TM.out ?_
                      cases hfr : isFree (eds ls) o x with
                      | false => rfl
                      | true => have := FF.out.2 (free_iff.1 hfr).2; simp at this
                    case measure => simp [RowKit.intOf]; omega
          · obtain rfl : j = (nds (eds ls)).length := by omega
            rw [List.take_length] at NF
            have PN := Lib.hid (pick_end NF.out)
            have OF := Lib.hid (ordF_eq RS.out IL.out PN.out)
            have hne : ¬ (ordF (eds ls) (nds (eds ls))).length = (nds (eds ls)).length := by rw [OF.out, IL.out]; omega
            have E1 := Lib.hid (show decide ((ordF (eds ls) (nds (eds ls))).length = (nds (eds ls)).length) = false from by simpa using hne)
            have E2 := Lib.hid (show ordR (eds ls) = [] from by unfold ordR; rw [if_neg hne])
            clear hne
            go_wp2_with fail
            go_ret2
            rw [E1.out, E2.out]
            exact ⟨nilS, rfl, World.ownsRow_nil _ _ _ _, B1.out.trans (HB.out.mono B1.out.size)⟩
    · obtain rfl : i = (nds (eds ls)).length := by omega
      have OF := Lib.hid (ordF_full RS.out IL.out rfl)
      have heq : (ordF (eds ls) (nds (eds ls))).length = (nds (eds ls)).length := by rw [OF.out, IL.out]
      have E1 := Lib.hid (show decide ((ordF (eds ls) (nds (eds ls))).length = (nds (eds ls)).length) = true from by simpa using heq)
      have E2 := Lib.hid (show ordR (eds ls) = ordN (eds ls) (nds (eds ls)) (nds (eds ls)).length from by unfold ordR; rw [if_pos heq, OF.out])
      clear heq
      go_wp2_with fail
      go_ret2
      rw [E1.out, E2.out, IL.out]
      exact ⟨_, rfl, own_less RO.out B1.out.size, B1.out.trans (HB.out.mono B1.out.size)⟩
end
end Go.Proofs.Ytfaciajnopkjlaa
