/- The document's Nodes, Reach, Circles. -/
import Derived.Test.YtfaciajnopkjlaaGraJ
import Derived.Deep.LoopGhost
namespace Go.Proofs.Ytfaciajnopkjlaa
open Go.RowKit
set_option linter.unusedVariables false
set_option linter.unusedSimpArgs false

section
variable {w : World} {B n : Nat} {A : Option Addr} {ls : List (List Int)} {fr : Int}
set_option maxRecDepth 100000 in
set_option maxHeartbeats 4000000 in
theorem nodesR_any {c : Nat} (w : World) (h : EdgM w w.heap.size A n ls) (hn : n ≤ 200) :
    Calls Try.prog 31 #[.slice A n c] w fun e w' => ∃ v, e = .returned v ∧ w'.ownsRow w.heap.size 3 1 v (nds (eds ls)).length (i64s (nds (eds ls))) ∧ Below w.heap.size w w' := by
  have HH := Lib.hid h
  clear h
  go_enter Try.func31, Try.ntmps31
  go_wp2_with fail
  go_loopw [3, 4] (fun s3 s4 wr => ∃ (k : Nat), s4 = .int .i64 k ∧ k ≤ n ∧ wr.ownsRow w.heap.size 3 1 s3 (2 * k) (i64s (ndsL (eds (ls.take k)))) ∧ Below w.heap.size w wr) (fun _ s4 _ => n - (RowKit.intOf s4).toNat)
  case atStart => exact ⟨0, rfl, Nat.zero_le _, World.ownsRow_nil _ _ _ _, Below.refl _ _⟩
  case round =>
    obtain ⟨k, rfl, hk, hrow, hb⟩ := hrel
    rename World => W
    have HR := Lib.hid hrow
    have HB := Lib.hid hb
    clear hrow hb
    by_cases hlt : k < n
    · obtain ⟨b, off, a, s, t, u, rfl, hbl, ⟨hl, e⟩, hc, wa, wt⟩ := (HH.out.below HB.out).at_ hlt
      have HE := Lib.hid (eds_take ls hl e)
      have k0 : W.cell? ⟨b, off + k * 4, none⟩ = some (.int .i64 a) := by have := hc 0 _ rfl; simpa [Addr.add] using this
      have k2 : W.cell? ⟨b, off + k * 4 + 2, none⟩ = some (.int .i64 t) := by have := hc 2 _ rfl; simpa [Addr.add] using this
      have HS := Lib.hid HB.out.size
      clear hc wa wt e
      go_wp2_with fail
      refine wp_region_held_drew (S := fun w' => w'.cell? ⟨b, off + k * 4, none⟩ = some (.int .i64 a) ∧ w'.cell? ⟨b, off + k * 4 + 2, none⟩ = some (.int .i64 t)) (by kernel_rfl) ⟨k0, k2⟩ (fun hHeld => ?_)
      refine wpAnyH_take (i := 0) (v := ?_) rfl (by kernel_rfl) (by kernel_rfl) (by kernel_rfl) (fun _ _ _ h => h) (Or.inl ⟨by rfl, ?_⟩) (by assumption) ?_
      rotate_left
      · (intro w0 hSw; (try dsimp only at hSw); go_simp; try with_reducible rfl)
      try simp only [List.getElem_toArray, List.getElem_cons_succ, List.getElem_cons_zero, Act.put, List.setIfInBounds_toArray, List.set_cons_zero, List.set_cons_succ]
      refine wpAnyH_take (i := 1) (v := ?_) rfl (by kernel_rfl) (by kernel_rfl) (by kernel_rfl) (fun _ _ _ h => h) (Or.inl ⟨by rfl, ?_⟩) (by assumption) ?_
      rotate_left
      · (intro w0 hSw; (try dsimp only at hSw); go_simp; try with_reducible rfl)
      try simp only [List.getElem_toArray, List.getElem_cons_succ, List.getElem_cons_zero, Act.put, List.setIfInBounds_toArray, List.set_cons_zero, List.set_cons_succ]
      refine wpAnyH_take (i := 2) (v := ?_) rfl (by kernel_rfl) (by kernel_rfl) (by kernel_rfl) (fun _ _ _ h => h) (Or.inl ⟨by rfl, ?_⟩) (by assumption) ?_
      rotate_left
      · (intro w0 hSw; (try dsimp only at hSw); go_simp; try with_reducible rfl)
      try simp only [List.getElem_toArray, List.getElem_cons_succ, List.getElem_cons_zero, Act.put, List.setIfInBounds_toArray, List.set_cons_zero, List.set_cons_succ]
      refine wpAnyH_take (i := 3) (v := ?_) rfl (by kernel_rfl) (by kernel_rfl) (by kernel_rfl) (fun _ _ _ h => h) (Or.inl ⟨by rfl, ?_⟩) (by assumption) ?_
      rotate_left
      · (intro w0 hSw; (try dsimp only at hSw); go_simp; try with_reducible rfl)
      try simp only [List.getElem_toArray, List.getElem_cons_succ, List.getElem_cons_zero, Act.put, List.setIfInBounds_toArray, List.set_cons_zero, List.set_cons_succ]
      refine wpAnyH_take (i := 4) (v := ?_) rfl (by kernel_rfl) (by kernel_rfl) (by kernel_rfl) (fun _ _ _ h => h) (Or.inl ⟨by rfl, ?_⟩) (by assumption) ?_
      rotate_left
      · (intro w0 hSw; (try dsimp only at hSw); go_simp; try with_reducible rfl)
      try simp only [List.getElem_toArray, List.getElem_cons_succ, List.getElem_cons_zero, Act.put, List.setIfInBounds_toArray, List.set_cons_zero, List.set_cons_succ]
      refine wpAnyH_take (i := 5) (v := ?_) rfl (by kernel_rfl) (by kernel_rfl) (by kernel_rfl) (fun _ _ _ h => h) (Or.inl ⟨by rfl, ?_⟩) (by assumption) ?_
      rotate_left
      · (intro w0 hSw; (try dsimp only at hSw); go_simp; try with_reducible rfl)
      try simp only [List.getElem_toArray, List.getElem_cons_succ, List.getElem_cons_zero, Act.put, List.setIfInBounds_toArray, List.set_cons_zero, List.set_cons_succ]
      refine wpAnyH_take (i := 6) (v := ?_) rfl (by kernel_rfl) (by kernel_rfl) (by kernel_rfl) (fun _ _ _ h => h) (Or.inl ⟨by rfl, ?_⟩) (by assumption) ?_
      rotate_left
      · (intro w0 hSw; (try dsimp only at hSw); go_simp; try with_reducible rfl)
      try simp only [List.getElem_toArray, List.getElem_cons_succ, List.getElem_cons_zero, Act.put, List.setIfInBounds_toArray, List.set_cons_zero, List.set_cons_succ]
      refine wpAnyH_take (i := 7) (v := ?_) rfl (by kernel_rfl) (by kernel_rfl) (by kernel_rfl) (fun _ _ _ h => h) (Or.inl ⟨by rfl, ?_⟩) (by assumption) ?_
      rotate_left
      · (intro w0 hSw; (try dsimp only at hSw); go_simp; try with_reducible rfl)
      try simp only [List.getElem_toArray, List.getElem_cons_succ, List.getElem_cons_zero, Act.put, List.setIfInBounds_toArray, List.set_cons_zero, List.set_cons_succ]
      refine wpAnyH_take (i := 8) (v := ?_) rfl (by kernel_rfl) (by kernel_rfl) (by kernel_rfl) (fun _ _ _ h => h) (Or.inl ⟨by rfl, ?_⟩) (by assumption) ?_
      rotate_left
      · (intro w0 hSw; (try dsimp only at hSw); go_simp; try with_reducible rfl)
      try simp only [List.getElem_toArray, List.getElem_cons_succ, List.getElem_cons_zero, Act.put, List.setIfInBounds_toArray, List.set_cons_zero, List.set_cons_succ]
      refine wpAnyH_take (i := 9) (v := ?_) rfl (by kernel_rfl) (by kernel_rfl) (by kernel_rfl) (fun _ _ _ h => h) (Or.inl ⟨by rfl, ?_⟩) (by assumption) ?_
      rotate_left
      · (intro w0 hSw; (try dsimp only at hSw); go_simp; try with_reducible rfl)
      try simp only [List.getElem_toArray, List.getElem_cons_succ, List.getElem_cons_zero, Act.put, List.setIfInBounds_toArray, List.set_cons_zero, List.set_cons_succ]
      refine wpAnyH_take (i := 10) (v := ?_) rfl (by kernel_rfl) (by kernel_rfl) (by kernel_rfl) (fun _ _ _ h => h) (Or.inl ⟨by rfl, ?_⟩) (by assumption) ?_
      rotate_left
      · (intro w0 hSw; (try dsimp only at hSw); go_simp; try with_reducible rfl)
      try simp only [List.getElem_toArray, List.getElem_cons_succ, List.getElem_cons_zero, Act.put, List.setIfInBounds_toArray, List.set_cons_zero, List.set_cons_succ]
      refine wpAnyH_ready (rs := [11]) (by kernel_rfl) (by simp) ?_
      refine AllReadyH.cons rfl (fun K hK => ?_) AllReadyH.nil
      go_simp
      have KEEP := Lib.hid (show ∀ X, Below w.heap.size W X → X.cell? ⟨b, off + k * 4, none⟩ = some (.int .i64 a) ∧ X.cell? ⟨b, off + k * 4 + 2, none⟩ = some (.int .i64 t) from fun X hx => ⟨(hx.cell (p := ⟨b, off + k * 4, none⟩) hbl).trans k0, (hx.cell (p := ⟨b, off + k * 4 + 2, none⟩) hbl).trans k2⟩)
      have B1 := Lib.hid (show Below w.heap.size W (W.drew.alloc (.cells #[.int .i64 a, .int .i64 t] 3)) from (Below.refl _ W).drew.alloc HS.out _)
      have R1 := Lib.hid (show (W.drew.alloc (.cells #[.int .i64 a, .int .i64 t] 3)).ownsRow w.heap.size 3 1 u3 (2 * k) (i64s (ndsL (eds (ls.take k)))) from World.ownsRow.alloc (World.ownsRow.drew HR.out) _)
      have RN := Lib.hid (reads_newInts W.drew 3 [a, t])
      refine hK.out _ _ (KEEP.out _ B1.out) (fun hHeld => ?_)
      clear hK K
      refine wpAnyH_ready (rs := [12]) (by kernel_rfl) (by simp) ?_
      refine AllReadyH.cons rfl (fun K hK => ?_) AllReadyH.nil
      refine step_app_reads _ rfl (.tmp 11) (.tmp 22) _ rfl Try.underlying25 w.heap.size u3 (2 * k) (ndsL (eds (ls.take k))) rfl R1.out _ _ 2 2 [a, t] rfl RN.out (by omega) (by have := HS.out; simp; omega) ?_
      intro v9 w9 hown9 hg9
      have O9 := Lib.hid hown9
      have G9 := Lib.hid hg9
      have B9 := Lib.hid (B1.out.grown hg9 (by have := HS.out; simp; omega) (fun q hq => ownBlock_ge R1.out q hq))
      clear hown9 hg9
      refine hK.out _ _ (KEEP.out _ B9.out) (fun hHeld => ?_)
      clear hK K
      refine wpAnyH_take (i := 13) (v := ?_) rfl (by kernel_rfl) (by kernel_rfl) (by kernel_rfl) (fun _ _ _ h => h) (Or.inl ⟨by rfl, ?_⟩) (by assumption) ?_
      rotate_left
      · (intro w0 hSw; (try dsimp only at hSw); go_simp; try with_reducible rfl)
      try simp only [List.getElem_toArray, List.getElem_cons_succ, List.getElem_cons_zero, Act.put, List.setIfInBounds_toArray, List.set_cons_zero, List.set_cons_succ]
      refine wpAnyH_done (by kernel_rfl) ?_ _
      go_wp2_with fail
      go_roundw
      case rel =>
        refine ⟨k + 1, by go_num, by omega, ?_, HB.out.trans B9.out⟩
        rw [HE.out, ndsL_snoc, show 2 * (k + 1) = 2 * k + 2 by omega]
        exact O9.out
      case measure => simp [RowKit.intOf]; omega
    · obtain rfl : k = n := by omega
      rw [List.take_of_length_le (by have := HH.out.count; omega)] at HR
      obtain ⟨A3, c3, rfl, hr3, _⟩ := own_slice HR.out
      have R3 := Lib.hid hr3
      clear hr3
      go_wp2_with fail
      refine (rising_any W R3.out (Nat.le_refl _) (by omega)).mono ?_
      rintro e w1 ⟨v, r, rfl, hris, hmem, hlen, hrow, hb1⟩
      have er : r = nds (eds ls) := ris_ext hris (nds_ris _) fun y => by rw [hmem, nds_mem, ndsL_mem]
      subst er
      go_wp2_with fail
      go_ret
      exact ⟨v, rfl, own_less hrow HB.out.size, HB.out.trans (hb1.mono HB.out.size)⟩
set_option maxRecDepth 100000 in
set_option maxHeartbeats 16000000 in
theorem reachR_any {c : Nat} (w : World) (h : EdgM w w.heap.size A n ls) (hn : n ≤ 200) :
    Calls Try.prog 11 #[.slice A n c, .int .i64 fr] w fun e w' => ∃ v l, e = .returned v ∧ Ris l ∧ (∀ x, x ∈ l ↔ Rp (nxt (eds ls)) fr x) ∧ w'.ownsRow w.heap.size 3 1 v l.length (i64s l) ∧ Below w.heap.size w w' := by
  have hN : (nds (eds ls)).length ≤ 400 := by have := nds_len (eds ls); rw [h.elen] at this; omega
  have HH := Lib.hid h
  have HEL := Lib.hid (show ∀ (o : List Int), o.Nodup → (∀ y ∈ o, Rp (nxt (eds ls)) fr y) → o.length ≤ 400 from fun o h1 h2 => Nat.le_trans (nodup_len h1 fun y hy => by obtain ⟨d, _, h4⟩ := h2 y hy; exact (nds_of h4).2) hN)
  clear h
  go_enter Try.func11, Try.ntmps11
  go_wp2_with fail
  go_loopg [5, 6] 801 (fun gk s5 s6 wr => ∃ (o : List Int) (m : Bool), gk = 2 * (400 - o.length) + (if m = true then 1 else 0) ∧ s6 = .bool m ∧ wr.ownsRow w.heap.size 3 1 s5 o.length (i64s o) ∧ o.Nodup ∧ (∀ y ∈ o, Rp (nxt (eds ls)) fr y) ∧
      (m = false → ∀ a b, (a, b) ∈ eds ls → (a = fr ∨ a ∈ o) → b ∈ o) ∧ Below w.heap.size w wr)
  case atStart => exact ⟨[], true, rfl, rfl, World.ownsRow_nil _ _ _ _, List.nodup_nil, by simp, fun h => by simp at h, Below.refl _ _⟩
  case round =>
    obtain ⟨o, m, hgk, rfl, hrow, hnd, hrp, hcl, hb⟩ := hrel
    rename World => W
    have hol := HEL.out o hnd hrp
    have RO0 := Lib.hid hrow
    have ND0 := Lib.hid hnd
    have RP0 := Lib.hid hrp
    have CL0 := Lib.hid hcl
    have HB0 := Lib.hid hb
    clear hrow hnd hrp hcl hb
    cases m with
    | false =>
      obtain ⟨A5, c5, rfl, hr5, _⟩ := own_slice RO0.out
      have R5 := Lib.hid hr5
      clear hr5
      go_wp2_with fail
      refine (rising_any W R5.out (Nat.le_refl _) (by omega)).mono ?_
      rintro e w1 ⟨v, r, rfl, hris, hmem, hlen, hrow, hb1⟩
      go_wp2_with fail
      go_ret
      refine ⟨v, r, rfl, hris, fun x => ?_, own_less hrow HB0.out.size, HB0.out.trans (hb1.mono HB0.out.size)⟩
      rw [hmem]
      constructor
      · exact RP0.out x
      · rintro ⟨d, h1, h2⟩
        have key : ∀ y, Rt (nxt (eds ls)) fr y → y = fr ∨ y ∈ o := by
          intro y hy
          induction hy with
          | refl => exact .inl rfl
          | tail h3 h4 ih => exact .inr (CL0.out (by first | rfl | trivial) _ _ (nxt_mem.1 h4) ih)
        exact CL0.out (by first | rfl | trivial) _ _ (nxt_mem.1 h2) (key d h1)
    | true =>
      have hgk2 : gk = 2 * (400 - o.length) + 1 := by simpa using hgk
      clear hgk
      go_wp2_with fail
      go_loopw [5, 6, 7] (fun s5 s6 s7 wr => ∃ (i : Nat) (o' : List Int) (m' : Bool), s7 = .int .i64 i ∧ i ≤ n ∧ s6 = .bool m' ∧ wr.ownsRow w.heap.size 3 1 s5 o'.length (i64s o') ∧ o'.Nodup ∧ (∀ y ∈ o', Rp (nxt (eds ls)) fr y) ∧ o.length ≤ o'.length ∧
          (m' = false → o' = o ∧ ∀ a b, (a, b) ∈ eds (ls.take i) → (a = fr ∨ a ∈ o') → b ∈ o') ∧ (m' = true → o.length < o'.length) ∧ Below w.heap.size w wr) (fun _ _ s7 _ => 2000 - (RowKit.intOf s7).toNat)
      case atStart => exact ⟨0, o, false, rfl, Nat.zero_le _, rfl, RO0.out, ND0.out, RP0.out, Nat.le_refl _, fun _ => ⟨rfl, by simp [eds]⟩, fun h => by simp at h, HB0.out⟩
      case round =>
        obtain ⟨i, o', m', rfl, hi, rfl, hrow, hnd, hrp, hle, hcl, hgr, hb⟩ := hrel
        rename World => Y
        have hol' := HEL.out o' hnd hrp
        obtain ⟨A5, c5, rfl, hr5, _⟩ := own_slice hrow
        have RO := Lib.hid hrow
        have RX := Lib.hid hr5
        have ND := Lib.hid hnd
        have RPP := Lib.hid hrp
        have LE := Lib.hid hle
        have CL := Lib.hid hcl
        have GR := Lib.hid hgr
        have BY := Lib.hid hb
        have HS := Lib.hid hb.size
        clear hrow hnd hrp hle hcl hgr hb hr5
        by_cases hlt : i < n
        · obtain ⟨b, off, a, s, t, u, rfl, hbl, ⟨hl, e⟩, hc, wa, wt⟩ := (HH.out.below BY.out).at_ hlt
          have HE := Lib.hid (eds_take ls hl e)
          have EM := Lib.hid (show (a, t) ∈ eds ls from List.mem_map.2 ⟨_, List.getElem_mem hl, by rw [e]; rfl⟩)
          have k0 : Y.cell? ⟨b, off + i * 4, none⟩ = some (.int .i64 a) := by have := hc 0 _ rfl; simpa [Addr.add] using this
          have k2 : Y.cell? ⟨b, off + i * 4 + 2, none⟩ = some (.int .i64 t) := by have := hc 2 _ rfl; simpa [Addr.add] using this
          clear hc wa wt e
          by_cases haf : a = fr
          · have d1 : (a == fr) = true := by simpa using haf
            have HAF := Lib.hid haf
            clear haf
            cases hdt : decide (t ∈ o') with
            | true =>
              have DT := Lib.hid hdt
              clear hdt
              go_wp2_with (go_at_call 23; refine (has_any _ _ _ _ o' _ _ (by omega) RX.out).mono ?_; rintro e w' ⟨rfl, hww⟩; subst hww; rw [DT.out])
              go_roundw
              case rel =>
                refine ⟨i + 1, o', m', by go_num, hlt, rfl, RO.out, ND.out, RPP.out, LE.out, fun hm => ?_, GR.out, BY.out⟩
                obtain ⟨e1, e2⟩ := CL.out hm
                refine ⟨e1, fun x y hx hy => ?_⟩
                rw [HE.out, List.mem_append] at hx
                rcases hx with hx | hx
                · exact e2 x y hx hy
                · simp at hx; obtain ⟨rfl, rfl⟩ := hx
                  have := DT.out; simpa using this
              case measure => simp [RowKit.intOf]; omega
            | false =>
              have DT := Lib.hid hdt
              clear hdt
              go_wp2_with (first
                | (go_at_call 23; refine (has_any _ _ _ _ o' _ _ (by omega) RX.out).mono ?_; rintro e w' ⟨rfl, hww⟩; subst hww; rw [DT.out])
                | (at_builtin
                   refine wpList_app_new _ rfl (.tmp 41) (.tmp 47) _ rfl Try.underlying25 w.heap.size _ o'.length o' rfl (RO.out.alloc _) [t] 1 1 _ _ rfl _ rfl (by simp) rfl (by omega) (by have := HS.out; simp; omega) ?_
                   intro v9 w9 hown9 hg9 hv9
                   have O9 := Lib.hid hown9
                   have G9 := Lib.hid hg9
                   clear hown9 hg9 hv9))
              go_roundw
              case rel =>
                have hnt : t ∉ o' := by have := DT.out; simpa using this
                refine ⟨i + 1, o' ++ [t], true, by go_num, hlt, rfl, by rw [List.length_append]; exact O9.out, List.nodup_append.2 ⟨ND.out, by simp, fun x hx y hy e => by simp at hy; subst hy; subst e; exact hnt hx⟩, fun y hy => ?_, by simp; have := LE.out; omega, fun h => by simp at h, fun _ => by simp; have := LE.out; omega, below_own (BY.out.alloc HS.out _) G9.out (RO.out.alloc _) (Nat.le_refl _) (by have := HS.out; simp; omega)⟩
                rcases List.mem_append.1 hy with hy | hy
                · exact RPP.out y hy
                · simp at hy; subst hy
                  have hed := nxt_mem.2 EM.out
                  rw [← HAF.out]; exact Rp.one hed
              case measure => simp [RowKit.intOf]; omega
          · have d1 : (a == fr) = false := by simpa using haf
            have HAF := Lib.hid haf
            clear haf
            cases hda : decide (a ∈ o') with
            | false =>
              have DT := Lib.hid hda
              clear hda
              go_wp2_with (go_at_call 23; refine (has_any _ _ _ _ o' _ _ (by omega) RX.out).mono ?_; rintro e w' ⟨rfl, hww⟩; subst hww; rw [DT.out])
              go_roundw
              case rel =>
                refine ⟨i + 1, o', m', by go_num, hlt, rfl, RO.out, ND.out, RPP.out, LE.out, fun hm => ?_, GR.out, BY.out⟩
                obtain ⟨e1, e2⟩ := CL.out hm
                refine ⟨e1, fun x y hx hy => ?_⟩
                rw [HE.out, List.mem_append] at hx
                rcases hx with hx | hx
                · exact e2 x y hx hy
                · simp at hx; obtain ⟨rfl, rfl⟩ := hx
                  rcases hy with hy | hy
                  · exact absurd hy HAF.out
                  · have := DT.out; simp at this; exact absurd hy this
              case measure => simp [RowKit.intOf]; omega
            | true =>
              have DA := Lib.hid hda
              have hda2 : a ∈ o' := by simpa using hda
              have AM := Lib.hid hda2
              have TOKA := Lib.hid True.intro
              clear hda hda2
              cases hdt : decide (t ∈ o') with
              | true =>
                have DT := Lib.hid hdt
                clear hdt
                go_wp2_with (first
                  | (go_at_call 23; have _t := TOKA; refine (has_any _ _ _ _ o' _ _ (by omega) RX.out).mono ?_; rintro e w' ⟨rfl, hww⟩; subst hww; rw [DA.out]; clear TOKA)
                  | (go_at_call 23; refine (has_any _ _ _ _ o' _ _ (by omega) RX.out).mono ?_; rintro e w' ⟨rfl, hww⟩; subst hww; rw [DT.out]))
                go_roundw
                case rel =>
                  refine ⟨i + 1, o', m', by go_num, hlt, rfl, RO.out, ND.out, RPP.out, LE.out, fun hm => ?_, GR.out, BY.out⟩
                  obtain ⟨e1, e2⟩ := CL.out hm
                  refine ⟨e1, fun x y hx hy => ?_⟩
                  rw [HE.out, List.mem_append] at hx
                  rcases hx with hx | hx
                  · exact e2 x y hx hy
                  · simp at hx; obtain ⟨rfl, rfl⟩ := hx
                    have := DT.out; simpa using this
                case measure => simp [RowKit.intOf]; omega
              | false =>
                have DT := Lib.hid hdt
                clear hdt
                go_wp2_with (first
                  | (go_at_call 23; have _t := TOKA; refine (has_any _ _ _ _ o' _ _ (by omega) RX.out).mono ?_; rintro e w' ⟨rfl, hww⟩; subst hww; rw [DA.out]; clear TOKA)
                  | (go_at_call 23; refine (has_any _ _ _ _ o' _ _ (by omega) RX.out).mono ?_; rintro e w' ⟨rfl, hww⟩; subst hww; rw [DT.out])
                  | (at_builtin
                     refine wpList_app_new _ rfl (.tmp 41) (.tmp 47) _ rfl Try.underlying25 w.heap.size _ o'.length o' rfl (RO.out.alloc _) [t] 1 1 _ _ rfl _ rfl (by simp) rfl (by omega) (by have := HS.out; simp; omega) ?_
                     intro v9 w9 hown9 hg9 hv9
                     have O9 := Lib.hid hown9
                     have G9 := Lib.hid hg9
                     clear hown9 hg9 hv9))
                go_roundw
                case rel =>
                  have hnt : t ∉ o' := by have := DT.out; simpa using this
                  refine ⟨i + 1, o' ++ [t], true, by go_num, hlt, rfl, by rw [List.length_append]; exact O9.out, List.nodup_append.2 ⟨ND.out, by simp, fun x hx y hy e => by simp at hy; subst hy; subst e; exact hnt hx⟩, fun y hy => ?_, by simp; have := LE.out; omega, fun h => by simp at h, fun _ => by simp; have := LE.out; omega, below_own (BY.out.alloc HS.out _) G9.out (RO.out.alloc _) (Nat.le_refl _) (by have := HS.out; simp; omega)⟩
                  rcases List.mem_append.1 hy with hy | hy
                  · exact RPP.out y hy
                  · simp at hy; subst hy
                    have hed := nxt_mem.2 EM.out
                    exact (RPP.out a AM.out).trans (Rt.one hed)
                case measure => simp [RowKit.intOf]; omega
        · obtain rfl : i = n := by omega
          have CL2 := Lib.hid (show m' = false → ∀ a b, (a, b) ∈ eds ls → (a = fr ∨ a ∈ o') → b ∈ o' from fun hm => by
            have := (CL.out hm).2
            rwa [List.take_of_length_le (by have := HH.out.count; omega)] at this)
          have MS := Lib.hid (show 2 * (400 - o'.length) + (if m' = true then 1 else 0) < gk from by
            have h1 := LE.out
            have h2 := GR.out
            cases m' with
            | false => simp; omega
            | true => have := h2 rfl; simp; omega)
          go_wp2_with fail
          go_roundg (2 * (400 - o'.length) + (if m' = true then 1 else 0))
          case rel => exact ⟨o', m', rfl, rfl, RO.out, ND.out, RPP.out, CL2.out, BY.out⟩
          case measure => exact MS.out
end
end Go.Proofs.Ytfaciajnopkjlaa
