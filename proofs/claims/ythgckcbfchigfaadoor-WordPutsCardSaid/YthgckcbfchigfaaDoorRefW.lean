/- The contract of the document's Put. -/
import Derived.Test.YthgckcbfchigfaaDoorWordP
import Derived.Deep.RegionHeld
namespace Go.Proofs.YthgckcbfchigfaaDoor
open Go.RowKit
set_option linter.unusedVariables false
set_option linter.unusedSimpArgs false

set_option maxRecDepth 100000 in
set_option maxHeartbeats 1000000 in
theorem putR_arg (b l : Value) (x : Int) (h : mayW x = false) (w : World) : Calls Tryd.prog 9 #[b, .int .i64 x, l] w fun e w' => e = .returned (.tuple #[.slice none 0 0, .int .i64 (-1), .int .i64 1]) ∧ w = w' := by
  rcases mayW_no h with h1 | h1
  · have d1 : decide (x < 1) = true := by simpa using h1
    clear h h1
    go_enter Tryd.func9, Tryd.ntmps9
    go_wp2
    exact bodyPost_ret (v := .tuple #[.slice none 0 0, .int .i64 (-1), .int .i64 1]) (by simp [results, Tryd.results9, go_sem]) rfl ⟨rfl, rfl⟩
  · have d1 : decide (x < 1) = false := by simp; omega
    have d2 : decide (4 < x) = true := by simpa using h1
    clear h h1
    go_enter Tryd.func9, Tryd.ntmps9
    go_wp2
    exact bodyPost_ret (v := .tuple #[.slice none 0 0, .int .i64 (-1), .int .i64 1]) (by simp [results, Tryd.results9, go_sem]) rfl ⟨rfl, rfl⟩

/-- What the document's Put answers. -/
def PutRPost (wd n m : Nat) (bs : List UInt8) (is : List Int) (w : World) (e : Ending) (w' : World) : Prop :=
  (AllFit wd is ∧ ∃ v, e = .returned (.tuple #[v, .int .i64 (-1), .int .i64 0]) ∧ w'.ownsRow w.heap.size 5 1 v (n + wd * m) (u8s (bs ++ encL wd is)) ∧ Below w.heap.size w w') ∨
  (∃ k : Nat, FirstBad wd is k ∧ e = .returned (.tuple #[.slice none 0 0, .int .i64 k, .int .i64 2]) ∧ Below w.heap.size w w')
structure CopyRel (bs : List UInt8) (w : World) (k : Nat) (v : Value) (W : World) : Prop where
  own : W.ownsRow w.heap.size 5 1 v k (u8s (bs.take k))
  bel : Below w.heap.size w W

set_option maxRecDepth 100000 in
set_option maxHeartbeats 4000000 in
theorem putR_any (A A' : Option Addr) (n cap m cap' wd : Nat) (bs : List UInt8) (is : List Int) (h1 : 1 ≤ wd) (h4 : wd ≤ 4) (hN : n + wd * m ≤ 211106232532992) (w : World) (hb : Reads w w.heap.size 1 A n (u8s bs)) (hl : Reads w w.heap.size 1 A' m (i64s is)) :
    Calls Tryd.prog 9 #[.slice A n cap, .int .i64 wd, .slice A' m cap'] w (PutRPost wd n m bs is w) := by
  have HB := Lib.hid hb
  have HL := Lib.hid hl
  have HLN := Lib.hid hl.int_len
  have HBN := Lib.hid hb.u8_len
  obtain ⟨i0, hi0, hz0, hz1, hz2⟩ := info_parts info_u8
  have hm : m ≤ wd * m := Nat.le_mul_of_pos_left m (by omega)
  have d1 : decide ((wd : Int) < 1) = false := by simp; omega
  have d2 : decide ((4 : Int) < wd) = false := by simp; omega
  clear hb hl
  go_enter Tryd.func9, Tryd.ntmps9
  go_wp2_with fail
  go_loopw [9, 10] (fun v i W => ∃ k : Nat, k ≤ n ∧ i = .int .i64 k ∧ CopyRel bs w k v W) (fun _ i _ => n - (intOf i).toNat)
  case atStart => exact ⟨0, Nat.zero_le _, rfl, World.ownsRow_nil _ _ _ _, Below.refl _ _⟩
  case round =>
    obtain ⟨k, hk, rfl, hown, hbel⟩ := hrel
    rename World => W
    have O := Lib.hid hown
    have B := Lib.hid hbel
    clear hown hbel
    by_cases hlt : k < n
    · have hkl : k < bs.length := by rw [HBN.out]; exact hlt
      obtain ⟨ad, rfl, hbA, hcA⟩ := (HB.out.below B.out).u8_at hkl
      have HT := Lib.hid (show bs.take (k + 1) = bs.take k ++ [bs[k]] by rw [List.take_add_one, List.getElem?_eq_getElem hkl]; rfl)
      generalize bs[k] = c at hcA HT
      go_wp2_with (at_builtin
                   refine wpList_append_wide _ rfl (.tmp 25) (.tmp 30) _ rfl w.heap.size 5 i0 _ 1 1 Tryd.underlying22 hi0 hz0 hz1 hz2 rfl (by omega) u9 k (u8s (bs.take k)) rfl
                     (O.out.alloc _) _ (some ⟨W.heap.size, 0, none⟩) 1 1 (u8s [c]) rfl (reads_new1 W _ _ c rfl) (u8s_one _) (by simp only [maxLen]; omega) (by omega) (by have := B.out.size; simp; omega) ?_
                   intro v3 w3 hown3 hg3
                   have B3 := Lib.hid (below_own (B.out.alloc B.out.size _) hg3 (O.out.alloc _) (Nat.le_refl _) (by have := B.out.size; simp; omega))
                   have O3 := Lib.hid hown3
                   clear hown3 hg3)
      go_roundw
      case rel => exact ⟨k + 1, by omega, by go_num, by rw [HT.out, u8s_append]; exact O3.out, B3.out⟩
      case measure => simp [intOf]; omega
    · obtain rfl : k = n := by omega
      have O0 := Lib.hid (show W.ownsRow w.heap.size 5 1 u9 k (u8s bs) by have := O.out; rwa [List.take_of_length_le (by rw [HBN.out]; exact Nat.le_refl _)] at this)
      go_wp2_with fail
      go_loopw [9, 11] (fun v i W => ∃ j : Nat, j ≤ m ∧ i = .int .i64 j ∧ PutRel wd k bs is w j v W) (fun _ i _ => m - (intOf i).toNat)
      case atStart => exact ⟨0, Nat.zero_le _, rfl, FitTill.zero _ _, by simpa [encL] using O0.out, B.out⟩
      case round =>
        obtain ⟨j, hj, rfl, hfit, hown, hbel⟩ := hrel
        rename World => V
        have F := Lib.hid hfit
        have O := Lib.hid hown
        have B := Lib.hid hbel
        clear hfit hown hbel
        by_cases hlt : j < m
        · have hjm : k + wd * j + wd ≤ k + wd * m := by have := Nat.mul_le_mul_left wd (show j + 1 ≤ m by omega); rw [Nat.mul_succ] at this; omega
          have hjl : j < is.length := by rw [HLN.out]; exact hlt
          obtain ⟨ad, rfl, hbA, hcA⟩ := (HL.out.below B.out).int_at hjl
          have E := Lib.hid (encL_take_succ wd is hjl)
          have FS := Lib.hid (fun hx => F.out.succ hjl hx)
          have FB := Lib.hid (fun hx => F.out.bad hjl hx)
          have hget : is[j]? = some is[j] := List.getElem?_eq_getElem hjl
          generalize is[j] = x at hcA E FS FB hget
          have HGET := Lib.hid hget
          clear hget
          have hcell : ∀ U : World, Below w.heap.size w U → U.cell? (ad.add j) = some (.int .i64 x) := fun U hU => by
            obtain ⟨a', e', _, h'⟩ := (HL.out.below hU).2 (by omega)
            cases e'
            exact h' j _ (by simp [i64s, HGET.out])
          have HCELL := Lib.hid hcell
          clear hcell
          cases hx0 : decide (x < 0) with
          | true =>
            have HF := Lib.hid (show fitsB wd x = false by rw [Bool.eq_false_iff]; intro h; have := (fitsB_iff.1 h).1; simp at hx0; omega)
            go_wp2_with fail
            go_quiet ((go_at_call 21; exact Calls.quiet_of_same (power_same wd h4 _)))
            go_wp2_with fail
            refine bodyPost_ret (v := .tuple #[.slice none 0 0, .int .i64 j, .int .i64 2]) (by simp [results, Tryd.results9, go_sem]) rfl ?_
            exact .inr ⟨j, FB.out HF.out, rfl, below_drewN B.out _⟩
          | false =>
            cases hx1 : decide ((pw wd : Int) ≤ x) with
            | true =>
              have HF := Lib.hid (show fitsB wd x = false by rw [Bool.eq_false_iff]; intro h; have := (fitsB_iff.1 h).2; simp at hx1; omega)
              go_wp2_with fail
              go_quiet ((go_at_call 21; exact Calls.quiet_of_same (power_same wd h4 _)))
              go_wp2_with fail
              refine bodyPost_ret (v := .tuple #[.slice none 0 0, .int .i64 j, .int .i64 2]) (by simp [results, Tryd.results9, go_sem]) rfl ?_
              exact .inr ⟨j, FB.out HF.out, rfl, below_drewN B.out _⟩
            | false =>
              have HF := Lib.hid (show fitsB wd x = true by rw [fitsB_iff]; simp at hx0 hx1; omega)
              go_wp2_with fail
              go_quiet ((go_at_call 21; exact Calls.quiet_of_same (power_same wd h4 _)))
              go_wp2_with fail
              go_loopw [9, 12] (fun v i W => ∃ q s : Nat, q + s = wd ∧ i = .int .i64 s ∧ PutRel2 wd k bs is w j q x v W) (fun _ i _ => (intOf i).toNat)
              case atStart => exact ⟨0, wd, Nat.zero_add _, rfl, by have := O.out; simp only [Nat.add_zero, List.take_zero, List.append_nil]; exact this, below_drewN B.out _⟩
              case round =>
                obtain ⟨q, s, hqs, rfl, hown, hbel⟩ := hrel
                rename World => U
                have O := Lib.hid hown
                have B := Lib.hid hbel
                clear hown hbel
                rcases Nat.eq_zero_or_pos s with h0 | h0
                · subst h0
                  obtain rfl : q = wd := by omega
                  go_wp2_with fail
                  go_roundw
                  case rel => exact ⟨j + 1, by omega, by go_num, FS.out HF.out, by have := O.out; rw [show (encN q x.toNat).take q = encN q x.toNat from List.take_of_length_le (by simp [encN_length])] at this; rw [E.out, ← List.append_assoc, Nat.mul_succ, ← Nat.add_assoc]; exact this, B.out⟩
                  case measure => simp [intOf]; omega
                · obtain ⟨t, rfl⟩ : ∃ t, s = t + 1 := ⟨s - 1, by omega⟩
                  have hx := (fitsB_iff.1 HF.out).1
                  have hxm := (fitsB_iff.1 HF.out).2
                  have hpw := pw_le h4
                  have hpt := pw_pos t
                  have hpt4 := pw_le (k := t) (by omega)
                  have HBY := Lib.hid (byte_quo hx t)
                  have HT := Lib.hid (encN_take_succ x.toNat wd q (by omega))
                  have HTW := Lib.hid (show wd - 1 - q = t by omega)
                  rw [HTW.out] at HT
                  generalize UInt8.ofNat (x.toNat / pw t) = c at HBY HT
                  have hz : ((pw t : Int) == 0) = false := by simp; omega
                  have hq0 : 0 ≤ x / (pw t : Int) := Int.ediv_nonneg hx (by omega)
                  have hq1 : x / (pw t : Int) ≤ x := Int.ediv_le_self _ hx
                  have hq : IntKind.i64.wrap (x.tdiv (pw t : Int)) = x / (pw t : Int) := by rw [Int.tdiv_eq_ediv_of_nonneg hx]; exact IntWalk.i64_in _ (by omega)
                  have hqd : x.tdiv (pw t : Int) = x / (pw t : Int) := Int.tdiv_eq_ediv_of_nonneg hx
                  have hqm : (x / (pw t : Int)).tmod 256 = x / (pw t : Int) % 256 := Int.tmod_eq_emod_of_nonneg hq0
                  have hqw : IntKind.u8.wrap (x / (pw t : Int) % 256) = x / (pw t : Int) % 256 := by rw [IntKind.wrap_u8]; omega
                  have hqi : IntKind.i64.wrap (x / (pw t : Int)) = x / (pw t : Int) := IntWalk.i64_in _ (by omega)
                  have hpz : (pw t = 0) = False := by simp; omega
                  have hwt : IntKind.i64.wrap (t : Int) = (t : Int) := IntWalk.i64_in _ (by omega)
                  have hsub : IntKind.i64.wrap (((t + 1 : Nat) : Int) - 1) = (t : Int) := by rw [IntWalk.i64_in _ (by omega)]; omega
                  have hsub2 : IntKind.i64.wrap ((t : Int) + 1 - 1) = (t : Int) := by rw [IntWalk.i64_in _ (by omega)]; omega
                  have hcA2 : U.cell? (ad.add j) = some (.int .i64 x) := HCELL.out U B.out
                  go_wp2_with fail
                  refine wp_region_held_drew (S := fun w' => w'.cell? (ad.add j) = some (.int .i64 x)) (by kernel_rfl) ?_ (fun hHeld => ?_)
                  · exact hcA2
                  refine wpAnyH_take (i := 0) (v := ?_) rfl (by kernel_rfl) (by kernel_rfl) (by kernel_rfl) (fun _ _ _ h => h) (Or.inl ⟨by rfl, ?_⟩) (by assumption) ?_
                  rotate_left
                  · (intro w0 hSw; (try dsimp only at hSw); go_simp; try with_reducible rfl)
                  try simp only [Act.put, List.setIfInBounds_toArray, List.set_cons_zero, List.set_cons_succ]
                  refine wpAnyH_take (i := 1) (v := ?_) rfl (by kernel_rfl) (by kernel_rfl) (by kernel_rfl) (fun _ _ _ h => h) (Or.inl ⟨by rfl, ?_⟩) (by assumption) ?_
                  rotate_left
                  · (intro w0 hSw; (try dsimp only at hSw); go_simp; try with_reducible rfl)
                  try simp only [Act.put, List.setIfInBounds_toArray, List.set_cons_zero, List.set_cons_succ]
                  refine wpAnyH_take (i := 2) (v := ?_) rfl (by kernel_rfl) (by kernel_rfl) (by kernel_rfl) (fun _ _ _ h => h) (Or.inl ⟨by rfl, ?_⟩) (by assumption) ?_
                  rotate_left
                  · (intro w0 hSw; (try dsimp only at hSw); go_simp; try with_reducible rfl)
                  try simp only [Act.put, List.setIfInBounds_toArray, List.set_cons_zero, List.set_cons_succ]
                  refine wpAnyH_take (i := 3) (v := ?_) rfl (by kernel_rfl) (by kernel_rfl) (by kernel_rfl) (fun _ _ _ h => h) (Or.inl ⟨by rfl, ?_⟩) (by assumption) ?_
                  rotate_left
                  · (intro w0 hSw; (try dsimp only at hSw); go_simp; try with_reducible rfl)
                  try simp only [Act.put, List.setIfInBounds_toArray, List.set_cons_zero, List.set_cons_succ]
                  refine wpAnyH_take (i := 4) (v := ?_) rfl (by kernel_rfl) (by kernel_rfl) (by kernel_rfl) (fun _ _ _ h => h) (Or.inl ⟨by rfl, ?_⟩) (by assumption) ?_
                  rotate_left
                  · (intro w0 hSw; (try dsimp only at hSw); go_simp; try with_reducible rfl)
                  try simp only [Act.put, List.setIfInBounds_toArray, List.set_cons_zero, List.set_cons_succ]
                  refine wpAnyH_take (i := 5) (v := ?_) rfl (by kernel_rfl) (by kernel_rfl) (by kernel_rfl) (fun _ _ _ h => h) (Or.inl ⟨by rfl, ?_⟩) (by assumption) ?_
                  rotate_left
                  · (intro w0 hSw; (try dsimp only at hSw); go_simp; try with_reducible rfl)
                  try simp only [Act.put, List.setIfInBounds_toArray, List.set_cons_zero, List.set_cons_succ]
                  refine wpAnyH_take (i := 6) (v := ?_) rfl (by kernel_rfl) (by kernel_rfl) (by kernel_rfl) (fun _ _ _ h => h) (Or.inl ⟨by rfl, ?_⟩) (by assumption) ?_
                  rotate_left
                  · (intro w0 hSw; (try dsimp only at hSw); go_simp; try with_reducible rfl)
                  try simp only [Act.put, List.setIfInBounds_toArray, List.set_cons_zero, List.set_cons_succ]
                  refine wpAnyH_ready (rs := [7]) (by kernel_rfl) (by simp) ?_
                  refine AllReadyH.cons rfl (fun K hK => ?_) AllReadyH.nil
                  go_simp
                  refine (power_any t (by omega) _).mono ?_
                  rintro e w9 ⟨rfl, rfl⟩
                  try go_simp
                  refine hK.out _ _ hHeld (fun hHeld => ?_)
                  clear hK K
                  refine wpAnyH_take (i := 8) (v := ?_) rfl (by kernel_rfl) (by kernel_rfl) (by kernel_rfl) (fun _ _ _ h => h) (Or.inl ⟨by rfl, ?_⟩) (by assumption) ?_
                  rotate_left
                  · (intro w0 hSw; (try dsimp only at hSw); go_simp; try with_reducible rfl)
                  try simp only [Act.put, List.setIfInBounds_toArray, List.set_cons_zero, List.set_cons_succ]
                  refine wpAnyH_take (i := 9) (v := ?_) rfl (by kernel_rfl) (by kernel_rfl) (by kernel_rfl) (fun _ _ _ h => h) (Or.inl ⟨by rfl, ?_⟩) (by assumption) ?_
                  rotate_left
                  · (intro w0 hSw; (try dsimp only at hSw); go_simp; try with_reducible rfl)
                  try simp only [Act.put, List.setIfInBounds_toArray, List.set_cons_zero, List.set_cons_succ]
                  refine wpAnyH_take (i := 10) (v := ?_) rfl (by kernel_rfl) (by kernel_rfl) (by kernel_rfl) (fun _ _ _ h => h) (Or.inl ⟨by rfl, ?_⟩) (by assumption) ?_
                  rotate_left
                  · (intro w0 hSw; (try dsimp only at hSw); go_simp; try with_reducible rfl)
                  try simp only [Act.put, List.setIfInBounds_toArray, List.set_cons_zero, List.set_cons_succ]
                  refine wpAnyH_ready (rs := [11]) (by kernel_rfl) (by simp) ?_
                  refine AllReadyH.cons rfl (fun K hK => ?_) AllReadyH.nil
                  go_simp
                  refine hK.out _ _ ?_ (fun hHeld => ?_)
                  · exact HCELL.out _ (((B.out.drew).alloc B.out.size _))
                  clear hK K
                  refine wpAnyH_ready (rs := [12]) (by kernel_rfl) (by simp) ?_
                  refine AllReadyH.cons rfl (fun K hK => ?_) AllReadyH.nil
                  refine step_append_wide _ rfl (.tmp 58) (.tmp 69) _ rfl w.heap.size 5 i0 _ 1 1 Tryd.underlying22 hi0 hz0 hz1 hz2 rfl (by omega) u9 (k + wd * j + q) (u8s (bs ++ encL wd (is.take j) ++ (encN wd x.toNat).take q)) rfl
                    ((World.ownsRow.drew O.out).alloc _) _ (some ⟨U.heap.size, 0, none⟩) 1 1 (u8s [c]) rfl (reads_new1 U.drew _ _ c HBY.out) (u8s_one _) (by simp only [maxLen]; omega) (by omega) (by have := B.out.size; simp; omega) ?_
                  intro v3 w3 hown3 hg3
                  have B3 := Lib.hid (below_own ((B.out.drew).alloc B.out.size _) hg3 ((World.ownsRow.drew O.out).alloc _) (Nat.le_refl _) (by have := B.out.size; simp; omega))
                  have O3 := Lib.hid hown3
                  clear hown3 hg3
                  refine hK.out _ _ ?_ (fun hHeld => ?_)
                  · exact HCELL.out _ B3.out
                  clear hK K
                  refine wpAnyH_take (i := 13) (v := ?_) rfl (by kernel_rfl) (by kernel_rfl) (by kernel_rfl) (fun _ _ _ h => h) (Or.inl ⟨by rfl, ?_⟩) (by assumption) ?_
                  rotate_left
                  · (intro w0 hSw; (try dsimp only at hSw); go_simp; try with_reducible rfl)
                  try simp only [Act.put, List.setIfInBounds_toArray, List.set_cons_zero, List.set_cons_succ]
                  refine wpAnyH_done (by kernel_rfl) ?_ _
                  clear hHeld
                  go_wp2_with fail
                  go_roundw
                  case rel => exact ⟨q + 1, t, by omega, by go_num, by rw [HT.out, ← List.append_assoc, u8s_append]; exact O3.out, B3.out⟩
                  case measure => simp [intOf]
        · obtain rfl : j = m := by omega
          go_wp2_with fail
          refine bodyPost_ret (v := .tuple #[u9, .int .i64 (-1), .int .i64 0]) (by simp [results, Tryd.results9, go_sem]) rfl ?_
          refine .inl ⟨FitTill.all (by rw [HLN.out]; exact F.out), _, rfl, ?_, B.out⟩
          have := O.out
          rwa [List.take_of_length_le (by rw [HLN.out]; exact Nat.le_refl _)] at this
end Go.Proofs.YthgckcbfchigfaaDoor
