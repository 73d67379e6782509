/- The document's Parse. -/
import Derived.Test.YtggfadiahacgeaaScrI
import Derived.Test.YtggfadiahacgeaaScrF
namespace Go.Proofs.Ytggfadiahacgeaa
open Go.RowKit
set_option linter.unusedVariables false
set_option linter.unusedSimpArgs false

theorem info_entry9 : (Try.prog.info? 31).map (fun i => (i.zero, i.size, i.bytes)) = some (some (.agg #[.int .i64 0, .int .i64 0, .int .i64 0, .int .i64 0, .int .i64 0, .int .i64 0]), 6, 48) := by kernel_rfl
theorem run_build_ent9 (a b c d e f : Int) (w : World) : (Instr.buildSlice 26 1 #[(0, .agg #[.int .i64 a, .int .i64 b, .int .i64 c, .int .i64 d, .int .i64 e, .int .i64 f])]).run Try.prog w = .ok (.slice (some ⟨w.heap.size, 0, none⟩) 1 1) (w.alloc (.cells #[.int .i64 a, .int .i64 b, .int .i64 c, .int .i64 d, .int .i64 e, .int .i64 f] 31)) := by
  obtain ⟨i, hi, hz, hsz, hb⟩ := info_parts info_entry9
  have hzz : (zeroValue 31).run Try.prog w = .ok (.agg #[.int .i64 0, .int .i64 0, .int .i64 0, .int .i64 0, .int .i64 0, .int .i64 0]) w := by simp [zeroValue, typeInfo, hi, hz]
  have hss : (sizeOf 31).run Try.prog w = .ok 6 w := by simp [sizeOf, typeInfo, hi, hsz]
  simp [Instr.buildSlice, run_underlying Try.underlying26, hss, hzz, Instr.fill, newRow, Value.cells]
  rw [show Array.range 6 = #[0, 1, 2, 3, 4, 5] from by decide]
  simp
theorem reads_ent9 (V : World) (a b c d e f : Int) : Reads (V.alloc (.cells #[.int .i64 a, .int .i64 b, .int .i64 c, .int .i64 d, .int .i64 e, .int .i64 f] 31)) (V.heap.size + 1) 6 (some ⟨V.heap.size, 0, none⟩) 1 (ints [a, b, c, d, e, f]) :=
  ⟨rfl, fun _ => ⟨_, rfl, by simp, fun j u hu => by
    have h1 := (Blk.new V 31 #[.int .i64 a, .int .i64 b, .int .i64 c, .int .i64 d, .int .i64 e, .int .i64 f]).cell j
    have h2 : (⟨V.heap.size, 0, none⟩ : Addr).add j = ⟨V.heap.size, j, none⟩ := by unfold Addr.add; split <;> simp_all
    rw [h2, h1]
    simpa [ints] using hu⟩⟩
theorem ints_one9 (l : List Int) : ∀ u ∈ ints l, u.oneCell' = true := fun v hv => by obtain ⟨c, _, rfl⟩ := List.mem_map.1 hv; rfl
theorem own_stepS9 {w w' : World} {B n size : Nat} {e : TypeId} {v : Value} {xs : List Value} (h : w.ownsRow B e size v n xs) (hb : Below w.drew.heap.size w.drew w') : w'.ownsRow B e size v n xs := own_turn (w := w.drew) h (Turn.of_below hb (S := fun _ => False)) (fun _ _ => id)
theorem ints_app (a b : List Int) : ints (a ++ b) = ints a ++ ints b := by simp [ints]
theorem entN_flat_succ (l : List UInt8) (k : Nat) : ints (entN l (k + 1)).flatten = ints (entN l k).flatten ++ ints (entAt l k) := by rw [entN_succ, List.flatten_append, ints_app]; simp

set_option maxRecDepth 100000 in
set_option maxHeartbeats 4000000 in
theorem refParse_any (A : Option Addr) (n cap : Nat) (l : List UInt8) (hn : n ≤ 20000) (w : World) (h : Reads w w.heap.size 1 A n (u8s l)) :
    Calls Try.prog 8 #[.slice A n cap] w fun e w' => ∃ v, e = .returned v ∧ w'.ownsRow w.heap.size 31 6 v (entsL l).length (ints (entsL l).flatten) ∧ Below w.heap.size w w' := by
  obtain ⟨i0, hi0, hz0, hz1, hz2⟩ := info_parts info_entry9
  have HL := Lib.hid h.u8_len
  have H := Lib.hid h
  have HN := Lib.hid hn
  clear h
  go_enter Try.func8, Try.ntmps8
  go_wp2_with fail
  go_loopw [3, 4] (fun o i W => ∃ k p : Nat, p = 5 * k ∧ p ≤ n ∧ i = .int .i64 p ∧ W.ownsRow w.heap.size 31 6 o k (ints (entN l k).flatten) ∧ Below w.heap.size w W) (fun _ i _ => n - (intOf i).toNat)
  case atStart => exact ⟨0, 0, rfl, Nat.zero_le _, rfl, World.ownsRow_nil _ _ _ _, Below.refl _ _⟩
  case round =>
    obtain ⟨k, p, hp, hpn, rfl, ho, hb⟩ := hrel
    rename World => W
    have HP := Lib.hid hp
    have O := Lib.hid ho
    have B := Lib.hid hb
    clear hp ho hb
    have w5 : IntKind.i64.wrap ((p : Int) + 5) = ((p + 5 : Nat) : Int) := by rw [IntWalk.i64_in _ (by omega)]; omega
    have w5' : IntKind.i64.wrap ((p : Int) + 5) = (p : Int) + 5 := IntWalk.i64_in _ (by omega)
    by_cases hlt : p + 5 ≤ n
    · obtain ⟨b, off, rfl, hbb, hcell⟩ := u8_cells H.out (by omega)
      have HE := Lib.hid (show entAt l k = oneE (byt l p) (byt l (p + 1)) (byt l (p + 2)) (byt l (p + 3)) (byt l (p + 4)) from by rw [HP.out]; exact entAt_one (by have := HL.out; have := HP.out; omega))
      have KP := Lib.hid (fun Y (hy : Below w.heap.size w Y) => (show Y.cell? ⟨b, off + p, none⟩ = some (.int .u8 (byt l p)) ∧ Y.cell? ⟨b, off + (p + 1), none⟩ = some (.int .u8 (byt l (p + 1))) ∧ Y.cell? ⟨b, off + (p + 2), none⟩ = some (.int .u8 (byt l (p + 2))) ∧ Y.cell? ⟨b, off + (p + 3), none⟩ = some (.int .u8 (byt l (p + 3))) ∧ Y.cell? ⟨b, off + (p + 4), none⟩ = some (.int .u8 (byt l (p + 4))) from
        ⟨(hy.cell (p := ⟨b, off + p, none⟩) hbb).trans (hcell p (by omega)), (hy.cell (p := ⟨b, off + (p + 1), none⟩) hbb).trans (hcell (p + 1) (by omega)), (hy.cell (p := ⟨b, off + (p + 2), none⟩) hbb).trans (hcell (p + 2) (by omega)), (hy.cell (p := ⟨b, off + (p + 3), none⟩) hbb).trans (hcell (p + 3) (by omega)), (hy.cell (p := ⟨b, off + (p + 4), none⟩) hbb).trans (hcell (p + 4) (by omega))⟩))
      have b0 := byt_bound l p
      have b1 := byt_bound l (p + 1)
      have b2 := byt_bound l (p + 2)
      have b3 := byt_bound l (p + 3)
      have b4 := byt_bound l (p + 4)
      generalize byt l p = c0 at HE KP b0
      generalize byt l (p + 1) = c1 at HE KP b1
      generalize byt l (p + 2) = c2 at HE KP b2
      generalize byt l (p + 3) = c3 at HE KP b3
      generalize byt l (p + 4) = c4 at HE KP b4
      have HC := Lib.hid (And.intro b1 (And.intro b2 (And.intro b3 b4)))
      have q0 : IntKind.i64.wrap c0 = c0 := IntWalk.i64_in _ (by omega)
      have q1 : IntKind.i64.wrap c1 = c1 := IntWalk.i64_in _ (by omega)
      have q2 : IntKind.i64.wrap c2 = c2 := IntWalk.i64_in _ (by omega)
      have q3 : IntKind.i64.wrap c3 = c3 := IntWalk.i64_in _ (by omega)
      have q4 : IntKind.i64.wrap c4 = c4 := IntWalk.i64_in _ (by omega)
      obtain ⟨e0, e1, e2, e3, e4, e5, hee⟩ := six_ints (entAt_length l k)
      have HEE := Lib.hid hee
      have HO := Lib.hid (HE.out.symm.trans hee)
      clear hcell hbb b0 b1 b2 b3 b4 hee
      have i1 : (p : Int) < (n : Int) := by omega
      have i2 : p < n := by omega
      have i3 : p + 1 < n := by omega
      have i4 : p + 2 < n := by omega
      have i5 : p + 3 < n := by omega
      have i6 : p + 4 < n := by omega
      have w1 : IntKind.i64.wrap ((p : Int) + 1) = ((p + 1 : Nat) : Int) := by rw [IntWalk.i64_in _ (by omega)]; omega
      have w2 : IntKind.i64.wrap ((p : Int) + 2) = ((p + 2 : Nat) : Int) := by rw [IntWalk.i64_in _ (by omega)]; omega
      have w3 : IntKind.i64.wrap ((p : Int) + 3) = ((p + 3 : Nat) : Int) := by rw [IntWalk.i64_in _ (by omega)]; omega
      have w4 : IntKind.i64.wrap ((p : Int) + 4) = ((p + 4 : Nat) : Int) := by rw [IntWalk.i64_in _ (by omega)]; omega
      have t1 : ((p : Int) + 1).toNat = p + 1 := by omega
      have t2 : ((p : Int) + 2).toNat = p + 2 := by omega
      have t3 : ((p : Int) + 3).toNat = p + 3 := by omega
      have t4 : ((p : Int) + 4).toNat = p + 4 := by omega
      have j1 : (0 : Int) ≤ (p : Int) + 1 := by omega
      have k1 : (p : Int) + 1 < (n : Int) := by omega
      have j2 : (0 : Int) ≤ (p : Int) + 2 := by omega
      have k2 : (p : Int) + 2 < (n : Int) := by omega
      have j3 : (0 : Int) ≤ (p : Int) + 3 := by omega
      have k3 : (p : Int) + 3 < (n : Int) := by omega
      have j4 : (0 : Int) ≤ (p : Int) + 4 := by omega
      have k4 : (p : Int) + 4 < (n : Int) := by omega
      have d1 : decide (p + 5 ≤ n) = true := decide_eq_true hlt
      have d2 : decide ((p : Int) + 5 ≤ (n : Int)) = true := decide_eq_true (by omega)
      go_upto_region 4 with fail
      refine wp_region_held_drew (S := fun w' => w'.cell? ⟨b, off + p, none⟩ = some (.int .u8 c0) ∧ w'.cell? ⟨b, off + (p + 1), none⟩ = some (.int .u8 c1) ∧ w'.cell? ⟨b, off + (p + 2), none⟩ = some (.int .u8 c2) ∧ w'.cell? ⟨b, off + (p + 3), none⟩ = some (.int .u8 c3) ∧ w'.cell? ⟨b, off + (p + 4), none⟩ = some (.int .u8 c4)) (by kernel_rfl) ?_ (fun hHeld => ?_)
      · exact KP.out _ B.out.drew
      refine wpAnyH_take (i := 0) (v := ?_) rfl (by kernel_rfl) (by kernel_rfl) (by kernel_rfl) (fun _ _ _ h => h) (Or.inl ⟨by rfl, ?_⟩) (by assumption) ?_
      rotate_left
      · (intro w0 hSw; (try dsimp only at hSw); go_simp; try with_reducible rfl)
      try simp only [List.getElem_toArray, List.getElem_cons_succ, List.getElem_cons_zero, Act.put, List.setIfInBounds_toArray, List.set_cons_zero, List.set_cons_succ]
      refine wpAnyH_take (i := 1) (v := ?_) rfl (by kernel_rfl) (by kernel_rfl) (by kernel_rfl) (fun _ _ _ h => h) (Or.inl ⟨by rfl, ?_⟩) (by assumption) ?_
      rotate_left
      · (intro w0 hSw; (try dsimp only at hSw); go_simp; try with_reducible rfl)
      try simp only [List.getElem_toArray, List.getElem_cons_succ, List.getElem_cons_zero, Act.put, List.setIfInBounds_toArray, List.set_cons_zero, List.set_cons_succ]
      refine wpAnyH_take (i := 2) (v := ?_) rfl (by kernel_rfl) (by kernel_rfl) (by kernel_rfl) (fun _ _ _ h => h) (Or.inl ⟨by rfl, ?_⟩) (by assumption) ?_
      rotate_left
      · (intro w0 hSw; (try dsimp only at hSw); go_simp; try with_reducible rfl)
      try simp only [List.getElem_toArray, List.getElem_cons_succ, List.getElem_cons_zero, Act.put, List.setIfInBounds_toArray, List.set_cons_zero, List.set_cons_succ]
      refine wpAnyH_take (i := 3) (v := ?_) rfl (by kernel_rfl) (by kernel_rfl) (by kernel_rfl) (fun _ _ _ h => h) (Or.inl ⟨by rfl, ?_⟩) (by assumption) ?_
      rotate_left
      · (intro w0 hSw; (try dsimp only at hSw); go_simp; try with_reducible rfl)
      try simp only [List.getElem_toArray, List.getElem_cons_succ, List.getElem_cons_zero, Act.put, List.setIfInBounds_toArray, List.set_cons_zero, List.set_cons_succ]
      refine wpAnyH_take (i := 4) (v := ?_) rfl (by kernel_rfl) (by kernel_rfl) (by kernel_rfl) (fun _ _ _ h => h) (Or.inl ⟨by rfl, ?_⟩) (by assumption) ?_
      rotate_left
      · (intro w0 hSw; (try dsimp only at hSw); go_simp; try with_reducible rfl)
      try simp only [List.getElem_toArray, List.getElem_cons_succ, List.getElem_cons_zero, Act.put, List.setIfInBounds_toArray, List.set_cons_zero, List.set_cons_succ]
      refine wpAnyH_take (i := 5) (v := ?_) rfl (by kernel_rfl) (by kernel_rfl) (by kernel_rfl) (fun _ _ _ h => h) (Or.inl ⟨by rfl, ?_⟩) (by assumption) ?_
      rotate_left
      · (intro w0 hSw; (try dsimp only at hSw); go_simp; try with_reducible rfl)
      try simp only [List.getElem_toArray, List.getElem_cons_succ, List.getElem_cons_zero, Act.put, List.setIfInBounds_toArray, List.set_cons_zero, List.set_cons_succ]
      refine wpAnyH_take (i := 6) (v := ?_) rfl (by kernel_rfl) (by kernel_rfl) (by kernel_rfl) (fun _ _ _ h => h) (Or.inl ⟨by rfl, ?_⟩) (by assumption) ?_
      rotate_left
      · (intro w0 hSw; (try dsimp only at hSw); go_simp; try with_reducible rfl)
      try simp only [List.getElem_toArray, List.getElem_cons_succ, List.getElem_cons_zero, Act.put, List.setIfInBounds_toArray, List.set_cons_zero, List.set_cons_succ]
      refine wpAnyH_take (i := 7) (v := ?_) rfl (by kernel_rfl) (by kernel_rfl) (by kernel_rfl) (fun _ _ _ h => h) (Or.inl ⟨by rfl, ?_⟩) (by assumption) ?_
      rotate_left
      · (intro w0 hSw; (try dsimp only at hSw); go_simp; try with_reducible rfl)
      try simp only [List.getElem_toArray, List.getElem_cons_succ, List.getElem_cons_zero, Act.put, List.setIfInBounds_toArray, List.set_cons_zero, List.set_cons_succ]
      refine wpAnyH_take (i := 8) (v := ?_) rfl (by kernel_rfl) (by kernel_rfl) (by kernel_rfl) (fun _ _ _ h => h) (Or.inl ⟨by rfl, ?_⟩) (by assumption) ?_
      rotate_left
      · (intro w0 hSw; (try dsimp only at hSw); go_simp; try with_reducible rfl)
      try simp only [List.getElem_toArray, List.getElem_cons_succ, List.getElem_cons_zero, Act.put, List.setIfInBounds_toArray, List.set_cons_zero, List.set_cons_succ]
      refine wpAnyH_take (i := 9) (v := ?_) rfl (by kernel_rfl) (by kernel_rfl) (by kernel_rfl) (fun _ _ _ h => h) (Or.inl ⟨by rfl, ?_⟩) (by assumption) ?_
      rotate_left
      · (intro w0 hSw; (try dsimp only at hSw); go_simp; try with_reducible rfl)
      try simp only [List.getElem_toArray, List.getElem_cons_succ, List.getElem_cons_zero, Act.put, List.setIfInBounds_toArray, List.set_cons_zero, List.set_cons_succ]
      refine wpAnyH_take (i := 10) (v := ?_) rfl (by kernel_rfl) (by kernel_rfl) (by kernel_rfl) (fun _ _ _ h => h) (Or.inl ⟨by rfl, ?_⟩) (by assumption) ?_
      rotate_left
      · (intro w0 hSw; (try dsimp only at hSw); go_simp; try with_reducible rfl)
      try simp only [List.getElem_toArray, List.getElem_cons_succ, List.getElem_cons_zero, Act.put, List.setIfInBounds_toArray, List.set_cons_zero, List.set_cons_succ]
      refine wpAnyH_take (i := 11) (v := ?_) rfl (by kernel_rfl) (by kernel_rfl) (by kernel_rfl) (fun _ _ _ h => h) (Or.inl ⟨by rfl, ?_⟩) (by assumption) ?_
      rotate_left
      · (intro w0 hSw; (try dsimp only at hSw); go_simp; try with_reducible rfl)
      try simp only [List.getElem_toArray, List.getElem_cons_succ, List.getElem_cons_zero, Act.put, List.setIfInBounds_toArray, List.set_cons_zero, List.set_cons_succ]
      refine wpAnyH_take (i := 12) (v := ?_) rfl (by kernel_rfl) (by kernel_rfl) (by kernel_rfl) (fun _ _ _ h => h) (Or.inl ⟨by rfl, ?_⟩) (by assumption) ?_
      rotate_left
      · (intro w0 hSw; (try dsimp only at hSw); go_simp; try with_reducible rfl)
      try simp only [List.getElem_toArray, List.getElem_cons_succ, List.getElem_cons_zero, Act.put, List.setIfInBounds_toArray, List.set_cons_zero, List.set_cons_succ]
      refine wpAnyH_take (i := 13) (v := ?_) rfl (by kernel_rfl) (by kernel_rfl) (by kernel_rfl) (fun _ _ _ h => h) (Or.inl ⟨by rfl, ?_⟩) (by assumption) ?_
      rotate_left
      · (intro w0 hSw; (try dsimp only at hSw); go_simp; try with_reducible rfl)
      try simp only [List.getElem_toArray, List.getElem_cons_succ, List.getElem_cons_zero, Act.put, List.setIfInBounds_toArray, List.set_cons_zero, List.set_cons_succ]
      refine wpAnyH_take (i := 14) (v := ?_) rfl (by kernel_rfl) (by kernel_rfl) (by kernel_rfl) (fun _ _ _ h => h) (Or.inl ⟨by rfl, ?_⟩) (by assumption) ?_
      rotate_left
      · (intro w0 hSw; (try dsimp only at hSw); go_simp; try with_reducible rfl)
      try simp only [List.getElem_toArray, List.getElem_cons_succ, List.getElem_cons_zero, Act.put, List.setIfInBounds_toArray, List.set_cons_zero, List.set_cons_succ]
      refine wpAnyH_take (i := 15) (v := ?_) rfl (by kernel_rfl) (by kernel_rfl) (by kernel_rfl) (fun _ _ _ h => h) (Or.inl ⟨by rfl, ?_⟩) (by assumption) ?_
      rotate_left
      · (intro w0 hSw; (try dsimp only at hSw); go_simp; try with_reducible rfl)
      try simp only [List.getElem_toArray, List.getElem_cons_succ, List.getElem_cons_zero, Act.put, List.setIfInBounds_toArray, List.set_cons_zero, List.set_cons_succ]
      refine wpAnyH_take (i := 16) (v := ?_) rfl (by kernel_rfl) (by kernel_rfl) (by kernel_rfl) (fun _ _ _ h => h) (Or.inl ⟨by rfl, ?_⟩) (by assumption) ?_
      rotate_left
      · (intro w0 hSw; (try dsimp only at hSw); go_simp; try with_reducible rfl)
      try simp only [List.getElem_toArray, List.getElem_cons_succ, List.getElem_cons_zero, Act.put, List.setIfInBounds_toArray, List.set_cons_zero, List.set_cons_succ]
      refine wpAnyH_take (i := 17) (v := ?_) rfl (by kernel_rfl) (by kernel_rfl) (by kernel_rfl) (fun _ _ _ h => h) (Or.inl ⟨by rfl, ?_⟩) (by assumption) ?_
      rotate_left
      · (intro w0 hSw; (try dsimp only at hSw); go_simp; try with_reducible rfl)
      try simp only [List.getElem_toArray, List.getElem_cons_succ, List.getElem_cons_zero, Act.put, List.setIfInBounds_toArray, List.set_cons_zero, List.set_cons_succ]
      refine wpAnyH_take (i := 18) (v := ?_) rfl (by kernel_rfl) (by kernel_rfl) (by kernel_rfl) (fun _ _ _ h => h) (Or.inl ⟨by rfl, ?_⟩) (by assumption) ?_
      rotate_left
      · (intro w0 hSw; (try dsimp only at hSw); go_simp; try with_reducible rfl)
      try simp only [List.getElem_toArray, List.getElem_cons_succ, List.getElem_cons_zero, Act.put, List.setIfInBounds_toArray, List.set_cons_zero, List.set_cons_succ]
      refine wpAnyH_take (i := 19) (v := ?_) rfl (by kernel_rfl) (by kernel_rfl) (by kernel_rfl) (fun _ _ _ h => h) (Or.inl ⟨by rfl, ?_⟩) (by assumption) ?_
      rotate_left
      · (intro w0 hSw; (try dsimp only at hSw); go_simp; try with_reducible rfl)
      try simp only [List.getElem_toArray, List.getElem_cons_succ, List.getElem_cons_zero, Act.put, List.setIfInBounds_toArray, List.set_cons_zero, List.set_cons_succ]
      refine wpAnyH_take (i := 20) (v := ?_) rfl (by kernel_rfl) (by kernel_rfl) (by kernel_rfl) (fun _ _ _ h => h) (Or.inl ⟨by rfl, ?_⟩) (by assumption) ?_
      rotate_left
      · (intro w0 hSw; (try dsimp only at hSw); go_simp; try with_reducible rfl)
      try simp only [List.getElem_toArray, List.getElem_cons_succ, List.getElem_cons_zero, Act.put, List.setIfInBounds_toArray, List.set_cons_zero, List.set_cons_succ]
      refine wpAnyH_take (i := 21) (v := ?_) rfl (by kernel_rfl) (by kernel_rfl) (by kernel_rfl) (fun _ _ _ h => h) (Or.inl ⟨by rfl, ?_⟩) (by assumption) ?_
      rotate_left
      · (intro w0 hSw; (try dsimp only at hSw); go_simp; try with_reducible rfl)
      try simp only [List.getElem_toArray, List.getElem_cons_succ, List.getElem_cons_zero, Act.put, List.setIfInBounds_toArray, List.set_cons_zero, List.set_cons_succ]
      refine wpAnyH_take (i := 22) (v := ?_) rfl (by kernel_rfl) (by kernel_rfl) (by kernel_rfl) (fun _ _ _ h => h) (Or.inl ⟨by rfl, ?_⟩) (by assumption) ?_
      rotate_left
      · (intro w0 hSw; (try dsimp only at hSw); go_simp; try with_reducible rfl)
      try simp only [List.getElem_toArray, List.getElem_cons_succ, List.getElem_cons_zero, Act.put, List.setIfInBounds_toArray, List.set_cons_zero, List.set_cons_succ]
      refine wpAnyH_take (i := 23) (v := ?_) rfl (by kernel_rfl) (by kernel_rfl) (by kernel_rfl) (fun _ _ _ h => h) (Or.inl ⟨by rfl, ?_⟩) (by assumption) ?_
      rotate_left
      · (intro w0 hSw; (try dsimp only at hSw); go_simp; try with_reducible rfl)
      try simp only [List.getElem_toArray, List.getElem_cons_succ, List.getElem_cons_zero, Act.put, List.setIfInBounds_toArray, List.set_cons_zero, List.set_cons_succ]
      refine wpAnyH_take (i := 24) (v := ?_) rfl (by kernel_rfl) (by kernel_rfl) (by kernel_rfl) (fun _ _ _ h => h) (Or.inl ⟨by rfl, ?_⟩) (by assumption) ?_
      rotate_left
      · (intro w0 hSw; (try dsimp only at hSw); go_simp; try with_reducible rfl)
      try simp only [List.getElem_toArray, List.getElem_cons_succ, List.getElem_cons_zero, Act.put, List.setIfInBounds_toArray, List.set_cons_zero, List.set_cons_succ]
      refine wpAnyH_take (i := 25) (v := ?_) rfl (by kernel_rfl) (by kernel_rfl) (by kernel_rfl) (fun _ _ _ h => h) (Or.inl ⟨by rfl, ?_⟩) (by assumption) ?_
      rotate_left
      · (intro w0 hSw; (try dsimp only at hSw); go_simp; try with_reducible rfl)
      try simp only [List.getElem_toArray, List.getElem_cons_succ, List.getElem_cons_zero, Act.put, List.setIfInBounds_toArray, List.set_cons_zero, List.set_cons_succ]
      refine wpAnyH_take (i := 26) (v := ?_) rfl (by kernel_rfl) (by kernel_rfl) (by kernel_rfl) (fun _ _ _ h => h) (Or.inl ⟨by rfl, ?_⟩) (by assumption) ?_
      rotate_left
      · (intro w0 hSw; (try dsimp only at hSw); go_simp; try with_reducible rfl)
      try simp only [List.getElem_toArray, List.getElem_cons_succ, List.getElem_cons_zero, Act.put, List.setIfInBounds_toArray, List.set_cons_zero, List.set_cons_succ]
      refine wpAnyH_take (i := 27) (v := ?_) rfl (by kernel_rfl) (by kernel_rfl) (by kernel_rfl) (fun _ _ _ h => h) (Or.inl ⟨by rfl, ?_⟩) (by assumption) ?_
      rotate_left
      · (intro w0 hSw; (try dsimp only at hSw); go_simp; try with_reducible rfl)
      try simp only [List.getElem_toArray, List.getElem_cons_succ, List.getElem_cons_zero, Act.put, List.setIfInBounds_toArray, List.set_cons_zero, List.set_cons_succ]
      refine wpAnyH_take (i := 28) (v := ?_) rfl (by kernel_rfl) (by kernel_rfl) (by kernel_rfl) (fun _ _ _ h => h) (Or.inl ⟨by rfl, ?_⟩) (by assumption) ?_
      rotate_left
      · (intro w0 hSw; (try dsimp only at hSw); go_simp; try with_reducible rfl)
      try simp only [List.getElem_toArray, List.getElem_cons_succ, List.getElem_cons_zero, Act.put, List.setIfInBounds_toArray, List.set_cons_zero, List.set_cons_succ]
      refine wpAnyH_take (i := 29) (v := ?_) rfl (by kernel_rfl) (by kernel_rfl) (by kernel_rfl) (fun _ _ _ h => h) (Or.inl ⟨by rfl, ?_⟩) (by assumption) ?_
      rotate_left
      · (intro w0 hSw; (try dsimp only at hSw); go_simp; try with_reducible rfl)
      try simp only [List.getElem_toArray, List.getElem_cons_succ, List.getElem_cons_zero, Act.put, List.setIfInBounds_toArray, List.set_cons_zero, List.set_cons_succ]
      refine wpAnyH_ready (rs := [30]) (by kernel_rfl) (by simp) ?_
      refine AllReadyH.cons rfl (fun K hK => ?_) AllReadyH.nil
      go_simp
      refine (oneR_any c0 c1 c2 c3 c4 HC.out.1 HC.out.2.1 HC.out.2.2.1 HC.out.2.2.2 _).mono ?_
      rintro x9 w9 ⟨rfl, hb9⟩
      rw [HO.out]
      have B9 := Lib.hid (B.out.drew.trans (hb9.mono B.out.drew.size))
      have O9 := Lib.hid (own_stepS9 O.out hb9)
      clear hb9
      try go_simp
      refine hK.out _ _ (KP.out _ B9.out) (fun hHeld => ?_)
      clear hK K
      have hbs := run_build_ent9 e0 e1 e2 e3 e4 e5 w9
      refine wpAnyH_ready (rs := [31]) (by kernel_rfl) (by simp) ?_
      refine AllReadyH.cons rfl (fun K hK => ?_) AllReadyH.nil
      go_simp
      refine hK.out _ _ (KP.out _ (B9.out.alloc B9.out.size _)) (fun hHeld => ?_)
      clear hK K
      refine wpAnyH_ready (rs := [32]) (by kernel_rfl) (by simp) ?_
      refine AllReadyH.cons rfl (fun K hK => ?_) AllReadyH.nil
      refine step_append_any _ rfl (.tmp 10) (.tmp 41) _ rfl w.heap.size 31 i0 _ 6 48 Try.underlying26 hi0 hz0 hz1 hz2 rfl (by omega) u3 k _ rfl (World.ownsRow.alloc O9.out _) _ _ 1 1 _ rfl (reads_ent9 w9 e0 e1 e2 e3 e4 e5) (ints_one9 _) (by have := HN.out; have := HP.out; simp only [maxLen]; omega) (by have := HN.out; have := HP.out; omega) (by have := B9.out.size; simp; omega) ?_
      intro v3 w3 hown3 hg3 hv3
      have B3 := Lib.hid (below_own (B9.out.alloc B9.out.size _) hg3 (World.ownsRow.alloc O9.out _) (Nat.le_refl _) (by have := B9.out.size; simp; omega))
      have O3 := Lib.hid hown3
      clear hown3 hg3 hv3
      refine hK.out _ _ (KP.out _ B3.out) (fun hHeld => ?_)
      clear hK K
      refine wpAnyH_take (i := 33) (v := ?_) rfl (by kernel_rfl) (by kernel_rfl) (by kernel_rfl) (fun _ _ _ h => h) (Or.inl ⟨by rfl, ?_⟩) (by assumption) ?_
      rotate_left
      · (intro w0 hSw; (try dsimp only at hSw); go_simp; try with_reducible rfl)
      try simp only [List.getElem_toArray, List.getElem_cons_succ, List.getElem_cons_zero, Act.put, List.setIfInBounds_toArray, List.set_cons_zero, List.set_cons_succ]
      refine wpAnyH_done (by kernel_rfl) ?_ _
      clear hHeld
      go_wp2_with fail
      go_roundw
      case rel => exact ⟨k + 1, p + 5, by have := HP.out; omega, hlt, by first | rfl | (congr 1; omega), by rw [entN_flat_succ, HEE.out]; exact O3.out, B3.out⟩
      case measure => simp [intOf]; omega
    · by_cases hp0 : p < n
      · have d1 : decide (p + 5 ≤ n) = false := decide_eq_false hlt
        have d2 : decide ((p : Int) + 5 ≤ (n : Int)) = false := decide_eq_false (by omega)
        have d3 : decide (p < n) = true := decide_eq_true hp0
        have d4 : decide ((p : Int) < (n : Int)) = true := decide_eq_true (by omega)
        have hbs := run_build_ent9 0 0 0 0 0 0 W
        go_wp2_with (at_builtin
                     refine wpList_append_any _ rfl (.tmp 49) (.tmp 51) _ rfl w.heap.size 31 i0 _ 6 48 Try.underlying26 hi0 hz0 hz1 hz2 rfl (by omega) _ k _ rfl (World.ownsRow.alloc O.out _) _ _ 1 1 _ rfl (reads_ent9 W 0 0 0 0 0 0) (ints_one9 _) (by have := HN.out; have := HP.out; simp only [maxLen]; omega) (by have := HN.out; have := HP.out; omega) (by have := B.out.size; simp; omega) ?_
                     intro v3 w3 hown3 hg3 hv3
                     have B3 := Lib.hid (below_own (B.out.alloc B.out.size _) hg3 (World.ownsRow.alloc O.out _) (Nat.le_refl _) (by have := B.out.size; simp; omega))
                     have O3 := Lib.hid hown3
                     clear hown3 hg3 hv3)
        go_ret
        refine ⟨_, rfl, ?_, B3.out⟩
        have hk1 : entsL l = entN l (k + 1) := by unfold entsL; congr 1; have := HL.out; have := HP.out; omega
        rw [hk1, entN_length, entN_flat_succ, entAt_end (by have := HL.out; have := HP.out; omega)]
        exact O3.out
      · have d1 : decide (p + 5 ≤ n) = false := decide_eq_false hlt
        have d2 : decide ((p : Int) + 5 ≤ (n : Int)) = false := decide_eq_false (by omega)
        have d3 : decide (p < n) = false := decide_eq_false hp0
        have d4 : decide ((p : Int) < (n : Int)) = false := decide_eq_false (by omega)
        go_wp2_with fail
        go_ret
        refine ⟨_, rfl, ?_, B.out⟩
        have hk1 : entsL l = entN l k := by unfold entsL; congr 1; have := HL.out; have := HP.out; omega
        rw [hk1, entN_length]
        exact O.out
end Go.Proofs.Ytggfadiahacgeaa
