/- The numbers at edges; the same edges turned about. -/
import Derived.Test.YtiapnaecdefonaaGraS
import Derived.Test.YtiapnaecdefonaaEdgA
namespace Go.Proofs.Ytiapnaecdefonaa
open Go.RowKit
set_option linter.unusedVariables false
set_option linter.unusedSimpArgs false

section
variable {w w' : World} {B B' n : Nat} {A : Option Addr} {ls : List (List Int)}
set_option maxRecDepth 100000 in
set_option maxHeartbeats 4000000 in
theorem numbers_any {c : Nat} (w : World) (h : EdgM w w.heap.size A n ls) (hn : n ≤ 1000) :
    Calls Try.prog 33 #[.slice A n c] w fun e w' => ∃ v, e = .returned v ∧ w'.ownsRow w.heap.size 3 1 v (nds (eds ls)).length (i64s (nds (eds ls))) ∧ Below w.heap.size w w' := by
  obtain ⟨i0, hi0, hz0, hz1, hz2⟩ := info_parts info_int
  have HH := Lib.hid h
  have HI := Lib.hid info_edge4
  clear h
  go_enter Try.func33, Try.ntmps33
  go_wp2_with fail
  go_loopw [3, 8] (fun s3 s8 wr => ∃ (k : Nat), s8 = .int .i64 k ∧ k ≤ n ∧ wr.ownsRow w.heap.size 3 1 s3 (2 * k) (i64s (ndsL (eds (ls.take k)))) ∧ Below w.heap.size w wr) (fun _ s8 _ => n - (RowKit.intOf s8).toNat)
  case atStart => exact ⟨0, rfl, Nat.zero_le _, World.ownsRow_nil _ _ _ _, Below.refl _ _⟩
  case round =>
    obtain ⟨k, rfl, hk, hrow, hb⟩ := hrel
    rename World => W
    have HR := Lib.hid hrow
    have HB := Lib.hid hb
    clear hrow hb
    by_cases hlt : k < n
    · obtain ⟨b, off, a, s, t, u, rfl, hbl, ⟨hl, e⟩, hc, wa, wt⟩ := (HH.out.below HB.out).at_ hlt
      have HE := Lib.hid (eds_take ls hl e)
      have HC := Lib.hid hc
      clear hc wa wt e
      have HS := Lib.hid HB.out.size
      go_wp2_with (first
        | (refine wpList_load_cells rfl 41 (.tmp 10) rfl ⟨b, off + k * 4, none⟩ rfl [.int .i64 a, .int .i64 s, .int .i64 t, .int .i64 u] _ HC.out Try.underlying41 rfl HI.out ?_)
        | (at_builtin
           refine wpList_app_new _ rfl (.tmp 12) (.tmp 17) _ rfl Try.underlying25 w.heap.size _ (2 * k) (ndsL (eds (ls.take k))) rfl ((HR.out.alloc _).alloc _) [a, t] 2 2 _ _ rfl _ rfl (by simp) rfl (by omega) (by have := HS.out; simp; omega) ?_
           intro v9 w9 hown9 hg9 hv9
           have O9 := Lib.hid hown9
           have G9 := Lib.hid hg9
           clear hown9 hg9 hv9))
      go_roundw
      case rel =>
        refine ⟨k + 1, by go_num, by omega, ?_, below_own ((HB.out.alloc HS.out _).alloc (by simp; have := HS.out; omega) _) G9.out ((HR.out.alloc _).alloc _) (Nat.le_refl _) (by have := HS.out; simp; omega)⟩
        rw [HE.out, ndsL_snoc, show 2 * (k + 1) = 2 * k + 2 by omega]
        exact O9.out
      case measure => simp [RowKit.intOf]; omega
    · obtain rfl : k = n := by omega
      rw [List.take_of_length_le (by have := HH.out.count; omega)] at HR
      go_wp2_with fail
      refine (sort_own _ HR.out (by omega)).mono ?_
      rintro e w1 ⟨rfl, h1, ht1⟩
      have H1 := Lib.hid h1
      have T1 := Lib.hid ht1
      clear h1 ht1
      go_wp2_with fail
      refine (compact_own _ H1.out (srt_sorted _) (by omega)).mono ?_
      rintro e w2 ⟨v2, rfl, h2, ht2, hv2⟩
      have H2 := Lib.hid h2
      have T2 := Lib.hid ht2
      clear h2 ht2 hv2
      go_wp2_with fail
      go_ret
      have hown := fun g hg => ownBlock_ge HR.out g hg
      exact ⟨_, rfl, H2.out, (HB.out.trans (T1.out.below (fun g hg hs => by have := hown g hs; omega) HB.out.size)).trans ((T2.out.below (fun g hg hs => by have := hown g hs; omega) (Nat.le_trans HB.out.size T1.out.size)))⟩
set_option maxRecDepth 100000 in
set_option maxHeartbeats 4000000 in
theorem turned_any {c : Nat} (w : World) (h : EdgM w w.heap.size A n ls) (hn : n ≤ 1000) :
    Calls Try.prog 39 #[.slice A n c] w fun e w' => ∃ A' c', e = .returned (.slice A' n c') ∧ EdgM w' w'.heap.size A' n (trn ls) ∧ Below w.heap.size w w' := by
  obtain ⟨i0, hi0, hz0, hz1, hz2⟩ := info_parts info_edge
  have HH := Lib.hid h
  have HI := Lib.hid info_edge4
  clear h
  go_enter Try.func39, Try.ntmps39
  go_wp2_with fail
  go_loopw [3, 8] (fun s3 s8 wr => ∃ (k : Nat), s8 = .int .i64 k ∧ k ≤ n ∧ wr.ownsRow w.heap.size 41 4 s3 k (ints (trn (ls.take k)).flatten) ∧ Below w.heap.size w wr) (fun _ s8 _ => n - (RowKit.intOf s8).toNat)
  case atStart => exact ⟨0, rfl, Nat.zero_le _, World.ownsRow_nil _ _ _ _, Below.refl _ _⟩
  case round =>
    obtain ⟨k, rfl, hk, hrow, hb⟩ := hrel
    rename World => W
    have HR := Lib.hid hrow
    have HB := Lib.hid hb
    clear hrow hb
    by_cases hlt : k < n
    · obtain ⟨b, off, a, s, t, u, rfl, hbl, ⟨hl, e⟩, hc, wa, wt⟩ := (HH.out.below HB.out).at_ hlt
      have HE := Lib.hid (trn_take ls hl e)
      have HC := Lib.hid hc
      have HS := Lib.hid HB.out.size
      have O1 := Lib.hid (show ∀ v ∈ ints [t, 0, a, 0], v.oneCell' = true from fun v hv => by obtain ⟨c, _, rfl⟩ := List.mem_map.1 hv; rfl)
      clear hc wa wt e
      go_wp2_with (first
        | (refine wpList_load_cells rfl 41 (.tmp 10) rfl ⟨b, off + k * 4, none⟩ rfl [.int .i64 a, .int .i64 s, .int .i64 t, .int .i64 u] _ HC.out Try.underlying41 rfl HI.out ?_)
        | (at_builtin
           have RN := reads_newStruct (W.alloc (.cells #[.int .i64 a, .int .i64 s, .int .i64 t, .int .i64 u] 41)) 41 [t, 0, a, 0] (size := 4) rfl
           rw [show (W.alloc (.cells #[.int .i64 a, .int .i64 s, .int .i64 t, .int .i64 u] 41)).heap.size = W.heap.size + 1 by simp] at RN
           have RN2 := Lib.hid RN
           clear RN
           refine wpList_append_any _ rfl (.tmp 12) (.tmp 18) _ rfl w.heap.size 41 i0 _ 4 32 Try.underlying22 hi0 hz0 hz1 hz2 rfl (by omega) _ k _ rfl ((HR.out.alloc _).alloc _) _ _ 1 1 (ints [t, 0, a, 0]) rfl RN2.out O1.out (by simp only [maxLen]; omega) (by omega) (by have := HS.out; simp; omega) ?_
           intro v9 w9 hown9 hg9 hv9
           have O9 := Lib.hid hown9
           have G9 := Lib.hid hg9
           clear hown9 hg9 hv9))
      go_roundw
      case rel =>
        refine ⟨k + 1, by go_num, by omega, ?_, below_own ((HB.out.alloc HS.out _).alloc (by simp; have := HS.out; omega) _) G9.out ((HR.out.alloc _).alloc _) (Nat.le_refl _) (by have := HS.out; simp; omega)⟩
        rw [HE.out, List.flatten_append, show ints ((trn (ls.take k)).flatten ++ [[t, 0, a, 0]].flatten) = ints (trn (ls.take k)).flatten ++ ints [t, 0, a, 0] by simp [ints]]
        exact O9.out
      case measure => simp [RowKit.intOf]; omega
    · obtain rfl : k = n := by omega
      rw [List.take_of_length_le (by have := HH.out.count; omega)] at HR
      go_wp2_with fail
      go_ret
      obtain ⟨A', c', e, hr, _, _⟩ := own_slice HR.out
      refine ⟨A', c', congrArg Ending.returned e, ⟨hr, ?_, by simp [trn, HH.out.count], ?_⟩, HB.out⟩
      · intro l hl
        obtain ⟨l0, _, rfl⟩ := List.mem_map.1 hl
        rfl
      · intro l hl y hy
        obtain ⟨l0, hl0, rfl⟩ := List.mem_map.1 hl
        have h4 := HH.out.four l0 hl0
        have hw := HH.out.wf l0 hl0
        have hfld : ∀ j, j < 4 → (Lit.int .i64 (fld l0 j)).wf = true := fun j hj => hw _ (List.mem_of_getElem? (fld_get (by omega)))
        simp only [List.mem_cons, List.not_mem_nil, or_false] at hy
        rcases hy with rfl | rfl | rfl | rfl
        · exact hfld 2 (by omega)
        · decide
        · exact hfld 0 (by omega)
        · decide
end
end Go.Proofs.Ytiapnaecdefonaa
