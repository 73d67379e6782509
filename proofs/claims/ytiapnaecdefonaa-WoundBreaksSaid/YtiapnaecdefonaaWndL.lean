/- The laws' alive, of wounds. -/
import Derived.Test.YtiapnaecdefonaaWndD
import Derived.Test.YtiapnaecdefonaaWndG
namespace Go.Proofs.Ytiapnaecdefonaa
open Go.RowKit
set_option linter.unusedVariables false
set_option linter.unusedSimpArgs false

theorem wnd_at {w : World} {B m k : Nat} {A : Option Addr} {E : Egs} {K : List Int} (h : Reads w B 2 A m (ints (woundsL E K).flatten)) (hm : K.length = m) (hk : k < K.length) :
    ∃ b off, A = some ⟨b, off, none⟩ ∧ b < B ∧ w.cell? ⟨b, off + k * 2, none⟩ = some (.int .i64 (gd K k)) ∧ w.cell? ⟨b, off + k * 2 + 1, none⟩ = some (.int .i64 ((byL E (gd K k)).getD 0)) := by
  obtain ⟨b, off, e, hb, hc, _⟩ := h.flat_at (fun l hl => by obtain ⟨t, _, rfl⟩ := List.mem_map.1 hl; rfl) (by rw [woundsL_len, hm]) (by omega) (i := k) (by omega)
  have hg : (woundsL E K).getD k [] = rowW E (gd K k) := by
    unfold woundsL
    rw [List.getD_eq_getElem?_getD, List.getElem?_map, List.getElem?_eq_getElem hk, gd_get hk]; rfl
  rw [hg] at hc
  exact ⟨b, off, e, hb, hc 0 (by omega), hc 1 (by omega)⟩
def L1 : List (List Int) := [[3, 0, 5, 0], [2, 0, 5, 0], [5, 0, 2, 0]]
theorem by_L1 : byL (eds L1) 5 = some 2 := by decide
theorem hurt_L1 : hurtL (eds L1) = [5] := ris_ext (hurt_ris _) (by simp [Ris]) fun x => by
  rw [hurt_mem]
  constructor
  · intro h
    obtain ⟨b, hb⟩ := Option.isSome_iff_exists.1 h
    obtain ⟨h1, h2⟩ := byL_some hb
    simp [eds, L1, fld] at h2
    rcases h2 with ⟨_, rfl⟩ | ⟨_, rfl⟩ | ⟨rfl, rfl⟩
    · simp
    · simp
    · omega
  · intro h
    simp at h; subst h; rw [by_L1]; rfl
theorem rest_L1 : restL (eds L1) L1 = [] := by decide
theorem old_L1 : oldL (fld (L1.headD []) 0) (eds L1) = 2 := by decide
theorem edg_alive11 (w : World) : EdgM (w.alloc (.cells (ints L1.flatten).toArray 41)) (w.alloc (.cells (ints L1.flatten).toArray 41)).heap.size (some ⟨w.heap.size, 0, none⟩) 3 L1 where
  reads := ⟨rfl, fun _ => ⟨_, rfl, by simp, fun j u hu => by
    have h1 := (Blk.new w 41 (ints L1.flatten).toArray).cell j
    have h2 : (⟨w.heap.size, 0, none⟩ : Addr).add j = ⟨w.heap.size, j, none⟩ := by unfold Addr.add; split <;> simp_all
    rw [h2, h1]; simpa using hu⟩⟩
  four := by intro l hl; simp [L1] at hl; rcases hl with rfl | rfl | rfl <;> rfl
  count := rfl
  wf := by intro l hl y hy; simp [L1] at hl; rcases hl with rfl | rfl | rfl <;> (simp at hy; rcases hy with rfl | rfl | rfl | rfl <;> decide)
set_option maxRecDepth 100000 in
set_option maxHeartbeats 8000000 in
theorem alive11_any (w : World) : Calls Try.prog 12 #[] w fun e w' => e = .returned (.bool true) ∧ Below w.heap.size w w' := by
  have ED := Lib.hid (edg_alive11 w)
  have BW := Lib.hid (Below.alloc (Below.refl w.heap.size w) (Nat.le_refl _) (.cells (ints L1.flatten).toArray 41))
  have hl0 : (ints L1.flatten).toArray = #[.int .i64 3, .int .i64 0, .int .i64 5, .int .i64 0, .int .i64 2, .int .i64 0, .int .i64 5, .int .i64 0, .int .i64 5, .int .i64 0, .int .i64 2, .int .i64 0] := rfl
  rw [hl0] at ED BW
  clear hl0
  have he := eql_wound 5 2 5 2
  go_enter Try.func12, Try.ntmps12
  go_wp2_with fail
  generalize w.alloc (.cells #[.int .i64 3, .int .i64 0, .int .i64 5, .int .i64 0, .int .i64 2, .int .i64 0, .int .i64 5, .int .i64 0, .int .i64 5, .int .i64 0, .int .i64 2, .int .i64 0] 41) = w1 at ED BW ⊢
  have Z1 := Lib.hid BW.out.size
  refine (ofG_any (c := 3) w1 ED.out (by omega)).mono ?_
  rintro e w2 ⟨v, rfl, hrow, hb⟩
  rw [hurt_L1] at hrow
  obtain ⟨A2, c2, rfl, hr2, _⟩ := own_slice hrow
  have R2 := Lib.hid hr2
  have B2 := Lib.hid (BW.out.trans (hb.mono Z1.out))
  have E2 := Lib.hid ((ED.out.below hb).more hb.size)
  clear hrow hb hr2
  go_wp2_with fail
  refine (oldestG_any (c := 3) w2 E2.out (by omega) (by omega)).mono ?_
  rintro e w3 ⟨rfl, hb⟩
  rw [old_L1]
  have R3 := Lib.hid (R2.out.below hb)
  have B3 := Lib.hid (B2.out.trans (hb.mono B2.out.size))
  have E3 := Lib.hid ((E2.out.below hb).more hb.size)
  clear hb
  obtain ⟨b, off, rfl, _, h0, h1⟩ := wnd_at (k := 0) R3.out rfl (by simp)
  have k0 : w3.cell? ⟨b, off, none⟩ = some (.int .i64 5) := by simpa [gd] using h0
  have k1 : w3.cell? ⟨b, off + 1, none⟩ = some (.int .i64 2) := by simpa [gd, by_L1] using h1
  clear h0 h1
  go_wp2_with (first
    | (refine wpList_load_cells_g (by rfl) 33 (.tmp 21) rfl ⟨b, off, none⟩ rfl [.int .i64 5, .int .i64 2] _ (cells_two k0 k1) Try.underlying33 rfl (by kernel_rfl) ?_)
    | (go_at_call 16; refine (restG_any (c := 3) w3 E3.out (by omega)).mono ?_; rintro e w4 ⟨A4, c4, rfl, hr4, hb4⟩; rw [rest_L1]; have B4 := Lib.hid (B3.out.trans (hb4.mono B3.out.size)); clear hr4 hb4))
  go_ret
  exact ⟨rfl, B4.out⟩
end Go.Proofs.Ytiapnaecdefonaa
