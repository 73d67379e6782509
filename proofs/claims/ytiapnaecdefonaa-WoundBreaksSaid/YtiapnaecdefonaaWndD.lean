/- The contract of Of. -/
import Derived.Test.YtiapnaecdefonaaWndB
import Derived.Test.YtiapnaecdefonaaGraD
import Derived.Test.YtiapnaecdefonaaShelf11
namespace Go.Proofs.Ytiapnaecdefonaa
open Go.RowKit Go.Maps Go.Sort Go.Shelf
set_option linter.unusedVariables false
set_option linter.unusedSimpArgs false

theorem info_wound : (Try.prog.info? 33).map (fun i => (i.zero, i.size, i.bytes)) = some (some (.agg #[.int .i64 0, .int .i64 0]), 2, 16) := by kernel_rfl
theorem keysW_any (mb : Option Nat) (W : World) : Calls Try.prog 30 #[.map mb] W fun e w' => e = .returned (.func (.func 44) #[] #[.pointer (some ⟨W.heap.size, 0, none⟩)]) ∧ w' = W.alloc (.cells #[.map mb] 55) :=
  (callsIn_wide (n := 5)).1 (AnyZI.keys_in Try.laysKeysW Fence.wide 5 trivial rfl mb W)
theorem sortedW_any {w : World} {b m : Nat} {f : Int → Option Value} (h : MapV w b m f) (hm : m ≤ 1000000) :
    Calls Try.prog 29 #[.func (.func 44) #[] #[.pointer (some ⟨w.heap.size, 0, none⟩)]] (w.alloc (.cells #[.map (some b)] 55)) fun e w' =>
      ∃ v K, e = .returned v ∧ Ris K ∧ (∀ x, x ∈ K ↔ (f x).isSome = true) ∧ w'.ownsRow w.heap.size 3 1 v K.length (i64s K) ∧ Below w.heap.size w w' := by
  obtain ⟨L, hL0, hL1, hL2⟩ := h
  have hsz : Maps.size (DV L) ≤ 1000000 := Nat.le_trans (World.ownsMap.size_le hL1) hm
  have hbl2 := World.ownsMap.lt hL1
  have hseq : SeqGives Fence.wide 2 Try.prog 44 #[.pointer (some ⟨w.heap.size, 0, none⟩)] encZ (fun ss => ss.Perm (intKeys (DV L))) (Maps.size (DV L)) (w.alloc (.cells #[.map (some b)] 55)) :=
    AnyZI.keys_gives (ρ := Try.laysKeysW_ren) { Try.laysKeysW with } Fence.wide _ trivial rfl (by omega) w.heap.size b m (DV L) _ (by simp) (by simp) (by
      obtain ⟨es, clock, hb, Ft, hs, hD⟩ := hL1
      exact ⟨es, clock, (Below.heap_alloc _ _ _ hbl2).trans hb, Ft, hs, hD⟩)
  have cS := AnyZI.sorted_in Try.laysSorted Fence.wide 5 trivial trivial trivial trivial rfl (by omega) (sortsG _) (enters_of Try.func42 (by kernel_rfl) rfl) 44 #[.pointer (some ⟨w.heap.size, 0, none⟩)] trivial (enters_of Try.func44 (by kernel_rfl) rfl) _ _ (by simp only [maxLen]; omega) (by omega) _ hseq
  change CallsIn _ _ Try.prog 29 _ _ _ at cS
  refine ((callsIn_wide (n := 5)).1 cS).mono ?_
  rintro e w' ⟨v, ss, rfl, hS, hrow, hnil, hb⟩
  rw [DV_keys] at hS
  obtain ⟨hsort, hris⟩ := keysG_sorted hL0 hS
  rw [hsort, hS.length_eq] at hrow
  refine ⟨v, L.map (·.1), rfl, hris, fun x => ?_, own_less hrow (by simp), ((Below.refl _ w).alloc (Nat.le_refl _) _).trans (hb.mono (by simp))⟩
  rw [← hL2 x]
  constructor
  · intro hx
    obtain ⟨p, hp, rfl⟩ := List.mem_map.1 hx
    rw [mem_atG hL0 hp]; rfl
  · intro hx
    obtain ⟨v, hv⟩ := Option.isSome_iff_exists.1 hx
    exact List.mem_map.2 ⟨_, atG_mem hv, rfl⟩
theorem woundF_hurt {E : Egs} {K : List Int} (hr : Ris K) (h : ∀ x, x ∈ K ↔ (woundF E x).isSome = true) : K = hurtL E :=
  ris_ext hr (hurt_ris E) fun x => by rw [h x, hurt_mem]; unfold woundF; rw [Option.isSome_map]
theorem hurt_at {E : Egs} {k : Nat} (hk : k < (hurtL E).length) : (woundF E (gd (hurtL E) k)).getD (.agg #[.int .i64 0, .int .i64 0]) = .agg (ints (rowW E (gd (hurtL E) k))).toArray := by
  have h1 : gd (hurtL E) k ∈ hurtL E := by rw [gd_get hk]; exact List.getElem_mem hk
  obtain ⟨b, hb⟩ := Option.isSome_iff_exists.1 (hurt_mem.1 h1)
  unfold woundF rowW
  rw [hb]; rfl
theorem woundsL_take (E : Egs) {K : List Int} {k : Nat} (hk : k < K.length) : woundsL E (K.take (k + 1)) = woundsL E (K.take k) ++ [rowW E (gd K k)] := by
  unfold woundsL
  rw [List.take_add_one, List.getElem?_eq_getElem hk, gd_get hk, List.map_append]
  rfl
section
variable {w : World} {n : Nat} {A : Option Addr} {ls : List (List Int)}
set_option maxRecDepth 100000 in
set_option maxHeartbeats 8000000 in
theorem ofG_any {c : Nat} (w : World) (h : EdgM w w.heap.size A n ls) (hn : n ≤ 200) :
    Calls Try.prog 13 #[.slice A n c] w fun e w' => ∃ v, e = .returned v ∧ w'.ownsRow w.heap.size 33 2 v (hurtL (eds ls)).length (ints (woundsL (eds ls) (hurtL (eds ls))).flatten) ∧ Below w.heap.size w w' := by
  obtain ⟨i0, hi0, hz0, hz1, hz2⟩ := info_parts info_wound
  have hF := h.fin hn
  have WF := Lib.hid (show ∀ x ∈ hurtL (eds ls), (Lit.int .i64 x).wf = true from fun x hx => by
    obtain ⟨b, hb⟩ := Option.isSome_iff_exists.1 (hurt_mem.1 hx)
    exact hF.wf x (byL_nds hb))
  have HL := Lib.hid (show (hurtL (eds ls)).length ≤ 400 from by have := hurt_len (eds ls); rw [h.elen] at this; omega)
  have HH := Lib.hid h
  clear h hF
  go_enter Try.func13, Try.ntmps13
  go_wp2_with (go_at_call 28; refine (wounds_any (c := c) _ HH.out (by omega)).mono ?_; rintro e w1 ⟨rfl, hm1, hb1⟩; have M1 := Lib.hid hm1; have B1 := Lib.hid hb1; clear hm1 hb1)
  refine (keysW_any _ _).mono ?_
  rintro e w2 ⟨rfl, rfl⟩
  go_wp2_with fail
  refine (sortedW_any M1.out (by omega)).mono ?_
  rintro e w3 ⟨v3, K, rfl, hris, hmem, hrow, hb3⟩
  obtain rfl := woundF_hurt hris hmem
  obtain ⟨A3, c3, rfl, hr3, _⟩ := own_slice hrow
  have R3 := Lib.hid hr3
  have M3 := Lib.hid (M1.out.here hb3)
  have B3 := Lib.hid (B1.out.trans (hb3.mono B1.out.size))
  clear hris hmem hrow hb3 hr3
  go_wp2_with fail
  go_loopw [4, 13] (fun s4 s13 wr => ∃ (k : Nat), s13 = .int .i64 k ∧ k ≤ (hurtL (eds ls)).length ∧ wr.ownsRow w3.heap.size 33 2 s4 k (ints (woundsL (eds ls) ((hurtL (eds ls)).take k)).flatten) ∧ Below w3.heap.size w3 wr) (fun _ s13 _ => 1000 - (RowKit.intOf s13).toNat)
  case atStart => exact ⟨0, rfl, Nat.zero_le _, World.ownsRow_nil _ _ _ _, Below.refl _ _⟩
  case round =>
    obtain ⟨k, rfl, hk, hrow, hb⟩ := hrel
    rename World => X
    have HR := Lib.hid hrow
    have HB := Lib.hid hb
    have HS := Lib.hid hb.size
    clear hrow hb
    by_cases hlt : k < (hurtL (eds ls)).length
    · obtain ⟨bn, on, rfl, hbn, hcn⟩ := int_cells (R3.out.below HB.out) (by omega)
      have kx := hcn k hlt
      have VX := Lib.hid (hurt_at hlt)
      have WX := Lib.hid (show (Lit.int .i64 (gd (hurtL (eds ls)) k)).wf = true from WF.out _ (by rw [gd_get hlt]; exact List.getElem_mem hlt))
      have TK := Lib.hid (woundsL_take (eds ls) hlt)
      have MX := Lib.hid (M3.out.here HB.out)
      have h4 := HL.out
      clear hcn hbn
      generalize gd (hurtL (eds ls)) k = x at kx VX WX TK
      have hrw : rowW (eds ls) x = [x, (byL (eds ls) x).getD 0] := rfl
      rw [hrw] at VX TK
      clear hrw
      generalize (byL (eds ls) x).getD 0 = y at VX TK
      have O1 := Lib.hid (show ∀ v ∈ ints [x, y], v.oneCell' = true from fun v hv => by obtain ⟨c, _, rfl⟩ := List.mem_map.1 hv; rfl)
      have RN := Lib.hid (reads_newStruct X 33 [x, y] (size := 2) rfl)
      go_wp2_with (first
        | (at_lookup; refine wpList_lookV _ rfl _ _ 55 rfl 33 Try.underlying55 _ (zeroWound _) rfl MX.out x rfl WX.out (.agg #[.int .i64 x, .int .i64 y]) VX.out ?_)
        | (at_builtin; refine wpList_append_any _ rfl (.tmp 17) (.tmp 21) _ rfl w3.heap.size 33 i0 _ 2 16 Try.underlying28 hi0 hz0 hz1 hz2 rfl (by omega) _ k _ rfl (HR.out.alloc _) _ _ 1 1 (ints [x, y]) rfl RN.out O1.out (by simp only [maxLen]; omega) (by omega) (by have := HS.out; simp; omega) ?_
           intro v9 w9 hown9 hg9 hv9
           have O9 := Lib.hid hown9
           have G9 := Lib.hid hg9
           clear hown9 hg9 hv9))
      go_roundw
      case rel =>
        refine ⟨k + 1, by go_num, by omega, ?_, below_own (HB.out.alloc HS.out _) G9.out (HR.out.alloc _) (Nat.le_refl _) (by have := HS.out; simp; omega)⟩
        rw [TK.out, List.flatten_append, show ints ((woundsL (eds ls) ((hurtL (eds ls)).take k)).flatten ++ [[x, y]].flatten) = ints (woundsL (eds ls) ((hurtL (eds ls)).take k)).flatten ++ ints [x, y] by simp [ints]]
        exact O9.out
      case measure => simp [RowKit.intOf]; omega
    · obtain rfl : k = (hurtL (eds ls)).length := by omega
      rw [List.take_length] at HR
      go_wp2_with fail
      go_ret
      exact ⟨_, rfl, own_less HR.out B3.out.size, B3.out.trans (HB.out.mono B3.out.size)⟩
end
end Go.Proofs.Ytiapnaecdefonaa
