/- GraphMore. -/
import Derived.Test.YtfaciajnopkjlaaLaw10R
namespace Go.Proofs.Ytfaciajnopkjlaa
open Go.RowKit
set_option linter.unusedVariables false
set_option linter.unusedSimpArgs false

theorem SeenM.look {w : World} {b n : Nat} {S : Int → Prop} (h : SeenM w b n S) : ∃ f, MapV w b n f ∧ (∀ k, S k → (f k).getD (.bool false) = .bool true) ∧ ∀ k, (S k ∧ f k = some (.bool true)) ∨ (¬ S k ∧ f k = none) := by
  obtain ⟨f, h1, h2⟩ := h
  refine ⟨f, h1, fun k hk => ?_, h2⟩
  rcases h2 k with ⟨_, e⟩ | ⟨e, _⟩
  · rw [e]; rfl
  · exact absurd hk e
theorem own_emptyV (V : World) {base size : Nat} (t : TypeId) (hb : base ≤ V.heap.size) : (V.alloc (.cells #[] t)).ownsRow base t size (.slice (some ⟨V.heap.size, 0, none⟩) 0 0) 0 [] :=
  ⟨by simp, .inr ⟨_, _, #[], rfl, hb, Blk.new V t #[], Nat.le_refl _, by simp only [maxLen]; omega, by simp, by simp⟩⟩
theorem seenM_put {w : World} {b n : Nat} {f : Int → Option Value} {S : Int → Prop} {x : Int} (h : MapV w b n (fun j => if j = x then some (.bool true) else f j)) (h2 : ∀ k, (S k ∧ f k = some (.bool true)) ∨ (¬ S k ∧ f k = none)) : SeenM w b n (fun y => S y ∨ y = x) :=
  ⟨_, h, fun j => by
    by_cases e : j = x
    · left; exact ⟨.inr e, by rw [if_pos e]⟩
    · rw [if_neg e]
      rcases h2 j with ⟨h1, h3⟩ | ⟨h1, h3⟩
      · exact .inl ⟨.inl h1, h3⟩
      · exact .inr ⟨fun h => h.elim h1 e, h3⟩⟩
theorem circ_turn (E : Egs) (x : Int) : Rp (nxt (turnE E)) x x ↔ Rp (nxt E) x x :=
  ⟨fun h => h.back fun a b hb => nxt_turn.1 hb, fun h => h.back fun a b hb => nxt_turn.2 hb⟩
theorem nxt_more {E D : Egs} {x y : Int} (h : y ∈ nxt E x) : y ∈ nxt (E ++ D) x := by rw [nxt_mem] at h ⊢; simp [h]
set_option maxRecDepth 100000 in
set_option maxHeartbeats 16000000 in
theorem graphMore_walk (a0 : Option Addr) (len0 cap0 : Nat) (l0 : List (List Int)) (a1 : Option Addr) (len1 cap1 : Nat) (l1 : List (List Int)) (a2 : Int) (W : World) (h : EdgM W W.heap.size a0 len0 l0) (h' : EdgM W W.heap.size a1 len1 l1) (hw : (Lit.int .i64 a2).wf = true) :
    Calls Try.prog 7 #[.slice a0 len0 cap0, .slice a1 len1 cap1, .int .i64 a2] W fun e w' => e = .returned (.bool true) ∧ Below W.heap.size W w' := by
  have HH := Lib.hid h
  have HH' := Lib.hid h'
  have WF := Lib.hid hw
  clear h h' hw
  by_cases h40 : 40 < len0
  · have d1 : decide ((40 : Int) < (len0 : Int)) = true := by simp; omega
    go_enter Try.func7, Try.ntmps7
    go_wp2_with (go_at_call 8; refine (alive10_any _).mono ?_; rintro e w1 ⟨rfl, hb1⟩; have B1 := Lib.hid hb1; clear hb1)
    go_ret
    exact ⟨rfl, B1.out⟩
  have d1 : decide ((40 : Int) < (len0 : Int)) = false := by simp; omega
  by_cases h41 : 40 < len1
  · have d2 : decide ((40 : Int) < (len1 : Int)) = true := by simp; omega
    go_enter Try.func7, Try.ntmps7
    go_wp2_with (go_at_call 8; refine (alive10_any _).mono ?_; rintro e w1 ⟨rfl, hb1⟩; have B1 := Lib.hid hb1; clear hb1)
    go_ret
    exact ⟨rfl, B1.out⟩
  have d2 : decide ((40 : Int) < (len1 : Int)) = false := by simp; omega
  obtain ⟨i0, hi0, hz0, hz1, hz2⟩ := info_parts info_edge
  have hmm := @run_makeMap Try.prog
  have O1 := Lib.hid (show ∀ l : List Int, ∀ v ∈ ints l, v.oneCell' = true from fun l v hv => by obtain ⟨c, _, rfl⟩ := List.mem_map.1 hv; rfl)
  have TOK := Lib.hid True.intro
  go_enter Try.func7, Try.ntmps7
  go_wp2_with (first
    | (go_at_call 8; refine (alive10_any _).mono ?_; rintro e w1 ⟨rfl, hb1⟩; have B1 := Lib.hid hb1; have Z1 := Lib.hid hb1.size; clear hb1)
    | (at_builtin; have _t := TOK
       refine wpList_append_any _ rfl (.tmp 30) (.tmp 31) _ rfl w1.heap.size 42 i0 _ 4 32 Try.underlying22 hi0 hz0 hz1 hz2 rfl (by omega) _ 0 [] rfl (own_emptyV w1 42 (Nat.le_refl _)) W.heap.size a0 len0 cap0 (ints l0.flatten) rfl (HH.out.reads.below (B1.out.alloc Z1.out _)) (O1.out _) (by simp only [maxLen]; omega) (by omega) (by simp) ?_
       intro v4 w4 hown4 hg4 _
       rw [Nat.zero_add, List.nil_append] at hown4
       have O4 := Lib.hid hown4
       have B4 := Lib.hid (show Below w1.heap.size w1 w4 from (Joins.below_alloc1 w1 (.cells #[] 42)).grown hg4 (by simp) (fun q hq => by injection hq with hq; rw [← hq]; exact Nat.le_refl _))
       clear hown4 hg4 TOK)
    | (at_builtin
       refine wpList_append_any _ rfl (.tmp 32) (.tmp 33) _ rfl w1.heap.size 42 i0 _ 4 32 Try.underlying22 hi0 hz0 hz1 hz2 rfl (by omega) v4 len0 (ints l0.flatten) rfl O4.out W.heap.size a1 len1 cap1 (ints l1.flatten) rfl (HH'.out.reads.below (B1.out.trans (B4.out.mono Z1.out))) (O1.out _) (by simp only [maxLen]; omega) (by omega) B4.out.size ?_
       intro v5 w5 hown5 hg5 _
       have O5 := Lib.hid hown5
       have B5 := Lib.hid (show Below w1.heap.size w1 w5 from B4.out.grown hg5 B4.out.size (fun q hq => ownBlock_ge O4.out q hq))
       clear hown5 hg5))
  have h5 := O5.out
  rw [show ints l0.flatten ++ ints l1.flatten = ints (l0 ++ l1).flatten by simp [ints]] at h5
  obtain ⟨A5, c5, rfl, hr5, _⟩ := own_slice h5
  have EB := Lib.hid (show EdgM w5 w5.heap.size A5 (len0 + len1) (l0 ++ l1) from ⟨hr5, fun x hx => (List.mem_append.1 hx).elim (HH.out.four x) (HH'.out.four x), by rw [List.length_append, HH.out.count, HH'.out.count], fun x hx => (List.mem_append.1 hx).elim (HH.out.wf x) (HH'.out.wf x)⟩)
  have EL := Lib.hid ((HH.out.below (B1.out.trans (B5.out.mono Z1.out))).more (Nat.le_trans Z1.out B5.out.size))
  have BW5 := Lib.hid (B1.out.trans (B5.out.mono Z1.out))
  have heb : eds (l0 ++ l1) = eds l0 ++ eds l1 := by simp [eds]
  have HEB := Lib.hid heb
  clear h5 hr5 O4 O5 B4 B5 heb
  go_loopw [8, 9] (fun s8 s9 wr => ∃ (k : Nat), s9 = .int .i64 k ∧ k ≤ len0 ∧ wr.ownsRow w5.heap.size 42 4 s8 k (ints (trn (l0.take k)).flatten) ∧ Below w5.heap.size w5 wr) (fun _ s9 _ => 100 - (RowKit.intOf s9).toNat)
  case atStart => exact ⟨0, rfl, Nat.zero_le _, World.ownsRow_nil _ _ _ _, Below.refl _ _⟩
  case round =>
    obtain ⟨k, rfl, hk, hrow, hb⟩ := hrel
    rename World => X
    have HR := Lib.hid hrow
    have HB := Lib.hid hb
    have HS := Lib.hid hb.size
    clear hrow hb
    by_cases hlt : k < len0
    · obtain ⟨b, off, a, s, t, u, rfl, hbl, ⟨hl, e⟩, hc, wa, wt⟩ := (EL.out.below HB.out).at_ hlt
      have HE := Lib.hid (trn_take l0 hl e)
      have k0 : X.cell? ⟨b, off + k * 4, none⟩ = some (.int .i64 a) := by have := hc 0 _ rfl; simpa [Addr.add] using this
      have k2 : X.cell? ⟨b, off + k * 4 + 2, none⟩ = some (.int .i64 t) := by have := hc 2 _ rfl; simpa [Addr.add] using this
      clear hc wa wt e
      have KEEP := Lib.hid (show ∀ Y, Below w5.heap.size X Y → Y.cell? ⟨b, off + k * 4, none⟩ = some (.int .i64 a) ∧ Y.cell? ⟨b, off + k * 4 + 2, none⟩ = some (.int .i64 t) from fun Y hx => ⟨(hx.cell (p := ⟨b, off + k * 4, none⟩) hbl).trans k0, (hx.cell (p := ⟨b, off + k * 4 + 2, none⟩) hbl).trans k2⟩)
      go_wp2_with fail
      refine wp_region_held_drew (S := fun w' => w'.cell? ⟨b, off + k * 4, none⟩ = some (.int .i64 a) ∧ w'.cell? ⟨b, off + k * 4 + 2, none⟩ = some (.int .i64 t)) (by kernel_rfl) ⟨k0, k2⟩ (fun hHeld => ?_)
      refine wpAnyH_take (i := 0) (v := ?_) rfl (by kernel_rfl) (by kernel_rfl) (by kernel_rfl) (fun _ _ _ h => h) (Or.inl ⟨by rfl, ?_⟩) (by assumption) ?_
      rotate_left
      · (intro w0 hSw; (try dsimp only at hSw); go_simp; try with_reducible rfl)
      try simp only [List.getElem_toArray, List.getElem_cons_succ, List.getElem_cons_zero, Act.put, List.setIfInBounds_toArray, List.set_cons_zero, List.set_cons_succ]
      refine wpAnyH_take (i := 1) (v := ?_) rfl (by kernel_rfl) (by kernel_rfl) (by kernel_rfl) (fun _ _ _ h => h) (Or.inl ⟨by rfl, ?_⟩) (by assumption) ?_
      rotate_left
      · (intro w0 hSw; (try dsimp only at hSw); go_simp; try with_reducible rfl)
      try simp only [List.getElem_toArray, List.getElem_cons_succ, List.getElem_cons_zero, Act.put, List.setIfInBounds_toArray, List.set_cons_zero, List.set_cons_succ]
      refine wpAnyH_take (i := 2) (v := ?_) rfl (by kernel_rfl) (by kernel_rfl) (by kernel_rfl) (fun _ _ _ h => h) (Or.inl ⟨by rfl, ?_⟩) (by assumption) ?_
      rotate_left
      · (intro w0 hSw; (try dsimp only at hSw); go_simp; try with_reducible rfl)
      try simp only [List.getElem_toArray, List.getElem_cons_succ, List.getElem_cons_zero, Act.put, List.setIfInBounds_toArray, List.set_cons_zero, List.set_cons_succ]
      refine wpAnyH_take (i := 3) (v := ?_) rfl (by kernel_rfl) (by kernel_rfl) (by kernel_rfl) (fun _ _ _ h => h) (Or.inl ⟨by rfl, ?_⟩) (by assumption) ?_
      rotate_left
      · (intro w0 hSw; (try dsimp only at hSw); go_simp; try with_reducible rfl)
      try simp only [List.getElem_toArray, List.getElem_cons_succ, List.getElem_cons_zero, Act.put, List.setIfInBounds_toArray, List.set_cons_zero, List.set_cons_succ]
      refine wpAnyH_take (i := 4) (v := ?_) rfl (by kernel_rfl) (by kernel_rfl) (by kernel_rfl) (fun _ _ _ h => h) (Or.inl ⟨by rfl, ?_⟩) (by assumption) ?_
      rotate_left
      · (intro w0 hSw; (try dsimp only at hSw); go_simp; try with_reducible rfl)
      try simp only [List.getElem_toArray, List.getElem_cons_succ, List.getElem_cons_zero, Act.put, List.setIfInBounds_toArray, List.set_cons_zero, List.set_cons_succ]
      refine wpAnyH_take (i := 5) (v := ?_) rfl (by kernel_rfl) (by kernel_rfl) (by kernel_rfl) (fun _ _ _ h => h) (Or.inl ⟨by rfl, ?_⟩) (by assumption) ?_
      rotate_left
      · (intro w0 hSw; (try dsimp only at hSw); go_simp; try with_reducible rfl)
      try simp only [List.getElem_toArray, List.getElem_cons_succ, List.getElem_cons_zero, Act.put, List.setIfInBounds_toArray, List.set_cons_zero, List.set_cons_succ]
      refine wpAnyH_take (i := 6) (v := ?_) rfl (by kernel_rfl) (by kernel_rfl) (by kernel_rfl) (fun _ _ _ h => h) (Or.inl ⟨by rfl, ?_⟩) (by assumption) ?_
      rotate_left
      · (intro w0 hSw; (try dsimp only at hSw); go_simp; try with_reducible rfl)
      try simp only [List.getElem_toArray, List.getElem_cons_succ, List.getElem_cons_zero, Act.put, List.setIfInBounds_toArray, List.set_cons_zero, List.set_cons_succ]
      refine wpAnyH_take (i := 7) (v := ?_) rfl (by kernel_rfl) (by kernel_rfl) (by kernel_rfl) (fun _ _ _ h => h) (Or.inl ⟨by rfl, ?_⟩) (by assumption) ?_
      rotate_left
      · (intro w0 hSw; (try dsimp only at hSw); go_simp; try with_reducible rfl)
      try simp only [List.getElem_toArray, List.getElem_cons_succ, List.getElem_cons_zero, Act.put, List.setIfInBounds_toArray, List.set_cons_zero, List.set_cons_succ]
      refine wpAnyH_take (i := 8) (v := ?_) rfl (by kernel_rfl) (by kernel_rfl) (by kernel_rfl) (fun _ _ _ h => h) (Or.inl ⟨by rfl, ?_⟩) (by assumption) ?_
      rotate_left
      · (intro w0 hSw; (try dsimp only at hSw); go_simp; try with_reducible rfl)
      try simp only [List.getElem_toArray, List.getElem_cons_succ, List.getElem_cons_zero, Act.put, List.setIfInBounds_toArray, List.set_cons_zero, List.set_cons_succ]
      refine wpAnyH_take (i := 9) (v := ?_) rfl (by kernel_rfl) (by kernel_rfl) (by kernel_rfl) (fun _ _ _ h => h) (Or.inl ⟨by rfl, ?_⟩) (by assumption) ?_
      rotate_left
      · (intro w0 hSw; (try dsimp only at hSw); go_simp; try with_reducible rfl)
      try simp only [List.getElem_toArray, List.getElem_cons_succ, List.getElem_cons_zero, Act.put, List.setIfInBounds_toArray, List.set_cons_zero, List.set_cons_succ]
      refine wpAnyH_take (i := 10) (v := ?_) rfl (by kernel_rfl) (by kernel_rfl) (by kernel_rfl) (fun _ _ _ h => h) (Or.inl ⟨by rfl, ?_⟩) (by assumption) ?_
      rotate_left
      · (intro w0 hSw; (try dsimp only at hSw); go_simp; try with_reducible rfl)
      try simp only [List.getElem_toArray, List.getElem_cons_succ, List.getElem_cons_zero, Act.put, List.setIfInBounds_toArray, List.set_cons_zero, List.set_cons_succ]
      refine wpAnyH_take (i := 11) (v := ?_) rfl (by kernel_rfl) (by kernel_rfl) (by kernel_rfl) (fun _ _ _ h => h) (Or.inl ⟨by rfl, ?_⟩) (by assumption) ?_
      rotate_left
      · (intro w0 hSw; (try dsimp only at hSw); go_simp; try with_reducible rfl)
      try simp only [List.getElem_toArray, List.getElem_cons_succ, List.getElem_cons_zero, Act.put, List.setIfInBounds_toArray, List.set_cons_zero, List.set_cons_succ]
      refine wpAnyH_ready (rs := [12]) (by kernel_rfl) (by simp) ?_
      refine AllReadyH.cons rfl (fun K hK => ?_) AllReadyH.nil
      go_simp
      have BX1 := Lib.hid (show Below w5.heap.size X (X.drew.alloc (.cells #[.int .i64 t, .int .i64 0, .int .i64 a, .int .i64 0] 42)) from (Below.refl _ X).drew.alloc HS.out _)
      have R1 := Lib.hid (show (X.drew.alloc (.cells #[.int .i64 t, .int .i64 0, .int .i64 a, .int .i64 0] 42)).ownsRow w5.heap.size 42 4 u8 k (ints (trn (l0.take k)).flatten) from World.ownsRow.alloc (World.ownsRow.drew HR.out) _)
      have RN := Lib.hid (reads_newStruct X.drew 42 [t, 0, a, 0] (size := 4) rfl)
      refine hK.out _ _ (KEEP.out _ BX1.out) (fun hHeld => ?_)
      clear hK K
      refine wpAnyH_ready (rs := [13]) (by kernel_rfl) (by simp) ?_
      refine AllReadyH.cons rfl (fun K hK => ?_) AllReadyH.nil
      refine step_append_any _ rfl (.tmp 41) (.tmp 53) _ rfl w5.heap.size 42 i0 _ 4 32 Try.underlying22 hi0 hz0 hz1 hz2 rfl (by omega) u8 k (ints (trn (l0.take k)).flatten) rfl R1.out _ _ 1 1 (ints [t, 0, a, 0]) rfl RN.out (O1.out _) (by simp only [maxLen]; omega) (by omega) (by have := HS.out; simp; omega) ?_
      intro v9 w9 hown9 hg9 _
      have O9 := Lib.hid hown9
      have B9 := Lib.hid (BX1.out.grown hg9 (by have := HS.out; simp; omega) (fun q hq => ownBlock_ge R1.out q hq))
      clear hown9 hg9
      refine hK.out _ _ (KEEP.out _ B9.out) (fun hHeld => ?_)
      clear hK K
      refine wpAnyH_take (i := 14) (v := ?_) rfl (by kernel_rfl) (by kernel_rfl) (by kernel_rfl) (fun _ _ _ h => h) (Or.inl ⟨by rfl, ?_⟩) (by assumption) ?_
      rotate_left
      · (intro w0 hSw; (try dsimp only at hSw); go_simp; try with_reducible rfl)
      try simp only [List.getElem_toArray, List.getElem_cons_succ, List.getElem_cons_zero, Act.put, List.setIfInBounds_toArray, List.set_cons_zero, List.set_cons_succ]
      refine wpAnyH_done (by kernel_rfl) ?_ _
      go_wp2_with fail
      go_roundw
      case rel =>
        refine ⟨k + 1, by go_num, hlt, ?_, HB.out.trans B9.out⟩
        rw [HE.out, List.flatten_append, show ints ((trn (l0.take k)).flatten ++ [[t, 0, a, 0]].flatten) = ints (trn (l0.take k)).flatten ++ ints [t, 0, a, 0] by simp [ints]]
        exact O9.out
      case measure => simp [RowKit.intOf]; omega
    · obtain rfl : k = len0 := by omega
      rw [List.take_of_length_le (by have := HH.out.count; omega)] at HR
      obtain ⟨A8, c8, rfl, hr8, _⟩ := own_slice HR.out
      have ET := Lib.hid (show EdgM X X.heap.size A8 k (trn l0) from by
        refine ⟨hr8, ?_, by simp [trn, HH.out.count], ?_⟩
        · intro l hl
          obtain ⟨l1, _, rfl⟩ := List.mem_map.1 hl
          rfl
        · intro l hl y hy
          obtain ⟨l1, hl1, rfl⟩ := List.mem_map.1 hl
          have h4 := HH.out.four l1 hl1
          have hw := HH.out.wf l1 hl1
          have hfld : ∀ j, j < 4 → (Lit.int .i64 (fld l1 j)).wf = true := fun j hj => hw _ (List.mem_of_getElem? (fld_get (by omega)))
          simp only [List.mem_cons, List.not_mem_nil, or_false] at hy
          rcases hy with rfl | rfl | rfl | rfl
          · exact hfld 2 (by omega)
          · decide
          · exact hfld 0 (by omega)
          · decide)
      have EBX := Lib.hid (EB.out.next HB.out)
      have ELX := Lib.hid (EL.out.next HB.out)
      have BWX := Lib.hid (BW5.out.trans (HB.out.mono BW5.out.size))
      clear hr8 EB EL BW5
      go_wp2_with fail
      refine (circlesG_any (c := c8) X ET.out (by omega)).mono ?_
      rintro e w2 ⟨v2, l2, rfl, hris2, hmem2, hrow2, hb2⟩
      rw [eds_trn] at hmem2
      obtain ⟨A2, c2, rfl, hr2, _⟩ := own_slice hrow2
      have R2 := Lib.hid hr2
      have I2 := Lib.hid hris2
      have M2 := Lib.hid (fun x => (hmem2 x).trans (circ_turn (eds l0) x))
      have E2 := Lib.hid (ELX.out.next hb2)
      have F2 := Lib.hid (EBX.out.next hb2)
      have B2 := Lib.hid (BWX.out.trans (hb2.mono BWX.out.size))
      clear hris2 hmem2 hrow2 hb2 hr2 ELX EBX BWX
      go_wp2_with fail
      refine (circlesG_any (c := cap0) w2 E2.out (by omega)).mono ?_
      rintro e w3 ⟨v3, l3, rfl, hris3, hmem3, hrow3, hb3⟩
      obtain rfl : l3 = l2 := ris_ext hris3 I2.out fun x => (hmem3 x).trans (M2.out x).symm
      obtain ⟨A3, c3, rfl, hr3, _⟩ := own_slice hrow3
      have hl9 : l3.length ≤ 9223372036854775807 := by have := ris_len I2.out (fun x hx => rp_nds ((M2.out x).1 hx)); rw [HH.out.elen] at this; omega
      have R3 := Lib.hid hr3
      have R2' := Lib.hid (R2.out.below hb3)
      have E3 := Lib.hid (E2.out.next hb3)
      have F3 := Lib.hid (F2.out.next hb3)
      have B3 := Lib.hid (B2.out.trans (hb3.mono B2.out.size))
      clear hris3 hmem3 hrow3 hb3 hr3
      go_wp2_with fail
      refine (ints_same A2 A3 _ c2 c3 _ _ l3 w3 hl9 R2'.out R3.out).mono ?_
      rintro e w4 ⟨rfl, q, rfl⟩
      have E4 := Lib.hid (E3.out.drewN q)
      have F4 := Lib.hid (F3.out.drewN q)
      have B4 := Lib.hid (below_drewN B3.out q)
      generalize w3.drewN q = w4 at E4 F4 B4 ⊢
      clear hl9 R2 R2' R3 I2 M2 E2 F2 B2 E3 F3 B3
      go_wp2_with fail
      have hmI := seen_made w4
      have SI := Lib.hid hmI
      have EI := Lib.hid (E4.out.next (Joins.below_alloc1 w4 (.map #[] 0)))
      have FI := Lib.hid (F4.out.next (Joins.below_alloc1 w4 (.map #[] 0)))
      have BI := Lib.hid (B4.out.alloc B4.out.size (.map #[] 0))
      obtain ⟨mbI, hmbI⟩ : ∃ mbI, mbI = w4.heap.size := ⟨_, rfl⟩
      have FMI := Lib.hid (F4.out.below (Joins.below_alloc1 w4 (.map #[] 0)))
      have HMBI := Lib.hid (show W.heap.size ≤ mbI from by have := B4.out.size; omega)
      rw [← hmbI] at SI FMI ⊢
      clear hmI hmbI
      generalize w4.alloc (.map #[] 0) = wI at SI EI FI BI FMI ⊢
      refine (reachG_any (c := c5) (fr := a2) wI FI.out (by omega) WF.out).mono ?_
      rintro e xI ⟨vbI, lbI, rfl, hris, hmem, hrow, hb⟩
      obtain ⟨AbI, cbI, rfl, hr, _, hAbI⟩ := own_slice hrow
      have hlb : lbI.length ≤ 400 := by have := ris_len hris (fun x hx => rp_nds ((hmem x).1 hx)); rw [HEB.out, List.length_append, HH.out.elen, HH'.out.elen] at this; omega
      have RBI := Lib.hid hr
      have MBI := Lib.hid hmem
      have HABI := Lib.hid (show ∀ ad, AbI = some ad → ad.block ≠ mbI from fun ad he h => by have := hAbI ad he; have := SI.out.lt; omega)
      have SXI := Lib.hid (SI.out.here (hb.block _ SI.out.lt))
      have EXI := Lib.hid (EI.out.next hb)
      have FXI := Lib.hid (FI.out.next hb)
      have BXI := Lib.hid (BI.out.trans (hb.mono BI.out.size))
      have ZXI := Lib.hid (show Below mbI wI xI ∧ mbI < xI.heap.size from ⟨hb.mono (Nat.le_of_lt SI.out.lt), Nat.lt_of_lt_of_le SI.out.lt hb.size⟩)
      have WBI := Lib.hid (show ∀ x ∈ lbI, (Lit.int .i64 x).wf = true from fun x hx => (FI.out.fin (by omega)).wf x (rp_nds ((hmem x).1 hx)))
      clear hris hmem hrow hb hr
      go_wp2_with fail
      go_loopw [66] (fun s wr => ∃ k2 : Nat, s = .int .i64 k2 ∧ k2 ≤ lbI.length ∧ SeenM wr mbI k2 (fun y => y ∈ lbI.take k2) ∧ Turn (fun q => q = mbI) xI wr) (fun s _ => 1000 - (RowKit.intOf s).toNat)
      case atStart => exact ⟨0, rfl, Nat.zero_le _, SXI.out.to (fun y => by simp), Turn.refl _ _⟩
      case round =>
       obtain ⟨k2, rfl, hk2, hse, htu⟩ := hrel
       rename World => Y
       have SE := Lib.hid hse
       have TU := Lib.hid htu
       clear hse htu
       by_cases hlt2 : k2 < lbI.length
       · obtain ⟨bn, on, rfl, hbn, hcell⟩ := int_cells RBI.out (by omega)
         have hx := (World.cell?_of_block (TU.out.block bn hbn (HABI.out _ rfl))).trans (hcell k2 hlt2)
         rw [gd_get hlt2] at hx
         have hts := List.take_add_one (l := lbI) (i := k2)
         rw [List.getElem?_eq_getElem hlt2] at hts
         have TS := Lib.hid hts
         have XW := Lib.hid (WBI.out _ (List.getElem_mem hlt2))
         have CX := Lib.hid hx
         clear hx hts hcell
         generalize lbI[k2] = x at TS XW CX
         have kx := CX.out
         obtain ⟨f, hf1, _, hf3⟩ := SE.out.look
         have F1 := Lib.hid hf1
         have F3' := Lib.hid hf3
         clear hf1 hf3
         go_wp2_with (at_mapUpdate; refine wpList_putV _ rfl _ _ _ 43 rfl 4 Try.underlying43 rfl F1.out (by simp only [maxLen]; omega) x rfl XW.out (.bool true) rfl ?_
                      intro wa hma hga hsa
                      have MA := Lib.hid hma
                      have TA := Lib.hid (turn_grown hga)
                      clear hma hga hsa)
         go_roundw
         case rel =>
           refine ⟨k2 + 1, by go_num, hlt2, (seenM_put MA.out F3'.out).to fun y => ?_, TU.out.trans TA.out (fun _ _ h => h)⟩
           rw [TS.out, List.mem_append]; simp
         case measure => simp [RowKit.intOf]; omega
       · obtain rfl : k2 = lbI.length := by omega
         have SE2 := Lib.hid (show SeenM Y mbI lbI.length (fun y => y ∈ lbI) from SE.out.to fun y => by rw [List.take_length])
         have BY := Lib.hid (show Below W.heap.size W Y from BXI.out.trans (TU.out.below (fun q hq h => by have := HMBI.out; omega) BXI.out.size))
         have EY := Lib.hid (show EdgM Y Y.heap.size a0 k l0 from ((HH.out.below BY.out).more BY.out.size))
         have FT := Lib.hid TU.out
         go_wp2_with fail
         refine (reachG_any (c := cap0) (fr := a2) Y EY.out (by omega) WF.out).mono ?_
         rintro e yI ⟨vlI, llI, rfl, hris, hmem, hrow, hb⟩
         obtain ⟨AlI, clI, rfl, hr, _, _⟩ := own_slice hrow
         have hll : llI.length ≤ 400 := by have := ris_len hris (fun x hx => rp_nds ((hmem x).1 hx)); rw [HH.out.elen] at this; omega
         have RLI := Lib.hid hr
         have SYI := Lib.hid (SE2.out.here (hb.block _ SE2.out.lt))
         have WLI := Lib.hid (show ∀ x ∈ llI, (Lit.int .i64 x).wf = true ∧ x ∈ lbI from fun x hx => ⟨(EY.out.fin (by omega)).wf x (rp_nds ((hmem x).1 hx)), (MBI.out x).2 (by rw [HEB.out]; exact ((hmem x).1 hx).mono fun a b hab => nxt_more hab)⟩)
         have BYI := Lib.hid (BY.out.trans (hb.mono BY.out.size))
         have FYI := Lib.hid (show EdgM yI yI.heap.size A5 (k + len1) (l0 ++ l1) from ((FMI.out.below (w' := yI) (ZXI.out.1.trans ((FT.out.below (fun q hq h => by omega) (Nat.le_of_lt ZXI.out.2)).trans (hb.mono (Nat.le_trans (Nat.le_of_lt ZXI.out.2) FT.out.size))))).more (by have := ZXI.out.2; have := FT.out.size; have := hb.size; omega)))
         have EYI := Lib.hid (show EdgM yI yI.heap.size a0 k l0 from (HH.out.below BYI.out).more BYI.out.size)
         clear hris hmem hrow hb hr
         obtain ⟨f, hf1, hf2, _⟩ := SYI.out.look
         have F1 := Lib.hid hf1
         have FV := Lib.hid hf2
         clear hf1 hf2
         go_wp2_with fail
         go_loopw [77] (fun s wr => ∃ k3 : Nat, s = .int .i64 k3 ∧ k3 ≤ llI.length ∧ yI = wr) (fun s _ => 1000 - (RowKit.intOf s).toNat)
         case atStart => exact ⟨0, rfl, Nat.zero_le _, rfl⟩
         case round =>
          obtain ⟨k3, rfl, hk3, rfl⟩ := hrel
          by_cases hlt3 : k3 < llI.length
          · obtain ⟨bn, on, rfl, hbn, hcell⟩ := int_cells RLI.out (by omega)
            have hx := hcell k3 hlt3
            rw [gd_get hlt3] at hx
            have WX := Lib.hid (WLI.out _ (List.getElem_mem hlt3))
            have CX := Lib.hid hx
            clear hx hcell
            generalize llI[k3] = x at WX CX
            have kx := CX.out
            go_wp2_with (at_lookup; refine wpList_lookV _ rfl _ _ 43 rfl 4 Try.underlying43 _ (zeroBool _) rfl F1.out x rfl WX.out.1 (.bool true) (FV.out x WX.out.2) ?_)
            go_roundw
            case rel => exact ⟨k3 + 1, by go_num, hlt3, by first | rfl | trivial⟩
            case measure => simp [RowKit.intOf]; omega
          · go_wp2_with fail
            have hmO := seen_made yI
            have SO := Lib.hid hmO
            have EO := Lib.hid (EYI.out.next (Joins.below_alloc1 yI (.map #[] 0)))
            have FO := Lib.hid (FYI.out.next (Joins.below_alloc1 yI (.map #[] 0)))
            have BO := Lib.hid (BYI.out.alloc BYI.out.size (.map #[] 0))
            obtain ⟨mbO, hmbO⟩ : ∃ mbO, mbO = yI.heap.size := ⟨_, rfl⟩
            have FMO := Lib.hid (FYI.out.below (Joins.below_alloc1 yI (.map #[] 0)))
            have HMBO := Lib.hid (show W.heap.size ≤ mbO from by have := BYI.out.size; omega)
            rw [← hmbO] at SO FMO ⊢
            clear hmO hmbO
            generalize yI.alloc (.map #[] 0) = wO at SO EO FO BO FMO ⊢
            refine (circlesG_any (c := c5) wO FO.out (by omega)).mono ?_
            rintro e xO ⟨vbO, lbO, rfl, hris, hmem, hrow, hb⟩
            obtain ⟨AbO, cbO, rfl, hr, _, hAbO⟩ := own_slice hrow
            have hlb : lbO.length ≤ 400 := by have := ris_len hris (fun x hx => rp_nds ((hmem x).1 hx)); rw [HEB.out, List.length_append, HH.out.elen, HH'.out.elen] at this; omega
            have RBO := Lib.hid hr
            have MBO := Lib.hid hmem
            have HABO := Lib.hid (show ∀ ad, AbO = some ad → ad.block ≠ mbO from fun ad he h => by have := hAbO ad he; have := SO.out.lt; omega)
            have SXO := Lib.hid (SO.out.here (hb.block _ SO.out.lt))
            have EXO := Lib.hid (EO.out.next hb)
            have FXO := Lib.hid (FO.out.next hb)
            have BXO := Lib.hid (BO.out.trans (hb.mono BO.out.size))
            have ZXO := Lib.hid (show Below mbO wO xO ∧ mbO < xO.heap.size from ⟨hb.mono (Nat.le_of_lt SO.out.lt), Nat.lt_of_lt_of_le SO.out.lt hb.size⟩)
            have WBO := Lib.hid (show ∀ x ∈ lbO, (Lit.int .i64 x).wf = true from fun x hx => (FO.out.fin (by omega)).wf x (rp_nds ((hmem x).1 hx)))
            clear hris hmem hrow hb hr
            go_wp2_with fail
            go_loopw [90] (fun s wr => ∃ k2 : Nat, s = .int .i64 k2 ∧ k2 ≤ lbO.length ∧ SeenM wr mbO k2 (fun y => y ∈ lbO.take k2) ∧ Turn (fun q => q = mbO) xO wr) (fun s _ => 1000 - (RowKit.intOf s).toNat)
            case atStart => exact ⟨0, rfl, Nat.zero_le _, SXO.out.to (fun y => by simp), Turn.refl _ _⟩
            case round =>
             obtain ⟨k2, rfl, hk2, hse, htu⟩ := hrel
             rename World => Y
             have SE := Lib.hid hse
             have TU := Lib.hid htu
             clear hse htu
             by_cases hlt2 : k2 < lbO.length
             · obtain ⟨bn, on, rfl, hbn, hcell⟩ := int_cells RBO.out (by omega)
               have hx := (World.cell?_of_block (TU.out.block bn hbn (HABO.out _ rfl))).trans (hcell k2 hlt2)
               rw [gd_get hlt2] at hx
               have hts := List.take_add_one (l := lbO) (i := k2)
               rw [List.getElem?_eq_getElem hlt2] at hts
               have TS := Lib.hid hts
               have XW := Lib.hid (WBO.out _ (List.getElem_mem hlt2))
               have CX := Lib.hid hx
               clear hx hts hcell
               generalize lbO[k2] = x at TS XW CX
               have kx := CX.out
               obtain ⟨f, hf1, _, hf3⟩ := SE.out.look
               have F1 := Lib.hid hf1
               have F3' := Lib.hid hf3
               clear hf1 hf3
               go_wp2_with (at_mapUpdate; refine wpList_putV _ rfl _ _ _ 43 rfl 4 Try.underlying43 rfl F1.out (by simp only [maxLen]; omega) x rfl XW.out (.bool true) rfl ?_
                            intro wa hma hga hsa
                            have MA := Lib.hid hma
                            have TA := Lib.hid (turn_grown hga)
                            clear hma hga hsa)
               go_roundw
               case rel =>
                 refine ⟨k2 + 1, by go_num, hlt2, (seenM_put MA.out F3'.out).to fun y => ?_, TU.out.trans TA.out (fun _ _ h => h)⟩
                 rw [TS.out, List.mem_append]; simp
               case measure => simp [RowKit.intOf]; omega
             · obtain rfl : k2 = lbO.length := by omega
               have SE2 := Lib.hid (show SeenM Y mbO lbO.length (fun y => y ∈ lbO) from SE.out.to fun y => by rw [List.take_length])
               have BY := Lib.hid (show Below W.heap.size W Y from BXO.out.trans (TU.out.below (fun q hq h => by have := HMBO.out; omega) BXO.out.size))
               have EY := Lib.hid (show EdgM Y Y.heap.size a0 k l0 from ((HH.out.below BY.out).more BY.out.size))
               have FT := Lib.hid TU.out
               go_wp2_with fail
               refine (circlesG_any (c := cap0) Y EY.out (by omega)).mono ?_
               rintro e yO ⟨vlO, llO, rfl, hris, hmem, hrow, hb⟩
               obtain ⟨AlO, clO, rfl, hr, _, _⟩ := own_slice hrow
               have hll : llO.length ≤ 400 := by have := ris_len hris (fun x hx => rp_nds ((hmem x).1 hx)); rw [HH.out.elen] at this; omega
               have RLO := Lib.hid hr
               have SYO := Lib.hid (SE2.out.here (hb.block _ SE2.out.lt))
               have WLO := Lib.hid (show ∀ x ∈ llO, (Lit.int .i64 x).wf = true ∧ x ∈ lbO from fun x hx => ⟨(EY.out.fin (by omega)).wf x (rp_nds ((hmem x).1 hx)), (MBO.out x).2 (by rw [HEB.out]; exact ((hmem x).1 hx).mono fun a b hab => nxt_more hab)⟩)
               have BYO := Lib.hid (BY.out.trans (hb.mono BY.out.size))
               have FYO := Lib.hid (show EdgM yO yO.heap.size A5 (k + len1) (l0 ++ l1) from ((FMO.out.below (w' := yO) (ZXO.out.1.trans ((FT.out.below (fun q hq h => by omega) (Nat.le_of_lt ZXO.out.2)).trans (hb.mono (Nat.le_trans (Nat.le_of_lt ZXO.out.2) FT.out.size))))).more (by have := ZXO.out.2; have := FT.out.size; have := hb.size; omega)))
               have EYO := Lib.hid (show EdgM yO yO.heap.size a0 k l0 from (HH.out.below BYO.out).more BYO.out.size)
               clear hris hmem hrow hb hr
               obtain ⟨f, hf1, hf2, _⟩ := SYO.out.look
               have F1 := Lib.hid hf1
               have FV := Lib.hid hf2
               clear hf1 hf2
               go_wp2_with fail
               go_loopw [100] (fun s wr => ∃ k3 : Nat, s = .int .i64 k3 ∧ k3 ≤ llO.length ∧ yO = wr) (fun s _ => 1000 - (RowKit.intOf s).toNat)
               case atStart => exact ⟨0, rfl, Nat.zero_le _, rfl⟩
               case round =>
                obtain ⟨k3, rfl, hk3, rfl⟩ := hrel
                by_cases hlt3 : k3 < llO.length
                · obtain ⟨bn, on, rfl, hbn, hcell⟩ := int_cells RLO.out (by omega)
                  have hx := hcell k3 hlt3
                  rw [gd_get hlt3] at hx
                  have WX := Lib.hid (WLO.out _ (List.getElem_mem hlt3))
                  have CX := Lib.hid hx
                  clear hx hcell
                  generalize llO[k3] = x at WX CX
                  have kx := CX.out
                  go_wp2_with (at_lookup; refine wpList_lookV _ rfl _ _ 43 rfl 4 Try.underlying43 _ (zeroBool _) rfl F1.out x rfl WX.out.1 (.bool true) (FV.out x WX.out.2) ?_)
                  go_roundw
                  case rel => exact ⟨k3 + 1, by go_num, hlt3, by first | rfl | trivial⟩
                  case measure => simp [RowKit.intOf]; omega
                · go_wp2_with fail
                  go_ret
                  exact ⟨rfl, BYO.out⟩
end Go.Proofs.Ytfaciajnopkjlaa
