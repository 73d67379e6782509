/- The walk of LeaseActs. -/
import Derived.Test.YthbjcaenkgjfaaaLaw6N
namespace Go.Proofs.Ythbjcaenkgjfaaa
open Go.RowKit
set_option linter.unusedVariables false
set_option linter.unusedSimpArgs false

theorem tri_cells {X : World} {b o : Nat} {x y z : Int} (h0 : X.cell? ⟨b, o, none⟩ = some (.int .i64 x)) (h1 : X.cell? ⟨b, o + 1, none⟩ = some (.int .i64 y)) (h2 : X.cell? ⟨b, o + 2, none⟩ = some (.int .i64 z)) : ∀ j v, [Value.int .i64 x, .int .i64 y, .int .i64 z][j]? = some v → X.cell? ((⟨b, o, none⟩ : Addr).add j) = some v := by
  intro j v hj
  rcases j with _ | _ | _ | j
  · simp at hj; subst hj; exact h0
  · simp at hj; subst hj; exact h1
  · simp at hj; subst hj; exact h2
  · simp at hj
def rnV (k now : Int) : Value := if rnOk k now then .nilIface else errno 1
def enV (k : Int) (L : List IP) : Value := match atL k L with | some _ => .nilIface | none => errno 10
theorem rn_ok {k now : Int} : rnOk k now = true ↔ 1 ≤ k ∧ isT now = true := by unfold rnOk; simp
theorem code_rn (k now : Int) (w : World) : Calls Try.prog 9 #[rnV k now] w fun e w' => e = .returned (.int .i64 (rnC k now)) ∧ w = w' := by
  unfold rnV rnC
  cases h : rnOk k now
  · exact code_errno 1 (by decide) w
  · exact code_nil w
theorem code_en (k : Int) (L : List IP) (w : World) : Calls Try.prog 9 #[enV k L] w fun e w' => e = .returned (.int .i64 (enC k L)) ∧ w = w' := by
  unfold enV enC
  cases h : atL k L
  · exact code_errno 10 (by decide) w
  · exact code_nil w
theorem ok_rn {span k now : Int} {L : List IP} (h : LsOk span L) (hk : k ≤ 9223372036854775807) : LsOk span (rnL k now L) := by
  unfold rnL
  split
  · rename_i hr
    have := rn_ok.1 hr
    exact h.ren ⟨this.1, hk⟩ this.2
  · exact h
theorem renew_any {g b n : Nat} {span : Int} {L : List IP} (k now : Int) (hk : k ≤ 9223372036854775807) (w : World) (h : Lse w g b n span L) (hm : n < maxLen) :
    Calls Try.prog 16 #[.pointer (some ⟨g, 0, none⟩), .int .i64 k, .int .i64 now] w fun e w' => e = .returned (rnV k now) ∧ Lse w' g b (n + 1) span (rnL k now L) ∧ Turn (fun x => x = b) w w' := by
  unfold rnV rnL
  cases hr : rnOk k now
  · have hno : ¬ (1 ≤ k ∧ isT now = true) := fun e => by rw [rn_ok.2 e] at hr; cases hr
    refine (renew_bad g k now hno w).mono ?_
    rintro e w' ⟨rfl, rfl⟩
    exact ⟨rfl, ⟨h.box, World.ownsMap.mono h.map (Nat.le_succ _), h.ok⟩, Turn.refl _ _⟩
  · have := rn_ok.1 hr
    exact renew_ok k now ⟨this.1, hk⟩ this.2 w h hm
theorem endL_any {g b n : Nat} {span : Int} {L : List IP} (k : Int) (hk : (Lit.int .i64 k).wf = true) (w : World) (h : Lse w g b n span L) :
    Calls Try.prog 18 #[.pointer (some ⟨g, 0, none⟩), .int .i64 k] w fun e w' => e = .returned (enV k L) ∧ Lse w' g b n span (delL k L) ∧ Turn (fun x => x = b) w w' := by
  unfold enV
  cases hs : atL k L with
  | none =>
    refine (endL_none k hk hs w h).mono ?_
    rintro e w' ⟨rfl, rfl⟩
    rw [del_none hs]
    exact ⟨rfl, h, Turn.refl _ _⟩
  | some s => exact endL_ok k hk hs w h
theorem rnL_length (k now : Int) (L : List IP) : (rnL k now L).length ≤ L.length + 1 := by
  unfold rnL
  split
  · exact put_length _ _ _
  · omega
theorem delL_length (k : Int) (L : List IP) : (delL k L).length ≤ L.length := List.length_filter_le _ _
theorem Lse.length {w : World} {g b n : Nat} {span : Int} {L : List IP} (h : Lse w g b n span L) : L.length ≤ n := MapI.size_le h.map
theorem since_mem {span : Int} {L : List IP} (h : LsOk span L) {i : Nat} (hi : i < L.length) : sinceV L[i].1 L = .tuple #[.int .i64 L[i].2, .nilIface] := by
  unfold sinceV
  rw [mem_at h.ris (List.getElem_mem hi)]
theorem i64s_succ (L : List IP) {i : Nat} (hi : i < L.length) : i64s ((L.take (i + 1)).map (·.1)) = i64s ((L.take i).map (·.1)) ++ i64s [L[i].1] := by
  rw [List.take_add_one, List.getElem?_eq_getElem hi, Option.toList_some, List.map_append]
  unfold i64s
  rw [List.map_append]
  rfl

set_option maxRecDepth 100000 in
set_option maxHeartbeats 16000000 in
theorem leaseActs_bad (s now id : Int) (A : Option Addr) (n c : Nat) (hs : s < 1 ∨ 1000 < s) (w : World) :
    Calls Try.prog 3 #[.int .i64 s, .slice A n c, .int .i64 now, .int .i64 id] w fun e w' => e = .returned (.bool true) ∧ Below w.heap.size w w' := by
  have HS := Lib.hid hs
  by_cases hn : 200 < n
  · have d0 : decide ((200 : Int) < (n : Int)) = true := by simp; omega
    clear hs
    go_enter Try.func3, Try.ntmps3
    go_wp2_with fail
    refine (leaseAlive _).mono ?_
    rintro e w0 ⟨rfl, hb0⟩
    go_wp2_with fail
    go_ret
    exact ⟨rfl, hb0⟩
  · have d0 : decide ((200 : Int) < (n : Int)) = false := by simp; omega
    by_cases h1 : s < 1
    · have d1 : decide (s < 1) = true := by simpa using h1
      clear hs
      go_enter Try.func3, Try.ntmps3
      go_wp2_with fail
      refine (leaseAlive _).mono ?_
      rintro e w0 ⟨rfl, hb0⟩
      go_wp2_with (first
        | (go_at_call 8; refine (newL_bad _ HS.out _).mono ?_; rintro e w' ⟨rfl, rfl⟩)
        | (go_at_call 9; refine (code_errno 2 (by decide) _).mono ?_; rintro e w' ⟨rfl, rfl⟩))
      go_ret
      exact ⟨rfl, hb0⟩
    · have d1 : decide (s < 1) = false := by simpa using h1
      have d2 : decide (1000 < s) = true := by simp; omega
      clear hs
      go_enter Try.func3, Try.ntmps3
      go_wp2_with fail
      refine (leaseAlive _).mono ?_
      rintro e w0 ⟨rfl, hb0⟩
      go_wp2_with (first
        | (go_at_call 8; refine (newL_bad _ HS.out _).mono ?_; rintro e w' ⟨rfl, rfl⟩)
        | (go_at_call 9; refine (code_errno 2 (by decide) _).mono ?_; rintro e w' ⟨rfl, rfl⟩))
      go_ret
      exact ⟨rfl, hb0⟩

set_option maxRecDepth 100000 in
set_option maxHeartbeats 16000000 in
theorem leaseActs_ok (s now id : Int) (A : Option Addr) (n c : Nat) (l : List (List Int)) (hs : 1 ≤ s ∧ s ≤ 1000) (hid : (Lit.int .i64 id).wf = true) (w : World) (hl : l.length = n) (ha : ∀ x ∈ l, x.length = 3) (hw : ∀ x ∈ l, ∀ y ∈ x, (Lit.int .i64 y).wf = true) (hr : Reads w w.heap.size 3 A n (ints l.flatten)) :
    Calls Try.prog 3 #[.int .i64 s, .slice A n c, .int .i64 now, .int .i64 id] w fun e w' => e = .returned (.bool true) ∧ Below w.heap.size w w' := by
  have hnn := fun W => run_neq_nil_nil (P := Try.prog) W 26 Try.underlying26
  have hen := fun W => run_eql_nil_nil (P := Try.prog) W 26 Try.underlying26
  have H := Lib.hid hr
  have HL := Lib.hid hl
  have HA := Lib.hid ha
  have HW := Lib.hid hw
  have HI := Lib.hid hid
  have d1 : decide (s < 1) = false := by simp; omega
  have d2 : decide (1000 < s) = false := by simp; omega
  obtain ⟨i0, hi0, hz0, hz1, hz2⟩ := info_parts info_int
  clear hr hl ha hw hid
  by_cases hn : 200 < n
  · have d0 : decide ((200 : Int) < (n : Int)) = true := by simp; omega
    go_enter Try.func3, Try.ntmps3
    go_wp2_with fail
    refine (leaseAlive _).mono ?_
    rintro e w0 ⟨rfl, hb0⟩
    go_wp2_with fail
    go_ret
    exact ⟨rfl, hb0⟩
  · have d0 : decide ((200 : Int) < (n : Int)) = false := by simp; omega
    go_enter Try.func3, Try.ntmps3
    go_wp2_with fail
    refine (leaseAlive _).mono ?_
    rintro e w0 ⟨rfl, hb0⟩
    have B0 := Lib.hid hb0
    clear hb0
    go_wp2_with fail
    refine (newL_ok s hs _).mono ?_
    rintro e w1 ⟨rfl, hl1, hb1⟩
    have L1 := Lib.hid hl1
    have B1 := Lib.hid (stepB B0.out hb1)
    have hgb : w.heap.size ≤ w0.heap.size := B0.out.size
    clear hl1 hb1
    generalize w0.heap.size = b at L1 hgb ⊢
    go_wp2_with fail
    go_loopw [11, 12] (fun v i wr => ∃ (m nn : Nat) (L : List IP) (A' : Option Addr) (c' : Nat), m ≤ n ∧ i = .int .i64 m ∧ v = .slice A' L.length c' ∧ Reads wr wr.heap.size 2 A' L.length (prs L) ∧ Lse wr (b + 1) b nn s L ∧ nn ≤ m ∧ Below w.heap.size w wr) (fun _ i _ => n + 1 - (RowKit.intOf i).toNat)
    case atStart => exact ⟨0, 0, [], none, 0, Nat.zero_le _, rfl, rfl, Reads.none_, L1.out, Nat.le_refl _, B1.out⟩
    case round =>
      rename World => X
      obtain ⟨m, nn, L, A', c', hm, rfl, rfl, hrv, hls, hnm, hbel⟩ := hrel
      have RV := Lib.hid hrv
      have LS := Lib.hid hls
      have HX := Lib.hid hbel
      have hLn := hls.length
      clear hrv hls hbel
      have d3 : decide ((m : Int) ≤ (n : Int)) = true := by simp; omega
      go_wp2_with fail
      go_loopw [13, 14] (fun u i W => ∃ j : Nat, j ≤ L.length ∧ i = .int .i64 j ∧ W.ownsRow X.heap.size 3 1 u j (i64s ((L.take j).map (·.1))) ∧ Below X.heap.size X W) (fun _ i _ => L.length - (RowKit.intOf i).toNat)
      case atStart => exact ⟨0, Nat.zero_le _, rfl, World.ownsRow_nil _ _ _ _, Below.refl _ _⟩
      case round =>
        rename World => Y
        obtain ⟨j, hj, rfl, hrow, hby⟩ := hrel
        have HR := Lib.hid hrow
        have HY := Lib.hid hby
        clear hrow hby
        by_cases hlt : j < L.length
        · have d4 : decide ((j : Int) < (L.length : Int)) = true := by simp; omega
          obtain ⟨vb, voff, rfl, hvb, hc1, hc2⟩ := (RV.out.below HY.out).pair_at hlt
          have HSI := Lib.hid (since_mem LS.out.ok hlt)
          have HSU := Lib.hid (i64s_succ L hlt)
          have hid1 := LS.out.ok.ids _ (List.getElem_mem hlt)
          generalize L[j] = p at hc1 hc2 HSI HSU hid1
          obtain ⟨x, t⟩ := p
          simp only at hc1 hc2 hid1
          have HWX := Lib.hid (show (Lit.int .i64 x).wf = true from WalkArith.wf_i64 (by omega))
          go_wp2_with (at_builtin; refine wpList_append_wide _ rfl (.tmp 63) (.tmp 69) _ rfl X.heap.size 3 i0 _ 1 8 Try.underlying31 hi0 hz0 hz1 hz2 rfl (by omega) _ j (i64s ((L.take j).map (·.1))) rfl (HR.out.alloc _) _ (some ⟨_, 0, none⟩) 1 1 (i64s [x]) rfl (reads_newInt _ _ x) (i64s_one _) (by simp only [maxLen]; omega) (by omega) (by have := HY.out.size; simp; omega) ?_; intro v9 w9 hown9 hg9; have O9 := Lib.hid hown9; have Y9 := Lib.hid (below_own (HY.out.alloc HY.out.size _) hg9 (HR.out.alloc _) (Nat.le_refl _) (by have := HY.out.size; simp; omega)); clear hown9 hg9; have k1 := (Y9.out.cell (p := ⟨vb, voff + j * 2, none⟩) hvb).trans ((HY.out.cell (p := ⟨vb, voff + j * 2, none⟩) hvb).symm.trans hc1); have k2 := (Y9.out.cell (p := ⟨vb, voff + j * 2 + 1, none⟩) hvb).trans ((HY.out.cell (p := ⟨vb, voff + j * 2 + 1, none⟩) hvb).symm.trans hc2))
          refine (since_any x HWX.out _ (LS.out.step Y9.out)).mono ?_
          rw [HSI.out]
          rintro e w' ⟨rfl, rfl⟩
          go_wp2_with fail
          go_roundw
          case rel => exact ⟨j + 1, by omega, by go_num, by rw [HSU.out]; exact O9.out, Y9.out⟩
          case measure => simp [RowKit.intOf]; omega
        · obtain rfl : j = L.length := by omega
          have d4 : decide ((L.length : Int) < (L.length : Int)) = false := by simp
          rw [List.take_of_length_le (Nat.le_refl _)] at HR
          obtain ⟨Ai, ci, rfl, hri, _⟩ := own_slice HR.out
          have RI := Lib.hid hri
          have LY := Lib.hid (LS.out.step HY.out)
          have BY := Lib.hid (stepB HX.out HY.out)
          have VY := Lib.hid ((RV.out.below HY.out).more HY.out.size)
          clear HR hri
          go_wp2_with fail
          refine (all_s _ LY.out (by omega)).mono ?_
          rw [List.length_map]
          rintro e w2 ⟨A2, c2, rfl, hr2, hb2⟩
          have R2 := Lib.hid hr2
          have I2 := Lib.hid ((RI.out.below hb2).more hb2.size)
          have L2 := Lib.hid (LY.out.step hb2)
          have B2 := Lib.hid (stepB BY.out hb2)
          have V2 := Lib.hid ((VY.out.below hb2).more hb2.size)
          clear hr2 hb2
          go_wp2_with fail
          refine (ints_same _ _ L.length _ _ _ _ (L.map (·.1)) _ (by omega) R2.out I2.out).mono ?_
          rintro e w3 ⟨rfl, q3, rfl⟩
          have L3 := Lib.hid (L2.out.step (w' := w2.drewN q3) (below_drewN (Below.refl _ _) _))
          have B3 := Lib.hid (below_drewN B2.out q3)
          have V3 := Lib.hid (V2.out.drewN q3)
          have hV3 : (w2.drewN q3).heap.size = w2.heap.size := rfl
          rw [← hV3] at V3
          generalize w2.drewN q3 = w3 at L3 B3 V3 ⊢
          go_wp2_with fail
          refine (due_s now _ L3.out (by omega)).mono ?_
          rintro e w4 ⟨A4, c4, rfl, hr4, hb4⟩
          have R4 := Lib.hid hr4
          have L4 := Lib.hid (L3.out.step hb4)
          have B4 := Lib.hid (stepB B3.out hb4)
          have V4 := Lib.hid ((V3.out.below hb4).more hb4.size)
          clear hr4 hb4
          go_wp2_with fail
          refine (refDue_s LS.out.ok (by omega) _ _ _ _ now _ V4.out (Nat.le_refl _)).mono ?_
          rintro e w5 ⟨A5, c5, rfl, hr5, hb5⟩
          have R5 := Lib.hid hr5
          have S5 := Lib.hid ((R4.out.below hb5).more hb5.size)
          have L5 := Lib.hid (L4.out.step hb5)
          have B5 := Lib.hid (stepB B4.out hb5)
          have V5 := Lib.hid ((V4.out.below hb5).more hb5.size)
          have hil : (dueIds s now L).length ≤ 1000 := by
            unfold dueIds dueL
            split
            · rw [List.length_map]; exact Nat.le_trans (List.length_filter_le _ _) (by omega)
            · simp
          clear hr5 hb5
          generalize dueIds s now L = ids at R5 S5 hil ⊢
          go_wp2_with fail
          refine (ints_same _ _ ids.length _ _ _ _ ids _ (by omega) S5.out R5.out).mono ?_
          rintro e w6 ⟨rfl, q6, rfl⟩
          have L6 := Lib.hid (L5.out.step (w' := w5.drewN q6) (below_drewN (Below.refl _ _) _))
          have B6 := Lib.hid (below_drewN B5.out q6)
          have V6 := Lib.hid (V5.out.drewN q6)
          have hV6 : (w5.drewN q6).heap.size = w5.heap.size := rfl
          rw [← hV6] at V6
          generalize w5.drewN q6 = w6 at L6 B6 V6 ⊢
          clear hil
          by_cases hmn : m < n
          · have e1 : ((m : Int) == (n : Int)) = false := by simp; omega
            obtain ⟨ab, aoff, rfl, hab, hac, hal⟩ := (H.out.below B6.out).flat_at HA.out HL.out (by omega) hmn
            have hxw : ∀ k, k < 3 → -9223372036854775808 ≤ fld (l.getD m []) k ∧ fld (l.getD m []) k ≤ 9223372036854775807 := fun k hk => by
              have hm' : m < l.length := by rw [HL.out]; exact hmn
              have hmem : l.getD m [] ∈ l := by simp [List.getD, hm']
              have hk' : k < (l.getD m []).length := by rw [hal]; exact hk
              have h5 := HW.out _ hmem (fld (l.getD m []) k) (List.mem_of_getElem? (fld_get hk'))
              exact bounds_i64 h5
            have ac0 := hac 0 (by omega)
            have ac1 := hac 1 (by omega)
            have ac2 := hac 2 (by omega)
            have w0b := hxw 0 (by omega)
            have w1b := hxw 1 (by omega)
            have w2b := hxw 2 (by omega)
            generalize fld (l.getD m []) 0 = K at ac0 w0b
            generalize fld (l.getD m []) 1 = I at ac1 w1b
            generalize fld (l.getD m []) 2 = T at ac2 w2b
            have HCC := Lib.hid (tri_cells (show w6.cell? ⟨ab, aoff + m * 3, none⟩ = _ from ac0) ac1 ac2)
            have HWI := Lib.hid (show (Lit.int .i64 I).wf = true from WalkArith.wf_i64 (by omega))
            clear hac hal hxw ac0 ac1 ac2
            by_cases hK : K = 0
            · have e2 : (K == 0) = true := by simpa using hK
              clear hK
              go_wp2_with (refine wpList_load_cells rfl 41 (.tmp 114) rfl ⟨ab, aoff + m * 3, none⟩ rfl [.int .i64 K, .int .i64 I, .int .i64 T] _ HCC.out Try.underlying41 rfl (by kernel_rfl) ?_)
              have hB7 : Below w6.heap.size w6 (w6.alloc (.cells #[.int .i64 K, .int .i64 I, .int .i64 T] 41)) := Joins.below_alloc1 w6 _
              have BA := Lib.hid (Blk.new w6 41 #[.int .i64 K, .int .i64 I, .int .i64 T])
              have L7 := Lib.hid (L6.out.step hB7)
              have B7 := Lib.hid (stepB B6.out hB7)
              have V7 := Lib.hid (V6.out.below hB7)
              have hsz7 := hB7.size
              clear hB7
              generalize w6.alloc (.cells #[.int .i64 K, .int .i64 I, .int .i64 T] 41) = w7 at BA L7 B7 V7 hsz7 ⊢
              refine (refRenew_any LS.out.ok.ris (by omega) _ _ _ _ I T _ V7.out hsz7).mono ?_
              rintro e w8 ⟨A8, n8, c8, rfl, hr8, hb8⟩
              obtain rfl : n8 = _ := hr8.prs_len.symm
              have R8 := Lib.hid hr8
              have L8 := Lib.hid (L7.out.step hb8)
              have B8 := Lib.hid (stepB B7.out hb8)
              have A8k := BA.out.here hb8
              have a0 : w8.cell? ⟨w6.heap.size, 0, none⟩ = _ := A8k.cell 0
              have a1 : w8.cell? ⟨w6.heap.size, 1, none⟩ = _ := A8k.cell 1
              have a2 : w8.cell? ⟨w6.heap.size, 2, none⟩ = _ := A8k.cell 2
              simp only [List.getElem?_toArray, List.getElem?_cons_zero, List.getElem?_cons_succ] at a0 a1 a2
              clear hr8 hb8 A8k
              generalize hcd : rnC I T = cd
              have HCD := Lib.hid hcd
              clear hcd
              go_wp2_with fail
              refine (renew_any I T (by omega) _ L8.out (by simp only [maxLen]; omega)).mono ?_
              rintro e w9 ⟨rfl, hl9, ht9⟩
              have L9 := Lib.hid hl9
              have R9 := Lib.hid ((R8.out.off_map (by omega) (Nat.le_refl _) L8.out.map ht9).more ht9.size)
              have B9 := Lib.hid (B8.out.trans (ht9.below (B := w.heap.size) (fun k hk e => by omega) B8.out.size))
              clear hl9 ht9
              go_wp2_with fail
              refine (code_rn I T _).mono ?_
              rw [HCD.out]
              rintro e w' ⟨rfl, rfl⟩
              go_wp2_with fail
              go_roundw
              case rel => exact ⟨m + 1, _, rnL I T L, A8, c8, by omega, by go_num, rfl, R9.out, L9.out, by omega, B9.out⟩
              case measure => simp [RowKit.intOf]; omega
            · have e2 : (K == 0) = false := by simpa using hK
              clear hK
              go_wp2_with (refine wpList_load_cells rfl 41 (.tmp 114) rfl ⟨ab, aoff + m * 3, none⟩ rfl [.int .i64 K, .int .i64 I, .int .i64 T] _ HCC.out Try.underlying41 rfl (by kernel_rfl) ?_)
              have hB7 : Below w6.heap.size w6 (w6.alloc (.cells #[.int .i64 K, .int .i64 I, .int .i64 T] 41)) := Joins.below_alloc1 w6 _
              have BA := Lib.hid (Blk.new w6 41 #[.int .i64 K, .int .i64 I, .int .i64 T])
              have L7 := Lib.hid (L6.out.step hB7)
              have B7 := Lib.hid (stepB B6.out hB7)
              have V7 := Lib.hid (V6.out.below hB7)
              have hsz7 := hB7.size
              clear hB7
              generalize w6.alloc (.cells #[.int .i64 K, .int .i64 I, .int .i64 T] 41) = w7 at BA L7 B7 V7 hsz7 ⊢
              refine (refEnd_any (by omega) _ _ _ _ I _ V7.out hsz7).mono ?_
              rintro e w8 ⟨A8, n8, c8, rfl, hr8, hb8⟩
              obtain rfl : n8 = _ := hr8.prs_len.symm
              have R8 := Lib.hid hr8
              have L8 := Lib.hid (L7.out.step hb8)
              have B8 := Lib.hid (stepB B7.out hb8)
              have A8k := BA.out.here hb8
              have a0 : w8.cell? ⟨w6.heap.size, 0, none⟩ = _ := A8k.cell 0
              have a1 : w8.cell? ⟨w6.heap.size, 1, none⟩ = _ := A8k.cell 1
              have a2 : w8.cell? ⟨w6.heap.size, 2, none⟩ = _ := A8k.cell 2
              simp only [List.getElem?_toArray, List.getElem?_cons_zero, List.getElem?_cons_succ] at a0 a1 a2
              clear hr8 hb8 A8k
              generalize hcd : enC I L = cd
              have HCD := Lib.hid hcd
              clear hcd
              go_wp2_with fail
              refine (endL_any I HWI.out _ L8.out).mono ?_
              rintro e w9 ⟨rfl, hl9, ht9⟩
              have L9 := Lib.hid hl9
              have R9 := Lib.hid ((R8.out.off_map (by omega) (Nat.le_refl _) L8.out.map ht9).more ht9.size)
              have B9 := Lib.hid (B8.out.trans (ht9.below (B := w.heap.size) (fun k hk e => by omega) B8.out.size))
              clear hl9 ht9
              go_wp2_with fail
              refine (code_en I L _).mono ?_
              rw [HCD.out]
              rintro e w' ⟨rfl, rfl⟩
              go_wp2_with fail
              go_roundw
              case rel => exact ⟨m + 1, _, delL I L, A8, c8, by omega, by go_num, rfl, R9.out, L9.out, by omega, B9.out⟩
              case measure => simp [RowKit.intOf]; omega
          · obtain rfl : m = n := by omega
            have e1 : ((m : Int) == (m : Int)) = true := by simp
            have HRI := Lib.hid LS.out.ok.ris
            go_wp2_with fail
            refine (since_any id HI.out _ L6.out).mono ?_
            cases hat : atL id L with
            | none =>
              have HN := Lib.hid hat
              rw [show sinceV id L = .tuple #[.int .i64 0, errno 10] by unfold sinceV; rw [hat]]
              clear hat
              rintro e w' ⟨rfl, rfl⟩
              go_wp2_with fail
              go_loopw [21] (fun i W => ∃ j : Nat, j ≤ L.length ∧ i = .int .i64 j ∧ W = w6) (fun i _ => L.length - (RowKit.intOf i).toNat)
              case atStart => exact ⟨0, Nat.zero_le _, rfl, rfl⟩
              case round =>
                obtain ⟨j, hj, rfl, rfl⟩ := hrel
                by_cases hlt : j < L.length
                · have d5 : decide ((j : Int) < (L.length : Int)) = true := by simp; omega
                  obtain ⟨vb, voff, rfl, hvb, hc1, hc2⟩ := V6.out.pair_at hlt
                  have hne : L[j].1 ≠ id := fun e => by
                    have := mem_at HRI.out (List.getElem_mem hlt)
                    rw [e, HN.out] at this; cases this
                  generalize L[j] = p at hc1 hc2 hne
                  obtain ⟨x, t⟩ := p
                  simp only at hc1 hc2 hne
                  have e3 : (x == id) = false := by simpa using hne
                  clear hne
                  go_wp2_with fail
                  go_roundw
                  case rel => exact ⟨j + 1, by omega, by go_num, trivial⟩
                  case measure => simp [RowKit.intOf]; omega
                · obtain rfl : j = L.length := by omega
                  have d5 : decide ((L.length : Int) < (L.length : Int)) = false := by simp
                  go_wp2_with (go_at_call 9; refine (code_errno 10 (by decide) _).mono ?_; rintro e w' ⟨rfl, rfl⟩)
                  go_ret
                  exact ⟨rfl, B6.out⟩
            | some t0 =>
              have HN := Lib.hid hat
              rw [show sinceV id L = .tuple #[.int .i64 t0, .nilIface] by unfold sinceV; rw [hat]]
              clear hat
              rintro e w' ⟨rfl, rfl⟩
              go_wp2_with fail
              go_loopw [21] (fun i W => ∃ j : Nat, j ≤ L.length ∧ i = .int .i64 j ∧ (∀ q ∈ L.take j, q.1 ≠ id) ∧ W = w6) (fun i _ => L.length - (RowKit.intOf i).toNat)
              case atStart => exact ⟨0, Nat.zero_le _, rfl, by simp, rfl⟩
              case round =>
                obtain ⟨j, hj, rfl, hall, rfl⟩ := hrel
                have HALL := Lib.hid hall
                clear hall
                by_cases hlt : j < L.length
                · have d5 : decide ((j : Int) < (L.length : Int)) = true := by simp; omega
                  obtain ⟨vb, voff, rfl, hvb, hc1, hc2⟩ := V6.out.pair_at hlt
                  have hmem := mem_at HRI.out (List.getElem_mem hlt)
                  have HNX := Lib.hid (show L[j].1 ≠ id → ∀ q ∈ L.take (j + 1), q.1 ≠ id from fun hne q hq => by
                    rw [List.take_add_one, List.getElem?_eq_getElem hlt, Option.toList_some] at hq
                    rcases List.mem_append.1 hq with hq | hq
                    · exact HALL.out q hq
                    · rw [List.mem_singleton.1 hq]; exact hne)
                  generalize L[j] = p at hc1 hc2 hmem HNX
                  obtain ⟨x, t⟩ := p
                  simp only at hc1 hc2 hmem
                  by_cases he : x = id
                  · have e3 : (x == id) = true := by simpa using he
                    have e4 : t0 = t := by rw [he, HN.out] at hmem; simpa using hmem
                    have e5 : (t0 == t) = true := by simpa using e4
                    clear he e4 hmem
                    go_wp2_with fail
                    go_ret
                    exact ⟨rfl, B6.out⟩
                  · have e3 : (x == id) = false := by simpa using he
                    have NX := Lib.hid (HNX.out he)
                    clear he hmem
                    go_wp2_with fail
                    go_roundw
                    case rel => exact ⟨j + 1, by omega, by go_num, NX.out, trivial⟩
                    case measure => simp [RowKit.intOf]; omega
                · exfalso
                  have := HALL.out
                  rw [List.take_of_length_le (by omega)] at this
                  have h9 := at_none this
                  rw [HN.out] at h9; cases h9

theorem leaseActs_walk (s now id : Int) (A : Option Addr) (n c : Nat) (l : List (List Int)) (hid : (Lit.int .i64 id).wf = true) (w : World) (hl : l.length = n) (ha : ∀ x ∈ l, x.length = 3) (hw : ∀ x ∈ l, ∀ y ∈ x, (Lit.int .i64 y).wf = true) (hr : Reads w w.heap.size 3 A n (ints l.flatten)) :
    Calls Try.prog 3 #[.int .i64 s, .slice A n c, .int .i64 now, .int .i64 id] w fun e w' => e = .returned (.bool true) ∧ Below w.heap.size w w' := by
  by_cases h : 1 ≤ s ∧ s ≤ 1000
  · exact leaseActs_ok s now id A n c l h hid w hl ha hw hr
  · exact leaseActs_bad s now id A n c (by omega) w
end Go.Proofs.Ythbjcaenkgjfaaa
