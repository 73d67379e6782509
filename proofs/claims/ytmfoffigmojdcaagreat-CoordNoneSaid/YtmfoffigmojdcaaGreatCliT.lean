/- The contract of Lost. -/
import Derived.Test.YtmfoffigmojdcaaGreatCliR
import Derived.Test.YtmfoffigmojdcaaGreatCliE
import Derived.Test.YtmfoffigmojdcaaGreatSortA
namespace Go.Proofs.YtmfoffigmojdcaaGreat
open Go.RowKit
set_option linter.unusedVariables false
set_option linter.unusedSimpArgs false

theorem info_nine : (Tryz.prog.info? 121).map (·.size) = some 27 := by kernel_rfl
theorem info_one : (Tryz.prog.info? 120).map (·.size) = some 3 := by kernel_rfl
theorem index_cl {G : List Cl} (hG : G.length = 9) {k : Nat} (hk : k < 9) (W : World) : (Instr.index 121 (.agg (cls G).toArray) (.int .i64 (k : Int))).run Tryz.prog W = .ok (.agg #[.int .i64 (clAt G k).tx, .bool (clAt G k).dead, .int .i64 (clAt G k).since]) W := by
  have hse : (sizeOf 120).run Tryz.prog W = .ok 3 W := by
    obtain ⟨i, hi, he⟩ := Option.map_eq_some_iff.1 info_one
    simp [sizeOf, typeInfo, hi, he]
  have hkl : k < G.length := by omega
  have hx : ((cls G).toArray).extract (k * 3) (k * 3 + 3) = #[.int .i64 (clAt G k).tx, .bool (clAt G k).dead, .int .i64 (clAt G k).since] := by
    have h0 := fm_get clv_length (L := G) (i := k) (k := 0) hkl (by omega)
    have h1 := fm_get clv_length (L := G) (i := k) (k := 1) hkl (by omega)
    have h2 := fm_get clv_length (L := G) (i := k) (k := 2) hkl (by omega)
    rw [← clAt_get hkl] at h0 h1 h2
    apply Array.ext_getElem?
    intro i
    have hl : (cls G).length = 27 := by rw [cls_length, hG]
    rw [Array.getElem?_extract]
    by_cases hi : i < 3
    · rw [if_pos (by simp [hl]; omega), List.getElem?_toArray]
      match i, hi with
      | 0, _ => exact h0
      | 1, _ => exact h1
      | 2, _ => exact h2
    · rw [if_neg (by simp [hl]; omega), Array.getElem?_eq_none (by simp; omega)]
  unfold Instr.index
  simp only [asIntOf, Sem.run_bind, Sem.run_pure, Result.andThen_ok, run_underlying Tryz.underlying121]
  rw [if_pos (by omega)]
  simp only [Sem.run_bind, hse, Result.andThen_ok, Int.toNat_natCast]
  have hx2 := congrArg Array.toList hx
  simp at hx2
  simp [part, isAgg, run_underlying Tryz.underlying120, hse, hx2]

theorem lostL_full {now span : Int} {L : List Cl} : lostL now span (full L) = lostL now span L := by
  have h0 : isLost now span noCl = false := by simp [isLost, noCl]
  unfold lostL full
  rw [List.filter_cons, h0, List.filter_append, List.filter_replicate, h0]
  simp
/-- Whose clients are dead for long, rising. -/
def lostR (now span : Int) (L : List Cl) : List Int := srt (lostIds now span L)
theorem lostR_mem {now span y : Int} {L : List Cl} : y ∈ lostR now span L ↔ y ∈ lostIds now span L := srt_mem
theorem lostL_nodup {now span : Int} : ∀ {L : List Cl}, (∀ i j, i < L.length → j < L.length → (clAt L i).tx = (clAt L j).tx → 0 < (clAt L i).tx → i = j) → (lostL now span L).Nodup
  | [], _ => by simp [lostL]
  | c :: r, h => by
    have ih : (lostL now span r).Nodup := lostL_nodup (L := r) fun i j hi hj e h0 => by
      have := h (i + 1) (j + 1) (by simpa using hi) (by simpa using hj) e h0
      omega
    by_cases hc : isLost now span c = true
    · have e : lostL now span (c :: r) = c.tx :: lostL now span r := by unfold lostL; rw [List.filter_cons, if_pos hc]; rfl
      rw [e, List.nodup_cons]
      refine ⟨fun hm => ?_, ih⟩
      obtain ⟨x, hx, hxt⟩ := List.mem_map.1 hm
      obtain ⟨i, hi, hix⟩ := mem_clAt (List.mem_filter.1 hx).1
      have hp : 0 < c.tx := by unfold isLost at hc; simp at hc; exact hc.1.2
      have := h 0 (i + 1) (by simp) (by simpa using hi) (by show c.tx = (clAt r i).tx; rw [hix]; exact hxt.symm) hp
      omega
    · have e : lostL now span (c :: r) = lostL now span r := by unfold lostL; rw [List.filter_cons, if_neg hc]
      rw [e]; exact ih
theorem lostR_ris {now span : Int} {L : List Cl} (h : ClOk L) : Ris (lostR now span L) := by
  refine srt_ris ?_
  unfold lostIds
  split
  · exact lostL_nodup h.one
  · simp
theorem lostR_len {now span : Int} {L : List Cl} : (lostR now span L).length ≤ L.length := by
  unfold lostR
  rw [srt_len]
  unfold lostIds
  split
  · exact lostL_length _ _ _
  · simp
/-- The document's answer is this one. -/
theorem lostR_eq {now span : Int} {L : List Cl} (h : ClOk L) {r : List Int} (hr : Ris r) (hm : ∀ y, y ∈ r ↔ y ∈ lostIds now span L) : r = lostR now span L :=
  ris_ext hr (lostR_ris h) fun y => (hm y).trans lostR_mem.symm

set_option maxRecDepth 100000 in
set_option maxHeartbeats 1000000 in
theorem cLost_nil (now span : Int) (w : World) : Calls Tryz.prog 59 #[.pointer none, .int .i64 now, .int .i64 span] w fun e w' => e = .returned (.slice none 0 0) ∧ w = w' := by
  go_enter Tryz.func59, Tryz.ntmps59
  go_wp2_with fail
  go_ret
  exact ⟨rfl, rfl⟩
section
variable {p n : Nat} {L : List Cl}
set_option maxRecDepth 100000 in
set_option maxHeartbeats 1000000 in
theorem cLost_none (now span : Int) (w : World) (hg : ¬ (isT now = true ∧ 0 ≤ span)) : Calls Tryz.prog 59 #[.pointer (some ⟨p, 0, none⟩), .int .i64 now, .int .i64 span] w fun e w' => e = .returned (.slice none 0 0) ∧ w = w' := by
  cases ht : isT now with
  | false =>
    have HT := Lib.hid ht
    clear ht hg
    go_enter Tryz.func59, Tryz.ntmps59
    go_wp2_with (go_at_call 106; refine (cTime_any _ _).mono ?_; rintro e w' ⟨rfl, rfl⟩; rw [HT.out])
    go_ret
    exact ⟨rfl, rfl⟩
  | true =>
    have HT := Lib.hid ht
    have d0 : decide (span < 0) = true := decide_eq_true (by have h9 : ¬ 0 ≤ span := fun h => hg ⟨ht, h⟩; omega)
    clear ht hg
    go_enter Tryz.func59, Tryz.ntmps59
    go_wp2_with (go_at_call 106; refine (cTime_any _ _).mono ?_; rintro e w' ⟨rfl, rfl⟩; rw [HT.out])
    go_ret
    exact ⟨rfl, rfl⟩
set_option maxRecDepth 100000 in
set_option maxHeartbeats 4000000 in
theorem cLost_some (now span : Int) (w : World) (h : Cli w p n L) (ht : isT now = true) (hs : 0 ≤ span) : Calls Tryz.prog 59 #[.pointer (some ⟨p, 0, none⟩), .int .i64 now, .int .i64 span] w fun e w' => ∃ v,
    e = .returned v ∧ w'.ownsRow w.heap.size 3 1 v (lostR now span L).length (i64s (lostR now span L)) ∧ Below w.heap.size w w' := by
  have hR : lostR now span L = srt (lostL now span (full L)) := by unfold lostR lostIds; rw [if_pos ⟨ht, hs⟩, lostL_full]
  rw [hR]
  have hG := full_length h.len8
  have hcell : ∀ j v, (cls (full L))[j]? = some v → w.cell? ((⟨p, 1, none⟩ : Addr).add j) = some v := by
    have h1 := h.box.cells_at (l := .int .i64 (n : Int) :: cls (full L)) 1 27 (by simp [cls_length, hG])
    rw [List.drop_succ_cons, List.drop_zero, List.take_of_length_le (by rw [cls_length, hG]; omega)] at h1
    exact h1
  have hok : ∀ k, k < 9 → 0 ≤ (clAt (full L) k).tx ∧ ((clAt (full L) k).dead = true → isT (clAt (full L) k).since = true) := by
    have hz : 0 ≤ noCl.tx ∧ (noCl.dead = true → isT noCl.since = true) := ⟨Int.le_refl _, fun hd => by cases hd⟩
    intro k hk
    match k, hk with
    | 0, _ => exact hz
    | i + 1, hi =>
      rw [full_at h.len8 (by omega)]
      by_cases hl : i < L.length
      · exact ⟨(h.ok.tx _ (clAt_mem hl)).1, h.ok.since _ (clAt_mem hl)⟩
      · have e : clAt L i = noCl := by unfold clAt; rw [List.getD, List.getElem?_eq_none (by omega)]; rfl
        rw [e]; exact hz
  have hsz : (Tryz.prog.info? 121).map (·.size) = some (cls (full L)).length := by rw [cls_length, hG]; exact info_nine
  have hT := isT_iff.1 ht
  have TI := Lib.hid ht
  have d0 : decide (span < 0) = false := decide_eq_false (by omega)
  generalize full L = G at hG hcell hok hsz ⊢
  have HC := Lib.hid hcell
  have HG := Lib.hid hG
  have HO := Lib.hid hok
  have HZ := Lib.hid hsz
  have HI := Lib.hid (fun (k : Nat) (hk : k < 9) W => index_cl hG hk W)
  clear h hR hcell hG hok hsz ht hs
  go_enter Tryz.func59, Tryz.ntmps59
  go_wp2_with (first
    | (go_at_call 106; refine (cTime_any _ _).mono ?_; rintro e w' ⟨rfl, rfl⟩; rw [TI.out])
    | (refine wpList_load_cells rfl 121 (.tmp 23) rfl ⟨p, 1, none⟩ rfl (cls G) _ HC.out Tryz.underlying121 rfl HZ.out ?_))
  go_loopw [7, 25] (fun v i W => ∃ k : Nat, k ≤ 9 ∧ i = .int .i64 (k : Int) ∧ W.ownsRow w.heap.size 3 1 v (lostL now span (G.take k)).length (i64s (lostL now span (G.take k))) ∧ Below w.heap.size w W) (fun _ i _ => 9 - (RowKit.intOf i).toNat)
  case atStart => exact ⟨0, Nat.zero_le _, rfl, World.ownsRow_nil _ _ _ _, Below.refl _ _⟩
  case round =>
    obtain ⟨k, hk, rfl, hrow, hbel⟩ := hrel
    have HR := Lib.hid hrow
    have HX := Lib.hid hbel
    clear hrow hbel
    rename World => W
    by_cases hlt : k < 9
    · have d1 : decide ((k : Int) < 9) = true := decide_eq_true (by omega)
      have hkl : k < G.length := by rw [HG.out]; exact hlt
      have HT := Lib.hid (lostL_succ now span hkl)
      rw [← clAt_get hkl] at HT
      have HD := Lib.hid (show (lostL now span (G.take k)).length ≤ 9 from Nat.le_trans (lostL_length _ _ _) (by rw [List.length_take]; omega))
      obtain ⟨hx0, hx1⟩ := HO.out k hlt
      have hix := HI.out k hlt
      have hsz := HX.out.size
      generalize clAt G k = x at hx0 hx1 HT hix
      obtain ⟨xt, xd, xs⟩ := x
      simp only at hx0 hx1 HT hix
      generalize lostL now span (G.take k) = M at HR HD HT
      have X1 := Lib.hid (Blk.new W 120 #[.int .i64 xt, .bool xd, .int .i64 xs])
      have R1 := Lib.hid (HR.out.alloc (.cells #[.int .i64 xt, .bool xd, .int .i64 xs] 120))
      have B1 := Lib.hid (HX.out.alloc HX.out.size (.cells #[.int .i64 xt, .bool xd, .int .i64 xs] 120))
      by_cases hp : xt = 0
      · subst hp
        have HT2 := Lib.hid (HT.out.trans (by rw [if_neg (by simp [isLost]), List.append_nil]))
        clear HT hx1
        go_wp2_with fail
        go_roundw
        case rel => exact ⟨k + 1, by omega, by go_num, by rw [HT2.out]; exact R1.out, B1.out⟩
        case measure => simp [RowKit.intOf]; omega
      · have e1 : (xt != 0) = true := by simpa using hp
        have hp0 : 0 < xt := by omega
        cases xd with
        | false =>
          have HT2 := Lib.hid (HT.out.trans (by rw [if_neg (by simp [isLost]), List.append_nil]))
          clear HT hx1
          go_wp2_with fail
          go_roundw
          case rel => exact ⟨k + 1, by omega, by go_num, by rw [HT2.out]; exact R1.out, B1.out⟩
          case measure => simp [RowKit.intOf]; omega
        | true =>
          have hx2 := isT_iff.1 (hx1 rfl)
          have hwr : IntKind.i64.wrap (now - xs) = now - xs := IntWalk.i64_in _ (by omega)
          by_cases hd : span ≤ now - xs
          · have d3 : decide (span ≤ now - xs) = true := decide_eq_true hd
            have HT2 := Lib.hid (HT.out.trans (by rw [if_pos (by simp [isLost, hp0, hd])]))
            clear HT hx1
            go_wp2_with (at_builtin
                         refine wpList_app_new _ rfl (.tmp 43) (.tmp 46) _ rfl Tryz.underlying59 w.heap.size _ M.length M rfl (R1.out.alloc _) [xt] 1 1 _ _ rfl _ rfl (by simp) rfl (by have := HD.out; omega) (by simp; omega) ?_
                         intro v9 w9 hown9 hg9 _
                         have O9 := Lib.hid hown9
                         have B9 := Lib.hid (below_own (B1.out.alloc B1.out.size _) hg9 (R1.out.alloc _) (Nat.le_refl _) (by simp; omega))
                         clear hown9 hg9)
            go_roundw
            case rel => exact ⟨k + 1, by omega, by go_num, by rw [HT2.out, List.length_append]; exact O9.out, B9.out⟩
            case measure => simp [RowKit.intOf]; omega
          · have d3 : decide (span ≤ now - xs) = false := decide_eq_false hd
            have HT2 := Lib.hid (HT.out.trans (by rw [if_neg (by simp [isLost]; omega), List.append_nil]))
            clear HT hx1
            go_wp2_with fail
            go_roundw
            case rel => exact ⟨k + 1, by omega, by go_num, by rw [HT2.out]; exact R1.out, B1.out⟩
            case measure => simp [RowKit.intOf]; omega
    · obtain rfl : k = 9 := by omega
      rw [List.take_of_length_le (by rw [HG.out]; exact Nat.le_refl _)] at HR
      have HD := Lib.hid (show (lostL now span G).length ≤ 9 from Nat.le_trans (lostL_length _ _ _) (by rw [HG.out]; exact Nat.le_refl _))
      go_wp2_with (go_at_call 107; refine (sort_own _ HR.out (by have := HD.out; omega)).mono ?_; rintro e w' ⟨rfl, ho, htn⟩; have O9 := Lib.hid ho; have T9 := Lib.hid htn; clear ho htn)
      go_ret
      refine ⟨_, rfl, by rw [srt_len]; exact O9.out, HX.out.trans (T9.out.below (fun k hk e => ?_) HX.out.size)⟩
      obtain ⟨cur, hh, hb⟩ := own_heap HR.out k e
      omega
theorem cLost_any (now span : Int) (w : World) (h : Cli w p n L) : Calls Tryz.prog 59 #[.pointer (some ⟨p, 0, none⟩), .int .i64 now, .int .i64 span] w fun e w' => ∃ v,
    e = .returned v ∧ w'.ownsRow w.heap.size 3 1 v (lostR now span L).length (i64s (lostR now span L)) ∧ Below w.heap.size w w' := by
  by_cases hg : isT now = true ∧ 0 ≤ span
  · exact cLost_some now span w h hg.1 hg.2
  · refine (cLost_none now span w hg).mono ?_
    rintro e w' ⟨rfl, rfl⟩
    have e0 : lostR now span L = [] := by unfold lostR lostIds; rw [if_neg hg]; simp [srt]
    rw [e0]
    exact ⟨_, rfl, World.ownsRow_nil _ _ _ _, Below.refl _ _⟩
end
end Go.Proofs.YtmfoffigmojdcaaGreat
