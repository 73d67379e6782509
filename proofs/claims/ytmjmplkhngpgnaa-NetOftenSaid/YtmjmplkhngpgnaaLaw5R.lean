/- The walk of NetRound. -/
import Derived.Test.YtmjmplkhngpgnaaLaw5L
namespace Go.Proofs.Ytmjmplkhngpgnaa
open Go.RowKit
set_option linter.unusedVariables false
set_option linter.unusedSimpArgs false

theorem Net.low {w : World} {B B' g : Nat} {r : Option Nat} {lim : Int} {ms : List (List Int)} (h : Net w B g r lim ms) (hb : B' ≤ B) : Net w B' g r lim ms := by
  obtain ⟨v, ps, hw, hr⟩ := h
  exact ⟨v, ps, ⟨hw.box, own_less hw.row hb, hw.pts, hw.all, Nat.le_trans hb hw.geB, hw.cnt, hw.top⟩, hr⟩
theorem apart_next {w : World} {B g : Nat} {r r' s : Option Nat} {lim : Int} {ms : List (List Int)} (h : Net w B g s lim ms) (hn : Next w r r') (ha : ∀ k, r = some k → s ≠ some k) : ∀ k, r' = some k → s ≠ some k := by
  intro k hk hs
  rcases hn with e | e
  · exact ha k (e ▸ hk) hs
  · have := e k hk; have := (h.row_lt k hs).2; omega
theorem may_dlv {ms : List (List Int)} (h : ∀ m ∈ ms, mayB m = true) {k : Int} (h0 : ms.length ≠ 0) : mayB (dlvM ms k) = true := by
  have hp := pickN_lt k (n := ms.length) (by omega)
  unfold dlvM
  rw [show ms.getD (pickN k ms.length) zM = ms[pickN k ms.length] by simp [List.getD, hp]]
  exact h _ (List.getElem_mem hp)
theorem may_add {lim : Int} {ms : List (List Int)} {m : List Int} (h : ∀ m ∈ ms, mayB m = true) (hm : mayB m = true) : ∀ x ∈ addMs lim ms m, mayB x = true := by
  unfold addMs; split
  · exact h
  · intro x hx
    rcases List.mem_append.1 hx with h1 | h1
    · exact h x h1
    · simp at h1; subst h1; exact hm
/-- All that is on its way may be. -/
theorem may_do {lim : Int} {ms : List (List Int)} (a : List Int) (h : ∀ m ∈ ms, mayB m = true) : ∀ m ∈ doMs lim ms a, mayB m = true := by
  unfold doMs sendMs twMs dlvMs
  split
  · split
    · exact may_add h (by assumption)
    · exact h
  · split
    · intro m hm; cases hm
    · split
      · split
        · exact h
        · exact may_add h (may_dlv h (by assumption))
      · split
        · exact fun m hm => h m (List.mem_of_mem_eraseIdx hm)
        · exact h
theorem pick_more (k : Int) (n by_ : Nat) : pickN (k + n * by_) n = pickN k n := by
  unfold pickN
  rw [Int.add_mul_emod_self_left]

theorem wf64 {x : Int} (h0 : -9223372036854775808 ≤ x) (h1 : x ≤ 9223372036854775807) : (Lit.int .i64 x).wf = true := by
  simp [Lit.wf]
  exact ⟨h0, h1⟩
theorem msg_cells {X : World} {L : Nat} {ms : List (List Int)} (h : Blk X L 31 (ints ms.flatten).toArray) (hm : ∀ m ∈ ms, m.length = 28) {j : Nat} (hj : j < ms.length) :
    ∀ i v, (ints (ms.getD j zM))[i]? = some v → X.cell? ((⟨L, j * 28, none⟩ : Addr).add i) = some v := by
  obtain ⟨ad, e, _, hc⟩ := (reads_msgs h hm rfl).msg_at hm rfl hj
  cases e
  intro i v hv
  have := hc i v hv
  rwa [show (⟨L, 0, none⟩ : Addr).add (j * 28) = ⟨L, j * 28, none⟩ by unfold Addr.add; split <;> simp_all] at this
theorem send_next {ms : List (List Int)} (hm : ∀ m ∈ ms, mayB m = true) {j : Nat} (hj : j < ms.length) (hs : (ms.length : Int) ≤ 200) : sendE 200 (ms.take j) (ms.getD j zM) = .nilIface ∧ sendMs 200 (ms.take j) (ms.getD j zM) = ms.take (j + 1) := by
  have e : ms.getD j zM = ms[j] := by simp [List.getD, hj]
  have h1 : mayB ms[j] = true := hm _ (List.getElem_mem hj)
  have h2 : ¬ (200 : Int) ≤ ((ms.take j).length : Int) := by rw [List.length_take]; omega
  rw [e]
  unfold sendE sendMs addE addMs
  rw [if_pos h1, if_pos h1, if_neg h2, if_neg h2]
  exact ⟨rfl, by rw [List.take_succ_eq_append_getElem hj]⟩

set_option maxRecDepth 100000 in
set_option maxHeartbeats 8000000 in
theorem netRound_walk (A : Option Addr) (n cap : Nat) (ls : List (List Int)) (kk by_ : Int) (hk0 : -128 ≤ kk) (hk1 : kk ≤ 127) (hby0 : 0 ≤ by_) (hby1 : by_ ≤ 255) (w : World) (hn : ls.length = n) (hall : ∀ l ∈ ls, l.length = 30) (hwf : ∀ l ∈ ls, ∀ y ∈ l, (Lit.int .i64 y).wf = true)
    (hr : Reads w w.heap.size 30 A n (ints ls.flatten)) :
    Calls Try.prog 7 #[.slice A n cap, .int .i8 kk, .int .u8 by_] w fun e w' => e = .returned (.bool true) ∧ Below w.heap.size w w' := by
  have HR := Lib.hid hr
  have HN := Lib.hid hn
  have HALL := Lib.hid hall
  have HWF := Lib.hid hwf
  have hn0 := fun W => run_eql_nil_nil (P := Try.prog) W 33 Try.underlying33
  clear hr hn hall hwf
  by_cases hbig : 100 < n
  · have d1 : decide ((100 : Int) < (n : Int)) = true := by simp; omega
    have d2 : decide (100 < n) = true := by simp; omega
    go_enter Try.func7, Try.ntmps7
    go_wp2_with fail
    refine (netAlive _).mono ?_
    rintro e w1 ⟨rfl, hb1⟩
    have B1 := Lib.hid hb1
    clear hb1
    go_wp2_with fail
    go_ret
    exact ⟨rfl, B1.out⟩
  · have d1 : decide ((100 : Int) < (n : Int)) = false := by simp; omega
    have d2 : decide (100 < n) = false := by simp; omega
    go_enter Try.func7, Try.ntmps7
    go_wp2_with fail
    refine (netAlive _).mono ?_
    rintro e w1 ⟨rfl, hb1⟩
    have B1 := Lib.hid hb1
    clear hb1
    go_wp2_with fail
    refine (new_ok 200 (by omega) _).mono ?_
    rintro e w2 ⟨rfl, hn2, hb2⟩
    have N2 := Lib.hid (hn2.low B1.out.size)
    have B2 := Lib.hid (stepB B1.out hb2)
    have hga := hn2.lt
    clear hn2 hb2
    go_wp2_with fail
    refine (new_ok 200 (by omega) _).mono ?_
    rintro e w3 ⟨rfl, hn3, hb3⟩
    have M3 := Lib.hid (hn3.low B2.out.size)
    have N3 := Lib.hid (N2.out.step hb3)
    have B3 := Lib.hid (stepB B2.out hb3)
    have hgg : w1.heap.size ≠ w2.heap.size := by omega
    clear hn3 hb3
    generalize w1.heap.size = ga at N3 hgg ⊢
    generalize w2.heap.size = gb at M3 hgg ⊢
    go_wp2_with fail
    go_loopw [11] (fun i W => ∃ (k : Nat) (ms : List (List Int)) (ra rb : Option Nat), k ≤ n ∧ i = .int .i64 k ∧ Net W w.heap.size ga ra 200 ms ∧ Net W w.heap.size gb rb 200 ms ∧ (∀ k, ra = some k → rb ≠ some k) ∧ (∀ m ∈ ms, mayB m = true) ∧ Below w.heap.size w W) (fun i _ => n - (intOf i).toNat)
    case atStart => exact ⟨0, [], none, none, Nat.zero_le _, rfl, N3.out, M3.out, (fun k h => by cases h), (fun m h => by cases h), B3.out⟩
    case round =>
      obtain ⟨k, ms, ra, rb, hk, rfl, hnk, hmk, hab, hmay, hbk⟩ := hrel
      rename World => W
      have NK := Lib.hid hnk
      have MK := Lib.hid hmk
      have BK := Lib.hid hbk
      have AB := Lib.hid hab
      have MAY := Lib.hid hmay
      clear hnk hmk hbk hab hmay
      by_cases hlt : k < n
      · obtain ⟨b, off, rfl, hbb, hcell, hlen⟩ := HR.out.flat_at HALL.out HN.out (by omega) hlt
        have HC := Lib.hid (fun X (hX : Below w.heap.size w X) j (hj : j < 30) => ((hX.cell (p := ⟨b, off + k * 30 + j, none⟩) hbb).trans (hcell j hj)))
        have HLN := Lib.hid hlen
        have HKW := Lib.hid (getD_wf HWF.out (i := k) (j := 1))
        have HAI := Lib.hid (show (Try.prog.info? 49).map (·.size) = some (ints (ls.getD k [])).length from by rw [ints_length, hlen]; kernel_rfl)
        have HCW := Lib.hid (fun X (hX : Below w.heap.size w X) => cells_whole (w := X) hlen (HC.out X hX))
        clear hcell hlen
        generalize ls.getD k [] = a at HC HLN HKW HCW HAI
        go_wp2_with (refine wpList_load_cells rfl 49 (.tmp 55) rfl ⟨b, off + k * 30, none⟩ rfl (ints a) _ (HCW.out _ BK.out) Try.underlying49 rfl HAI.out ?_)
        refine (act_any _ NK.out HLN.out HKW.out).mono ?_
        rintro e w4 ⟨rfl, r4, hn4, ht4, hx4⟩
        have N4 := Lib.hid hn4
        have M4 := Lib.hid (NK.out.other MK.out ht4 (Ne.symm hgg) (fun k hk e => AB.out k e hk))
        have B4 := Lib.hid (BK.out.trans (NK.out.below_of ht4))
        have AB4 := Lib.hid (apart_next MK.out hx4 AB.out)
        clear hn4 ht4 hx4
        go_wp2_with (refine wpList_load_cells rfl 49 (.tmp 61) rfl ⟨b, off + k * 30, none⟩ rfl (ints a) _ (HCW.out _ B4.out) Try.underlying49 rfl HAI.out ?_)
        refine (act_any _ M4.out HLN.out HKW.out).mono ?_
        rintro e w5 ⟨rfl, r5, hn5, ht5, hx5⟩
        have M5 := Lib.hid hn5
        have N5 := Lib.hid (M4.out.other N4.out ht5 hgg (fun k hk e => AB4.out k hk e))
        have B5 := Lib.hid (B4.out.trans (M4.out.below_of ht5))
        have AB5 := Lib.hid (fun k (hk : r4 = some k) (e : r5 = some k) => apart_next N4.out hx5 (fun k h1 h2 => AB4.out k h2 h1) k e hk)
        clear hn5 ht5 hx5
        go_wp2_with fail
        go_roundw
        case rel => exact ⟨k + 1, _, r4, r5, by omega, by go_num, N5.out, M5.out, AB5.out, may_do a MAY.out, B5.out⟩
        case measure => simp [intOf]; omega
      · obtain rfl : k = n := by omega
        go_wp2_with fail
        refine (ntake_any _ NK.out).mono ?_
        rintro e w4 ⟨rfl, hk4, hn4, ht4⟩
        have L4 := Lib.hid hk4
        have N4 := Lib.hid hn4
        have M4 := Lib.hid (NK.out.other MK.out ht4 (Ne.symm hgg) (fun k hk e => AB.out k e hk))
        have B4 := Lib.hid (BK.out.trans (NK.out.below_of ht4))
        have HAM := Lib.hid NK.out.all
        have HSM := Lib.hid NK.out.small
        clear hk4 hn4 ht4
        generalize W.heap.size = L at L4 ⊢
        go_wp2_with fail
        go_loopw [13] (fun i X => ∃ (j : Nat) (ra : Option Nat), j ≤ ms.length ∧ i = .int .i64 j ∧ Net X w.heap.size ga ra 200 (ms.take j) ∧ Net X w.heap.size gb rb 200 ms ∧ (∀ k, ra = some k → rb ≠ some k) ∧ Blk X L 31 (ints ms.flatten).toArray ∧ Below w.heap.size w X) (fun i _ => ms.length - (intOf i).toNat)
        case atStart => exact ⟨0, none, Nat.zero_le _, rfl, N4.out, M4.out, (fun k h => by cases h), L4.out, B4.out⟩
        case round =>
          obtain ⟨j, rj, hj, rfl, hnj, hmj, habj, hlj, hbj⟩ := hrel
          rename World => X
          have NJ := Lib.hid hnj
          have MJ := Lib.hid hmj
          have LJ := Lib.hid hlj
          have BJ := Lib.hid hbj
          have ABJ := Lib.hid habj
          clear hnj hmj hlj hbj habj
          have hsl : ms.length ≤ 200 := by have := HSM.out; omega
          by_cases hjt : j < ms.length
          · have HMC := Lib.hid (msg_cells LJ.out HAM.out hjt)
            have hjl : (ms.getD j zM).length = 28 := by rw [show ms.getD j zM = ms[j] by simp [List.getD, hjt]]; exact HAM.out _ (List.getElem_mem hjt)
            have HJL := Lib.hid hjl
            have HJI := Lib.hid (show (Try.prog.info? 31).map (·.size) = some (ints (ms.getD j zM)).length from by have := mc_info hjl; simpa [mc] using this)
            obtain ⟨hse, hsm⟩ := send_next MAY.out hjt HSM.out.1
            have HSE := Lib.hid hse
            have HSN := Lib.hid hsm
            clear hse hsm hjl
            generalize ms.getD j zM = q at HMC HJL HJI HSE HSN
            go_wp2_with (refine wpList_load_cells rfl 31 (.tmp 75) rfl ⟨L, j * 28, none⟩ rfl (ints q) _ HMC.out Try.underlying31 rfl HJI.out ?_)
            refine (send_any _ NJ.out HJL.out).mono ?_
            rintro e w5 ⟨rfl, r5, hn5, ht5, hx5⟩
            rw [HSE.out]
            rw [HSN.out] at hn5
            have N5 := Lib.hid hn5
            have M5 := Lib.hid (NJ.out.other MJ.out ht5 (Ne.symm hgg) (fun k hk e => ABJ.out k e hk))
            have B5 := Lib.hid (BJ.out.trans (NJ.out.below_of ht5))
            have L5 := Lib.hid (NJ.out.kept ht5 LJ.out (by decide) (by decide))
            have AB5 := Lib.hid (apart_next MJ.out hx5 ABJ.out)
            clear hn5 ht5 hx5
            go_wp2_with fail
            go_roundw
            case rel => exact ⟨j + 1, r5, by omega, by go_num, N5.out, M5.out, AB5.out, L5.out, B5.out⟩
            case measure => simp [intOf]; omega
          · obtain rfl : j = ms.length := by omega
            have N6 := Lib.hid (show Net X w.heap.size ga rj 200 ms by have := NJ.out; rwa [List.take_length] at this)
            have t1 : IntKind.i64.wrap kk = kk := IntWalk.i64_in _ (by omega)
            have t2 : IntKind.i64.wrap by_ = by_ := IntWalk.i64_in _ (by omega)
            have hmul : 0 ≤ (ms.length : Int) * by_ ∧ (ms.length : Int) * by_ ≤ 200 * 255 := ⟨Int.mul_nonneg (by omega) hby0, Int.mul_le_mul HSM.out.1 hby1 hby0 (by omega)⟩
            have t3 : IntKind.i64.wrap ((ms.length : Int) * by_) = (ms.length : Int) * by_ := IntWalk.i64_in _ (by omega)
            have t4 : IntKind.i64.wrap (kk + (ms.length : Int) * by_) = kk + (ms.length : Int) * by_ := IntWalk.i64_in _ (by omega)
            have hkw1 : (Lit.int .i64 kk).wf = true := wf64 (by omega) (by omega)
            have hkw2 : (Lit.int .i64 (kk + (ms.length : Int) * by_)).wf = true := wf64 (by omega) (by omega)
            have hpm : pickN (kk + (ms.length : Int) * by_) ms.length = pickN kk ms.length := by
              have := pick_more kk ms.length by_.toNat
              rwa [show ((by_.toNat : Nat) : Int) = by_ by omega] at this
            have HD1 := Lib.hid (show dlvM ms (kk + (ms.length : Int) * by_) = dlvM ms kk by unfold dlvM; rw [hpm])
            have HD2 := Lib.hid (show dlvMs ms (kk + (ms.length : Int) * by_) = dlvMs ms kk by unfold dlvMs; rw [hpm])
            have HQL := Lib.hid (dlvM_length HAM.out kk)
            have hgm := guard_msg
            clear hpm hmul
            go_wp2_with fail
            refine (len_any _ N6.out).mono ?_
            rintro e w6 ⟨rfl, hww⟩
            obtain rfl := hww.symm
            go_wp2_with fail
            refine (deliver_any _ N6.out.upto hkw1).mono ?_
            rintro e w7 ⟨rfl, hn7, ht7⟩
            have N7 := Lib.hid hn7.net
            have M7 := Lib.hid (N6.out.other MJ.out ht7 (Ne.symm hgg) (fun k hk e => ABJ.out k e hk))
            have B7 := Lib.hid (BJ.out.trans (N6.out.below_of ht7))
            clear hn7 ht7
            generalize hq0 : dlvM ms kk = q at HQL HD1
            have HQI := Lib.hid (mc_info HQL.out)
            clear hq0
            have he : ∀ W, (binOp .eql 31 (.agg (mc q)) (.agg (mc q))).run Try.prog W = .ok (.bool true) W := fun W => by rw [eql_msg HQL.out HQL.out]; simp
            have Z7 := Lib.hid (Blk.new w7 31 (mc zM))
            rw [mc_zero] at Z7
            go_upto_region 22 with (refine wpList_store_mid (by rfl) 31 (.tmp 15) (.tmp 86) (by rfl) w7.heap.size 0 (mc q) (by rfl) (by rfl) (mc_there zM_length HQL.out Z7.out) HQI.out (ints_oneCell _) ?_)
            have hb8 : Below w7.heap.size w7 ((w7.alloc (.cells (mc zM) 31)).setCells w7.heap.size 0 (mc q).toList) := Below.setCells (Nat.le_refl _) _ _ _ (stepA (Below.refl _ _) _)
            have N8 := Lib.hid (N7.out.step hb8)
            have M8 := Lib.hid (M7.out.step hb8)
            have B8 := Lib.hid (stepB B7.out hb8)
            have Q8 := Lib.hid (mc_put zM_length HQL.out Z7.out)
            clear hb8
            rw [mc_zero] at N8 M8 B8
            generalize World.setCells _ _ _ _ = W8 at N8 M8 B8 Q8 ⊢
            go_wp2_with fail
            refine (deliver_any _ M8.out.upto hkw2).mono ?_
            rintro e w9 ⟨rfl, hn9, ht9⟩
            rw [HD2.out] at hn9
            rw [HD1.out]
            have M9 := Lib.hid hn9.net
            have N9 := Lib.hid (M8.out.other N8.out ht9 hgg (fun k hk e => ABJ.out k hk e))
            have B9 := Lib.hid (B8.out.trans (M8.out.below_of ht9))
            have Q9 := Lib.hid (M8.out.kept ht9 Q8.out (by decide) (by decide))
            have hne9 : w7.heap.size ≠ w9.heap.size := by have := Q9.out.lt; omega
            clear hn9 ht9
            have Z9 := Lib.hid (Blk.new w9 31 (mc zM))
            rw [mc_zero] at Z9
            go_upto_region 23 with (refine wpList_store_mid (by rfl) 31 (.tmp 17) (.tmp 98) (by rfl) w9.heap.size 0 (mc q) (by rfl) (by rfl) (mc_there zM_length HQL.out Z9.out) HQI.out (ints_oneCell _) ?_)
            have hb10 : Below w9.heap.size w9 ((w9.alloc (.cells (mc zM) 31)).setCells w9.heap.size 0 (mc q).toList) := Below.setCells (Nat.le_refl _) _ _ _ (stepA (Below.refl _ _) _)
            have N10 := Lib.hid (N9.out.step hb10)
            have M10 := Lib.hid (M9.out.step hb10)
            have B10 := Lib.hid (stepB B9.out hb10)
            have Q10 := Lib.hid (mc_put zM_length HQL.out Z9.out)
            have P10 := Lib.hid (Q9.out.here hb10)
            clear hb10
            rw [mc_zero] at N10 M10 B10 P10
            generalize World.setCells _ _ _ _ = W10 at N10 M10 B10 Q10 P10 ⊢
            have hlen : ((ms.length : Int) == (ms.length : Int)) = true := by simp
            have hpe : ((pickC ms : Int) == pickC ms) = true := by simp
            go_wp2_with (first
              | (refine wpList_load_row_g (by rfl) 31 (.tmp 15) rfl w7.heap.size rfl 31 (mc q) (0, 0) _ P10.out Try.underlying31 rfl HQI.out ?_)
              | (refine wpList_load_row_g (by rfl) 31 (.tmp 17) rfl w9.heap.size rfl 31 (mc q) (0, 0) _ Q10.out Try.underlying31 rfl HQI.out ?_))
            refine (code_pick ms _).mono ?_
            rintro e w11 ⟨rfl, rfl⟩
            go_wp2_with fail
            refine (code_pick ms _).mono ?_
            rintro e w11 ⟨rfl, rfl⟩
            go_wp2_with fail
            refine (nall_any _ N10.out).mono ?_
            rintro e w12 ⟨rfl, hk12, hb12⟩
            have L12 := Lib.hid hk12
            have M12 := Lib.hid (M10.out.step hb12)
            have B12 := Lib.hid (stepB B10.out hb12)
            clear hk12 hb12
            go_wp2_with fail
            refine (nall_any _ M12.out).mono ?_
            rintro e w13 ⟨rfl, hk13, hb13⟩
            have K13 := Lib.hid hk13
            have L13 := Lib.hid (L12.out.here hb13)
            have B13 := Lib.hid (stepB B12.out hb13)
            have hsml := N10.out.small
            clear hk13 hb13
            go_wp2_with fail
            refine (msgs_any _ _ _ _ _ _ _ _ (dlvMs ms kk) (dlvMs ms kk) _ (by omega) rfl rfl N10.out.all N10.out.all (reads_msgs L13.out N10.out.all rfl) (reads_msgs K13.out N10.out.all rfl)).mono ?_
            rintro e w14 ⟨rfl, q14, rfl⟩
            rw [decide_eq_true rfl]
            go_wp2_with fail
            go_ret
            exact ⟨rfl, below_drewN B13.out _⟩
end Go.Proofs.Ytmjmplkhngpgnaa
