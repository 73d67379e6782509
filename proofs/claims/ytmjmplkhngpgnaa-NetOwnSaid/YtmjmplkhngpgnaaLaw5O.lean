/- The walk of NetOwn. -/
import Derived.Test.YtmjmplkhngpgnaaLaw5R
import Derived.Test.YtmjmplkhngpgnaaNetP
namespace Go.Proofs.Ytmjmplkhngpgnaa
open Go.RowKit
set_option linter.unusedVariables false
set_option linter.unusedSimpArgs false

/-- Of a list of messages those that may be. -/
def mays (l : List (List Int)) : List (List Int) := l.filter mayB
theorem mays_all {l : List (List Int)} (h : ∀ m ∈ l, m.length = 28) : ∀ m ∈ mays l, m.length = 28 := fun m hm => h m (List.mem_filter.1 hm).1
theorem mays_succ (l : List (List Int)) {k : Nat} (hk : k < l.length) : mays (l.take (k + 1)) = if mayB (l.getD k zM) then mays (l.take k) ++ [l.getD k zM] else mays (l.take k) := by
  rw [show l.getD k zM = l[k] by simp [List.getD, hk], List.take_succ_eq_append_getElem hk]
  unfold mays
  rw [List.filter_append]
  cases h : mayB l[k] <;> simp [List.filter, h]
theorem mays_len (l : List (List Int)) (k : Nat) : (mays (l.take k)).length ≤ k := Nat.le_trans (List.length_filter_le _ _) (by rw [List.length_take]; omega)
/-- Rows whose first messages are none any more. -/
def wipe (ms : List (List Int)) (j : Nat) : List (List Int) := List.replicate j zM ++ ms.drop j
theorem wipe_all {ms : List (List Int)} (h : ∀ m ∈ ms, m.length = 28) (j : Nat) : ∀ m ∈ wipe ms j, m.length = 28 := fun m hm => by
  rcases List.mem_append.1 hm with h1 | h1
  · rw [(List.mem_replicate.1 h1).2]; exact zM_length
  · exact h m (List.mem_of_mem_drop h1)
theorem wipe_len {ms : List (List Int)} {j : Nat} (hj : j ≤ ms.length) : (wipe ms j).length = ms.length := by simp [wipe]; omega
theorem wipe_put {w : World} {g : Nat} {ms : List (List Int)} (h : ∀ m ∈ ms, m.length = 28) {j : Nat} (hj : j < ms.length) (hb : Blk w g 31 (ints (wipe ms j).flatten).toArray) :
    Blk (w.setCells g (j * 28) (mc zM).toList) g 31 (ints (wipe ms (j + 1)).flatten).toArray := by
  have h2 := hb.setCells (mc zM).toList (j * 28)
  have hA : (List.replicate j zM).flatten.length = j * 28 := by rw [flatten_len (fun m hm => by rw [(List.mem_replicate.1 hm).2]; exact zM_length), List.length_replicate]
  have hAi : (ints (List.replicate j zM).flatten).length = j * 28 := by rw [ints_length]; exact hA
  have hmj : ms[j].length = 28 := h _ (List.getElem_mem hj)
  have e1 : (wipe ms j).flatten = (List.replicate j zM).flatten ++ ms[j] ++ (ms.drop (j + 1)).flatten := by
    unfold wipe; rw [List.drop_eq_getElem_cons hj]; simp only [List.flatten_append, List.flatten_cons, List.append_assoc]
  have e2 : (wipe ms (j + 1)).flatten = (List.replicate j zM).flatten ++ zM ++ (ms.drop (j + 1)).flatten := by
    unfold wipe; rw [List.replicate_succ']; simp only [List.flatten_append, List.flatten_cons, List.flatten_nil, List.append_nil]
  rw [e1, ints_append, ints_append, ← hAi, show (mc zM).toList = ints zM from rfl, splice_mid _ _ _ _ (by rw [ints_length, ints_length, hmj, zM_length])] at h2
  rw [e2, ints_append, ints_append, ← hAi, show (mc zM).toList = ints zM from rfl]
  exact h2
theorem wipe_there {w : World} {g : Nat} {ms : List (List Int)} (h : ∀ m ∈ ms, m.length = 28) {j : Nat} (hj : j < ms.length) (hb : Blk w g 31 (ints (wipe ms j).flatten).toArray) : w.there g (j * 28) (mc zM).size := by
  intro k hk
  rw [mc_size zM_length] at hk
  refine ⟨?_, hb.frozen _⟩
  rw [hb.cell]
  have h1 : (ints (wipe ms j).flatten).toArray.size = ms.length * 28 := by rw [List.size_toArray, ints_length, flatten_len (wipe_all h j), wipe_len (Nat.le_of_lt hj)]
  have : j * 28 + k < (ints (wipe ms j).flatten).toArray.size := by rw [h1]; have := Nat.mul_le_mul_right 28 (show j + 1 ≤ ms.length by omega); omega
  rw [Array.getElem?_eq_getElem this]; rfl

/-- A row of messages of the call's own grows: the net stays, and its messages lie elsewhere. -/
theorem grown_net {X X' : World} {B g n : Nat} {r : Option Nat} {lim : Int} {ms : List (List Int)} {v v' : Value} {xs : List Value} (h : NetP X B g r lim ms (fun p => v.ownBlock ≠ some p)) (hown : X.ownsRow B 31 28 v n xs) (hg : X.grownBy X' v.ownBlock)
    (hv : v'.ownBlock = v.ownBlock ∨ v'.ownBlock = some X.heap.size) : NetP X' B g r lim ms (fun p => v'.ownBlock ≠ some p) := by
  have h1 : NetP X B g r lim ms (fun p => v.ownBlock ≠ some p ∧ v'.ownBlock ≠ some p) := h.imp fun p hp hF => ⟨hF, by
    rcases hv with e | e
    · rw [e]; exact hF
    · rw [e]; intro e2; cases e2; omega⟩
  have ht : Turn (fun k => v.ownBlock = some k) X X' := ((Turn.refl (fun k => v.ownBlock = some k) X).grown hg (fun k hk _ => hk))
  have h2 := h1.turn ht (fun e => by
    obtain ⟨u, ps, hw, _, _⟩ := h1
    obtain ⟨cur, hh, _⟩ := own_heap hown _ e
    exact heap_ne hw.box hh (by decide) rfl) (fun k hk e => by
    obtain ⟨u, ps, hw, hr, _⟩ := h1
    obtain ⟨cur, hh, _⟩ := own_heap hown _ e
    obtain ⟨cur', hh', _⟩ := own_heap hw.row k (by rw [hr]; exact hk)
    exact heap_ne hh' hh (by decide) rfl) (fun k hF => hF.1)
  exact h2.imp fun p _ hF => hF.2

set_option maxRecDepth 100000 in
set_option maxHeartbeats 8000000 in
theorem netOwn_walk (A : Option Addr) (n cap : Nat) (ls : List (List Int)) (kk : Int) (hkw : (Lit.int .i64 kk).wf = true) (w : World) (hn : ls.length = n) (hall : ∀ l ∈ ls, l.length = 28)
    (hr : Reads w w.heap.size 28 A n (ints ls.flatten)) :
    Calls Try.prog 6 #[.slice A n cap, .int .i64 kk] w fun e w' => e = .returned (.bool true) ∧ Below w.heap.size w w' := by
  have HR := Lib.hid hr
  have HN := Lib.hid hn
  have HALL := Lib.hid hall
  have hn0 := fun W => run_eql_nil_nil (P := Try.prog) W 33 Try.underlying33
  have hn1 := fun W k => run_eql_held_nil (P := Try.prog) W 33 69 (.int .i64 k) Try.underlying33
  clear hr hn hall
  by_cases hbig : 200 < n
  · have d1 : decide ((200 : Int) < (n : Int)) = true := by simp; omega
    have d2 : decide (200 < n) = true := by simp; omega
    go_enter Try.func6, Try.ntmps6
    go_wp2_with fail
    refine (netAlive _).mono ?_
    rintro e w1 ⟨rfl, hb1⟩
    have B1 := Lib.hid hb1
    clear hb1
    go_wp2_with fail
    go_ret
    exact ⟨rfl, B1.out⟩
  · have d1 : decide ((200 : Int) < (n : Int)) = false := by simp; omega
    have d2 : decide (200 < n) = false := by simp; omega
    obtain ⟨i0, hi0, hz0, hz1, hz2⟩ := info_parts info_msg
    go_enter Try.func6, Try.ntmps6
    go_wp2_with fail
    refine (netAlive _).mono ?_
    rintro e w1 ⟨rfl, hb1⟩
    have B1 := Lib.hid hb1
    clear hb1
    go_wp2_with fail
    refine (new_ok 300 (by omega) _).mono ?_
    rintro e w2 ⟨rfl, hn2, hb2⟩
    have N2 := Lib.hid (hn2.low B1.out.size)
    have B2 := Lib.hid (stepB B1.out hb2)
    clear hn2 hb2
    generalize w1.heap.size = g at N2 ⊢
    go_wp2_with fail
    go_loopw [7, 8] (fun v i W => ∃ (k : Nat) (r : Option Nat), k ≤ n ∧ i = .int .i64 k ∧ NetP W w.heap.size g r 300 (mays (ls.take k)) (fun p => v.ownBlock ≠ some p) ∧ W.ownsRow w.heap.size 31 28 v (mays (ls.take k)).length (ints (mays (ls.take k)).flatten) ∧ Below w.heap.size w W) (fun _ i _ => n - (intOf i).toNat)
    case atStart => exact ⟨0, none, Nat.zero_le _, rfl, N2.out.netP.imp (fun p _ _ => by simp [Value.ownBlock]), World.ownsRow_nil _ _ _ _, B2.out⟩
    case round =>
      obtain ⟨k, r, hk, rfl, hnk, hok, hbk⟩ := hrel
      obtain ⟨A7, c7, rfl, _, _⟩ := own_slice_any hok
      rename World => W
      have NK := Lib.hid hnk
      have OK := Lib.hid hok
      have BK := Lib.hid hbk
      clear hnk hok hbk
      by_cases hlt : k < n
      · have hkl : k < ls.length := by rw [HN.out]; exact hlt
        have hml : (ls.getD k zM).length = 28 := by rw [show ls.getD k zM = ls[k] by simp [List.getD, hkl]]; exact HALL.out _ (List.getElem_mem hkl)
        obtain ⟨b, off, rfl, hbb, hcell, _⟩ := HR.out.flat_at HALL.out HN.out (by omega) hlt
        have hgd : ls.getD k [] = ls.getD k zM := by simp [List.getD, hkl]
        rw [hgd] at hcell
        have HCW := Lib.hid (fun X (hX : Below w.heap.size w X) => cells_whole (w := X) hml (fun j hj => ((hX.cell (p := ⟨b, off + k * 28 + j, none⟩) hbb).trans (hcell j hj))))
        have HML := Lib.hid hml
        have HMI := Lib.hid (show (Try.prog.info? 31).map (·.size) = some (ints (ls.getD k zM)).length from by have := mc_info hml; simpa [mc] using this)
        have HMS := Lib.hid (mays_succ ls hkl)
        have HMN := Lib.hid (mays_len ls k)
        clear hcell hml hgd
        generalize ls.getD k zM = q at HCW HML HMI HMS
        generalize mays (ls.take k) = ms at NK OK HMS HMN ⊢
        generalize hms' : mays (ls.take (k + 1)) = ms' at HMS
        have HME := Lib.hid hms'
        clear hms'
        have HROOM := Lib.hid (show (ms.length : Int) < 300 by have := HMN.out; omega)
        go_wp2_with (refine wpList_load_cells rfl 31 (.tmp 38) rfl ⟨b, off + k * 28, none⟩ rfl (ints q) _ (HCW.out _ BK.out) Try.underlying31 rfl HMI.out ?_)
        have hne : (Value.slice A7 ms.length c7).ownBlock ≠ some W.heap.size := fun e => by obtain ⟨cur, hh, _⟩ := own_heap OK.out _ e; have := own_lt hh; omega
        refine (sendP_any _ NK.out hne HML.out).mono ?_
        rintro e w4 ⟨rfl, r4, hn4, ht4, _⟩
        have B4 := Lib.hid (BK.out.trans (NK.out.net.below_of ht4))
        have O4 := Lib.hid (NK.out.net.own_kept ht4 OK.out (by decide) (by decide))
        have HS4 := Lib.hid hn4
        clear hn4 ht4
        cases hm : mayB q
        · have HSE := Lib.hid (show sendE 300 ms q = errno 5 by unfold sendE; rw [hm]; rfl)
          have N4 := Lib.hid (show NetP w4 w.heap.size g r4 300 ms' (fun p => (Value.slice A7 ms.length c7).ownBlock ≠ some p) by have h1 := HS4.out; have h2 := HMS.out; rw [hm, if_neg (by decide)] at h2; rw [h2]; unfold sendMs at h1; rwa [hm, if_neg (by decide)] at h1)
          have O5 := Lib.hid (show w4.ownsRow w.heap.size 31 28 (.slice A7 ms.length c7) ms'.length (ints ms'.flatten) from by have h1 := O4.out; have h2 := HMS.out; rw [hm, if_neg (by decide)] at h2; rw [h2]; exact h1)
          clear hm
          rw [HSE.out]
          go_wp2_with fail
          go_roundw
          case rel => exact ⟨k + 1, r4, by omega, by go_num, by rw [HME.out]; exact N4.out, by rw [HME.out]; exact O5.out, B4.out⟩
          case measure => simp [intOf]; omega
        · have HSE := Lib.hid (show sendE 300 ms q = .nilIface by unfold sendE addE; rw [hm, if_pos rfl, if_neg (by have := HROOM.out; omega)])
          have HM2 := Lib.hid (show ms' = ms ++ [q] by have h2 := HMS.out; rwa [hm, if_pos rfl] at h2)
          have N4 := Lib.hid (show NetP w4 w.heap.size g r4 300 ms' (fun p => (Value.slice A7 ms.length c7).ownBlock ≠ some p) by have h1 := HS4.out; rw [HM2.out]; unfold sendMs addMs at h1; rwa [hm, if_pos rfl, if_neg (by have := HROOM.out; omega)] at h1)
          clear hm
          rw [HSE.out]
          have hs4 := B4.out.size
          go_wp2_with (first
            | (refine wpList_load_cells rfl 31 (.tmp 45) rfl ⟨b, off + k * 28, none⟩ rfl (ints q) _ (HCW.out _ B4.out) Try.underlying31 rfl HMI.out ?_)
            | (refine wpList_build_msgs rfl 1 _ rfl [q] (by simpa using HML.out) rfl (by omega) (by rfl) ?_)
            | (at_builtin
               refine wpList_append_any _ (by rfl) (.tmp 42) (.tmp 47) _ (by rfl) w.heap.size 31 i0 _ 28 224 Try.underlying45 hi0 hz0 hz1 hz2 (mc_size zM_length) (by omega) (.slice A7 ms.length c7) ms.length (ints ms.flatten) (by rfl)
                 (World.ownsRow.alloc O4.out _) _ (some ⟨w4.heap.size, 0, none⟩) 1 1 (ints [q].flatten) (by rfl) (reads_msgs (ms := [q]) (Blk.new w4 _ _) (by simpa using HML.out) rfl) (ints_one _) (by have := HROOM.out; simp only [maxLen]; omega) (by have := HROOM.out; omega) (by simp; omega) ?_
               intro v8 w8 hown8 hg8 hv8
               rw [← ints_append, show ms.flatten ++ [q].flatten = (ms ++ [q]).flatten by simp, ← HM2.out] at hown8
               have O8 := Lib.hid (show w8.ownsRow w.heap.size 31 28 v8 ms'.length (ints ms'.flatten) by rw [HM2.out, List.length_append]; rw [HM2.out] at hown8; exact hown8)
               have N8 := Lib.hid (grown_net (N4.out.step (Below.alloc (Below.refl _ _) (Nat.le_refl _) _)) (World.ownsRow.alloc O4.out _) hg8 hv8)
               have B8 := Lib.hid (below_own (stepA' B4.out _) hg8 (World.ownsRow.alloc O4.out _) (Nat.le_refl _) (by simp; omega))
               clear hown8 hg8))
          go_roundw
          case rel => exact ⟨k + 1, r4, by omega, by go_num, by rw [HME.out]; exact N8.out, by rw [HME.out]; exact O8.out, B8.out⟩
          case measure => simp [intOf]; omega
      · obtain rfl : k = n := by omega
        have N3 := Lib.hid (show NetP W w.heap.size g r 300 (mays ls) (fun p => (Value.slice A7 (mays (ls.take k)).length c7).ownBlock ≠ some p) by have := NK.out; rwa [show ls.take k = ls from List.take_of_length_le (by rw [HN.out]; exact Nat.le_refl _)] at this ⊢)
        have O3 := Lib.hid (show W.ownsRow w.heap.size 31 28 (.slice A7 (mays (ls.take k)).length c7) (mays ls).length (ints (mays ls).flatten) by have := OK.out; rwa [show ls.take k = ls from List.take_of_length_le (by rw [HN.out]; exact Nat.le_refl _)] at this ⊢)
        have HLE := Lib.hid (show (mays (ls.take k)).length = (mays ls).length by rw [show ls.take k = ls from List.take_of_length_le (by rw [HN.out]; exact Nat.le_refl _)])
        have HMA := Lib.hid (mays_all HALL.out)
        rw [HLE.out] at N3 O3 ⊢
        clear NK OK HLE
        generalize mays ls = ms at N3 O3 HMA ⊢
        have hsm := N3.out.net.small
        go_wp2_with fail
        refine (nall_any _ N3.out.net).mono ?_
        rintro e w4 ⟨rfl, hk4, hb4⟩
        have L4 := Lib.hid (show Blk w4 W.heap.size 31 (ints (wipe ms 0).flatten).toArray by have := hk4; simpa [wipe] using this)
        have N4 := Lib.hid (N3.out.step hb4)
        have O4 := Lib.hid (own_turn O3.out (Turn.of_below (S := fun _ => False) hb4) (fun _ _ => id))
        have B4 := Lib.hid (stepB BK.out hb4)
        have FW := Lib.hid (N3.out.imp (F' := fun p => p < W.heap.size) (fun p hp _ => hp))
        have N5 := Lib.hid ((N3.out.imp (F' := fun p => (Value.slice A7 ms.length c7).ownBlock ≠ some p ∧ p < W.heap.size) (fun p hp hF => ⟨hF, hp⟩)).step hb4)
        have hOL : ∀ k, (Value.slice A7 ms.length c7).ownBlock = some k → k < W.heap.size := fun k hk => by obtain ⟨cur, hh, _⟩ := own_heap O3.out k hk; exact own_lt hh
        have HOL := Lib.hid hOL
        clear hk4 hb4 hOL FW N4
        have HGL := Lib.hid (show ∀ k, r = some k → k < W.heap.size from fun k hk => (N3.out.net.row_lt k hk).2)
        have HGG := Lib.hid N3.out.net.lt
        have HWW := Lib.hid BK.out.size
        generalize W.heap.size = L at L4 N5 HOL HGL HGG HWW ⊢
        go_wp2_with fail
        have HZ := Lib.hid (mc_info zM_length)
        go_loopw [10] (fun i X => ∃ j : Nat, j ≤ ms.length ∧ i = .int .i64 j ∧ Blk X L 31 (ints (wipe ms j).flatten).toArray ∧ NetP X w.heap.size g r 300 ms (fun p => (Value.slice A7 ms.length c7).ownBlock ≠ some p ∧ p < L) ∧ X.ownsRow w.heap.size 31 28 (.slice A7 ms.length c7) ms.length (ints ms.flatten) ∧ Below w.heap.size w X) (fun i _ => ms.length - (intOf i).toNat)
        case atStart => exact ⟨0, Nat.zero_le _, rfl, L4.out, N5.out, O4.out, B4.out⟩
        case round =>
          obtain ⟨j, hj, rfl, hlj, hnj, hoj, hbj⟩ := hrel
          rename World => X
          have LJ := Lib.hid hlj
          have NJ := Lib.hid hnj
          have OJ := Lib.hid hoj
          have BJ := Lib.hid hbj
          clear hlj hnj hoj hbj
          by_cases hjt : j < ms.length
          · have HTH := Lib.hid (wipe_there HMA.out hjt LJ.out)
            have L5 := Lib.hid (wipe_put HMA.out hjt LJ.out)
            have ht : Turn (fun k => k = L) X (X.setCells L (j * 28) (mc zM).toList) := Turn.setCells (S := fun k => k = L) (fun _ => rfl) _ _ _ (Turn.refl _ _)
            have N6 := Lib.hid (NJ.out.turn ht (by have := HGG.out; omega) (fun k hk e => by have := HGL.out k hk; omega) (fun k hF e => by omega))
            have O6 := Lib.hid (own_turn OJ.out ht (fun k hk e => by have := HOL.out k hk; omega))
            have B6 := Lib.hid (Below.setCells (B := w.heap.size) (b := L) HWW.out (mc zM).toList (j * 28) _ BJ.out)
            clear ht
            go_wp2_with (refine wpList_store_mid (by rfl) 31 (.tmp 60) (.tmp 59) (by rfl) L (j * 28) (mc zM) (by rfl) (by rfl) HTH.out HZ.out (ints_oneCell _) ?_
                         generalize World.setCells _ _ _ _ = Y at L5 N6 O6 B6 ⊢)
            go_roundw
            case rel => exact ⟨j + 1, by omega, by go_num, L5.out, N6.out, O6.out, B6.out⟩
            case measure => simp [intOf]; omega
          · obtain rfl : j = ms.length := by omega
            have NX := Lib.hid NJ.out.net
            go_wp2_with fail
            refine (deliver_nil kk _).mono ?_
            rintro e w5 ⟨rfl, hb5⟩
            have N5' := Lib.hid (NX.out.step hb5)
            have O5 := Lib.hid (own_turn OJ.out (Turn.of_below (S := fun _ => False) hb5) (fun _ _ => id))
            have B5 := Lib.hid (stepB BJ.out hb5)
            clear hb5
            generalize hq0 : zM = q0
            have HQL := Lib.hid (show q0.length = 28 by rw [← hq0]; exact zM_length)
            clear hq0
            have HQI := Lib.hid (mc_info HQL.out)
            have Z5 := Lib.hid (Blk.new w5 31 (mc zM))
            rw [mc_zero] at Z5
            go_upto_region 21 with (refine wpList_store_mid (by rfl) 31 (.tmp 12) (.tmp 65) (by rfl) w5.heap.size 0 (mc q0) (by rfl) (by rfl) (mc_there zM_length HQL.out Z5.out) HQI.out (ints_oneCell _) ?_)
            have hb6 : Below w5.heap.size w5 ((w5.alloc (.cells (mc zM) 31)).setCells w5.heap.size 0 (mc q0).toList) := Below.setCells (Nat.le_refl _) _ _ _ (stepA (Below.refl _ _) _)
            have N6 := Lib.hid (N5'.out.step hb6)
            have O6 := Lib.hid (own_turn O5.out (Turn.of_below (S := fun _ => False) hb6) (fun _ _ => id))
            have B6 := Lib.hid (stepB B5.out hb6)
            clear hb6
            rw [mc_zero] at N6 O6 B6
            generalize World.setCells _ _ _ _ = W6 at N6 O6 B6 ⊢
            go_wp2_with fail
            refine (code_errno 1 (by decide) _).mono ?_
            rintro e x1 ⟨rfl, rfl⟩
            go_wp2_with fail
            refine (drop_nil kk _).mono ?_
            rintro e x2 ⟨rfl, hb⟩
            have N7 := Lib.hid (N6.out.step hb)
            have O7 := Lib.hid (own_turn O6.out (Turn.of_below (S := fun _ => False) hb) (fun _ _ => id))
            have B7 := Lib.hid (stepB B6.out hb)
            clear hb
            go_wp2_with fail
            refine (code_errno 1 (by decide) _).mono ?_
            rintro e x3 ⟨rfl, rfl⟩
            go_wp2_with fail
            refine (twice_nil kk _).mono ?_
            rintro e x4 ⟨rfl, hb⟩
            have N8 := Lib.hid (N7.out.step hb)
            have O8 := Lib.hid (own_turn O7.out (Turn.of_below (S := fun _ => False) hb) (fun _ _ => id))
            have B8 := Lib.hid (stepB B7.out hb)
            clear hb
            go_wp2_with fail
            refine (code_errno 1 (by decide) _).mono ?_
            rintro e x5 ⟨rfl, rfl⟩
            go_wp2_with fail
            refine (letter_any 1 _).mono ?_
            rintro e x6 ⟨rfl, hb⟩
            have N9 := Lib.hid (N8.out.step hb)
            have O9 := Lib.hid (own_turn O8.out (Turn.of_below (S := fun _ => False) hb) (fun _ _ => id))
            have B9 := Lib.hid (stepB B8.out hb)
            clear hb
            generalize lett 1 = q1
            go_wp2_with fail
            refine (send_nil q1 _).mono ?_
            rintro e x7 ⟨rfl, hb⟩
            have N10 := Lib.hid (N9.out.step hb)
            have O10 := Lib.hid (own_turn O9.out (Turn.of_below (S := fun _ => False) hb) (fun _ _ => id))
            have B10 := Lib.hid (stepB B9.out hb)
            clear hb
            go_wp2_with fail
            refine (code_errno 1 (by decide) _).mono ?_
            rintro e x8 ⟨rfl, rfl⟩
            go_wp2_with fail
            refine (nall_nil _).mono ?_
            rintro e x9 ⟨rfl, hww⟩
            obtain rfl := hww.symm
            go_wp2_with fail
            refine (ntake_nil _).mono ?_
            rintro e x10 ⟨rfl, hww⟩
            obtain rfl := hww.symm
            go_wp2_with fail
            refine (len_nil _).mono ?_
            rintro e x11 ⟨rfl, hww⟩
            obtain rfl := hww.symm
            go_wp2_with fail
            refine (ntake_any _ N10.out).mono ?_
            rintro e x12 ⟨rfl, hk12, hn12, ht12⟩
            have K12 := Lib.hid hk12
            have N12 := Lib.hid hn12
            have O12 := Lib.hid (N10.out.own_kept ht12 O10.out (by decide) (by decide))
            have B12 := Lib.hid (B10.out.trans (N10.out.below_of ht12))
            clear hk12 hn12 ht12
            have R12 := Lib.hid (Reads.of_own O12.out)
            go_wp2_with fail
            refine (msgs_any _ _ _ _ _ _ _ _ ms ms _ (by omega) rfl rfl HMA.out HMA.out (reads_msgs K12.out HMA.out rfl) R12.out).mono ?_
            rintro e x13 ⟨rfl, q13, rfl⟩
            rw [decide_eq_true rfl]
            go_wp2_with fail
            refine (len_any _ (N12.out.step (below_drewN (Below.refl _ _) q13))).mono ?_
            rintro e x14 ⟨rfl, hww⟩
            obtain rfl := hww.symm
            go_wp2_with fail
            go_ret
            exact ⟨rfl, below_drewN B12.out _⟩
end Go.Proofs.Ytmjmplkhngpgnaa
