/- The contracts of package msg's Ok and Encode. -/
import Derived.Test.YtmjmplkhngpgnaaMsgF
import Derived.Test.YtmjmplkhngpgnaaMsgI
namespace Go.Proofs.Ytmjmplkhngpgnaa
open Go.RowKit
set_option linter.unusedVariables false
set_option linter.unusedSimpArgs false

theorem sTx_le {k x : Int} (h : inS (sTx k).1 (sTx k).2 x = true) : 0 ≤ x ∧ x ≤ 1048576 := by
  rw [inS_iff] at h; unfold sTx at h; split at h <;> simp at h <;> omega
theorem sSeq_le {k x : Int} (h : inS (sSeq k).1 (sSeq k).2 x = true) : 0 ≤ x ∧ x ≤ 1048576 := by
  rw [inS_iff] at h; unfold sSeq at h; split at h <;> simp at h <;> omega
theorem sMode_le {k x : Int} (h : inS (sMode k).1 (sMode k).2 x = true) : 0 ≤ x ∧ x ≤ 4 := by
  rw [inS_iff] at h; unfold sMode at h; split at h <;> simp at h <;> omega
theorem sCode_le {k x : Int} (h : inS (sCode k).1 (sCode k).2 x = true) : 0 ≤ x ∧ x ≤ 15 := by
  rw [inS_iff] at h; unfold sCode at h
  split at h
  · simp at h; omega
  · split at h <;> simp at h <;> omega
theorem sNext_le {k tx x : Int} (ht : 0 ≤ tx ∧ tx ≤ 1048576) (h : inS (sNext k tx).1 (sNext k tx).2 x = true) : 0 ≤ x ∧ x ≤ 1048576 := by
  rw [inS_iff] at h; unfold sNext wrap64 at h
  split at h
  · simp only at h; omega
  · split at h <;> simp at h <;> omega
theorem sNseq_le {k x : Int} (h : inS (sNseq k).1 (sNseq k).2 x = true) : 0 ≤ x ∧ x ≤ 1048576 := by
  rw [inS_iff] at h; unfold sNseq at h; split at h <;> simp at h <;> omega
theorem sN_le {k x : Int} (h : inS (sN k).1 (sN k).2 x = true) : 0 ≤ x ∧ x ≤ 8 := by
  rw [inS_iff] at h; unfold sN at h; split at h <;> simp at h <;> omega
theorem place_le {b : Bool} {t r : Int} (h : placeB b t r = true) : (0 ≤ t ∧ t ≤ 250) ∧ 0 ≤ r ∧ r ≤ 250 := by
  unfold placeB at h
  split at h
  · unfold resB at h; simp at h; omega
  · simp at h; omega
theorem way_le {m : List Int} (h : goesB m = true) : (0 ≤ fld m 0 ∧ fld m 0 ≤ 11) ∧ (0 ≤ fld m 1 ∧ fld m 1 ≤ 64) ∧ 0 ≤ fld m 2 ∧ fld m 2 ≤ 64 := by
  have hd : downB m = true → (0 ≤ fld m 1 ∧ fld m 1 ≤ 64) ∧ 0 ≤ fld m 2 ∧ fld m 2 ≤ 64 := by
    intro h; unfold downB at h; rw [Bool.and_eq_true, inS_iff] at h; simp at h; omega
  have hu : upB m = true → (0 ≤ fld m 1 ∧ fld m 1 ≤ 64) ∧ 0 ≤ fld m 2 ∧ fld m 2 ≤ 64 := by
    intro h; unfold upB at h; rw [Bool.and_eq_true, inS_iff] at h; simp at h; omega
  unfold goesB wayB at h
  split at h
  · have := hd h; omega
  · split at h
    · have := hu h; omega
    · split at h
      · rw [Bool.or_eq_true] at h
        rcases h with h | h
        · have := hd h; omega
        · have := hu h; omega
      · cases h
theorem path_le {m : List Int} (h : pathB m = true) {i : Nat} (hi : i < 8) : (0 ≤ stTx m i ∧ stTx m i ≤ 1048576) ∧ 0 ≤ stSeq m i ∧ stSeq m i ≤ 1048576 := by
  have h' : PathTill m 8 := of_decide_eq_true h
  have := h' i hi
  unfold okAt at this
  split at this
  · unfold isStepB at this
    simp only [Bool.and_eq_true, inS_iff] at this
    omega
  · simp at this; omega
theorem allFit_of {w : Nat} {l : List Int} (h : ∀ x ∈ l, 0 ≤ x ∧ x < pw w) : AllFit w l := fun x hx => fitsB_iff.2 (h x hx)
theorem pw1 : pw 1 = 256 := by decide
theorem pw4 : pw 4 = 4294967296 := by decide
/-- What a message that may be is made of. -/
theorem may_parts {m : List Int} (h : mayB m = true) : ((0 ≤ fld m 0 ∧ fld m 0 ≤ 11) ∧ (0 ≤ fld m 1 ∧ fld m 1 ≤ 64) ∧ 0 ≤ fld m 2 ∧ fld m 2 ≤ 64) ∧ (0 ≤ fld m 3 ∧ fld m 3 ≤ 1048576) ∧ (0 ≤ fld m 4 ∧ fld m 4 ≤ 1048576) ∧ ((0 ≤ fld m 5 ∧ fld m 5 ≤ 250) ∧ 0 ≤ fld m 6 ∧ fld m 6 ≤ 250) ∧ (0 ≤ fld m 7 ∧ fld m 7 ≤ 4) ∧ (0 ≤ fld m 8 ∧ fld m 8 ≤ 15) ∧
    (0 ≤ fld m 9 ∧ fld m 9 ≤ 1048576) ∧ (0 ≤ fld m 10 ∧ fld m 10 ≤ 1048576) ∧ (0 ≤ fld m 11 ∧ fld m 11 ≤ 8) ∧ ∀ i, i < 8 → (0 ≤ stTx m i ∧ stTx m i ≤ 1048576) ∧ 0 ≤ stSeq m i ∧ stSeq m i ≤ 1048576 := by
  unfold mayB at h
  simp only [Bool.and_eq_true] at h
  obtain ⟨h1, h2, h3, h4, h5, h6, h7, h8, h9, h10⟩ := h
  exact ⟨way_le h1, sTx_le h2, sSeq_le h3, place_le h4, sMode_le h5, sCode_le h6, sNext_le (sTx_le h2) h7, sNseq_le h8, sN_le h9, fun i hi => path_le h10 hi⟩
theorem may_fits {m : List Int} (h : mayB m = true) : FitsM m := by
  obtain ⟨⟨h0, h1, h2⟩, h3, h4, ⟨h5, h6⟩, h7, h8, h9, h10, h11, hp⟩ := may_parts h
  refine ⟨allFit_of ?_, allFit_of ?_, allFit_of ?_, allFit_of ?_, allFit_of ?_, fun i hi => allFit_of ?_⟩
  all_goals
    intro x hx
    simp only [List.mem_cons, List.mem_nil_iff, or_false] at hx
    try have hpi := hp i hi
    rw [show pw _ = _ from by first | exact pw1 | exact pw4]
    omega

set_option maxRecDepth 100000 in
set_option maxHeartbeats 1000000 in
theorem ok_any (m : List Int) (hl : m.length = 28) (w : World) :
    Calls Try.prog 36 #[.agg (mc m)] w fun e w' => e = .returned (if mayB m then .nilIface else errno 5) ∧ Below w.heap.size w w' := by
  have HL := Lib.hid hl
  have HI := Lib.hid (mc_info hl)
  clear hl
  cases hm : mayB m
  all_goals
    have HM := Lib.hid hm
    clear hm
    go_enter Try.func36, Try.ntmps36
    go_wp2_with (refine wpList_load_row rfl 31 (.tmp 1) rfl w.heap.size rfl 31 (mc m) (0, 0) _ (Blk.new _ _ _) Try.underlying31 rfl HI.out ?_)
    refine (mayBe_msg m HL.out _).mono ?_
    rintro e w1 ⟨rfl, hb1⟩
    rw [HM.out]
    have HB1 := Lib.hid (stepB (stepA (Below.refl w.heap.size w) _) hb1)
    clear hb1
    go_wp2_with fail
    go_ret
    exact ⟨rfl, HB1.out⟩

set_option maxRecDepth 100000 in
set_option maxHeartbeats 1000000 in
theorem encode_ok (m : List Int) (hl : m.length = 28) (hm : mayB m = true) (w : World) :
    Calls Try.prog 27 #[.agg (mc m)] w fun e w' => ∃ A c, e = .returned (.tuple #[.slice A 88 c, .nilIface]) ∧ w'.ownsRow w.heap.size 5 1 (.slice A 88 c) 88 (u8s (encM m)) ∧ Below w.heap.size w w' := by
  have HL := Lib.hid hl
  have HI := Lib.hid (mc_info hl)
  have HF := Lib.hid (may_fits hm)
  have HM := Lib.hid hm
  have hn := fun W => run_eql_nil_nil (P := Try.prog) W 33 Try.underlying33
  clear hl hm
  go_enter Try.func27, Try.ntmps27
  go_wp2_with (refine wpList_load_row rfl 31 (.tmp 1) rfl w.heap.size rfl 31 (mc m) (0, 0) _ (Blk.new _ _ _) Try.underlying31 rfl HI.out ?_)
  refine (ok_any m HL.out _).mono ?_
  rintro e w1 ⟨rfl, hb1⟩
  rw [HM.out, if_pos rfl]
  have HB1 := Lib.hid (stepB (stepA (Below.refl w.heap.size w) _) hb1)
  have HM1 := Lib.hid ((Blk.new w 31 (mc m)).here hb1)
  clear hb1
  go_wp2_with (refine wpList_load_row rfl 31 (.tmp 1) rfl w.heap.size rfl 31 (mc m) (0, 0) _ HM1.out Try.underlying31 rfl HI.out ?_)
  refine (write_any m HL.out HF.out _).mono ?_
  rintro e w2 ⟨A, c, rfl, hown, hb2⟩
  have HO2 := Lib.hid (own_base hown HB1.out.size)
  have HB2 := Lib.hid (stepB HB1.out hb2)
  clear hown hb2
  go_wp2_with fail
  go_ret2
  exact ⟨A, c, rfl, HO2.out, HB2.out⟩
set_option maxRecDepth 100000 in
set_option maxHeartbeats 1000000 in
theorem encode_bad (m : List Int) (hl : m.length = 28) (hm : mayB m = false) (w : World) :
    Calls Try.prog 27 #[.agg (mc m)] w fun e w' => e = .returned (.tuple #[.slice none 0 0, errno 5]) ∧ Below w.heap.size w w' := by
  have HL := Lib.hid hl
  have HI := Lib.hid (mc_info hl)
  have HM := Lib.hid hm
  have hn := fun W => run_eql_held_nil (P := Try.prog) W 33 69 (.int .i64 5) Try.underlying33
  clear hl hm
  go_enter Try.func27, Try.ntmps27
  go_wp2_with (refine wpList_load_row rfl 31 (.tmp 1) rfl w.heap.size rfl 31 (mc m) (0, 0) _ (Blk.new _ _ _) Try.underlying31 rfl HI.out ?_)
  refine (ok_any m HL.out _).mono ?_
  rintro e w1 ⟨rfl, hb1⟩
  rw [HM.out, if_neg (by decide)]
  have HB1 := Lib.hid (stepB (stepA (Below.refl w.heap.size w) _) hb1)
  clear hb1
  go_wp2_with fail
  go_ret2
  exact ⟨rfl, HB1.out⟩

/-- The document's example. -/
def exM : List Int := [4, 0, 2, 7, 0, 0, 0, 0, 0, 0, 0, 0, 0, 0, 0, 0, 0, 0, 0, 0, 0, 0, 0, 0, 0, 0, 0, 0]
theorem exM_may : mayB exM = true := by decide +kernel
theorem exM_bytes : encM exM = [4, 0, 2, 0, 0, 0, 7] ++ List.replicate 81 0 := by decide +kernel
end Go.Proofs.Ytmjmplkhngpgnaa
/- Layer 4's statements: the document's example (alive), and the kinds' names. -/
namespace Go.Proofs.Ytmjmplkhngpgnaa
open Go.RowKit
set_option linter.unusedVariables false
set_option linter.unusedSimpArgs false

theorem own_form {w : World} {base n c : Nat} {e : TypeId} {A : Option Addr} {xs : List Value} (h : w.ownsRow base e 1 (.slice A n c) n xs) (hn : 0 < n) :
    ∃ g cur, A = some ⟨g, 0, none⟩ ∧ base ≤ g ∧ n ≤ c ∧ c ≤ maxLen ∧ Blk w g e cur ∧ cur.size = c ∧ cur.toList.take n = xs := by
  rcases h with ⟨h0, ⟨h1, h2⟩ | ⟨g, cap, cur, hv, hb, hh, h2, h3, h4, h5⟩⟩
  · omega
  · simp only [Value.slice.injEq, true_and] at hv
    obtain ⟨rfl, rfl⟩ := hv
    exact ⟨g, cur, rfl, hb, h2, h3, hh, by omega, by simpa using h5⟩
theorem Reads.takeU {w : World} {B n k : Nat} {A : Option Addr} {l : List UInt8} (h : Reads w B 1 A n (u8s l)) (hk : k ≤ n) : Reads w B 1 A k (u8s (l.take k)) := by
  have hl : l.length = n := h.u8_len
  refine ⟨by simp [u8s_length]; omega, fun h0 => ?_⟩
  obtain ⟨ad, e, hb, hc⟩ := h.2 (by omega)
  refine ⟨ad, e, hb, fun j u hu => hc j u ?_⟩
  have hj : j < k := by have := (List.getElem?_eq_some_iff.1 hu).1; simp [u8s_length] at this; omega
  rw [← hu]
  simp [u8s, List.getElem?_take, hj]
theorem reads_bytes {w : World} {b : Nat} {t : TypeId} {l : List UInt8} {n : Nat} (h : Blk w b t (u8s l).toArray) (hn : l.length = n) : Reads w w.heap.size 1 (some ⟨b, 0, none⟩) n (u8s l) :=
  ⟨by simp [u8s, hn], fun _ => ⟨_, rfl, h.lt, fun j u hu => by
    have := h.cell j
    rw [show (⟨b, 0, none⟩ : Addr).add j = ⟨b, j, none⟩ by unfold Addr.add; split <;> simp_all, this]
    simpa using hu⟩⟩

set_option maxRecDepth 100000 in
set_option maxHeartbeats 4000000 in
theorem msgAlive (w : World) : Calls Try.prog 9 #[] w fun e w' => e = .returned (.bool true) ∧ Below w.heap.size w w' := by
  have hn := fun W => run_eql_nil_nil (P := Try.prog) W 33 Try.underlying33
  go_enter Try.func9, Try.ntmps9
  go_wp2_with fail
  refine (encode_ok exM rfl exM_may _).mono ?_
  rintro e w1 ⟨A, c, rfl, hown, hb1⟩
  rw [exM_bytes] at hown
  obtain ⟨g, cur, rfl, hg, h88, hcm, hblk, hcs, hcur⟩ := own_form hown (by omega)
  have HB1 := Lib.hid hb1
  have HR := Lib.hid (Reads.of_own hown)
  have HLT := Lib.hid hblk.lt
  clear hown hb1 hcur hcs hblk hg
  unfold maxLen at hcm
  have h7 : (7 : Int) ≤ c := by omega
  have h7n : 7 ≤ c := by omega
  go_wp2_with fail
  refine (same_yes (some ⟨g, 0, none⟩) (some ⟨w1.heap.size, 0, none⟩) 7 c 7 _ _ [4, 0, 2, 0, 0, 0, 7] _ rfl (by omega) ((HR.out.alloc (Nat.le_refl _) _).takeU (k := 7) (by omega)) (reads_bytes (Blk.new _ _ _) rfl)).mono ?_
  rintro e V ⟨rfl, q, hV⟩
  have HR2 := Lib.hid (show Reads V (w1.alloc (.cells #[.int .u8 4, .int .u8 0, .int .u8 2, .int .u8 0, .int .u8 0, .int .u8 0, .int .u8 7] 5)).heap.size 1 (some ⟨g, 0, none⟩) 88 (u8s ([4, 0, 2, 0, 0, 0, 7] ++ List.replicate 81 0)) by
    rw [hV]; exact ((HR.out.alloc (Nat.le_refl _) _).more (by simp)).drewN q)
  have HB2 := Lib.hid (show Below w.heap.size w V by rw [hV]; exact below_drewN (stepA HB1.out _) q)
  clear hV
  go_wp2_with fail
  go_loopw [3] (fun i W => ∃ k q : Nat, 7 ≤ k ∧ k ≤ 88 ∧ i = .int .i64 k ∧ W = V.drewN q) (fun i _ => 88 - (intOf i).toNat)
  case atStart => exact ⟨7, 0, by omega, by omega, rfl, rfl⟩
  case round =>
    obtain ⟨k, q, hk7, hk, rfl, rfl⟩ := hrel
    by_cases hlt : k < 88
    · have hc0 : V.cell? ⟨g, k, none⟩ = some (.int .u8 0) := by
        obtain ⟨ad, e, _, hc⟩ := HR2.out.2 (by omega)
        cases e
        rw [← show (⟨g, 0, none⟩ : Addr).add k = ⟨g, k, none⟩ by rw [Addr.add_mid, Nat.zero_add]]
        refine hc k _ ?_
        simp only [u8s, List.getElem?_map]
        rw [List.getElem?_append_right (by simpa using hk7), List.getElem?_replicate, if_pos (by simp only [List.length_cons, List.length_nil]; omega)]
        rfl
      go_wp2_with fail
      go_roundw
      case rel => exact ⟨k + 1, _, by omega, by omega, by go_num, rfl⟩
      case measure => simp [intOf]; omega
    · go_wp2_with fail
      go_ret
      exact ⟨rfl, below_drewN HB2.out _⟩
end Go.Proofs.Ytmjmplkhngpgnaa
/- The contract of package msg's Decode. -/
namespace Go.Proofs.Ytmjmplkhngpgnaa
open Go.RowKit
set_option linter.unusedVariables false
set_option linter.unusedSimpArgs false


set_option maxRecDepth 100000 in
set_option maxHeartbeats 4000000 in
theorem decode_short (A : Option Addr) (n cap : Nat) (hn : n < 88) (w : World) :
    Calls Try.prog 10 #[.slice A n cap] w fun e w' => e = .returned (.tuple #[.agg (mc zM), errno 3]) ∧ Below w.heap.size w w' := by
  have d1 : decide ((n : Int) < 88) = true := by simp; omega
  have d2 : decide (n < 88) = true := by simp; omega
  have HZ := Lib.hid (mc_info zM_length)
  have H0 := Lib.hid (Blk.new w 31 (mc zM))
  go_enter Try.func10, Try.ntmps10
  rw [mc_zero] at H0
  go_wp2_with (refine wpList_store_mid rfl 31 (.tmp 2) (.tmp 10) rfl w.heap.size 0 (mc zM) rfl rfl (mc_there zM_length zM_length H0.out) HZ.out (ints_oneCell _) ?_)
  exact bodyPost_ret (v := .tuple #[.agg (mc zM), errno 3]) (results_cell_and rfl rfl rfl (loadM zM_length (mc_put zM_length zM_length H0.out))) rfl ⟨rfl, Below.setCells (Nat.le_refl _) _ _ _ (stepA (Below.refl _ _) _)⟩
set_option maxRecDepth 100000 in
set_option maxHeartbeats 4000000 in
theorem decode_long (A : Option Addr) (n cap : Nat) (hn : 88 < n) (w : World) :
    Calls Try.prog 10 #[.slice A n cap] w fun e w' => e = .returned (.tuple #[.agg (mc zM), errno 4]) ∧ Below w.heap.size w w' := by
  have d1 : decide ((n : Int) < 88) = false := by simp; omega
  have d2 : decide (n < 88) = false := by simp; omega
  have d3 : decide ((88 : Int) < n) = true := by simp; omega
  have d4 : decide (88 < n) = true := by simp; omega
  have HZ := Lib.hid (mc_info zM_length)
  have H0 := Lib.hid (Blk.new w 31 (mc zM))
  go_enter Try.func10, Try.ntmps10
  rw [mc_zero] at H0
  go_wp2_with (refine wpList_store_mid rfl 31 (.tmp 2) (.tmp 16) rfl w.heap.size 0 (mc zM) rfl rfl (mc_there zM_length zM_length H0.out) HZ.out (ints_oneCell _) ?_)
  exact bodyPost_ret (v := .tuple #[.agg (mc zM), errno 4]) (results_cell_and rfl rfl rfl (loadM zM_length (mc_put zM_length zM_length H0.out))) rfl ⟨rfl, Below.setCells (Nat.le_refl _) _ _ _ (stepA (Below.refl _ _) _)⟩

/-- What Decode answers of as many bytes as a message has. -/
def ansM (l : List UInt8) : List Int := if mayB (decM l) then decM l else zM
theorem ansM_length (l : List UInt8) : (ansM l).length = 28 := by unfold ansM; split <;> simp [zM]
set_option maxRecDepth 100000 in
set_option maxHeartbeats 8000000 in
theorem decode_88 (A : Option Addr) (cap : Nat) (l : List UInt8) (w : World) (hr : Reads w w.heap.size 1 A 88 (u8s l)) :
    Calls Try.prog 10 #[.slice A 88 cap] w fun e w' => e = .returned (.tuple #[.agg (mc (ansM l)), if mayB (decM l) then .nilIface else errno 5]) ∧ Below w.heap.size w w' := by
  have HZ := Lib.hid (mc_info zM_length)
  have HD := Lib.hid (mc_info (decM_length l))
  have HR := Lib.hid hr
  have H0 := Lib.hid (Blk.new w 31 (mc zM))
  have hn := fun W => run_eql_nil_nil (P := Try.prog) W 33 Try.underlying33
  have hmf : ∀ (fn : Fn) (first cap : Array Value) (w : World), (Instr.makeFunc fn first cap).run Try.prog w = .ok (.func fn first cap) w := fun _ _ _ _ => rfl
  clear hr
  cases hm : mayB (decM l)
  · have HM := Lib.hid hm
    clear hm
    go_enter Try.func10, Try.ntmps10
    rw [mc_zero] at H0
    go_wp2_with fail
    refine (new_any A 88 cap l (by omega) _ ((HR.out.alloc (Nat.le_refl _) _).more (by simp))).mono ?_
    rintro e w1 ⟨r, A1, c1, rfl, hr1, hR1, hA1, hlr, hb1⟩
    have B1 := Lib.hid (stepB (stepA (Below.refl w.heap.size w) _) hb1)
    have T1 := Lib.hid (H0.out.here hb1)
    have R1 := Lib.hid hr1
    have S1 := Lib.hid hR1
    have hlr1 : w.heap.size + 1 ≤ r := by simpa using hlr
    clear hr1 hR1 hA1 hlr hb1
    go_wp2_with fail
    refine (read_any r c1 A1 l _ R1.out S1.out).mono ?_
    rintro e w2 ⟨rfl, hb2⟩
    have B2 := Lib.hid (B1.out.trans (hb2.mono (by omega)))
    have T2 := Lib.hid (show Blk w2 w.heap.size 31 (mc zM) from T1.out.below hb2 (by omega))
    have hw2 : w.heap.size < w2.heap.size := T2.out.lt
    have hg2 : w.heap.size ≠ w2.heap.size := by omega
    clear hb2
    have N2 := Lib.hid (Blk.new w2 31 (mc zM))
    rw [mc_zero] at N2
    go_wp2_with (first
      | (refine wpList_store_mid rfl 31 (.tmp 4) (.tmp 23) rfl w2.heap.size 0 (mc (decM l)) rfl rfl (mc_there zM_length (decM_length l) N2.out) HD.out (ints_oneCell _) ?_
         have N3 := Lib.hid (mc_put zM_length (decM_length l) N2.out)
         have T3 := Lib.hid ((T2.out.alloc (.cells (mc zM) 31)).farCells hg2 (mc (decM l)).toList 0)
         have B3 := Lib.hid (Below.setCells (B := w.heap.size) (b := w2.heap.size) (Nat.le_of_lt hw2) (mc (decM l)).toList 0 _ (stepA B2.out (.cells (mc zM) 31)))
         rw [mc_zero] at T3 B3
         generalize World.setCells _ _ _ _ = V at N3 T3 B3 ⊢)
      | (refine wpList_load_row_g (by rfl) 31 (.tmp 4) rfl w2.heap.size rfl 31 (mc (decM l)) (0, 0) _ N3.out Try.underlying31 rfl HD.out ?_))
    refine (mayBe_msg (decM l) (decM_length l) _).mono ?_
    rintro e w4 ⟨rfl, hb4⟩
    rw [HM.out]
    have B4 := Lib.hid (stepB B3.out hb4)
    have T4 := Lib.hid (T3.out.here hb4)
    have N4 := Lib.hid (N3.out.here hb4)
    clear hb4
    have HA := Lib.hid (show ansM l = zM by unfold ansM; rw [HM.out]; rfl)
    go_wp2_with (refine wpList_store_mid rfl 31 (.tmp 2) (.tmp 32) rfl w.heap.size 0 (mc zM) rfl rfl (mc_there zM_length zM_length T4.out) HZ.out (ints_oneCell _) ?_)
    exact bodyPost_ret (v := .tuple #[.agg (mc zM), errno 5]) (results_cell_and rfl rfl rfl (loadM zM_length (mc_put zM_length zM_length T4.out))) rfl ⟨by rw [HA.out], Below.setCells (Nat.le_refl _) _ _ _ B4.out⟩
  · have HM := Lib.hid hm
    clear hm
    go_enter Try.func10, Try.ntmps10
    rw [mc_zero] at H0
    go_wp2_with fail
    refine (new_any A 88 cap l (by omega) _ ((HR.out.alloc (Nat.le_refl _) _).more (by simp))).mono ?_
    rintro e w1 ⟨r, A1, c1, rfl, hr1, hR1, hA1, hlr, hb1⟩
    have B1 := Lib.hid (stepB (stepA (Below.refl w.heap.size w) _) hb1)
    have T1 := Lib.hid (H0.out.here hb1)
    have R1 := Lib.hid hr1
    have S1 := Lib.hid hR1
    have hlr1 : w.heap.size + 1 ≤ r := by simpa using hlr
    clear hr1 hR1 hA1 hlr hb1
    go_wp2_with fail
    refine (read_any r c1 A1 l _ R1.out S1.out).mono ?_
    rintro e w2 ⟨rfl, hb2⟩
    have B2 := Lib.hid (B1.out.trans (hb2.mono (by omega)))
    have T2 := Lib.hid (show Blk w2 w.heap.size 31 (mc zM) from T1.out.below hb2 (by omega))
    have hw2 : w.heap.size < w2.heap.size := T2.out.lt
    have hg2 : w.heap.size ≠ w2.heap.size := by omega
    clear hb2
    have N2 := Lib.hid (Blk.new w2 31 (mc zM))
    rw [mc_zero] at N2
    go_wp2_with (first
      | (refine wpList_store_mid rfl 31 (.tmp 4) (.tmp 23) rfl w2.heap.size 0 (mc (decM l)) rfl rfl (mc_there zM_length (decM_length l) N2.out) HD.out (ints_oneCell _) ?_
         have N3 := Lib.hid (mc_put zM_length (decM_length l) N2.out)
         have T3 := Lib.hid ((T2.out.alloc (.cells (mc zM) 31)).farCells hg2 (mc (decM l)).toList 0)
         have B3 := Lib.hid (Below.setCells (B := w.heap.size) (b := w2.heap.size) (Nat.le_of_lt hw2) (mc (decM l)).toList 0 _ (stepA B2.out (.cells (mc zM) 31)))
         rw [mc_zero] at T3 B3
         generalize World.setCells _ _ _ _ = V at N3 T3 B3 ⊢)
      | (refine wpList_load_row_g (by rfl) 31 (.tmp 4) rfl w2.heap.size rfl 31 (mc (decM l)) (0, 0) _ N3.out Try.underlying31 rfl HD.out ?_))
    refine (mayBe_msg (decM l) (decM_length l) _).mono ?_
    rintro e w4 ⟨rfl, hb4⟩
    rw [HM.out]
    have B4 := Lib.hid (stepB B3.out hb4)
    have T4 := Lib.hid (T3.out.here hb4)
    have N4 := Lib.hid (N3.out.here hb4)
    clear hb4
    have HA := Lib.hid (show ansM l = decM l by unfold ansM; rw [HM.out]; rfl)
    go_wp2_with (first
      | (refine wpList_load_row rfl 31 (.tmp 4) rfl w2.heap.size rfl 31 (mc (decM l)) (0, 0) _ N4.out Try.underlying31 rfl HD.out ?_)
      | (refine wpList_store_mid rfl 31 (.tmp 2) (.tmp 34) rfl w.heap.size 0 (mc (decM l)) rfl rfl (mc_there zM_length (decM_length l) T4.out) HD.out (ints_oneCell _) ?_))
    exact bodyPost_ret (v := .tuple #[.agg (mc (decM l)), .nilIface]) (results_cell_and rfl rfl rfl (loadM (decM_length l) (mc_put zM_length (decM_length l) T4.out))) rfl ⟨by rw [HA.out], Below.setCells (Nat.le_refl _) _ _ _ B4.out⟩
end Go.Proofs.Ytmjmplkhngpgnaa
/- A message and its bytes, there and back. -/
namespace Go.Proofs.Ytmjmplkhngpgnaa
open Go.RowKit
set_option linter.unusedVariables false
set_option linter.unusedSimpArgs false

theorem pos_succ : ∀ i : Nat, i < 28 → posM (i + 1) = posM i + widM i := by decide +kernel
theorem wid_small : ∀ i : Nat, i < 28 → 1 ≤ widM i ∧ widM i ≤ 4 := by decide +kernel
/-- The bytes of the first numbers. -/
def encTo (m : List Int) (n : Nat) : List UInt8 := (List.range n).flatMap fun i => encN (widM i) (fld m i).toNat
theorem encTo_succ (m : List Int) (n : Nat) : encTo m (n + 1) = encTo m n ++ encN (widM n) (fld m n).toNat := by
  simp [encTo, List.range_succ, List.flatMap_append]
theorem encTo_length (m : List Int) : ∀ n, n ≤ 28 → (encTo m n).length = posM n
  | 0, _ => by simp [encTo, posM]
  | n + 1, h => by rw [encTo_succ, List.length_append, encTo_length m n (by omega), encN_length, pos_succ n (by omega)]
theorem encTo_at (m : List Int) {i : Nat} : ∀ n, n ≤ 28 → i < n → ((encTo m n).drop (posM i)).take (widM i) = encN (widM i) (fld m i).toNat
  | 0, _, h => by omega
  | n + 1, h, hi => by
    have hl := encTo_length m n (by omega)
    rw [encTo_succ]
    by_cases hn : i < n
    · have h1 := encTo_at m n (by omega) hn
      have h2 := encTo_length m (i + 1) (by omega)
      have h3 := pos_succ i (by omega)
      have h4 : posM (i + 1) ≤ posM n := by
        have : ∀ k, i + 1 + k ≤ 28 → posM (i + 1) ≤ posM (i + 1 + k) := by
          intro k
          induction k with
          | zero => intro _; exact Nat.le_refl _
          | succ k ih => intro hk; have := ih (by omega); have := pos_succ (i + 1 + k) (by omega); rw [show i + 1 + (k + 1) = i + 1 + k + 1 by omega]; omega
        have := this (n - (i + 1)) (by omega)
        rwa [show i + 1 + (n - (i + 1)) = n by omega] at this
      rw [List.drop_append_of_le_length (by omega), List.take_append_of_le_length (by rw [List.length_drop]; omega)]
      exact h1
    · obtain rfl : i = n := by omega
      rw [← hl, List.drop_left, List.take_of_length_le (by rw [encN_length]; exact Nat.le_refl _)]
theorem encM_to {m : List Int} (hl : m.length = 28) : encM m = encTo m 28 := by
  unfold encM headM
  rw [pathL_list hl]
  rfl
/-- A number of a message that may be fits. -/
theorem may_fit {m : List Int} (h : mayB m = true) {i : Nat} (hi : i < 28) : 0 ≤ fld m i ∧ fld m i < pw (widM i) := by
  obtain ⟨⟨h0, h1, h2⟩, h3, h4, ⟨h5, h6⟩, h7, h8, h9, h10, h11, hp⟩ := may_parts h
  by_cases h12 : i < 12
  · match i, h12 with
    | 0, _ => rw [show widM 0 = 1 from rfl, pw1]; omega
    | 1, _ => rw [show widM 1 = 1 from rfl, pw1]; omega
    | 2, _ => rw [show widM 2 = 1 from rfl, pw1]; omega
    | 3, _ => rw [show widM 3 = 4 from rfl, pw4]; omega
    | 4, _ => rw [show widM 4 = 4 from rfl, pw4]; omega
    | 5, _ => rw [show widM 5 = 1 from rfl, pw1]; omega
    | 6, _ => rw [show widM 6 = 1 from rfl, pw1]; omega
    | 7, _ => rw [show widM 7 = 1 from rfl, pw1]; omega
    | 8, _ => rw [show widM 8 = 1 from rfl, pw1]; omega
    | 9, _ => rw [show widM 9 = 4 from rfl, pw4]; omega
    | 10, _ => rw [show widM 10 = 4 from rfl, pw4]; omega
    | 11, _ => rw [show widM 11 = 1 from rfl, pw1]; omega
  · have hw : widM i = 4 := by unfold widM; rw [if_neg (by omega), if_neg (by omega), if_neg (by omega), if_neg (by omega), if_neg (by omega)]
    have hj := hp ((i - 12) / 2) (by omega)
    rw [hw, pw4]
    unfold stTx stSeq at hj
    rcases (show i = 12 + (i - 12) / 2 * 2 ∨ i = 12 + (i - 12) / 2 * 2 + 1 by omega) with e | e
    · have := hj.1; rw [← e] at this; omega
    · have := hj.2; rw [← e] at this; omega
theorem encM_length {m : List Int} (hl : m.length = 28) : (encM m).length = 88 := by
  rw [encM_to hl, encTo_length m 28 (Nat.le_refl _)]; rfl
theorem list_fld {m : List Int} (hl : m.length = 28) : m = (List.range 28).map (fld m) := by
  apply List.ext_getElem?
  intro i
  by_cases hi : i < 28
  · rw [fld_get (by omega)]; simp [hi]
  · rw [List.getElem?_eq_none (by omega), List.getElem?_eq_none (by simp; omega)]
/-- What was encoded is decoded. -/
theorem dec_enc {m : List Int} (hl : m.length = 28) (h : mayB m = true) : decM (encM m) = m := by
  conv => rhs; rw [list_fld hl]
  unfold decM
  apply List.map_congr_left
  intro i hi
  have hi' : i < 28 := by simpa using hi
  obtain ⟨f0, f1⟩ := may_fit h hi'
  unfold decAt
  rw [encM_to hl, encTo_at m 28 (Nat.le_refl _) hi', decN_encN (by omega)]
  omega
theorem fld_dec (l : List UInt8) {i : Nat} (hi : i < 28) : fld (decM l) i = decAt l i := by
  unfold fld decM; simp [List.getD, hi]
theorem encTo_dec {l : List UInt8} (hl : l.length = 88) : ∀ n, n ≤ 28 → encTo (decM l) n = l.take (posM n)
  | 0, _ => by simp [encTo, posM]
  | n + 1, h => by
    have hp := pos_wid (i := n) (by omega)
    rw [encTo_succ, encTo_dec hl n (by omega), pos_succ n (by omega), List.take_add, fld_dec l (by omega)]
    unfold decAt
    rw [Int.toNat_natCast]
    have hs : ((l.drop (posM n)).take (widM n)).length = widM n := by rw [List.length_take, List.length_drop]; omega
    have := encN_decN ((l.drop (posM n)).take (widM n))
    rw [hs] at this
    rw [this]
/-- Bytes that are decoded are those of what they are. -/
theorem enc_dec {l : List UInt8} (hl : l.length = 88) : encM (decM l) = l := by
  rw [encM_to (decM_length l), encTo_dec hl 28 (Nat.le_refl _)]
  exact List.take_of_length_le (by rw [hl]; exact Nat.le_refl _)
end Go.Proofs.Ytmjmplkhngpgnaa
