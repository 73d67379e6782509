/- The document's own answer to a text. -/
import Derived.Test.YtjfadhdnaloleaaDoorRefG
import Derived.Deep.DeepCutAuto
namespace Go.Proofs.YtjfadhdnaloleaaDoor
open Go.RowKit
set_option linter.unusedVariables false
set_option linter.unusedSimpArgs false

/-- The document's answer, as values. -/
def ansV (a : Ans) : Value :=
  match a with
  | (some (t, r), _) => .tuple #[resV t r, .int .i64 0, .int .i64 0]
  | (none, p) => .tuple #[resV 0 0, .int .i64 p, .int .i64 5]
theorem ans_some {l : List UInt8} {t r : Nat} (h1 : 1 ≤ t) (h2 : t ≤ 250) (h3 : r ≤ 250) (h : l = Tx t r) : ansV (parseP l) = .tuple #[resV t r, .int .i64 0, .int .i64 0] := by
  subst h; rw [parseP_text h1 h2 h3]; rfl
theorem ans_none {l : List UInt8} {p : Nat} (h : Asks l (none, p)) : ansV (parseP l) = .tuple #[resV 0 0, .int .i64 p, .int .i64 5] := by
  rw [Asks_one (parseP_asks l) h]; rfl

/-- No text of a table below k. -/
def NoT (l : List UInt8) (k : Nat) : Prop := ∀ t r, 1 ≤ t → t < k → r ≤ 250 → l ≠ Tx t r
/-- No text of a table's row below k. -/
def NoR (l : List UInt8) (t k : Nat) : Prop := ∀ r, r < k → l ≠ Tx t r
theorem NoT.zero (l : List UInt8) : NoT l 1 := fun t r h1 h2 _ => by omega
theorem NoR.zero (l : List UInt8) (t : Nat) : NoR l t 0 := fun r h => by omega
theorem NoR.next {l : List UInt8} {t k : Nat} (h : NoR l t k) (hk : l ≠ Tx t k) : NoR l t (k + 1) := fun r hr => by
  by_cases e : r = k
  · rw [e]; exact hk
  · exact h r (by omega)
theorem NoT.next {l : List UInt8} {k : Nat} (h : NoT l k) (hk : NoR l k 251) : NoT l (k + 1) := fun t r h1 h2 h3 => by
  by_cases e : t = k
  · rw [e]; exact hk r (by omega)
  · exact h t r h1 (by omega) h3
theorem Tx_head {t r : Nat} {c : UInt8} {u : List UInt8} (h : dig t = c :: u) : ∃ v, Tx t r = c :: v := by
  unfold Tx; split
  · exact ⟨u, h⟩
  · exact ⟨u ++ 46 :: dig r, by rw [h]; rfl⟩

/-- A block of zeros that is the answer's. -/
abbrev ZeroAt (w : World) (b : Nat) : Prop := Blk w b 23 #[.int .i64 0, .int .i64 0]

theorem zero_cells {w : World} {b : Nat} (h : ZeroAt w b) : w.cell? ⟨b, 0, none⟩ = some (.int .i64 0) ∧ w.cell? ⟨b, 1, none⟩ = some (.int .i64 0) ∧ w.frozen? ⟨b, 0, none⟩ = false ∧ w.frozen? ⟨b, 1, none⟩ = false ∧ b < w.heap.size :=
  ⟨h.cell 0, h.cell 1, h.frozen 0, h.frozen 1, h.lt⟩
theorem goes_cut (s : ByteArray) (k : Nat) (hs : s.size ≤ maxLen) (hk : k ≤ s.size) (w : World) :
    Calls Tryd.prog 29 #[.string (s.extract 0 k)] w fun e w' => e = .returned (.bool (goesB (s.data.toList.take k))) ∧ Below w.heap.size w w' := by
  have h := goes_any (s.extract 0 k) (by simp [ByteArray.size_extract]; omega) w
  rw [Lib.extract_data] at h
  simpa using h

theorem ne_head {s : ByteArray} (hs : 0 < s.size) {t r : Nat} {c : UInt8} {u : List UInt8} (hd : dig t = c :: u) (hc : ((c.toNat : Int) == (s[0].toNat : Int)) = false) : s.data.toList ≠ Tx t r := by
  intro e
  obtain ⟨v, hv⟩ := Tx_head (r := r) hd
  have h0 : s.data.toList[0]? = some s[0] := List.getElem?_eq_getElem (by simpa using hs)
  rw [e, hv] at h0
  simp only [List.getElem?_cons_zero, Option.some.injEq] at h0
  rw [h0] at hc; simp at hc
theorem ne_empty {s : ByteArray} (hs : ¬ 0 < s.size) (t r : Nat) : s.data.toList ≠ Tx t r := by
  intro e
  have : s.data.toList.length = 0 := by rw [show s.data.toList.length = s.size by simp]; omega
  rw [e] at this
  exact Tx_ne t r (List.eq_nil_of_length_eq_zero this)
def eqB (s : ByteArray) (t r : Nat) : Bool := decide (s.data.toList = Tx t r)
theorem tx_eq (s : ByteArray) (t r : Nat) : (Tx t r == s.toList) = eqB s t r := by
  unfold eqB
  rw [Lib.toList_data, Bool.eq_iff_iff]
  simp only [beq_iff_eq, decide_eq_true_eq]
  exact eq_comm
theorem eqB_yes {s : ByteArray} {t r : Nat} (h : eqB s t r = true) : s.data.toList = Tx t r := of_decide_eq_true h
theorem eqB_no {s : ByteArray} {t r : Nat} (h : eqB s t r = false) : s.data.toList ≠ Tx t r := of_decide_eq_false h
theorem eqB_of {s : ByteArray} {t r : Nat} (h : s.data.toList ≠ Tx t r) : eqB s t r = false := decide_eq_false h
/-- What the test of one text leaves. -/
structure CutP (s : ByteArray) (t r : Nat) (w : World) (v : Value) (wx : World) : Prop where
  val : v = .bool (eqB s t r)
  bel : Below w.heap.size w wx
  zero : ZeroAt wx w.heap.size
theorem digR_cons {t : Nat} {c : UInt8} {u : List UInt8} (h : t ≤ 250) (hd : dig t = c :: u) (w : World) :
    Calls Tryd.prog 25 #[.int .i64 t] w fun e w' => e = .returned (strV (c :: u)) ∧ Below w.heap.size w w' := by
  rw [← hd]; exact digR t h w

set_option maxRecDepth 100000 in
set_option maxHeartbeats 4000000 in
theorem parseR_any (s : ByteArray) (hs : s.size ≤ 200) (w : World) :
    Calls Tryd.prog 18 #[.string s] w fun e w' => e = .returned (ansV (parseP s.data.toList)) ∧ Below w.heap.size w w' := by
  have hsm : s.size ≤ maxLen := by unfold maxLen; omega
  have HM := Lib.hid hsm; clear hsm
  go_enter Tryd.func18, Tryd.ntmps18
  go_wp2_with fail
  go_loopw [5] (fun i wr => ∃ k : Nat, k ≤ s.size ∧ G (s.data.toList.take k) ∧ i = .int .i64 k ∧ Below w.heap.size w wr ∧ ZeroAt wr w.heap.size) (fun i _ => s.size - (intOf i).toNat)
  case atStart => exact ⟨0, Nat.zero_le _, by simpa using G_nil, rfl, Joins.below_alloc1 _ _, Blk.new _ _ _⟩
  case round =>
    obtain ⟨k, hk, hg, rfl, hb, hz⟩ := hrel
    rename_i wr _
    have HG := Lib.hid hg
    have HB := Lib.hid hb
    have HZ := Lib.hid hz
    obtain ⟨k0, k1, f0, f1, hlw⟩ := zero_cells hz
    have hbz := hb.size
    clear hg hb hz
    by_cases hlt : k < s.size
    · by_cases h7 : 7 < k
      · have HA := Lib.hid (ans_none (l := s.data.toList) (p := k) (.inr ⟨k, by simpa using hk, rfl, HG.out, .inl ⟨by simpa using hlt, fun hG => by have := G_len hG; simp at this; omega⟩⟩))
        go_wp2_with fail
        refine bodyPost_ret (v := .tuple #[resV 0 0, .int .i64 k, .int .i64 5]) (by simp [results, Tryd.results18, go_sem, k0, k1]) rfl ?_
        refine ⟨by rw [HA.out], ?_⟩
        repeat (first | exact HB.out | exact hw5 | refine Below.setCell ?_ (by simp <;> omega) _ | refine Below.alloc ?_ (by simp <;> omega) _)
      · go_wp2_with fail
        go_at_call 29
        refine (goes_cut s (k + 1) HM.out (by omega) _).mono ?_
        rintro e w5 ⟨rfl, hb5⟩
        have hz5 := HZ.out.here hb5
        have hw5 : Below w.heap.size w w5 := HB.out.trans (hb5.mono hbz)
        have HZ5 := Lib.hid hz5
        have HW5 := Lib.hid hw5
        clear k0 k1 f0 f1 hlw hb5
        obtain ⟨k0, k1, f0, f1, hlw⟩ := zero_cells hz5
        clear hz5 hw5
        cases hgo : goesB (s.data.toList.take (k + 1))
        · have HA := Lib.hid (ans_none (l := s.data.toList) (p := k) (.inr ⟨k, by simpa using hk, rfl, HG.out, .inl ⟨by simpa using hlt, fun hG => by rw [← goesB_iff, hgo] at hG; cases hG⟩⟩))
          clear hgo
          go_wp2_with fail
          refine bodyPost_ret (v := .tuple #[resV 0 0, .int .i64 k, .int .i64 5]) (by simp [results, Tryd.results18, go_sem, k0, k1]) rfl ?_
          refine ⟨by rw [HA.out], ?_⟩
          have hw5 := HW5.out
          repeat (first | exact HB.out | exact hw5 | refine Below.setCell ?_ (by simp <;> omega) _ | refine Below.alloc ?_ (by simp <;> omega) _)
        · have HA := Lib.hid ((goesB_iff _).1 hgo)
          clear hgo
          go_wp2_with fail
          go_roundw
          case rel => exact ⟨k + 1, by omega, HA.out, by go_num, HW5.out, HZ5.out⟩
          case measure => simp [intOf]; omega
    · obtain rfl : k = s.size := by omega
      have HGL := Lib.hid (show G s.data.toList by have := HG.out; rwa [List.take_of_length_le (by simp)] at this)
      clear HG
      go_wp2_with fail
      go_loopw [6] (fun i wr => ∃ t : Nat, 1 ≤ t ∧ t ≤ 251 ∧ NoT s.data.toList t ∧ i = .int .i64 t ∧ Below w.heap.size w wr ∧ ZeroAt wr w.heap.size) (fun i _ => 251 - (intOf i).toNat)
      case atStart => exact ⟨1, by omega, by omega, NoT.zero _, rfl, HB.out, HZ.out⟩
      case round =>
        clear HB HZ k0 k1 f0 f1 hlw hbz
        obtain ⟨t, ht1, ht2, hn, rfl, hb, hz⟩ := hrel
        rename_i wr2 _
        have HN := Lib.hid hn
        have HB := Lib.hid hb
        have HZ := Lib.hid hz
        obtain ⟨k0, k1, f0, f1, hlw⟩ := zero_cells hz
        have hbz := hb.size
        clear hn hb hz
        by_cases ht : t < 251
        · have dt : decide ((t : Int) < 251) = true := decide_eq_true (by omega)
          go_wp2_with fail
          go_loopw [7] (fun i wr => ∃ r : Nat, r ≤ 251 ∧ NoR s.data.toList t r ∧ i = .int .i64 r ∧ Below w.heap.size w wr ∧ ZeroAt wr w.heap.size) (fun i _ => 251 - (intOf i).toNat)
          case atStart => exact ⟨0, by omega, NoR.zero _ _, rfl, HB.out, HZ.out⟩
          case round =>
            clear HB HZ k0 k1 f0 f1 hlw hbz
            obtain ⟨r, hr2, hm, rfl, hb, hz⟩ := hrel
            rename_i wr3 _
            have HM2 := Lib.hid hm
            have HB := Lib.hid hb
            have HZ := Lib.hid hz
            obtain ⟨k0, k1, f0, f1, hlw⟩ := zero_cells hz
            have hbz := hb.size
            clear hm hb hz
            by_cases hr : r < 251
            · have dr : decide ((r : Int) < 251) = true := decide_eq_true (by omega)
              have hbb := HB.out.drew
              have hzz := HZ.out.drew
              go_upto_region 12 with (fail)
              go_cut [52] (fun v wx => CutP s t r w v wx)
              case first =>
                by_cases hs0 : 0 < s.size
                · obtain ⟨c, u, hd, _, _⟩ := dig_head ht1
                  have HD := Lib.hid hd
                  have hsd : decide ((0 : Int) < (s.size : Int)) = true := by simp; omega
                  have hgc : ∀ h, (ByteArray.mk (c :: u).toArray)[0]'h = c := fun _ => rfl
                  clear hd
                  cases hc : ((c.toNat : Int) == (s[0].toNat : Int))
                  · refine wp_region_any (by kernel_rfl) ?_
                    change wpAny _ _ _ _ _ _ _ (World.drew _)
                    refine wpAny_take (i := 0) (v := ?_) rfl (by kernel_rfl) (by kernel_rfl) (by kernel_rfl) (fun _ _ _ h => h) (Or.inl ⟨by rfl, ?_⟩) ?_
                    rotate_left
                    · (intro w0; go_simp; try with_reducible rfl)
                    refine wpAny_take (i := 1) (v := ?_) rfl (by kernel_rfl) (by kernel_rfl) (by kernel_rfl) (fun _ _ _ h => h) (Or.inl ⟨by rfl, ?_⟩) ?_
                    rotate_left
                    · (intro w0; go_simp; try with_reducible rfl)
                    refine wpAny_take (i := 2) (v := ?_) rfl (by kernel_rfl) (by kernel_rfl) (by kernel_rfl) (fun _ _ _ h => h) (Or.inl ⟨by rfl, ?_⟩) ?_
                    rotate_left
                    · (intro w0; go_simp; try with_reducible rfl)
                    refine wpAny_take (i := 3) (v := ?_) rfl (by kernel_rfl) (by kernel_rfl) (by kernel_rfl) (fun _ _ _ h => h) (Or.inl ⟨by rfl, ?_⟩) ?_
                    rotate_left
                    · (intro w0; go_simp; try with_reducible rfl)
                    refine wpAny_take (i := 4) (v := ?_) rfl (by kernel_rfl) (by kernel_rfl) (by kernel_rfl) (fun _ _ _ h => h) (Or.inl ⟨by rfl, ?_⟩) ?_
                    rotate_left
                    · (intro w0; go_simp; try with_reducible rfl)
                    refine wpAny_take (i := 7) (v := ?_) rfl (by kernel_rfl) (by kernel_rfl) (by kernel_rfl) (fun _ _ _ h => h) (Or.inl ⟨by rfl, ?_⟩) ?_
                    rotate_left
                    · (intro w0; go_simp; try with_reducible rfl)
                    refine wpAny_take (i := 8) (v := ?_) rfl (by kernel_rfl) (by kernel_rfl) (by kernel_rfl) (fun _ _ _ h => h) (Or.inl ⟨by rfl, ?_⟩) ?_
                    rotate_left
                    · (intro w0; go_simp; try with_reducible rfl)
                    refine wpAny_ready (rs := [5]) (by kernel_rfl) (by simp) ?_
                    refine AllReady.cons rfl (fun K hK => ?_) AllReady.nil
                    go_simp
                    refine (digR_cons (by omega) HD.out _).mono ?_
                    rintro e w5 ⟨rfl, hb5⟩
                    go_simp
                    refine hK _ _ ?_
                    clear hK K
                    refine wpAny_take (i := 6) (v := ?_) rfl (by kernel_rfl) (by kernel_rfl) (by kernel_rfl) (fun _ _ _ h => h) (Or.inl ⟨by rfl, ?_⟩) ?_
                    rotate_left
                    · (intro w0; go_simp; try with_reducible rfl)
                    refine wpAny_take (i := 9) (v := ?_) rfl (by kernel_rfl) (by kernel_rfl) (by kernel_rfl) (fun _ _ _ h => h) (Or.inl ⟨by rfl, ?_⟩) ?_
                    rotate_left
                    · (intro w0; go_simp; try with_reducible rfl)
                    refine wpAny_take (i := 10) (v := ?_) rfl (by kernel_rfl) (by kernel_rfl) (by kernel_rfl) (fun _ _ _ h => h) (Or.inl ⟨by rfl, ?_⟩) ?_
                    rotate_left
                    · (intro w0; go_simp; try with_reducible rfl)
                    refine wpAny_take (i := 11) (v := ?_) rfl (by kernel_rfl) (by kernel_rfl) (by kernel_rfl) (fun _ _ _ h => h) (Or.inl ⟨by rfl, ?_⟩) ?_
                    rotate_left
                    · (intro w0; go_simp; try with_reducible rfl)
                    go_simp
                    refine wpAny_take (i := 12) (v := undef) rfl (by kernel_rfl) (by kernel_rfl) (by kernel_rfl) (fun _ _ _ h => h) (Or.inr ⟨by rfl, rfl⟩) ?_
                    refine wpAny_take (i := 13) (v := undef) rfl (by kernel_rfl) (by kernel_rfl) (by kernel_rfl) (fun _ _ _ h => h) (Or.inr ⟨by rfl, rfl⟩) ?_
                    refine wpAny_take (i := 14) (v := undef) rfl (by kernel_rfl) (by kernel_rfl) (by kernel_rfl) (fun _ _ _ h => h) (Or.inr ⟨by rfl, rfl⟩) ?_
                    go_simp
                    refine wpAny_take (i := 15) (v := undef) rfl (by kernel_rfl) (by kernel_rfl) (by kernel_rfl) (fun _ _ _ h => h) (Or.inr ⟨by rfl, rfl⟩) ?_
                    refine wpAny_take (i := 16) (v := undef) rfl (by kernel_rfl) (by kernel_rfl) (by kernel_rfl) (fun _ _ _ h => h) (Or.inr ⟨by rfl, rfl⟩) ?_
                    refine wpAny_take (i := 17) (v := undef) rfl (by kernel_rfl) (by kernel_rfl) (by kernel_rfl) (fun _ _ _ h => h) (Or.inr ⟨by rfl, rfl⟩) ?_
                    go_simp
                    refine wpAny_take (i := 18) (v := ?_) rfl (by kernel_rfl) (by kernel_rfl) (by kernel_rfl) (fun _ _ _ h => h) (Or.inl ⟨by rfl, ?_⟩) ?_
                    rotate_left
                    · (intro w0; go_simp; try with_reducible rfl)
                    refine wpAny_done (by kernel_rfl) ?_ _
                    go_simp
                    go_wp2_with fail
                    go_meet
                    exact CutP.mk (by rw [eqB_of (ne_head hs0 HD.out hc)]) (hbb.trans (hb5.mono (Nat.le_of_lt (Blk.lt hzz)))) (Blk.here hzz hb5)
                  · refine wp_region_any (by kernel_rfl) ?_
                    change wpAny _ _ _ _ _ _ _ (World.drew _)
                    refine wpAny_take (i := 0) (v := ?_) rfl (by kernel_rfl) (by kernel_rfl) (by kernel_rfl) (fun _ _ _ h => h) (Or.inl ⟨by rfl, ?_⟩) ?_
                    rotate_left
                    · (intro w0; go_simp; try with_reducible rfl)
                    refine wpAny_take (i := 1) (v := ?_) rfl (by kernel_rfl) (by kernel_rfl) (by kernel_rfl) (fun _ _ _ h => h) (Or.inl ⟨by rfl, ?_⟩) ?_
                    rotate_left
                    · (intro w0; go_simp; try with_reducible rfl)
                    refine wpAny_take (i := 2) (v := ?_) rfl (by kernel_rfl) (by kernel_rfl) (by kernel_rfl) (fun _ _ _ h => h) (Or.inl ⟨by rfl, ?_⟩) ?_
                    rotate_left
                    · (intro w0; go_simp; try with_reducible rfl)
                    refine wpAny_take (i := 3) (v := ?_) rfl (by kernel_rfl) (by kernel_rfl) (by kernel_rfl) (fun _ _ _ h => h) (Or.inl ⟨by rfl, ?_⟩) ?_
                    rotate_left
                    · (intro w0; go_simp; try with_reducible rfl)
                    refine wpAny_take (i := 4) (v := ?_) rfl (by kernel_rfl) (by kernel_rfl) (by kernel_rfl) (fun _ _ _ h => h) (Or.inl ⟨by rfl, ?_⟩) ?_
                    rotate_left
                    · (intro w0; go_simp; try with_reducible rfl)
                    refine wpAny_take (i := 7) (v := ?_) rfl (by kernel_rfl) (by kernel_rfl) (by kernel_rfl) (fun _ _ _ h => h) (Or.inl ⟨by rfl, ?_⟩) ?_
                    rotate_left
                    · (intro w0; go_simp; try with_reducible rfl)
                    refine wpAny_take (i := 8) (v := ?_) rfl (by kernel_rfl) (by kernel_rfl) (by kernel_rfl) (fun _ _ _ h => h) (Or.inl ⟨by rfl, ?_⟩) ?_
                    rotate_left
                    · (intro w0; go_simp; try with_reducible rfl)
                    refine wpAny_ready (rs := [5]) (by kernel_rfl) (by simp) ?_
                    refine AllReady.cons rfl (fun K hK => ?_) AllReady.nil
                    go_simp
                    refine (digR_cons (by omega) HD.out _).mono ?_
                    rintro e w5 ⟨rfl, hb5⟩
                    go_simp
                    refine hK _ _ ?_
                    clear hK K
                    refine wpAny_take (i := 6) (v := ?_) rfl (by kernel_rfl) (by kernel_rfl) (by kernel_rfl) (fun _ _ _ h => h) (Or.inl ⟨by rfl, ?_⟩) ?_
                    rotate_left
                    · (intro w0; go_simp; try with_reducible rfl)
                    refine wpAny_take (i := 9) (v := ?_) rfl (by kernel_rfl) (by kernel_rfl) (by kernel_rfl) (fun _ _ _ h => h) (Or.inl ⟨by rfl, ?_⟩) ?_
                    rotate_left
                    · (intro w0; go_simp; try with_reducible rfl)
                    refine wpAny_take (i := 10) (v := ?_) rfl (by kernel_rfl) (by kernel_rfl) (by kernel_rfl) (fun _ _ _ h => h) (Or.inl ⟨by rfl, ?_⟩) ?_
                    rotate_left
                    · (intro w0; go_simp; try with_reducible rfl)
                    refine wpAny_take (i := 11) (v := ?_) rfl (by kernel_rfl) (by kernel_rfl) (by kernel_rfl) (fun _ _ _ h => h) (Or.inl ⟨by rfl, ?_⟩) ?_
                    rotate_left
                    · (intro w0; go_simp; try with_reducible rfl)
                    go_simp
                    refine wpAny_take (i := 12) (v := ?_) rfl (by kernel_rfl) (by kernel_rfl) (by kernel_rfl) (fun _ _ _ h => h) (Or.inl ⟨by rfl, ?_⟩) ?_
                    rotate_left
                    · (intro w0; go_simp; try with_reducible rfl)
                    refine wpAny_take (i := 13) (v := ?_) rfl (by kernel_rfl) (by kernel_rfl) (by kernel_rfl) (fun _ _ _ h => h) (Or.inl ⟨by rfl, ?_⟩) ?_
                    rotate_left
                    · (intro w0; go_simp; try with_reducible rfl)
                    go_simp
                    refine wpAny_take (i := 14) (v := ?_) rfl (by kernel_rfl) (by kernel_rfl) (by kernel_rfl) (fun _ _ _ h => h) (Or.inl ⟨by rfl, ?_⟩) ?_
                    rotate_left
                    · (intro w0; go_simp; try with_reducible rfl)
                    refine wpAny_take (i := 16) (v := ?_) rfl (by kernel_rfl) (by kernel_rfl) (by kernel_rfl) (fun _ _ _ h => h) (Or.inl ⟨by rfl, ?_⟩) ?_
                    rotate_left
                    · (intro w0; go_simp; try with_reducible rfl)
                    go_simp
                    refine wpAny_ready (rs := [15]) (by kernel_rfl) (by simp) ?_
                    refine AllReady.cons rfl (fun K hK => ?_) AllReady.nil
                    go_simp
                    refine (textR t r (by omega) (by omega) _).mono ?_
                    rintro e w6 ⟨rfl, hb6⟩
                    go_simp
                    refine hK _ _ ?_
                    clear hK K
                    go_simp
                    refine wpAny_take (i := 17) (v := ?_) rfl (by kernel_rfl) (by kernel_rfl) (by kernel_rfl) (fun _ _ _ h => h) (Or.inl ⟨by rfl, ?_⟩) ?_
                    rotate_left
                    · (intro w0; go_simp; try with_reducible rfl)
                    refine wpAny_take (i := 18) (v := ?_) rfl (by kernel_rfl) (by kernel_rfl) (by kernel_rfl) (fun _ _ _ h => h) (Or.inl ⟨by rfl, ?_⟩) ?_
                    rotate_left
                    · (intro w0; go_simp; try with_reducible rfl)
                    refine wpAny_done (by kernel_rfl) ?_ _
                    go_simp
                    go_wp2_with fail
                    go_meet
                    exact CutP.mk (by rw [tx_eq]) ((hbb.trans (hb5.mono (Nat.le_of_lt (Blk.lt hzz)))).trans (hb6.mono (Nat.le_of_lt (Blk.lt (Blk.here hzz hb5))))) (Blk.here (Blk.here hzz hb5) hb6)
                · have hsd : decide ((0 : Int) < (s.size : Int)) = false := decide_eq_false (by omega)
                  refine wp_region_any (by kernel_rfl) ?_
                  change wpAny _ _ _ _ _ _ _ (World.drew _)
                  refine wpAny_take (i := 0) (v := ?_) rfl (by kernel_rfl) (by kernel_rfl) (by kernel_rfl) (fun _ _ _ h => h) (Or.inl ⟨by rfl, ?_⟩) ?_
                  rotate_left
                  · (intro w0; go_simp; try with_reducible rfl)
                  refine wpAny_take (i := 1) (v := ?_) rfl (by kernel_rfl) (by kernel_rfl) (by kernel_rfl) (fun _ _ _ h => h) (Or.inl ⟨by rfl, ?_⟩) ?_
                  rotate_left
                  · (intro w0; go_simp; try with_reducible rfl)
                  refine wpAny_take (i := 2) (v := ?_) rfl (by kernel_rfl) (by kernel_rfl) (by kernel_rfl) (fun _ _ _ h => h) (Or.inl ⟨by rfl, ?_⟩) ?_
                  rotate_left
                  · (intro w0; go_simp; try with_reducible rfl)
                  refine wpAny_take (i := 3) (v := ?_) rfl (by kernel_rfl) (by kernel_rfl) (by kernel_rfl) (fun _ _ _ h => h) (Or.inl ⟨by rfl, ?_⟩) ?_
                  rotate_left
                  · (intro w0; go_simp; try with_reducible rfl)
                  go_simp
                  refine wpAny_take (i := 4) (v := undef) rfl (by kernel_rfl) (by kernel_rfl) (by kernel_rfl) (fun _ _ _ h => h) (Or.inr ⟨by rfl, rfl⟩) ?_
                  refine wpAny_take (i := 5) (v := undef) rfl (by kernel_rfl) (by kernel_rfl) (by kernel_rfl) (fun _ _ _ h => h) (Or.inr ⟨by rfl, rfl⟩) ?_
                  refine wpAny_take (i := 6) (v := undef) rfl (by kernel_rfl) (by kernel_rfl) (by kernel_rfl) (fun _ _ _ h => h) (Or.inr ⟨by rfl, rfl⟩) ?_
                  go_simp
                  refine wpAny_take (i := 7) (v := undef) rfl (by kernel_rfl) (by kernel_rfl) (by kernel_rfl) (fun _ _ _ h => h) (Or.inr ⟨by rfl, rfl⟩) ?_
                  refine wpAny_take (i := 8) (v := undef) rfl (by kernel_rfl) (by kernel_rfl) (by kernel_rfl) (fun _ _ _ h => h) (Or.inr ⟨by rfl, rfl⟩) ?_
                  refine wpAny_take (i := 9) (v := undef) rfl (by kernel_rfl) (by kernel_rfl) (by kernel_rfl) (fun _ _ _ h => h) (Or.inr ⟨by rfl, rfl⟩) ?_
                  go_simp
                  refine wpAny_take (i := 10) (v := ?_) rfl (by kernel_rfl) (by kernel_rfl) (by kernel_rfl) (fun _ _ _ h => h) (Or.inl ⟨by rfl, ?_⟩) ?_
                  rotate_left
                  · (intro w0; go_simp; try with_reducible rfl)
                  refine wpAny_take (i := 11) (v := ?_) rfl (by kernel_rfl) (by kernel_rfl) (by kernel_rfl) (fun _ _ _ h => h) (Or.inl ⟨by rfl, ?_⟩) ?_
                  rotate_left
                  · (intro w0; go_simp; try with_reducible rfl)
                  go_simp
                  refine wpAny_take (i := 12) (v := undef) rfl (by kernel_rfl) (by kernel_rfl) (by kernel_rfl) (fun _ _ _ h => h) (Or.inr ⟨by rfl, rfl⟩) ?_
                  refine wpAny_take (i := 13) (v := undef) rfl (by kernel_rfl) (by kernel_rfl) (by kernel_rfl) (fun _ _ _ h => h) (Or.inr ⟨by rfl, rfl⟩) ?_
                  refine wpAny_take (i := 14) (v := undef) rfl (by kernel_rfl) (by kernel_rfl) (by kernel_rfl) (fun _ _ _ h => h) (Or.inr ⟨by rfl, rfl⟩) ?_
                  go_simp
                  refine wpAny_take (i := 15) (v := undef) rfl (by kernel_rfl) (by kernel_rfl) (by kernel_rfl) (fun _ _ _ h => h) (Or.inr ⟨by rfl, rfl⟩) ?_
                  refine wpAny_take (i := 16) (v := undef) rfl (by kernel_rfl) (by kernel_rfl) (by kernel_rfl) (fun _ _ _ h => h) (Or.inr ⟨by rfl, rfl⟩) ?_
                  refine wpAny_take (i := 17) (v := undef) rfl (by kernel_rfl) (by kernel_rfl) (by kernel_rfl) (fun _ _ _ h => h) (Or.inr ⟨by rfl, rfl⟩) ?_
                  go_simp
                  refine wpAny_take (i := 18) (v := ?_) rfl (by kernel_rfl) (by kernel_rfl) (by kernel_rfl) (fun _ _ _ h => h) (Or.inl ⟨by rfl, ?_⟩) ?_
                  rotate_left
                  · (intro w0; go_simp; try with_reducible rfl)
                  refine wpAny_done (by kernel_rfl) ?_ _
                  go_simp
                  go_wp2_with fail
                  go_meet
                  exact CutP.mk (by rw [eqB_of (ne_empty hs0 t r)]) hbb hzz
              case rest =>
                obtain ⟨rfl, hbc, hzc⟩ := hcut
                have HBC := Lib.hid hbc
                have HZC := Lib.hid hzc
                clear k0 k1 f0 f1 hlw hbz hbb hzz
                obtain ⟨k0, k1, f0, f1, hlw⟩ := zero_cells hzc
                clear hbc hzc
                cases hx : eqB s t r
                case' true =>
                  have HA := Lib.hid (ans_some ht1 (by omega) (by omega) (eqB_yes hx))
                case' false =>
                  have HX := Lib.hid (eqB_no hx)
                case true =>
                  go_wp2_with fail
                  refine bodyPost_ret (v := .tuple #[resV t r, .int .i64 0, .int .i64 0]) (by simp [results, Tryd.results18, go_sem, k0, k1]) rfl ?_
                  refine ⟨by rw [HA.out], ?_⟩
                  repeat (first | exact HBC.out | refine Below.setCell ?_ (by simp <;> omega) _ | refine Below.alloc ?_ (by simp <;> omega) _)
                case false =>
                  go_wp2_with fail
                  go_roundw
                  case rel => exact ⟨r + 1, by omega, HM2.out.next HX.out, by go_num, HBC.out, HZC.out⟩
                  case measure => simp [intOf]; omega
            · obtain rfl : r = 251 := by omega
              go_wp2_with fail
              go_roundw
              case rel => exact ⟨t + 1, by omega, by omega, HN.out.next HM2.out, by go_num, HB.out, HZ.out⟩
              case measure => simp [intOf]; omega
        · obtain rfl : t = 251 := by omega
          have HA := Lib.hid (ans_none (l := s.data.toList) (p := s.size) (.inr ⟨s.size, by simp, rfl, by rw [List.take_of_length_le (by simp)]; exact HGL.out, .inr ⟨by simp, fun t r h1 h2 h3 => HN.out t r h1 (by omega) h3⟩⟩))
          go_wp2_with fail
          refine bodyPost_ret (v := .tuple #[resV 0 0, .int .i64 s.size, .int .i64 5]) (by simp [results, Tryd.results18, go_sem, k0, k1]) rfl ?_
          refine ⟨by rw [HA.out], ?_⟩
          repeat (first | exact HB.out | refine Below.setCell ?_ (by simp <;> omega) _ | refine Below.alloc ?_ (by simp <;> omega) _)
end Go.Proofs.YtjfadhdnaloleaaDoor
