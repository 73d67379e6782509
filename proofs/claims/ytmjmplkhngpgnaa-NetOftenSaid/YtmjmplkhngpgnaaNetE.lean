/- The contracts of package net's All, Take; of the document's Msgs: rows of messages. -/
import Derived.Test.YtmjmplkhngpgnaaNetD
namespace Go.Proofs.Ytmjmplkhngpgnaa
open Go.RowKit
set_option linter.unusedVariables false
set_option linter.unusedSimpArgs false

theorem info_msg : (Try.prog.info? 31).map (fun i => (i.zero, i.size, i.bytes)) = some (some (.agg (mc zM)), 28, 224) := by rw [mc_zero]; kernel_rfl
theorem flatten_len : ∀ {ms : List (List Int)}, (∀ m ∈ ms, m.length = 28) → ms.flatten.length = ms.length * 28
  | [], _ => rfl
  | m :: ms, h => by
    rw [List.flatten_cons, List.length_append, flatten_len (fun x hx => h x (by simp [hx])), h m (by simp)]; simp; omega
theorem flatten_at : ∀ {ms : List (List Int)} {i : Nat}, (∀ m ∈ ms, m.length = 28) → i < ms.length → (ms.flatten.drop (i * 28)).take 28 = ms.getD i zM
  | [], i, _, hi => by simp at hi
  | m :: ms, 0, h, hi => by
    rw [List.flatten_cons, Nat.zero_mul, List.drop_zero, List.take_append_of_le_length (by rw [h m (by simp)]; exact Nat.le_refl _), List.take_of_length_le (by rw [h m (by simp)]; exact Nat.le_refl _)]; rfl
  | m :: ms, i + 1, h, hi => by
    have hm := h m (by simp)
    rw [List.flatten_cons, List.drop_append, List.drop_eq_nil_of_le (by omega), List.nil_append, hm, show (i + 1) * 28 - 28 = i * 28 by omega, flatten_at (fun x hx => h x (by simp [hx])) (by simpa using hi)]
    rfl
theorem splice_mid (A B C D : List Value) (h : B.length = D.length) : splice (A ++ B ++ C).toArray A.length D = (A ++ D ++ C).toArray := by
  apply Array.ext_getElem?
  intro i
  rw [splice_get]
  simp only [List.getElem?_toArray, List.size_toArray, List.length_append]
  by_cases h1 : A.length ≤ i ∧ i < A.length + D.length ∧ i < A.length + B.length + C.length
  · rw [if_pos h1, List.append_assoc A D C, List.getElem?_append_right h1.1, List.getElem?_append_left (by omega)]
  · rw [if_neg h1]
    rcases Nat.lt_or_ge i A.length with h2 | h2
    · rw [List.append_assoc, List.append_assoc, List.getElem?_append_left h2, List.getElem?_append_left h2]
    · rw [List.append_assoc, List.append_assoc, List.getElem?_append_right h2, List.getElem?_append_right h2, List.getElem?_append_right (by omega), List.getElem?_append_right (by omega), h]
/-- A row of n messages of which the first i are told. -/
def rowM (ms : List (List Int)) (i : Nat) : List Int := (ms.take i).flatten ++ List.replicate ((ms.length - i) * 28) 0
theorem rowM_zero (ms : List (List Int)) : rowM ms 0 = List.replicate (ms.length * 28) 0 := by simp [rowM]
theorem rowM_all (ms : List (List Int)) : rowM ms ms.length = ms.flatten := by simp [rowM]
theorem ints_append (a b : List Int) : ints (a ++ b) = ints a ++ ints b := by simp [ints]
theorem rowM_len {ms : List (List Int)} (h : ∀ m ∈ ms, m.length = 28) {i : Nat} (hi : i ≤ ms.length) : (rowM ms i).length = ms.length * 28 := by
  unfold rowM
  rw [List.length_append, flatten_len (fun m hm => h m (List.mem_of_mem_take hm)), List.length_replicate, List.length_take]
  have : min i ms.length = i := by omega
  rw [this, ← Nat.add_mul]; congr 1; omega
theorem rowM_put {w : World} {g : Nat} {ms : List (List Int)} (h : ∀ m ∈ ms, m.length = 28) {i : Nat} (hi : i < ms.length) (hb : Blk w g 31 (ints (rowM ms i)).toArray) :
    Blk (w.setCells g (i * 28) (mc (ms.getD i zM)).toList) g 31 (ints (rowM ms (i + 1))).toArray := by
  have hd : ms.getD i zM = ms[i] := by simp [List.getD, hi]
  have hl : (ms.getD i zM).length = 28 := by rw [hd]; exact h _ (List.getElem_mem hi)
  have hA : (ms.take i).flatten.length = i * 28 := by
    rw [flatten_len (fun m hm => h m (List.mem_of_mem_take hm)), List.length_take]
    have : min i ms.length = i := by omega
    rw [this]
  have h2 := hb.setCells (mc (ms.getD i zM)).toList (i * 28)
  have e1 : rowM ms i = (ms.take i).flatten ++ List.replicate 28 0 ++ List.replicate ((ms.length - (i + 1)) * 28) 0 := by
    unfold rowM
    rw [List.append_assoc, List.replicate_append_replicate]
    congr 2; omega
  have e2 : rowM ms (i + 1) = (ms.take i).flatten ++ ms.getD i zM ++ List.replicate ((ms.length - (i + 1)) * 28) 0 := by
    unfold rowM
    rw [List.take_succ_eq_append_getElem hi, List.flatten_append, hd]
    simp
  have hAi : (ints (ms.take i).flatten).length = i * 28 := by rw [ints_length]; exact hA
  have hm : (mc (ms.getD i zM)).toList = ints (ms.getD i zM) := rfl
  rw [e1, ints_append, ints_append, ← hAi, hm, splice_mid _ _ _ _ (by rw [ints_length, ints_length, hl, List.length_replicate])] at h2
  rw [e2, ints_append, ints_append, ← hAi, hm]
  exact h2
theorem made_msgs (n : Nat) : madeCells (mc zM) (n * 28) = (ints (List.replicate (n * 28) 0)).toArray := by
  apply Array.ext_getElem?
  intro i
  by_cases hi : i < n * 28
  · have h28 : i % 28 < (mc zM).size := by rw [mc_size zM_length]; omega
    rw [madeCells, Array.getElem?_map, Array.getElem?_range, if_pos hi, Option.map_some, mc_size zM_length, getElem!_pos (mc zM) (i % 28) h28]
    have := mc_get zM_length (i := i % 28) (by omega)
    rw [Array.getElem?_eq_getElem h28] at this
    rw [this]
    have h0 : fld zM (i % 28) = 0 := by unfold fld zM; rw [List.getD_eq_getElem?_getD, List.getElem?_replicate]; split <;> rfl
    rw [h0]
    simp [ints, hi]
  · rw [Array.getElem?_eq_none (by rw [size_madeCells]; omega), Array.getElem?_eq_none (by simp [ints]; omega)]
/-- make of n messages. -/
theorem wpList_make_msgs {w : World} {ops : Array Oper} {rest : List Oper} {o : Oper} {a : Act} {Q : Exit → Act → World → Prop} (hg : o.guard = none) (l c : Operand) (hop : o.op = Op.makeSlice 45 l c)
    (n : Nat) (hn : n ≤ 65536) (hl : a.eval l = .int .i64 (n : Int)) (hc : a.eval c = .int .i64 (n : Int))
    (hK : wpList Try.prog ops Q rest (a.put o.dst (.slice (some ⟨w.heap.size, 0, none⟩) n n)) (w.alloc (.cells (ints (List.replicate (n * 28) 0)).toArray 31))) : wpList Try.prog ops Q (o :: rest) a w := by
  refine wpList_plain hg fun K hK' => ?_
  obtain ⟨i, hi, hz, hs, hb⟩ := info_parts info_msg
  have hrun := run_make (P := Try.prog) w 45 31 i _ Try.underlying45 hi hz .i64 .i64 n n (by omega) (Int.le_refl _) (by rw [hb]; omega) (by omega)
  rw [Int.toNat_natCast, hs, show (Value.agg (mc zM)).cells = mc zM from rfl, made_msgs] at hrun
  unfold Oper.wp
  simp [execOp, hop, hl, hc, hrun, Result.andThen]
  exact hK' _ _ hK

theorem row_there {w : World} {g : Nat} {ms : List (List Int)} {i j : Nat} {m : List Int} (h : ∀ m ∈ ms, m.length = 28) (hi : i < ms.length) (hj : j ≤ ms.length) (hm : m.length = 28) (hb : Blk w g 31 (ints (rowM ms j)).toArray) : w.there g (i * 28) (mc m).size := by
  intro k hk
  rw [mc_size hm] at hk
  refine ⟨?_, hb.frozen _⟩
  rw [hb.cell]
  have : i * 28 + k < (ints (rowM ms j)).toArray.size := by simp [ints, rowM_len h hj]; have := Nat.mul_le_mul_right 28 (show i + 1 ≤ ms.length by omega); omega
  rw [Array.getElem?_eq_getElem this]; rfl

set_option maxRecDepth 100000 in
set_option maxHeartbeats 1000000 in
theorem nall_nil (w : World) : Calls Try.prog 20 #[.pointer none] w fun e w' => e = .returned (.slice none 0 0) ∧ w' = w := by
  go_enter Try.func20, Try.ntmps20
  go_wp2_with fail
  go_ret
  exact ⟨rfl, rfl⟩
set_option maxRecDepth 100000 in
set_option maxHeartbeats 4000000 in
theorem nall_any {B g : Nat} {r : Option Nat} {lim : Int} {ms : List (List Int)} (w : World) (h : Net w B g r lim ms) : Calls Try.prog 20 #[.pointer (some ⟨g, 0, none⟩)] w fun e w' =>
    e = .returned (.slice (some ⟨w.heap.size, 0, none⟩) ms.length ms.length) ∧ Blk w' w.heap.size 31 (ints ms.flatten).toArray ∧ Below w.heap.size w w' := by
  have hsm := h.small
  obtain ⟨v, ps, hw, hr⟩ := h
  obtain ⟨A, c, rfl, _⟩ := hw.slice
  have HW := Lib.hid hw
  have k1 : w.cell? ⟨g, 1, none⟩ = some (.slice A ms.length c) := hw.box.cell 1
  have HA := Lib.hid hw.all
  have HB0 := Lib.hid (stepA (Below.refl w.heap.size w) (.cells (ints (List.replicate (ms.length * 28) 0)).toArray 31))
  have k2 : (w.alloc (.cells (ints (List.replicate (ms.length * 28) 0)).toArray 31)).cell? ⟨g, 1, none⟩ = some (.slice A ms.length c) := (hw.box.alloc _).cell 1
  have HB1 := Lib.hid (show Blk (w.alloc (.cells (ints (List.replicate (ms.length * 28) 0)).toArray 31)) w.heap.size 31 (ints (rowM ms 0)).toArray by rw [rowM_zero]; exact Blk.new _ _ _)
  clear hw
  go_enter Try.func20, Try.ntmps20
  go_wp2_with (refine wpList_make_msgs rfl (.tmp 12) (.tmp 12) rfl ms.length (by omega) rfl rfl ?_)
  generalize w.alloc (.cells (ints (List.replicate (ms.length * 28) 0)).toArray 31) = W0 at HB0 HB1 k2 ⊢
  go_loopw [4, 5, 19] (fun _ _ i W => ∃ j : Nat, j ≤ ms.length ∧ i = .int .i64 j ∧ Blk W w.heap.size 31 (ints (rowM ms j)).toArray ∧ Below w.heap.size w W) (fun _ _ i _ => ms.length - (intOf i).toNat)
  case atStart => exact ⟨0, Nat.zero_le _, rfl, HB1.out, HB0.out⟩
  case round =>
    obtain ⟨j, hj, rfl, hbk, hbl⟩ := hrel
    rename World => W
    have BK := Lib.hid hbk
    have BL := Lib.hid hbl
    clear hbk hbl k1 k2
    by_cases hlt : j < ms.length
    · obtain ⟨rb, c', p, hv, kp, _, hpm, hlm⟩ := (HW.out.turn (S := fun _ => False) (Turn.of_below BL.out) id (fun _ _ => id) (fun _ _ _ => id)).place hlt
      cases hv
      have HPM := Lib.hid hpm
      have HI := Lib.hid (mc_info hlm)
      have HT := Lib.hid (row_there HA.out hlt (Nat.le_of_lt hlt) hlm BK.out)
      have BK2 := Lib.hid (rowM_put HA.out hlt BK.out)
      have BL2 := Lib.hid (Below.setCells (Nat.le_refl _) (mc (ms.getD j zM)).toList (j * 28) _ BL.out)
      clear hpm hlm
      generalize ms.getD j zM = mj at HPM HI HT BK2 BL2
      go_wp2_with (first
        | (refine wpList_load_row rfl 31 (.tmp 27) rfl p rfl 31 (mc mj) (0, 0) _ HPM.out Try.underlying31 rfl HI.out ?_)
        | (refine wpList_store_mid (by rfl) 31 (.tmp 29) (.tmp 28) (by rfl) w.heap.size (j * 28) (mc mj) (by rfl) (by rfl) HT.out HI.out (ints_oneCell _) ?_
           generalize World.setCells _ _ _ _ = X at BK2 BL2 ⊢))
      go_roundw
      case rel => exact ⟨j + 1, by omega, by go_num, BK2.out, BL2.out⟩
      case measure => simp [intOf]; omega
    · obtain rfl : j = ms.length := by omega
      have BK2 := Lib.hid (show Blk W w.heap.size 31 (ints ms.flatten).toArray by have := BK.out; rwa [rowM_all] at this)
      go_wp2_with fail
      go_ret
      exact ⟨rfl, BK2.out, BL.out⟩

set_option maxRecDepth 100000 in
set_option maxHeartbeats 1000000 in
theorem ntake_nil (w : World) : Calls Try.prog 16 #[.pointer none] w fun e w' => e = .returned (.slice none 0 0) ∧ w' = w := by
  go_enter Try.func16, Try.ntmps16
  go_wp2_with fail
  refine (nall_nil _).mono ?_
  rintro e w1 ⟨rfl, rfl⟩
  go_wp2_with fail
  go_ret
  exact ⟨rfl, rfl⟩
theorem Net.emptied {W : World} {B g : Nat} {r : Option Nat} {lim : Int} {ms : List (List Int)} (h : Net W B g r lim ms) : ∃ v, Blk W g 78 #[.int .i64 lim, v] ∧ Net (W.setCell ⟨g, 1, none⟩ (.slice none 0 0)) B g none lim [] := by
  obtain ⟨v, ps, hw, hr⟩ := h
  exact ⟨v, hw.box, ⟨.slice none 0 0, [], ⟨hw.box.set_ 1 _, World.ownsRow_nil _ _ _ _, fun i p m hp _ => by simp at hp, by simp, hw.geB, by have := hw.cnt; simp; omega, hw.top⟩, rfl⟩⟩
set_option maxRecDepth 100000 in
set_option maxHeartbeats 1000000 in
theorem ntake_any {B g : Nat} {r : Option Nat} {lim : Int} {ms : List (List Int)} (w : World) (h : Net w B g r lim ms) : Calls Try.prog 16 #[.pointer (some ⟨g, 0, none⟩)] w fun e w' =>
    e = .returned (.slice (some ⟨w.heap.size, 0, none⟩) ms.length ms.length) ∧ Blk w' w.heap.size 31 (ints ms.flatten).toArray ∧ Net w' B g none lim [] ∧ Turn (NS g r) w w' := by
  have H := Lib.hid h
  clear h
  go_enter Try.func16, Try.ntmps16
  go_wp2_with fail
  refine (nall_any _ H.out).mono ?_
  rintro e w1 ⟨rfl, hk1, hb1⟩
  have K1 := Lib.hid hk1
  have B1 := Lib.hid hb1
  obtain ⟨v, hv, hn⟩ := (H.out.step hb1).emptied
  have N2 := Lib.hid hn
  have k1 : w1.cell? ⟨g, 1, none⟩ = some v := hv.cell 1
  have k2 := hv.frozen 1
  have hne : w.heap.size ≠ g := Nat.ne_of_gt H.out.lt
  clear hk1 hb1 hv hn
  go_wp2_with fail
  go_ret
  exact ⟨rfl, K1.out.far (p := ⟨g, 1, none⟩) hne _, N2.out, (Turn.of_below B1.out).setCell (p := ⟨g, 1, none⟩) (fun _ => .inl rfl) _⟩
/-- A row of messages that is known whole reads. -/
theorem reads_msgs {w : World} {g n : Nat} {ms : List (List Int)} (h : Blk w g 31 (ints ms.flatten).toArray) (hm : ∀ m ∈ ms, m.length = 28) (hn : ms.length = n) : Reads w w.heap.size 28 (some ⟨g, 0, none⟩) n (ints ms.flatten) :=
  ⟨by rw [ints_length, flatten_len hm, hn], fun _ => ⟨_, rfl, h.lt, fun j u hu => by
    have := h.cell j
    unfold Addr.add
    split
    · rename_i h0; subst h0; rw [this]; simpa using hu
    · simpa [this] using hu⟩⟩

/-- A message at a place of a slice that reads. -/
theorem Reads.msg_at {w : World} {B n : Nat} {A : Option Addr} {ms : List (List Int)} (h : Reads w B 28 A n (ints ms.flatten)) (hm : ∀ m ∈ ms, m.length = 28) (hn : ms.length = n) {i : Nat} (hi : i < n) :
    ∃ ad, A = some ad ∧ ad.block < B ∧ ∀ j v, (ints (ms.getD i zM))[j]? = some v → w.cell? ((ad.add (i * 28)).add j) = some v := by
  obtain ⟨ad, e, hb, hc⟩ := h.2 (by omega)
  refine ⟨ad, e, hb, fun j v hv => ?_⟩
  rw [add_of_add]
  apply hc
  have h28 : (ms.getD i zM).length = 28 := by rw [show ms.getD i zM = ms[i]'(by omega) by simp [List.getD, hn, hi]]; exact hm _ (List.getElem_mem _)
  have hj : j < 28 := by have := (List.getElem?_eq_some_iff.1 hv).1; rwa [ints_length, h28] at this
  rw [← hv, ← flatten_at hm (by omega)]
  simp [ints, List.getElem?_take, hj, List.getElem?_drop]
end Go.Proofs.Ytmjmplkhngpgnaa
