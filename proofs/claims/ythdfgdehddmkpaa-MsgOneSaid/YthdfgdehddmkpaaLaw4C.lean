/- The walk of MsgOne. -/
import Derived.Test.YthdfgdehddmkpaaLaw4B
namespace Go.Proofs.Ythdfgdehddmkpaa
open Go.RowKit
set_option linter.unusedVariables false
set_option linter.unusedSimpArgs false

/-- A byte that is raised. -/
def upB8 (c : UInt8) (b : Int) : UInt8 := UInt8.ofNat (c.toNat + b.toNat)
theorem upB8_wrap (c : UInt8) {b : Int} (hb : 0 ≤ b) : IntKind.u8.wrap ((c.toNat : Int) + b) = ((upB8 c b).toNat : Int) := by
  unfold upB8
  rw [IntKind.wrap_u8, u8_ofNat_toNat]; omega
theorem upB8_same {c : UInt8} {b : Int} (hb : 0 ≤ b) (hb2 : b ≤ 255) : upB8 c b = c ↔ b = 0 := by
  unfold upB8
  rw [← UInt8.toNat_inj, u8_ofNat_toNat]
  have := c.toNat_lt
  omega
theorem one_iff {m : List Int} (hl : m.length = 28) (h : mayB m = true) {k : Nat} (hk : k < (encM m).length) {b : Int} (hb : 0 ≤ b) (hb2 : b ≤ 255) :
    decide (decM ((encM m).set k (upB8 (encM m)[k] b)) = m) = (b == 0) := by
  have h88 := encM_length hl
  rw [Bool.eq_iff_iff, decide_eq_true_eq, beq_iff_eq]
  constructor
  · intro e
    have e2 : encM (decM ((encM m).set k (upB8 (encM m)[k] b))) = (encM m).set k (upB8 (encM m)[k] b) := enc_dec (by simpa using h88)
    rw [e] at e2
    have e3 : (encM m)[k]? = ((encM m).set k (upB8 (encM m)[k] b))[k]? := by rw [← e2]
    rw [List.getElem?_set_self hk, List.getElem?_eq_getElem hk] at e3
    have e4 : (encM m)[k] = upB8 (encM m)[k] b := Option.some.inj e3
    exact (upB8_same hb hb2).1 e4.symm
  · intro e
    rw [(upB8_same hb hb2).2 e, List.set_getElem_self]
    exact dec_enc hl h

theorem reads_set {w : World} {g n k : Nat} {t : TypeId} {cur : Array Value} {l : List UInt8} {y : UInt8} (h : Blk w g t cur) (hc : cur.toList.take n = u8s l) (hk : k < n) (hn : n ≤ cur.size) :
    Reads (w.setCell ⟨g, k, none⟩ (.int .u8 (y.toNat : Int))) (w.setCell ⟨g, k, none⟩ (.int .u8 (y.toNat : Int))).heap.size 1 (some ⟨g, 0, none⟩) n (u8s (l.set k y)) := by
  have hll : l.length = n := by have := congrArg List.length hc; simp [u8s_length] at this; omega
  have hb := h.set_ k (.int .u8 (y.toNat : Int))
  refine ⟨by simp [u8s_length, hll], fun _ => ⟨⟨g, 0, none⟩, rfl, hb.lt, fun j u hu => ?_⟩⟩
  rw [Addr.add_mid, Nat.zero_add, hb.cell j]
  have hj : j < n := by have := (List.getElem?_eq_some_iff.1 hu).1; simp [u8s_length] at this; omega
  by_cases e : j = k
  · subst e
    rw [← hu, u8s_get (by simpa using (show j < l.length by omega)), List.getElem_set_self, Array.getElem?_setIfInBounds_self_of_lt (by omega)]
  · rw [Array.getElem?_setIfInBounds_ne (Ne.symm e), ← hu]
    have h1 : cur[j]? = (u8s l)[j]? := by rw [← hc, List.getElem?_take_of_lt hj]; simp
    rw [h1]
    simp only [u8s, List.getElem?_map, List.getElem?_set_ne (Ne.symm e)]
set_option maxRecDepth 100000 in
set_option maxHeartbeats 8000000 in
theorem msgOne_walk (m : List Int) (hl : m.length = 28) (a b : Int) (ha : 0 ≤ a) (ha2 : a ≤ 255) (hb : 0 ≤ b) (hb2 : b ≤ 255) (w : World) :
    Calls Try.prog 6 #[.agg (mc m), .int .u8 a, .int .u8 b] w fun e w' => e = .returned (.bool true) ∧ Below w.heap.size w w' := by
  have HL := Lib.hid hl
  have HI := Lib.hid (mc_info hl)
  have hgm := guard_msg
  have hn0 := fun W => run_eql_nil_nil (P := Try.prog) W 33 Try.underlying33
  have hn1 := fun W k => run_eql_held_nil (P := Try.prog) W 33 55 (.int .i64 k) Try.underlying33
  clear hl
  cases hm : mayB m
  · have HM := Lib.hid hm
    clear hm
    go_enter Try.func6, Try.ntmps6
    go_wp2_with fail
    refine (msgAlive _).mono ?_
    rintro e w1 ⟨rfl, hb1⟩
    have B1 := Lib.hid (stepB (stepA (Below.refl w.heap.size w) (.cells (mc m) 29)) hb1)
    have M1 := Lib.hid ((Blk.new w 29 (mc m)).here hb1)
    clear hb1
    go_wp2_with (refine wpList_load_row rfl 29 (.tmp 3) rfl w.heap.size rfl 29 (mc m) (0, 0) _ M1.out Try.underlying29 rfl HI.out ?_)
    refine (encode_bad m HL.out HM.out _).mono ?_
    rintro e w2 ⟨rfl, hb2⟩
    have B5 := Lib.hid (stepB B1.out hb2)
    clear hb2
    go_wp2_with fail
    go_ret
    exact ⟨rfl, B5.out⟩
  · have HM := Lib.hid hm
    clear hm
    obtain ⟨k, hk⟩ : ∃ k : Nat, (k : Int) = a % 88 := ⟨(a % 88).toNat, by omega⟩
    have hk88 : k < 88 := by omega
    have hka : a % 88 = (k : Int) := hk.symm
    have hkw : IntKind.i64.wrap a = a := IntWalk.i64_in _ (by omega)
    have hkt : a.tmod 88 = (k : Int) := by rw [Int.tmod_eq_emod_of_nonneg ha]; exact hka
    have HLE := Lib.hid (encM_length HL.out)
    have HX := Lib.hid (show (((((encM m)[k]'(by rw [HLE.out]; exact hk88)).toNat : Int) + b) % 256) = ((upB8 ((encM m)[k]'(by rw [HLE.out]; exact hk88)) b).toNat : Int) by rw [← upB8_wrap _ hb, IntKind.wrap_u8])
    have HO := Lib.hid (one_iff HL.out HM.out (k := k) (by rw [HLE.out]; exact hk88) hb hb2)
    have HS := Lib.hid (show ((encM m).set k (upB8 ((encM m)[k]'(by rw [HLE.out]; exact hk88)) b)).length = 88 by rw [List.length_set]; exact HLE.out)
    clear hk
    go_enter Try.func6, Try.ntmps6
    go_wp2_with fail
    refine (msgAlive _).mono ?_
    rintro e w1 ⟨rfl, hb1⟩
    have B1 := Lib.hid (stepB (stepA (Below.refl w.heap.size w) (.cells (mc m) 29)) hb1)
    have M1 := Lib.hid ((Blk.new w 29 (mc m)).here hb1)
    clear hb1
    go_wp2_with (refine wpList_load_row rfl 29 (.tmp 3) rfl w.heap.size rfl 29 (mc m) (0, 0) _ M1.out Try.underlying29 rfl HI.out ?_)
    refine (encode_ok m HL.out HM.out _).mono ?_
    rintro e w2 ⟨A2, c2, rfl, hown2, hb2'⟩
    obtain ⟨g, cur, rfl, hg, h88, hcm, hblk, hcs, hcur⟩ := own_form hown2 (by omega)
    have B2 := Lib.hid (stepB B1.out hb2')
    have M2 := Lib.hid (M1.out.here hb2')
    have hwg : w.heap.size < g := by have := B1.out.size; have := M1.out.lt; omega
    have hcell : w2.cell? ⟨g, k, none⟩ = some (.int .u8 (((encM m)[k]'(by rw [HLE.out]; exact hk88)).toNat : Int)) := by
      rw [hblk.cell k, ← Array.getElem?_toList, ← List.getElem?_take_of_lt hk88, hcur]
      exact u8s_get _
    have hfz := hblk.frozen k
    have HBK := Lib.hid hblk
    have HCU := Lib.hid hcur
    have HCS := Lib.hid hcs
    clear hown2 hb2' hblk hcur hcs hg
    unfold maxLen at hcm
    generalize ((encM m)[k]'(by rw [HLE.out]; exact hk88)) = x at hcell HX HO HS
    go_wp2_with fail
    rw [HX.out]
    have R3 := Lib.hid (reads_set (y := upB8 x b) HBK.out HCU.out hk88 (by rw [HCS.out]; exact h88))
    have B3 := Lib.hid (Below.setCell B2.out (p := ⟨g, k, none⟩) (Nat.le_of_lt hwg) (.int .u8 ((upB8 x b).toNat : Int)))
    have M3 := Lib.hid (M2.out.far (p := ⟨g, k, none⟩) (Nat.ne_of_lt hwg) (.int .u8 ((upB8 x b).toNat : Int)))
    generalize World.setCell _ _ _ = V at R3 B3 M3 ⊢
    generalize (encM m).set k (upB8 x b) = l at R3 HO HS
    have HD := Lib.hid (mc_info (decM_length l))
    have HZ := Lib.hid (mc_info zM_length)
    cases hg : goodD l
    · have HG := Lib.hid hg
      clear hg
      refine (decode_wrong (some ⟨g, 0, none⟩) 88 c2 l _ R3.out HG.out).mono ?_
      rintro e w6 ⟨rfl, hb6⟩
      have B6 := Lib.hid (stepB B3.out hb6)
      have hw6 : w.heap.size ≤ w6.heap.size := B6.out.size
      clear hb6
      have N6 := Lib.hid (Blk.new w6 29 (mc zM))
      rw [mc_zero] at N6
      go_wp2_with (refine wpList_store_mid rfl 29 (.tmp 10) (.tmp 43) rfl w6.heap.size 0 (mc zM) rfl rfl (mc_there zM_length zM_length N6.out) HZ.out (ints_oneCell _) ?_
                   have B7 := Lib.hid (Below.setCells (B := w.heap.size) (b := w6.heap.size) hw6 (mc zM).toList 0 _ (stepA B6.out (.cells (mc zM) 29)))
                   rw [mc_zero] at B7
                   rw [mc_zero]
                   generalize World.setCells _ _ _ _ = U at B7 ⊢)
      go_ret
      exact ⟨rfl, B7.out⟩
    · have HG := Lib.hid hg
      clear hg
      refine (decode_good (some ⟨g, 0, none⟩) 88 c2 l _ R3.out HG.out).mono ?_
      rintro e w6 ⟨rfl, hb6⟩
      have B6 := Lib.hid (stepB B3.out hb6)
      have M6 := Lib.hid (M3.out.here hb6)
      have hw6 : w.heap.size < w6.heap.size := M6.out.lt
      have hg6 : w.heap.size ≠ w6.heap.size := by omega
      clear hb6
      have N6 := Lib.hid (Blk.new w6 29 (mc zM))
      rw [mc_zero] at N6
      have he := fun W => eql_msg (decM_length l) HL.out W
      rw [HO.out] at he
      cases hbz : (b == 0)
      all_goals
        rw [hbz] at he
        go_wp2_with (first
          | (refine wpList_store_mid rfl 29 (.tmp 10) (.tmp 43) rfl w6.heap.size 0 (mc (decM l)) rfl rfl (mc_there zM_length (decM_length l) N6.out) HD.out (ints_oneCell _) ?_
             have N7 := Lib.hid (mc_put zM_length (decM_length l) N6.out)
             have M7 := Lib.hid ((M6.out.alloc (.cells (mc zM) 29)).farCells hg6 (mc (decM l)).toList 0)
             have B7 := Lib.hid (Below.setCells (B := w.heap.size) (b := w6.heap.size) (Nat.le_of_lt hw6) (mc (decM l)).toList 0 _ (stepA B6.out (.cells (mc zM) 29)))
             rw [mc_zero] at M7 B7
             generalize World.setCells _ _ _ _ = U at N7 M7 B7 ⊢)
          | (refine wpList_load_row_g (by rfl) 29 (.tmp 10) rfl w6.heap.size rfl 29 (mc (decM l)) (0, 0) _ N7.out Try.underlying29 rfl HD.out ?_)
          | (refine wpList_load_row_g (by rfl) 29 (.tmp 3) rfl w.heap.size rfl 29 (mc m) (0, 0) _ M7.out Try.underlying29 rfl HI.out ?_))
        go_ret
        exact ⟨rfl, B7.out⟩
end Go.Proofs.Ythdfgdehddmkpaa
