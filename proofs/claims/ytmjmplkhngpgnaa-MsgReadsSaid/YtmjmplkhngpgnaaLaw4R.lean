/- The walk of MsgReads. -/
import Derived.Test.YtmjmplkhngpgnaaRefDec
import Derived.Test.YtmjmplkhngpgnaaLaw4B
namespace Go.Proofs.Ytmjmplkhngpgnaa
open Go.RowKit
set_option linter.unusedVariables false
set_option linter.unusedSimpArgs false

/-- What Decode answers of any bytes: the message; the error; the error's number. -/
def dM (l : List UInt8) : List Int := if goodD l then decM l else zM
theorem dM_length (l : List UInt8) : (dM l).length = 28 := by unfold dM; split <;> simp [zM]
def dE (l : List UInt8) : Value := if goodD l then .nilIface else errno (badD l.length)
def dC (l : List UInt8) : Int := if goodD l then 0 else badD l.length
theorem decode_all (A : Option Addr) (n cap : Nat) (l : List UInt8) (w : World) (hr : Reads w w.heap.size 1 A n (u8s l)) :
    Calls Try.prog 10 #[.slice A n cap] w fun e w' => e = .returned (.tuple #[.agg (mc (dM l)), dE l]) ∧ Below w.heap.size w w' := by
  have hn := hr.u8_len
  cases hg : goodD l
  · rw [show dM l = zM by unfold dM; rw [hg]; rfl, show dE l = errno (badD n) by unfold dE; rw [hg, hn]; rfl]
    exact decode_wrong A n cap l w hr hg
  · rw [show dM l = decM l by unfold dM; rw [hg]; rfl, show dE l = .nilIface by unfold dE; rw [hg]; rfl]
    exact decode_good A n cap l w hr hg
theorem decodeR_all (A : Option Addr) (n cap : Nat) (l : List UInt8) (w : World) (hr : Reads w w.heap.size 1 A n (u8s l)) :
    Calls Try.prog 11 #[.slice A n cap] w fun e w' => e = .returned (.tuple #[.agg (mc (dM l)), .int .i64 (dC l)]) ∧ Below w.heap.size w w' := by
  have hn := hr.u8_len
  rcases Nat.lt_trichotomy n 88 with h | h | h
  · have hg : goodD l = false := by unfold goodD; rw [decide_eq_false (by omega)]; rfl
    rw [show dM l = zM by unfold dM; rw [hg]; rfl, show dC l = 3 by unfold dC badD; rw [hg, if_neg (by decide), if_pos (by omega)]]
    exact decodeR_short A n cap h w
  · subst h
    have hg : goodD l = mayB (decM l) := by unfold goodD; rw [decide_eq_true hn, Bool.true_and]
    rw [show dM l = ansM l by unfold dM ansM; rw [hg], show dC l = codeM l by unfold dC codeM badD; rw [hg, if_neg (show ¬ l.length < 88 by omega), if_neg (show ¬ 88 < l.length by omega)]]
    exact decodeR_88 A cap l w hr
  · have hg : goodD l = false := by unfold goodD; rw [decide_eq_false (by omega)]; rfl
    rw [show dM l = zM by unfold dM; rw [hg]; rfl, show dC l = 4 by unfold dC badD; rw [hg, if_neg (by decide), if_neg (by omega), if_pos (by omega)]]
    exact decodeR_long A n cap h w
theorem code_dE (l : List UInt8) (w : World) : Calls Try.prog 12 #[dE l] w fun e w' => e = .returned (.int .i64 (dC l)) ∧ w = w' := by
  cases hg : goodD l
  · rw [show dE l = errno (badD l.length) by unfold dE; rw [hg]; rfl, show dC l = badD l.length by unfold dC; rw [hg]; rfl]
    exact code_errno _ (by unfold badD; split <;> (try split) <;> decide) w
  · rw [show dE l = .nilIface by unfold dE; rw [hg]; rfl, show dC l = 0 by unfold dC; rw [hg]; rfl]
    exact code_nil w

set_option maxRecDepth 100000 in
set_option maxHeartbeats 8000000 in
theorem msgReads_walk (A : Option Addr) (n cap : Nat) (l : List UInt8) (hn : n ≤ 140737488351232) (w : World) (hr : Reads w w.heap.size 1 A n (u8s l)) :
    Calls Try.prog 3 #[.slice A n cap] w fun e w' => e = .returned (.bool true) ∧ Below w.heap.size w w' := by
  have HR := Lib.hid hr
  obtain ⟨i0, hi0, hz0, hz1, hz2⟩ := info_parts info_u8
  have HM := Lib.hid (mc_info (dM_length l))
  have hgm := guard_msg
  have he1 : ∀ W, (binOp .eql 31 (.agg (mc (dM l))) (.agg (mc (dM l)))).run Try.prog W = .ok (.bool true) W := fun W => by rw [eql_msg (dM_length l) (dM_length l)]; simp
  clear hr
  go_enter Try.func3, Try.ntmps3
  go_wp2_with fail
  refine (msgAlive _).mono ?_
  rintro e w1 ⟨rfl, hb1⟩
  have B1 := Lib.hid hb1
  clear hb1
  go_wp2_with (at_builtin
               refine wpList_append_wide _ rfl (.tmp 10) (.tmp 11) _ rfl w1.heap.size 5 i0 _ 1 1 Try.underlying22 hi0 hz0 hz1 hz2 rfl (by omega) (.slice (some ⟨w1.heap.size, 0, none⟩) 0 0) 0 [] rfl
                 (World.ownsRow_made w1 #[] 0 (Nat.le_refl _) (Nat.zero_le _) (by simp)) _ A n cap (u8s l) rfl ((HR.out.step B1.out).stepA _) (u8s_one l) (by simp only [maxLen]; omega) (by omega) (by simp) ?_
               intro v2 w2 hown2 hg2
               rw [Nat.zero_add, List.nil_append] at hown2
               obtain ⟨A2, cap2, rfl, hR2, hA2⟩ := own_slice hown2
               have B2 := Lib.hid (((stepA B1.out (.cells #[] 5)).grown hg2 (by have := B1.out.size; simp; omega) (by intro k hk; simp [Value.ownBlock] at hk; have := B1.out.size; omega)))
               have R2 := Lib.hid hR2
               clear hown2 hg2 hR2 hA2)
  have HR2 := Lib.hid (HR.out.step B2.out)
  refine (decode_all A2 n cap2 l _ R2.out).mono ?_
  rintro e w3 ⟨rfl, hb3⟩
  have B3 := Lib.hid (stepB B2.out hb3)
  have hw3 : w.heap.size ≤ w3.heap.size := B3.out.size
  clear hb3
  have N3 := Lib.hid (Blk.new w3 31 (mc zM))
  rw [mc_zero] at N3
  go_wp2_with (refine wpList_store_mid (by rfl) 31 (.tmp 3) (.tmp 14) (by rfl) w3.heap.size 0 (mc (dM l)) (by rfl) (by rfl) (mc_there zM_length (dM_length l) N3.out) HM.out (ints_oneCell _) ?_
               have N4 := Lib.hid (mc_put zM_length (dM_length l) N3.out)
               have B4 := Lib.hid (Below.setCells (B := w.heap.size) (b := w3.heap.size) hw3 (mc (dM l)).toList 0 _ (stepA B3.out (.cells (mc zM) 31)))
               rw [mc_zero] at B4
               generalize World.setCells _ _ _ _ = V at N4 B4 ⊢)
  have hw4 : w3.heap.size < V.heap.size := N4.out.lt
  refine (decodeR_all A n cap l _ (HR.out.step B4.out)).mono ?_
  rintro e w5 ⟨rfl, hb5⟩
  have B5 := Lib.hid (stepB B4.out hb5)
  have N5 := Lib.hid (N4.out.here hb5)
  have hw5 : w.heap.size ≤ w5.heap.size := B5.out.size
  have hg5 : w3.heap.size ≠ w5.heap.size := by have := hb5.size; omega
  clear hb5
  have N6 := Lib.hid (Blk.new w5 31 (mc zM))
  rw [mc_zero] at N6
  go_wp2_with (first
    | (refine wpList_store_mid (by rfl) 31 (.tmp 5) (.tmp 19) (by rfl) w5.heap.size 0 (mc (dM l)) (by rfl) (by rfl) (mc_there zM_length (dM_length l) N6.out) HM.out (ints_oneCell _) ?_
       have N7 := Lib.hid (mc_put zM_length (dM_length l) N6.out)
       have M7 := Lib.hid ((N5.out.alloc (.cells (mc zM) 31)).farCells hg5 (mc (dM l)).toList 0)
       have B7 := Lib.hid (Below.setCells (B := w.heap.size) (b := w5.heap.size) hw5 (mc (dM l)).toList 0 _ (stepA B5.out (.cells (mc zM) 31)))
       rw [mc_zero] at M7 B7
       generalize World.setCells _ _ _ _ = U at N7 M7 B7 ⊢)
    | (refine wpList_load_row_g (by rfl) 31 (.tmp 3) rfl w3.heap.size rfl 31 (mc (dM l)) (0, 0) _ M7.out Try.underlying31 rfl HM.out ?_)
    | (refine wpList_load_row_g (by rfl) 31 (.tmp 5) rfl w5.heap.size rfl 31 (mc (dM l)) (0, 0) _ N7.out Try.underlying31 rfl HM.out ?_))
  refine (code_dE l _).mono ?_
  rintro e w8 ⟨rfl, rfl⟩
  go_wp2_with fail
  go_ret
  exact ⟨by first | rfl | simp, B7.out⟩
end Go.Proofs.Ytmjmplkhngpgnaa
