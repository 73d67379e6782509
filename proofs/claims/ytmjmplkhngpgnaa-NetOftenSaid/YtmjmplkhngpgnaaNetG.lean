/- The document's net in memory; its pick. -/
import Derived.Test.YtmjmplkhngpgnaaNetF
import Derived.Test.YtmjmplkhngpgnaaHeld
namespace Go.Proofs.Ytmjmplkhngpgnaa
open Go.RowKit
set_option linter.unusedVariables false
set_option linter.unusedSimpArgs false

/-- The document's net, all told: block h has its limit and its row v of messages. -/
structure RNet (w : World) (B h : Nat) (lim : Int) (ms : List (List Int)) (v : Value) : Prop where
  box : Blk w h 47 #[.int .i64 lim, v]
  row : w.ownsRow B 31 28 v ms.length (ints ms.flatten)
  all : ∀ m ∈ ms, m.length = 28
  geB : B ≤ h
  small : ms.length ≤ 65536
theorem own_slice_any {w : World} {base n size : Nat} {t : TypeId} {v : Value} {xs : List Value} (h : w.ownsRow base t size v n xs) : ∃ A cap, v = .slice A n cap ∧ Reads w w.heap.size size A n xs ∧ (∀ ad, A = some ad → base ≤ ad.block) := by
  have e : ∃ A c, v = .slice A n c := by
    rcases h.2 with ⟨rfl, h0⟩ | ⟨g', cap', cur, rfl, _⟩
    · subst h0; exact ⟨_, _, rfl⟩
    · exact ⟨_, _, rfl⟩
  obtain ⟨A, c, rfl⟩ := e
  exact ⟨A, c, rfl, Reads.of_own h, fun ad ha => by subst ha; exact ownBlock_ge h ad.block (by simp [Value.ownBlock])⟩
section
variable {w w' : World} {B h : Nat} {lim : Int} {ms : List (List Int)} {v : Value}
theorem RNet.turn {S : Nat → Prop} (R : RNet w B h lim ms v) (ht : Turn S w w') (hh : ¬ S h) (hr : ∀ k cs, Blk w k 31 cs → ¬ S k) : RNet w' B h lim ms v :=
  ⟨R.box.turn ht hh, own_turn R.row ht (fun k hk => by obtain ⟨cur, hc, _⟩ := own_heap R.row k hk; exact hr k cur hc), R.all, R.geB, R.small⟩
theorem RNet.step (R : RNet w B h lim ms v) (hb : Below w.heap.size w w') : RNet w' B h lim ms v := R.turn (S := fun _ => False) (Turn.of_below hb) id (fun _ _ _ => id)
theorem RNet.slice (R : RNet w B h lim ms v) : ∃ A c, v = .slice A ms.length c ∧ Reads w w.heap.size 28 A ms.length (ints ms.flatten) := by
  obtain ⟨A, c, e, hr, _⟩ := own_slice_any R.row
  exact ⟨A, c, e, hr⟩
/-- A new row in the net. -/
theorem RNet.set {W w3 : World} {ms' : List (List Int)} {v' : Value} (R : RNet W B h lim ms v) (ht : Turn (fun _ => False) W w3) (hown : w3.ownsRow W.heap.size 31 28 v' ms'.length (ints ms'.flatten)) (ha : ∀ m ∈ ms', m.length = 28) (hs : ms'.length ≤ 65536) :
    RNet (w3.setCell ⟨h, 1, none⟩ v') B h lim ms' v' ∧ Turn (fun k => k = h) W (w3.setCell ⟨h, 1, none⟩ v') := by
  have hb := R.box.turn ht id
  refine ⟨⟨hb.set_ 1 v', ?_, ha, R.geB, hs⟩, (ht.mono (S' := fun k => k = h) fun _ _ hf => hf.elim).setCell (p := ⟨h, 1, none⟩) (fun _ => rfl) v'⟩
  have hlt := R.box.lt
  have := R.geB
  refine own_less (own_turn (S := fun k => k = h) hown ((Turn.refl (fun k => k = h) w3).setCell (p := ⟨h, 1, none⟩) (fun _ => rfl) v') (fun k hk e => ?_)) (show B ≤ W.heap.size by omega)
  have := ownBlock_ge hown k hk
  omega
end
set_option maxRecDepth 100000 in
set_option maxHeartbeats 2000000 in
theorem rpick_any {B h : Nat} {lim k : Int} {ms : List (List Int)} {v : Value} (w : World) (R : RNet w B h lim ms v) (hn : 0 < ms.length) (hk : (Lit.int .i64 k).wf = true) :
    Calls Try.prog 35 #[.pointer (some ⟨h, 0, none⟩), .int .i64 k] w fun e w' => e = .returned (.int .i64 (pickN k ms.length)) ∧ w' = w := by
  have hsm := R.small
  obtain ⟨A, c, rfl, _⟩ := R.slice
  have k1 : w.cell? ⟨h, 1, none⟩ = some (.slice A ms.length c) := R.box.cell 1
  have h1 := Int.tmod_lt_of_pos k (show (0 : Int) < ms.length by omega)
  have h2 : -(ms.length : Int) < k.tmod ms.length := by
    have := Int.tmod_lt_of_pos (-k) (show (0 : Int) < ms.length by omega)
    rw [Int.neg_tmod] at this; omega
  have hz : ((ms.length : Int) == 0) = false := by rw [beq_eq_false_iff_ne]; omega
  have hz2 : (ms.length = 0) = False := eq_false (by omega)
  have hz3 : (ms = []) = False := by simp; intro e; subst e; simp at hn
  have w1 : IntKind.i64.wrap (k.tmod ms.length) = k.tmod ms.length := IntWalk.i64_in _ (by omega)
  have w2 : IntKind.i64.wrap (k.tmod ms.length + ms.length) = k.tmod ms.length + ms.length := IntWalk.i64_in _ (by omega)
  have HP := Lib.hid (pickN_eq k (n := ms.length) hn)
  have HR := Lib.hid (rem_twice k (n := ms.length) hn)
  clear R
  by_cases hneg : k.tmod ms.length < 0
  · have d1 : decide (k.tmod ms.length < 0) = true := by simpa using hneg
    have HE := Lib.hid (show k.tmod ms.length + ms.length = (pickN k ms.length : Nat) by rw [← HP.out, ← HR.out, Int.tmod_eq_of_lt (a := k.tmod ms.length + ms.length) (b := ms.length) (by omega) (by omega)])
    go_enter Try.func35, Try.ntmps35
    go_wp2_with fail
    go_ret
    exact ⟨by first | rfl | (rw [HE.out]; rfl), rfl⟩
  · have d1 : decide (k.tmod ms.length < 0) = false := by simpa using hneg
    have HE := Lib.hid (show k.tmod ms.length = (pickN k ms.length : Nat) by
      rw [← HP.out, ← HR.out, Int.tmod_eq_emod_of_nonneg (a := k.tmod ms.length + ms.length) (by omega), Int.add_emod_right, Int.emod_eq_of_lt (by omega) (by omega)])
    go_enter Try.func35, Try.ntmps35
    go_wp2_with fail
    go_ret
    exact ⟨by first | rfl | (rw [HE.out]; rfl), rfl⟩
end Go.Proofs.Ytmjmplkhngpgnaa
