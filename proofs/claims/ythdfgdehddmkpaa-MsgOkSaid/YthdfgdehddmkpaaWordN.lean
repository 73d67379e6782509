/- The contracts of New, and of the document's Take. -/
import Derived.Test.YthdfgdehddmkpaaWordT
namespace Go.Proofs.Ythdfgdehddmkpaa
open Go.RowKit
set_option linter.unusedVariables false
set_option linter.unusedSimpArgs false


/-- What slices.Clone answers, of bytes. -/
def ClonePost (w : World) (n : Nat) (l : List UInt8) (e : Ending) (w' : World) : Prop :=
  ∃ A cap, e = .returned (.slice A n cap) ∧ Reads w' w'.heap.size 1 A n (u8s l) ∧ (∀ ad, A = some ad → w.heap.size ≤ ad.block) ∧ Below w.heap.size w w'
set_option maxRecDepth 100000 in
set_option maxHeartbeats 1000000 in
theorem clone_u8 (A : Option Addr) (n cap : Nat) (l : List UInt8) (hn : n ≤ 211106232532992) (w : World) (hr : Reads w w.heap.size 1 A n (u8s l)) :
    Calls Try.prog 38 #[.slice A n cap] w (ClonePost w n l) := by
  rcases A with _ | ad
  · have h0 : n = 0 := by
      rcases Nat.eq_zero_or_pos n with h0 | h0
      · exact h0
      · obtain ⟨ad, h, _⟩ := hr.2 h0
        cases h
    have hl := hr.u8_len
    subst h0
    have : l = [] := List.eq_nil_of_length_eq_zero hl
    subst this
    have he : (binOp .eql 31 (.slice none 0 cap) (.slice none 0 0)).run Try.prog w = .ok (.bool true) w := by kernel_rfl
    clear hr hl
    go_enter Try.func38, Try.ntmps38
    go_wp2
    go_ret
    exact ⟨none, _, rfl, Reads.none_, fun _ h => (by cases h), Below.refl _ _⟩
  · obtain ⟨i0, hi0, hz0, hz1, hz2⟩ := info_parts info_u8
    have HR := Lib.hid hr
    have he : (binOp .eql 31 (.slice (some ad) n cap) (.slice none 0 0)).run Try.prog w = .ok (.bool false) w := by kernel_rfl
    clear hr
    go_enter Try.func38, Try.ntmps38
    go_wp2_with (at_builtin
                 refine wpList_append_wide _ rfl (.tmp 5) (.tmp 6) _ rfl w.heap.size 5 i0 _ 1 1 Try.underlying31 hi0 hz0 hz1 hz2 rfl (by omega) (.slice (some ⟨w.heap.size, 0, none⟩) 0 0) 0 [] rfl
                   (World.ownsRow_made w #[] 0 (Nat.le_refl _) (Nat.zero_le _) (by simp)) w.heap.size (some ad) n cap (u8s l) rfl (HR.out.alloc (Nat.le_refl _) _) (u8s_one l) (by simp only [maxLen]; omega) (by omega) (by simp) ?_
                 intro v2 w2 hown2 hg2
                 rw [Nat.zero_add, List.nil_append] at hown2
                 obtain ⟨A2, cap2, rfl⟩ : ∃ A2 c2, v2 = .slice A2 n c2 := by
                   rcases hown2.2 with ⟨rfl, h⟩ | ⟨g', cap', cur, rfl, _⟩
                   · subst h; exact ⟨_, _, rfl⟩
                   · exact ⟨_, _, rfl⟩
                 have B2 := Lib.hid ((((Below.refl w.heap.size w).alloc (Nat.le_refl _) (.cells #[] 5)).grown hg2 (by simp) (by intro k hk; simp [Value.ownBlock] at hk; omega)))
                 have R2 := Lib.hid (Reads.of_own hown2)
                 have L2 := Lib.hid (ownBlock_ge hown2)
                 clear hown2 hg2)
    go_ret
    refine ⟨A2, cap2, rfl, R2.out, fun a ha => ?_, B2.out⟩
    subst ha
    exact L2.out a.block (by simp [Value.ownBlock])

/-- A new reader. -/
def NewPost (w : World) (n : Nat) (l : List UInt8) (e : Ending) (w' : World) : Prop :=
  ∃ r A cap, e = .returned (.pointer (some ⟨r, 0, none⟩)) ∧ RdAt w' r A n cap 0 ∧ Reads w' r 1 A n (u8s l) ∧ (∀ ad, A = some ad → w.heap.size ≤ ad.block) ∧ w.heap.size ≤ r ∧ Below w.heap.size w w'
set_option maxRecDepth 100000 in
set_option maxHeartbeats 1000000 in
theorem new_any (A : Option Addr) (n cap : Nat) (l : List UInt8) (hn : n ≤ 211106232532992) (w : World) (hr : Reads w w.heap.size 1 A n (u8s l)) :
    Calls Try.prog 25 #[.slice A n cap] w (NewPost w n l) := by
  have HR := Lib.hid hr
  clear hr
  go_enter Try.func25, Try.ntmps25
  go_wp2_with fail
  refine (clone_u8 A n cap l hn w HR.out).mono ?_
  rintro e w1 ⟨A1, cap1, rfl, hr1, hA1, hb1⟩
  have R1 := Lib.hid hr1
  have HA := Lib.hid hA1
  have B1 := Lib.hid hb1
  clear hr1 hA1 hb1
  go_wp2_with fail
  go_ret
  exact ⟨_, A1, cap1, rfl, Blk.new _ _ _, R1.out.alloc (Nat.le_refl _) _, HA.out, B1.out.size, B1.out.alloc B1.out.size _⟩
end Go.Proofs.Ythdfgdehddmkpaa
