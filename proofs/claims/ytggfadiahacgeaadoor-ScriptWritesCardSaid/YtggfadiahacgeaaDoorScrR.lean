/- The document's Bytes. -/
import Derived.Test.YtggfadiahacgeaaDoorScrP
namespace Go.Proofs.YtggfadiahacgeaaDoor
open Go.RowKit
set_option linter.unusedVariables false
set_option linter.unusedSimpArgs false

theorem ok_zero : okE 0 0 0 0 0 0 = true := by decide
theorem one_not {k c t r m p : Int} (hk : 0 ≤ k ∧ k < 7) (hc : 0 ≤ c ∧ c ≤ 255) (ht : 0 ≤ t ∧ t ≤ 255) (hr : 0 ≤ r ∧ r ≤ 255) (hm : 0 ≤ m ∧ m ≤ 255) : decide (oneE k c t r m = [k, c, t, r, m, p]) = okE k c t r m p := by
  have hp : picB k = false := by unfold picB; simp; omega
  rw [← rd_one hk.1 hc ht hr hm, rdE_not hp, Bool.eq_iff_iff, decide_eq_true_iff]
  by_cases h : okE k c t r m 0 = true
  · rw [if_pos h]
    constructor
    · intro e; simp at e; rw [← e]; exact h
    · intro e
      have h2 := (okE_iff _ _ _ _ _ _).1 e
      rw [if_neg (show ¬ (7 ≤ k ∧ k ≤ 9) by omega)] at h2
      rw [h2.2.2.2]
  · rw [if_neg h]
    constructor
    · intro e
      unfold zE at e
      simp at e
      obtain ⟨rfl, rfl, rfl, rfl, rfl, rfl⟩ := e
      exact absurd ok_zero h
    · intro e
      have h2 := (okE_iff _ _ _ _ _ _).1 e
      rw [if_neg (show ¬ (7 ≤ k ∧ k ≤ 9) by omega)] at h2
      obtain ⟨_, _, _, rfl⟩ := h2
      exact absurd e h
theorem one_pic {k c t r m p : Int} (hk : 7 ≤ k ∧ k ≤ 9) (hp : 0 ≤ p ∧ p ≤ 16777215) : decide (oneE k (p / 65536) (p / 256 % 256) (p % 256) 0 = [k, c, t, r, m, p]) = okE k c t r m p := by
  have hpk : picB k = true := by unfold picB; simpa using hk
  rw [← rd_one (by omega) (by omega) (by omega) (by omega) (by omega), rdE_pic hpk, show p / 65536 * 65536 + p / 256 % 256 * 256 + p % 256 = p by omega, Bool.eq_iff_iff, decide_eq_true_iff]
  have h : okE k 0 0 0 0 p = true := by
    rw [okE_iff]
    exact ⟨by omega, by rw [if_neg (by omega)], by rw [if_neg (by omega)]; omega, by rw [if_pos hk]; exact hp⟩
  rw [if_pos h]
  constructor
  · intro e
    simp at e
    obtain ⟨rfl, rfl, rfl, rfl⟩ := e
    exact h
  · intro e
    have h2 := (okE_iff _ _ _ _ _ _).1 e
    rw [if_neg (show ¬ (2 ≤ k ∧ k ≤ 6) by omega), if_neg (show ¬ (k = 3) by omega)] at h2
    obtain ⟨_, rfl, ⟨rfl, rfl, rfl⟩, _⟩ := h2
    rfl
theorem one_length (a b c d e : Int) : (oneE a b c d e).length = 6 := by
  unfold oneE
  split
  · rfl
  split
  · rfl
  split
  · rfl
  split
  · rfl
  · rfl
theorem u8i_mod (z : Int) : u8i (z % 256) = u8i z := by unfold u8i; rw [Int.emod_emod]
theorem u8i_in {z : Int} (h : 0 ≤ z ∧ z ≤ 255) : ((u8i z).toNat : Int) = z := by rw [u8i_val]; omega
theorem u8w_in {z : Int} (h : 0 ≤ z ∧ z ≤ 255) : IntKind.u8.wrap z = z := by rw [IntKind.wrap_u8]; omega
theorem reads_fiveI {W : World} {g : Nat} {a b c d e : Int} (h : Blk W g 5 #[.int .u8 a, .int .u8 b, .int .u8 c, .int .u8 d, .int .u8 e]) (ha : 0 ≤ a ∧ a ≤ 255) (hb : 0 ≤ b ∧ b ≤ 255) (hc : 0 ≤ c ∧ c ≤ 255) (hd : 0 ≤ d ∧ d ≤ 255) (he : 0 ≤ e ∧ e ≤ 255) : Reads W W.heap.size 1 (some ⟨g, 0, none⟩) 5 (u8s [u8i a, u8i b, u8i c, u8i d, u8i e]) :=
  ⟨rfl, fun _ => ⟨_, rfl, h.lt, fun j u hu => by
    have h1 := h.cell j
    have h2 : (⟨g, 0, none⟩ : Addr).add j = ⟨g, j, none⟩ := by unfold Addr.add; split <;> simp_all
    rw [h2, h1]
    simpa [u8s, u8i_in ha, u8i_in hb, u8i_in hc, u8i_in hd, u8i_in he] using hu⟩⟩
abbrev ent9V (k c t r m p : Int) : Value := .agg #[.int .i64 k, .int .i64 c, .int .i64 t, .int .i64 r, .int .i64 m, .int .i64 p]
set_option maxRecDepth 100000 in
set_option maxHeartbeats 2000000 in
theorem bytes_out0 (k c t r m p : Int) (h0 : k < 0) (w : World) :
    Calls Tryd.prog 6 #[ent9V k c t r m p] w fun e w' => e = .returned (.tuple #[.slice none 0 0, .bool false]) ∧ Below w.heap.size w w' := by
  have f0 : decide (k < 0) = true := decide_eq_true h0
  clear h0
  go_enter Tryd.func6, Tryd.ntmps6
  go_wp2_with fail
  go_ret2
  exact ⟨rfl, Joins.below_alloc1 _ _⟩
set_option maxRecDepth 100000 in
set_option maxHeartbeats 2000000 in
theorem bytes_out1 (k c t r m p : Int) (h0 : ¬ k < 0) (h1 : 9 < k) (w : World) :
    Calls Tryd.prog 6 #[ent9V k c t r m p] w fun e w' => e = .returned (.tuple #[.slice none 0 0, .bool false]) ∧ Below w.heap.size w w' := by
  have f0 : decide (k < 0) = false := decide_eq_false h0
  have f1 : decide (9 < k) = true := decide_eq_true h1
  clear h0 h1
  go_enter Tryd.func6, Tryd.ntmps6
  go_wp2_with fail
  go_ret2
  exact ⟨rfl, Joins.below_alloc1 _ _⟩
set_option maxRecDepth 100000 in
set_option maxHeartbeats 2000000 in
theorem bytes_out2 (k c t r m p : Int) (h0 : ¬ k < 0) (h1 : ¬ 9 < k) (h2 : c < 0) (w : World) :
    Calls Tryd.prog 6 #[ent9V k c t r m p] w fun e w' => e = .returned (.tuple #[.slice none 0 0, .bool false]) ∧ Below w.heap.size w w' := by
  have f0 : decide (k < 0) = false := decide_eq_false h0
  have f1 : decide (9 < k) = false := decide_eq_false h1
  have f2 : decide (c < 0) = true := decide_eq_true h2
  clear h0 h1 h2
  go_enter Tryd.func6, Tryd.ntmps6
  go_wp2_with fail
  go_ret2
  exact ⟨rfl, Joins.below_alloc1 _ _⟩
set_option maxRecDepth 100000 in
set_option maxHeartbeats 2000000 in
theorem bytes_out3 (k c t r m p : Int) (h0 : ¬ k < 0) (h1 : ¬ 9 < k) (h2 : ¬ c < 0) (h3 : 255 < c) (w : World) :
    Calls Tryd.prog 6 #[ent9V k c t r m p] w fun e w' => e = .returned (.tuple #[.slice none 0 0, .bool false]) ∧ Below w.heap.size w w' := by
  have f0 : decide (k < 0) = false := decide_eq_false h0
  have f1 : decide (9 < k) = false := decide_eq_false h1
  have f2 : decide (c < 0) = false := decide_eq_false h2
  have f3 : decide (255 < c) = true := decide_eq_true h3
  clear h0 h1 h2 h3
  go_enter Tryd.func6, Tryd.ntmps6
  go_wp2_with fail
  go_ret2
  exact ⟨rfl, Joins.below_alloc1 _ _⟩
set_option maxRecDepth 100000 in
set_option maxHeartbeats 2000000 in
theorem bytes_out4 (k c t r m p : Int) (h0 : ¬ k < 0) (h1 : ¬ 9 < k) (h2 : ¬ c < 0) (h3 : ¬ 255 < c) (h4 : t < 0) (w : World) :
    Calls Tryd.prog 6 #[ent9V k c t r m p] w fun e w' => e = .returned (.tuple #[.slice none 0 0, .bool false]) ∧ Below w.heap.size w w' := by
  have f0 : decide (k < 0) = false := decide_eq_false h0
  have f1 : decide (9 < k) = false := decide_eq_false h1
  have f2 : decide (c < 0) = false := decide_eq_false h2
  have f3 : decide (255 < c) = false := decide_eq_false h3
  have f4 : decide (t < 0) = true := decide_eq_true h4
  clear h0 h1 h2 h3 h4
  go_enter Tryd.func6, Tryd.ntmps6
  go_wp2_with fail
  go_ret2
  exact ⟨rfl, Joins.below_alloc1 _ _⟩
set_option maxRecDepth 100000 in
set_option maxHeartbeats 2000000 in
theorem bytes_out5 (k c t r m p : Int) (h0 : ¬ k < 0) (h1 : ¬ 9 < k) (h2 : ¬ c < 0) (h3 : ¬ 255 < c) (h4 : ¬ t < 0) (h5 : 255 < t) (w : World) :
    Calls Tryd.prog 6 #[ent9V k c t r m p] w fun e w' => e = .returned (.tuple #[.slice none 0 0, .bool false]) ∧ Below w.heap.size w w' := by
  have f0 : decide (k < 0) = false := decide_eq_false h0
  have f1 : decide (9 < k) = false := decide_eq_false h1
  have f2 : decide (c < 0) = false := decide_eq_false h2
  have f3 : decide (255 < c) = false := decide_eq_false h3
  have f4 : decide (t < 0) = false := decide_eq_false h4
  have f5 : decide (255 < t) = true := decide_eq_true h5
  clear h0 h1 h2 h3 h4 h5
  go_enter Tryd.func6, Tryd.ntmps6
  go_wp2_with fail
  go_ret2
  exact ⟨rfl, Joins.below_alloc1 _ _⟩
set_option maxRecDepth 100000 in
set_option maxHeartbeats 2000000 in
theorem bytes_out6 (k c t r m p : Int) (h0 : ¬ k < 0) (h1 : ¬ 9 < k) (h2 : ¬ c < 0) (h3 : ¬ 255 < c) (h4 : ¬ t < 0) (h5 : ¬ 255 < t) (h6 : r < 0) (w : World) :
    Calls Tryd.prog 6 #[ent9V k c t r m p] w fun e w' => e = .returned (.tuple #[.slice none 0 0, .bool false]) ∧ Below w.heap.size w w' := by
  have f0 : decide (k < 0) = false := decide_eq_false h0
  have f1 : decide (9 < k) = false := decide_eq_false h1
  have f2 : decide (c < 0) = false := decide_eq_false h2
  have f3 : decide (255 < c) = false := decide_eq_false h3
  have f4 : decide (t < 0) = false := decide_eq_false h4
  have f5 : decide (255 < t) = false := decide_eq_false h5
  have f6 : decide (r < 0) = true := decide_eq_true h6
  clear h0 h1 h2 h3 h4 h5 h6
  go_enter Tryd.func6, Tryd.ntmps6
  go_wp2_with fail
  go_ret2
  exact ⟨rfl, Joins.below_alloc1 _ _⟩
set_option maxRecDepth 100000 in
set_option maxHeartbeats 2000000 in
theorem bytes_out7 (k c t r m p : Int) (h0 : ¬ k < 0) (h1 : ¬ 9 < k) (h2 : ¬ c < 0) (h3 : ¬ 255 < c) (h4 : ¬ t < 0) (h5 : ¬ 255 < t) (h6 : ¬ r < 0) (h7 : 255 < r) (w : World) :
    Calls Tryd.prog 6 #[ent9V k c t r m p] w fun e w' => e = .returned (.tuple #[.slice none 0 0, .bool false]) ∧ Below w.heap.size w w' := by
  have f0 : decide (k < 0) = false := decide_eq_false h0
  have f1 : decide (9 < k) = false := decide_eq_false h1
  have f2 : decide (c < 0) = false := decide_eq_false h2
  have f3 : decide (255 < c) = false := decide_eq_false h3
  have f4 : decide (t < 0) = false := decide_eq_false h4
  have f5 : decide (255 < t) = false := decide_eq_false h5
  have f6 : decide (r < 0) = false := decide_eq_false h6
  have f7 : decide (255 < r) = true := decide_eq_true h7
  clear h0 h1 h2 h3 h4 h5 h6 h7
  go_enter Tryd.func6, Tryd.ntmps6
  go_wp2_with fail
  go_ret2
  exact ⟨rfl, Joins.below_alloc1 _ _⟩
set_option maxRecDepth 100000 in
set_option maxHeartbeats 2000000 in
theorem bytes_out8 (k c t r m p : Int) (h0 : ¬ k < 0) (h1 : ¬ 9 < k) (h2 : ¬ c < 0) (h3 : ¬ 255 < c) (h4 : ¬ t < 0) (h5 : ¬ 255 < t) (h6 : ¬ r < 0) (h7 : ¬ 255 < r) (h8 : m < 0) (w : World) :
    Calls Tryd.prog 6 #[ent9V k c t r m p] w fun e w' => e = .returned (.tuple #[.slice none 0 0, .bool false]) ∧ Below w.heap.size w w' := by
  have f0 : decide (k < 0) = false := decide_eq_false h0
  have f1 : decide (9 < k) = false := decide_eq_false h1
  have f2 : decide (c < 0) = false := decide_eq_false h2
  have f3 : decide (255 < c) = false := decide_eq_false h3
  have f4 : decide (t < 0) = false := decide_eq_false h4
  have f5 : decide (255 < t) = false := decide_eq_false h5
  have f6 : decide (r < 0) = false := decide_eq_false h6
  have f7 : decide (255 < r) = false := decide_eq_false h7
  have f8 : decide (m < 0) = true := decide_eq_true h8
  clear h0 h1 h2 h3 h4 h5 h6 h7 h8
  go_enter Tryd.func6, Tryd.ntmps6
  go_wp2_with fail
  go_ret2
  exact ⟨rfl, Joins.below_alloc1 _ _⟩
set_option maxRecDepth 100000 in
set_option maxHeartbeats 2000000 in
theorem bytes_out9 (k c t r m p : Int) (h0 : ¬ k < 0) (h1 : ¬ 9 < k) (h2 : ¬ c < 0) (h3 : ¬ 255 < c) (h4 : ¬ t < 0) (h5 : ¬ 255 < t) (h6 : ¬ r < 0) (h7 : ¬ 255 < r) (h8 : ¬ m < 0) (h9 : 255 < m) (w : World) :
    Calls Tryd.prog 6 #[ent9V k c t r m p] w fun e w' => e = .returned (.tuple #[.slice none 0 0, .bool false]) ∧ Below w.heap.size w w' := by
  have f0 : decide (k < 0) = false := decide_eq_false h0
  have f1 : decide (9 < k) = false := decide_eq_false h1
  have f2 : decide (c < 0) = false := decide_eq_false h2
  have f3 : decide (255 < c) = false := decide_eq_false h3
  have f4 : decide (t < 0) = false := decide_eq_false h4
  have f5 : decide (255 < t) = false := decide_eq_false h5
  have f6 : decide (r < 0) = false := decide_eq_false h6
  have f7 : decide (255 < r) = false := decide_eq_false h7
  have f8 : decide (m < 0) = false := decide_eq_false h8
  have f9 : decide (255 < m) = true := decide_eq_true h9
  clear h0 h1 h2 h3 h4 h5 h6 h7 h8 h9
  go_enter Tryd.func6, Tryd.ntmps6
  go_wp2_with fail
  go_ret2
  exact ⟨rfl, Joins.below_alloc1 _ _⟩
set_option maxRecDepth 100000 in
set_option maxHeartbeats 2000000 in
theorem bytes_out10 (k c t r m p : Int) (h0 : ¬ k < 0) (h1 : ¬ 9 < k) (h2 : ¬ c < 0) (h3 : ¬ 255 < c) (h4 : ¬ t < 0) (h5 : ¬ 255 < t) (h6 : ¬ r < 0) (h7 : ¬ 255 < r) (h8 : ¬ m < 0) (h9 : ¬ 255 < m) (h10 : p < 0) (w : World) :
    Calls Tryd.prog 6 #[ent9V k c t r m p] w fun e w' => e = .returned (.tuple #[.slice none 0 0, .bool false]) ∧ Below w.heap.size w w' := by
  have f0 : decide (k < 0) = false := decide_eq_false h0
  have f1 : decide (9 < k) = false := decide_eq_false h1
  have f2 : decide (c < 0) = false := decide_eq_false h2
  have f3 : decide (255 < c) = false := decide_eq_false h3
  have f4 : decide (t < 0) = false := decide_eq_false h4
  have f5 : decide (255 < t) = false := decide_eq_false h5
  have f6 : decide (r < 0) = false := decide_eq_false h6
  have f7 : decide (255 < r) = false := decide_eq_false h7
  have f8 : decide (m < 0) = false := decide_eq_false h8
  have f9 : decide (255 < m) = false := decide_eq_false h9
  have f10 : decide (p < 0) = true := decide_eq_true h10
  clear h0 h1 h2 h3 h4 h5 h6 h7 h8 h9 h10
  go_enter Tryd.func6, Tryd.ntmps6
  go_wp2_with fail
  go_ret2
  exact ⟨rfl, Joins.below_alloc1 _ _⟩
set_option maxRecDepth 100000 in
set_option maxHeartbeats 2000000 in
theorem bytes_out11 (k c t r m p : Int) (h0 : ¬ k < 0) (h1 : ¬ 9 < k) (h2 : ¬ c < 0) (h3 : ¬ 255 < c) (h4 : ¬ t < 0) (h5 : ¬ 255 < t) (h6 : ¬ r < 0) (h7 : ¬ 255 < r) (h8 : ¬ m < 0) (h9 : ¬ 255 < m) (h10 : ¬ p < 0) (h11 : 16777215 < p) (w : World) :
    Calls Tryd.prog 6 #[ent9V k c t r m p] w fun e w' => e = .returned (.tuple #[.slice none 0 0, .bool false]) ∧ Below w.heap.size w w' := by
  have f0 : decide (k < 0) = false := decide_eq_false h0
  have f1 : decide (9 < k) = false := decide_eq_false h1
  have f2 : decide (c < 0) = false := decide_eq_false h2
  have f3 : decide (255 < c) = false := decide_eq_false h3
  have f4 : decide (t < 0) = false := decide_eq_false h4
  have f5 : decide (255 < t) = false := decide_eq_false h5
  have f6 : decide (r < 0) = false := decide_eq_false h6
  have f7 : decide (255 < r) = false := decide_eq_false h7
  have f8 : decide (m < 0) = false := decide_eq_false h8
  have f9 : decide (255 < m) = false := decide_eq_false h9
  have f10 : decide (p < 0) = false := decide_eq_false h10
  have f11 : decide (16777215 < p) = true := decide_eq_true h11
  clear h0 h1 h2 h3 h4 h5 h6 h7 h8 h9 h10 h11
  go_enter Tryd.func6, Tryd.ntmps6
  go_wp2_with fail
  go_ret2
  exact ⟨rfl, Joins.below_alloc1 _ _⟩
set_option maxRecDepth 100000 in
set_option maxHeartbeats 4000000 in
theorem bytes_not_ok (k c t r m p : Int) (hk : 0 ≤ k ∧ k ≤ 9) (hc : 0 ≤ c ∧ c ≤ 255) (ht : 0 ≤ t ∧ t ≤ 255) (hr : 0 ≤ r ∧ r ≤ 255) (hm : 0 ≤ m ∧ m ≤ 255) (hp : 0 ≤ p ∧ p ≤ 16777215) (h7 : k < 7) (ho : okE k c t r m p = true) (w : World) :
    Calls Tryd.prog 6 #[ent9V k c t r m p] w fun e w' => (∃ g, e = .returned (.tuple #[.slice (some ⟨g, 0, none⟩) 5 5, .bool true]) ∧ Reads w' w'.heap.size 1 (some ⟨g, 0, none⟩) 5 (u8s (wrE [k, c, t, r, m, p]))) ∧ Below w.heap.size w w' := by
  have f0 : decide (k < 0) = false := decide_eq_false (by omega)
  have f1 : decide (9 < k) = false := decide_eq_false (by omega)
  have f2 : decide (c < 0) = false := decide_eq_false (by omega)
  have f3 : decide (255 < c) = false := decide_eq_false (by omega)
  have f4 : decide (t < 0) = false := decide_eq_false (by omega)
  have f5 : decide (255 < t) = false := decide_eq_false (by omega)
  have f6 : decide (r < 0) = false := decide_eq_false (by omega)
  have f7 : decide (255 < r) = false := decide_eq_false (by omega)
  have f8 : decide (m < 0) = false := decide_eq_false (by omega)
  have f9 : decide (255 < m) = false := decide_eq_false (by omega)
  have f10 : decide (p < 0) = false := decide_eq_false (by omega)
  have f11 : decide (16777215 < p) = false := decide_eq_false (by omega)
  have f20 : decide (7 ≤ k) = false := decide_eq_false (by omega)
  have u0 : IntKind.u8.wrap k = k := u8w_in (by omega)
  have u1 : IntKind.u8.wrap c = c := u8w_in (by omega)
  have u2 : IntKind.u8.wrap t = t := u8w_in (by omega)
  have u3 : IntKind.u8.wrap r = r := u8w_in (by omega)
  have u4 : IntKind.u8.wrap m = m := u8w_in (by omega)
  have z0 : IntKind.i64.wrap k = k := IntWalk.i64_in _ (by omega)
  have z1 : IntKind.i64.wrap c = c := IntWalk.i64_in _ (by omega)
  have z2 : IntKind.i64.wrap t = t := IntWalk.i64_in _ (by omega)
  have z3 : IntKind.i64.wrap r = r := IntWalk.i64_in _ (by omega)
  have z4 : IntKind.i64.wrap m = m := IntWalk.i64_in _ (by omega)
  have HQ := Lib.hid (show decide (oneE (k) (c) (t) (r) (m) = [k, c, t, r, m, p]) = true from (one_not ⟨hk.1, h7⟩ hc ht hr hm).trans ho)
  obtain ⟨e0, e1, e2, e3, e4, e5, hee⟩ := six_ints (one_length (k) (c) (t) (r) (m))
  have HE := Lib.hid hee
  have HB := Lib.hid (show (0 ≤ (k) ∧ (k) ≤ 255) ∧ (0 ≤ (c) ∧ (c) ≤ 255) ∧ (0 ≤ (t) ∧ (t) ≤ 255) ∧ (0 ≤ (r) ∧ (r) ≤ 255) ∧ (0 ≤ (m) ∧ (m) ≤ 255) from ⟨(by omega), (by omega), (by omega), (by omega), (by omega)⟩)
  have qn := neq_ent9S e0 e1 e2 e3 e4 e5 k c t r m p false (by rw [← hee, HQ.out]; rfl)
  have gq := guard_ent9
  have HW := Lib.hid (show wrE [k, c, t, r, m, p] = [u8i (k), u8i (c), u8i (t), u8i (r), u8i (m)] from by
    unfold wrE; rw [show fld [k, c, t, r, m, p] 0 = k from rfl, show picB k = false from by unfold picB; simp; omega]; rfl)
  clear hk hc ht hr hm hp h7 ho hee
  go_enter Tryd.func6, Tryd.ntmps6
  go_upto_region 6 with fail
  have XE := Lib.hid ((Blk.new w 33 #[.int .i64 k, .int .i64 c, .int .i64 t, .int .i64 r, .int .i64 m, .int .i64 p]).alloc (.cells #[.int .u8 k, .int .u8 c, .int .u8 t, .int .u8 r, .int .u8 m] 5))
  have XB := Lib.hid (Blk.new_at (w := (w.alloc (.cells #[.int .i64 k, .int .i64 c, .int .i64 t, .int .i64 r, .int .i64 m, .int .i64 p] 33))) (n := w.heap.size + 1) (by simp) 5 #[.int .u8 k, .int .u8 c, .int .u8 t, .int .u8 r, .int .u8 m])
  have B1 := Lib.hid ((Joins.below_alloc1 w (.cells #[.int .i64 k, .int .i64 c, .int .i64 t, .int .i64 r, .int .i64 m, .int .i64 p] 33)).alloc (by simp) (.cells #[.int .u8 k, .int .u8 c, .int .u8 t, .int .u8 r, .int .u8 m] 5))
  obtain ⟨gb, hgb⟩ : ∃ gb, gb = w.heap.size + 1 := ⟨_, rfl⟩
  rw [← hgb] at XB ⊢
  clear hgb
  generalize w.heap.size = g at XE ⊢
  generalize World.alloc _ _ = V at XE XB B1 ⊢
  have KP := Lib.hid (fun Y (hy : Below V.heap.size V Y) => (show (fun w' => w'.cell? ⟨gb, 0, none⟩ = some (.int .u8 (k)) ∧ w'.cell? ⟨gb, 1, none⟩ = some (.int .u8 (c)) ∧ w'.cell? ⟨gb, 2, none⟩ = some (.int .u8 (t)) ∧ w'.cell? ⟨gb, 3, none⟩ = some (.int .u8 (r)) ∧ w'.cell? ⟨gb, 4, none⟩ = some (.int .u8 (m)) ∧ w'.cell? ⟨g, 0, none⟩ = some (.int .i64 k) ∧ w'.cell? ⟨g, 1, none⟩ = some (.int .i64 c) ∧ w'.cell? ⟨g, 2, none⟩ = some (.int .i64 t) ∧ w'.cell? ⟨g, 3, none⟩ = some (.int .i64 r) ∧ w'.cell? ⟨g, 4, none⟩ = some (.int .i64 m) ∧ w'.cell? ⟨g, 5, none⟩ = some (.int .i64 p)) Y from ⟨(XB.out.here hy).cell 0, (XB.out.here hy).cell 1, (XB.out.here hy).cell 2, (XB.out.here hy).cell 3, (XB.out.here hy).cell 4, (XE.out.here hy).cell 0, (XE.out.here hy).cell 1, (XE.out.here hy).cell 2, (XE.out.here hy).cell 3, (XE.out.here hy).cell 4, (XE.out.here hy).cell 5⟩))
  refine wp_region_held_drew (S := fun w' => w'.cell? ⟨gb, 0, none⟩ = some (.int .u8 (k)) ∧ w'.cell? ⟨gb, 1, none⟩ = some (.int .u8 (c)) ∧ w'.cell? ⟨gb, 2, none⟩ = some (.int .u8 (t)) ∧ w'.cell? ⟨gb, 3, none⟩ = some (.int .u8 (r)) ∧ w'.cell? ⟨gb, 4, none⟩ = some (.int .u8 (m)) ∧ w'.cell? ⟨g, 0, none⟩ = some (.int .i64 k) ∧ w'.cell? ⟨g, 1, none⟩ = some (.int .i64 c) ∧ w'.cell? ⟨g, 2, none⟩ = some (.int .i64 t) ∧ w'.cell? ⟨g, 3, none⟩ = some (.int .i64 r) ∧ w'.cell? ⟨g, 4, none⟩ = some (.int .i64 m) ∧ w'.cell? ⟨g, 5, none⟩ = some (.int .i64 p)) (by kernel_rfl) ?_ (fun hHeld => ?_)
  · exact KP.out _ (Below.refl _ _).drew
  refine wpAnyH_take (i := 0) (v := ?_) rfl (by kernel_rfl) (by kernel_rfl) (by kernel_rfl) (fun _ _ _ h => h) (Or.inl ⟨by rfl, ?_⟩) (by assumption) ?_
  rotate_left
  · (intro w0 hSw; (try dsimp only at hSw); go_simp; try with_reducible rfl)
  try simp only [List.getElem_toArray, List.getElem_cons_succ, List.getElem_cons_zero, Act.put, List.setIfInBounds_toArray, List.set_cons_zero, List.set_cons_succ]
  refine wpAnyH_take (i := 1) (v := ?_) rfl (by kernel_rfl) (by kernel_rfl) (by kernel_rfl) (fun _ _ _ h => h) (Or.inl ⟨by rfl, ?_⟩) (by assumption) ?_
  rotate_left
  · (intro w0 hSw; (try dsimp only at hSw); go_simp; try with_reducible rfl)
  try simp only [List.getElem_toArray, List.getElem_cons_succ, List.getElem_cons_zero, Act.put, List.setIfInBounds_toArray, List.set_cons_zero, List.set_cons_succ]
  refine wpAnyH_take (i := 2) (v := ?_) rfl (by kernel_rfl) (by kernel_rfl) (by kernel_rfl) (fun _ _ _ h => h) (Or.inl ⟨by rfl, ?_⟩) (by assumption) ?_
  rotate_left
  · (intro w0 hSw; (try dsimp only at hSw); go_simp; try with_reducible rfl)
  try simp only [List.getElem_toArray, List.getElem_cons_succ, List.getElem_cons_zero, Act.put, List.setIfInBounds_toArray, List.set_cons_zero, List.set_cons_succ]
  refine wpAnyH_take (i := 3) (v := ?_) rfl (by kernel_rfl) (by kernel_rfl) (by kernel_rfl) (fun _ _ _ h => h) (Or.inl ⟨by rfl, ?_⟩) (by assumption) ?_
  rotate_left
  · (intro w0 hSw; (try dsimp only at hSw); go_simp; try with_reducible rfl)
  try simp only [List.getElem_toArray, List.getElem_cons_succ, List.getElem_cons_zero, Act.put, List.setIfInBounds_toArray, List.set_cons_zero, List.set_cons_succ]
  refine wpAnyH_take (i := 4) (v := ?_) rfl (by kernel_rfl) (by kernel_rfl) (by kernel_rfl) (fun _ _ _ h => h) (Or.inl ⟨by rfl, ?_⟩) (by assumption) ?_
  rotate_left
  · (intro w0 hSw; (try dsimp only at hSw); go_simp; try with_reducible rfl)
  try simp only [List.getElem_toArray, List.getElem_cons_succ, List.getElem_cons_zero, Act.put, List.setIfInBounds_toArray, List.set_cons_zero, List.set_cons_succ]
  refine wpAnyH_take (i := 5) (v := ?_) rfl (by kernel_rfl) (by kernel_rfl) (by kernel_rfl) (fun _ _ _ h => h) (Or.inl ⟨by rfl, ?_⟩) (by assumption) ?_
  rotate_left
  · (intro w0 hSw; (try dsimp only at hSw); go_simp; try with_reducible rfl)
  try simp only [List.getElem_toArray, List.getElem_cons_succ, List.getElem_cons_zero, Act.put, List.setIfInBounds_toArray, List.set_cons_zero, List.set_cons_succ]
  refine wpAnyH_take (i := 6) (v := ?_) rfl (by kernel_rfl) (by kernel_rfl) (by kernel_rfl) (fun _ _ _ h => h) (Or.inl ⟨by rfl, ?_⟩) (by assumption) ?_
  rotate_left
  · (intro w0 hSw; (try dsimp only at hSw); go_simp; try with_reducible rfl)
  try simp only [List.getElem_toArray, List.getElem_cons_succ, List.getElem_cons_zero, Act.put, List.setIfInBounds_toArray, List.set_cons_zero, List.set_cons_succ]
  refine wpAnyH_take (i := 7) (v := ?_) rfl (by kernel_rfl) (by kernel_rfl) (by kernel_rfl) (fun _ _ _ h => h) (Or.inl ⟨by rfl, ?_⟩) (by assumption) ?_
  rotate_left
  · (intro w0 hSw; (try dsimp only at hSw); go_simp; try with_reducible rfl)
  try simp only [List.getElem_toArray, List.getElem_cons_succ, List.getElem_cons_zero, Act.put, List.setIfInBounds_toArray, List.set_cons_zero, List.set_cons_succ]
  refine wpAnyH_take (i := 8) (v := ?_) rfl (by kernel_rfl) (by kernel_rfl) (by kernel_rfl) (fun _ _ _ h => h) (Or.inl ⟨by rfl, ?_⟩) (by assumption) ?_
  rotate_left
  · (intro w0 hSw; (try dsimp only at hSw); go_simp; try with_reducible rfl)
  try simp only [List.getElem_toArray, List.getElem_cons_succ, List.getElem_cons_zero, Act.put, List.setIfInBounds_toArray, List.set_cons_zero, List.set_cons_succ]
  refine wpAnyH_take (i := 9) (v := ?_) rfl (by kernel_rfl) (by kernel_rfl) (by kernel_rfl) (fun _ _ _ h => h) (Or.inl ⟨by rfl, ?_⟩) (by assumption) ?_
  rotate_left
  · (intro w0 hSw; (try dsimp only at hSw); go_simp; try with_reducible rfl)
  try simp only [List.getElem_toArray, List.getElem_cons_succ, List.getElem_cons_zero, Act.put, List.setIfInBounds_toArray, List.set_cons_zero, List.set_cons_succ]
  refine wpAnyH_take (i := 10) (v := ?_) rfl (by kernel_rfl) (by kernel_rfl) (by kernel_rfl) (fun _ _ _ h => h) (Or.inl ⟨by rfl, ?_⟩) (by assumption) ?_
  rotate_left
  · (intro w0 hSw; (try dsimp only at hSw); go_simp; try with_reducible rfl)
  try simp only [List.getElem_toArray, List.getElem_cons_succ, List.getElem_cons_zero, Act.put, List.setIfInBounds_toArray, List.set_cons_zero, List.set_cons_succ]
  refine wpAnyH_take (i := 11) (v := ?_) rfl (by kernel_rfl) (by kernel_rfl) (by kernel_rfl) (fun _ _ _ h => h) (Or.inl ⟨by rfl, ?_⟩) (by assumption) ?_
  rotate_left
  · (intro w0 hSw; (try dsimp only at hSw); go_simp; try with_reducible rfl)
  try simp only [List.getElem_toArray, List.getElem_cons_succ, List.getElem_cons_zero, Act.put, List.setIfInBounds_toArray, List.set_cons_zero, List.set_cons_succ]
  refine wpAnyH_take (i := 12) (v := ?_) rfl (by kernel_rfl) (by kernel_rfl) (by kernel_rfl) (fun _ _ _ h => h) (Or.inl ⟨by rfl, ?_⟩) (by assumption) ?_
  rotate_left
  · (intro w0 hSw; (try dsimp only at hSw); go_simp; try with_reducible rfl)
  try simp only [List.getElem_toArray, List.getElem_cons_succ, List.getElem_cons_zero, Act.put, List.setIfInBounds_toArray, List.set_cons_zero, List.set_cons_succ]
  refine wpAnyH_take (i := 13) (v := ?_) rfl (by kernel_rfl) (by kernel_rfl) (by kernel_rfl) (fun _ _ _ h => h) (Or.inl ⟨by rfl, ?_⟩) (by assumption) ?_
  rotate_left
  · (intro w0 hSw; (try dsimp only at hSw); go_simp; try with_reducible rfl)
  try simp only [List.getElem_toArray, List.getElem_cons_succ, List.getElem_cons_zero, Act.put, List.setIfInBounds_toArray, List.set_cons_zero, List.set_cons_succ]
  refine wpAnyH_take (i := 14) (v := ?_) rfl (by kernel_rfl) (by kernel_rfl) (by kernel_rfl) (fun _ _ _ h => h) (Or.inl ⟨by rfl, ?_⟩) (by assumption) ?_
  rotate_left
  · (intro w0 hSw; (try dsimp only at hSw); go_simp; try with_reducible rfl)
  try simp only [List.getElem_toArray, List.getElem_cons_succ, List.getElem_cons_zero, Act.put, List.setIfInBounds_toArray, List.set_cons_zero, List.set_cons_succ]
  refine wpAnyH_take (i := 15) (v := ?_) rfl (by kernel_rfl) (by kernel_rfl) (by kernel_rfl) (fun _ _ _ h => h) (Or.inl ⟨by rfl, ?_⟩) (by assumption) ?_
  rotate_left
  · (intro w0 hSw; (try dsimp only at hSw); go_simp; try with_reducible rfl)
  try simp only [List.getElem_toArray, List.getElem_cons_succ, List.getElem_cons_zero, Act.put, List.setIfInBounds_toArray, List.set_cons_zero, List.set_cons_succ]
  refine wpAnyH_take (i := 16) (v := ?_) rfl (by kernel_rfl) (by kernel_rfl) (by kernel_rfl) (fun _ _ _ h => h) (Or.inl ⟨by rfl, ?_⟩) (by assumption) ?_
  rotate_left
  · (intro w0 hSw; (try dsimp only at hSw); go_simp; try with_reducible rfl)
  try simp only [List.getElem_toArray, List.getElem_cons_succ, List.getElem_cons_zero, Act.put, List.setIfInBounds_toArray, List.set_cons_zero, List.set_cons_succ]
  refine wpAnyH_take (i := 17) (v := ?_) rfl (by kernel_rfl) (by kernel_rfl) (by kernel_rfl) (fun _ _ _ h => h) (Or.inl ⟨by rfl, ?_⟩) (by assumption) ?_
  rotate_left
  · (intro w0 hSw; (try dsimp only at hSw); go_simp; try with_reducible rfl)
  try simp only [List.getElem_toArray, List.getElem_cons_succ, List.getElem_cons_zero, Act.put, List.setIfInBounds_toArray, List.set_cons_zero, List.set_cons_succ]
  refine wpAnyH_take (i := 18) (v := ?_) rfl (by kernel_rfl) (by kernel_rfl) (by kernel_rfl) (fun _ _ _ h => h) (Or.inl ⟨by rfl, ?_⟩) (by assumption) ?_
  rotate_left
  · (intro w0 hSw; (try dsimp only at hSw); go_simp; try with_reducible rfl)
  try simp only [List.getElem_toArray, List.getElem_cons_succ, List.getElem_cons_zero, Act.put, List.setIfInBounds_toArray, List.set_cons_zero, List.set_cons_succ]
  refine wpAnyH_take (i := 19) (v := ?_) rfl (by kernel_rfl) (by kernel_rfl) (by kernel_rfl) (fun _ _ _ h => h) (Or.inl ⟨by rfl, ?_⟩) (by assumption) ?_
  rotate_left
  · (intro w0 hSw; (try dsimp only at hSw); go_simp; try with_reducible rfl)
  try simp only [List.getElem_toArray, List.getElem_cons_succ, List.getElem_cons_zero, Act.put, List.setIfInBounds_toArray, List.set_cons_zero, List.set_cons_succ]
  refine wpAnyH_take (i := 21) (v := ?_) rfl (by kernel_rfl) (by kernel_rfl) (by kernel_rfl) (fun _ _ _ h => h) (Or.inl ⟨by rfl, ?_⟩) (by assumption) ?_
  rotate_left
  · (intro w0 hSw; (try dsimp only at hSw); go_simp; try with_reducible rfl)
  try simp only [List.getElem_toArray, List.getElem_cons_succ, List.getElem_cons_zero, Act.put, List.setIfInBounds_toArray, List.set_cons_zero, List.set_cons_succ]
  refine wpAnyH_ready (rs := [20]) (by kernel_rfl) (by simp) ?_
  refine AllReadyH.cons rfl (fun K hK => ?_) AllReadyH.nil
  go_simp
  refine (oneR_any (k) (c) (t) (r) (m) HB.out.2.1 HB.out.2.2.1 HB.out.2.2.2.1 HB.out.2.2.2.2 _).mono ?_
  rintro x9 w9 ⟨rfl, hb9⟩
  rw [HE.out, show (ints [e0, e1, e2, e3, e4, e5]).toArray = #[.int .i64 e0, .int .i64 e1, .int .i64 e2, .int .i64 e3, .int .i64 e4, .int .i64 e5] from rfl]
  have hbV : Below V.heap.size V w9 := ⟨hb9.os, hb9.tape, hb9.output, hb9.size, hb9.block⟩
  have X9 := Lib.hid (XB.out.here hbV)
  have B9 := Lib.hid (stepB B1.out hbV)
  try go_simp
  refine hK.out _ _ (KP.out _ hbV) (fun hHeld => ?_)
  clear hK K hb9 hbV
  refine wpAnyH_take (i := 22) (v := ?_) rfl (by kernel_rfl) (by kernel_rfl) (by kernel_rfl) (fun _ _ _ h => h) (Or.inl ⟨by rfl, ?_⟩) (by assumption) ?_
  rotate_left
  · (intro w0 hSw; (try dsimp only at hSw); go_simp; try with_reducible rfl)
  try simp only [List.getElem_toArray, List.getElem_cons_succ, List.getElem_cons_zero, Act.put, List.setIfInBounds_toArray, List.set_cons_zero, List.set_cons_succ]
  refine wpAnyH_done (by kernel_rfl) ?_ _
  clear hHeld
  go_wp2_with fail
  go_ret2
  exact ⟨⟨gb, rfl, by rw [HW.out]; exact reads_fiveI X9.out HB.out.1 HB.out.2.1 HB.out.2.2.1 HB.out.2.2.2.1 HB.out.2.2.2.2⟩, B9.out⟩
set_option maxRecDepth 100000 in
set_option maxHeartbeats 4000000 in
theorem bytes_not_no (k c t r m p : Int) (hk : 0 ≤ k ∧ k ≤ 9) (hc : 0 ≤ c ∧ c ≤ 255) (ht : 0 ≤ t ∧ t ≤ 255) (hr : 0 ≤ r ∧ r ≤ 255) (hm : 0 ≤ m ∧ m ≤ 255) (hp : 0 ≤ p ∧ p ≤ 16777215) (h7 : k < 7) (ho : okE k c t r m p = false) (w : World) :
    Calls Tryd.prog 6 #[ent9V k c t r m p] w fun e w' => e = .returned (.tuple #[.slice none 0 0, .bool false]) ∧ Below w.heap.size w w' := by
  have f0 : decide (k < 0) = false := decide_eq_false (by omega)
  have f1 : decide (9 < k) = false := decide_eq_false (by omega)
  have f2 : decide (c < 0) = false := decide_eq_false (by omega)
  have f3 : decide (255 < c) = false := decide_eq_false (by omega)
  have f4 : decide (t < 0) = false := decide_eq_false (by omega)
  have f5 : decide (255 < t) = false := decide_eq_false (by omega)
  have f6 : decide (r < 0) = false := decide_eq_false (by omega)
  have f7 : decide (255 < r) = false := decide_eq_false (by omega)
  have f8 : decide (m < 0) = false := decide_eq_false (by omega)
  have f9 : decide (255 < m) = false := decide_eq_false (by omega)
  have f10 : decide (p < 0) = false := decide_eq_false (by omega)
  have f11 : decide (16777215 < p) = false := decide_eq_false (by omega)
  have f20 : decide (7 ≤ k) = false := decide_eq_false (by omega)
  have u0 : IntKind.u8.wrap k = k := u8w_in (by omega)
  have u1 : IntKind.u8.wrap c = c := u8w_in (by omega)
  have u2 : IntKind.u8.wrap t = t := u8w_in (by omega)
  have u3 : IntKind.u8.wrap r = r := u8w_in (by omega)
  have u4 : IntKind.u8.wrap m = m := u8w_in (by omega)
  have z0 : IntKind.i64.wrap k = k := IntWalk.i64_in _ (by omega)
  have z1 : IntKind.i64.wrap c = c := IntWalk.i64_in _ (by omega)
  have z2 : IntKind.i64.wrap t = t := IntWalk.i64_in _ (by omega)
  have z3 : IntKind.i64.wrap r = r := IntWalk.i64_in _ (by omega)
  have z4 : IntKind.i64.wrap m = m := IntWalk.i64_in _ (by omega)
  have HQ := Lib.hid (show decide (oneE (k) (c) (t) (r) (m) = [k, c, t, r, m, p]) = false from (one_not ⟨hk.1, h7⟩ hc ht hr hm).trans ho)
  obtain ⟨e0, e1, e2, e3, e4, e5, hee⟩ := six_ints (one_length (k) (c) (t) (r) (m))
  have HE := Lib.hid hee
  have HB := Lib.hid (show (0 ≤ (k) ∧ (k) ≤ 255) ∧ (0 ≤ (c) ∧ (c) ≤ 255) ∧ (0 ≤ (t) ∧ (t) ≤ 255) ∧ (0 ≤ (r) ∧ (r) ≤ 255) ∧ (0 ≤ (m) ∧ (m) ≤ 255) from ⟨(by omega), (by omega), (by omega), (by omega), (by omega)⟩)
  have qn := neq_ent9S e0 e1 e2 e3 e4 e5 k c t r m p true (by rw [← hee, HQ.out]; rfl)
  have gq := guard_ent9
  have HW := True.intro
  clear hk hc ht hr hm hp h7 ho hee
  go_enter Tryd.func6, Tryd.ntmps6
  go_upto_region 6 with fail
  have XE := Lib.hid ((Blk.new w 33 #[.int .i64 k, .int .i64 c, .int .i64 t, .int .i64 r, .int .i64 m, .int .i64 p]).alloc (.cells #[.int .u8 k, .int .u8 c, .int .u8 t, .int .u8 r, .int .u8 m] 5))
  have XB := Lib.hid (Blk.new_at (w := (w.alloc (.cells #[.int .i64 k, .int .i64 c, .int .i64 t, .int .i64 r, .int .i64 m, .int .i64 p] 33))) (n := w.heap.size + 1) (by simp) 5 #[.int .u8 k, .int .u8 c, .int .u8 t, .int .u8 r, .int .u8 m])
  have B1 := Lib.hid ((Joins.below_alloc1 w (.cells #[.int .i64 k, .int .i64 c, .int .i64 t, .int .i64 r, .int .i64 m, .int .i64 p] 33)).alloc (by simp) (.cells #[.int .u8 k, .int .u8 c, .int .u8 t, .int .u8 r, .int .u8 m] 5))
  obtain ⟨gb, hgb⟩ : ∃ gb, gb = w.heap.size + 1 := ⟨_, rfl⟩
  rw [← hgb] at XB ⊢
  clear hgb
  generalize w.heap.size = g at XE ⊢
  generalize World.alloc _ _ = V at XE XB B1 ⊢
  have KP := Lib.hid (fun Y (hy : Below V.heap.size V Y) => (show (fun w' => w'.cell? ⟨gb, 0, none⟩ = some (.int .u8 (k)) ∧ w'.cell? ⟨gb, 1, none⟩ = some (.int .u8 (c)) ∧ w'.cell? ⟨gb, 2, none⟩ = some (.int .u8 (t)) ∧ w'.cell? ⟨gb, 3, none⟩ = some (.int .u8 (r)) ∧ w'.cell? ⟨gb, 4, none⟩ = some (.int .u8 (m)) ∧ w'.cell? ⟨g, 0, none⟩ = some (.int .i64 k) ∧ w'.cell? ⟨g, 1, none⟩ = some (.int .i64 c) ∧ w'.cell? ⟨g, 2, none⟩ = some (.int .i64 t) ∧ w'.cell? ⟨g, 3, none⟩ = some (.int .i64 r) ∧ w'.cell? ⟨g, 4, none⟩ = some (.int .i64 m) ∧ w'.cell? ⟨g, 5, none⟩ = some (.int .i64 p)) Y from ⟨(XB.out.here hy).cell 0, (XB.out.here hy).cell 1, (XB.out.here hy).cell 2, (XB.out.here hy).cell 3, (XB.out.here hy).cell 4, (XE.out.here hy).cell 0, (XE.out.here hy).cell 1, (XE.out.here hy).cell 2, (XE.out.here hy).cell 3, (XE.out.here hy).cell 4, (XE.out.here hy).cell 5⟩))
  refine wp_region_held_drew (S := fun w' => w'.cell? ⟨gb, 0, none⟩ = some (.int .u8 (k)) ∧ w'.cell? ⟨gb, 1, none⟩ = some (.int .u8 (c)) ∧ w'.cell? ⟨gb, 2, none⟩ = some (.int .u8 (t)) ∧ w'.cell? ⟨gb, 3, none⟩ = some (.int .u8 (r)) ∧ w'.cell? ⟨gb, 4, none⟩ = some (.int .u8 (m)) ∧ w'.cell? ⟨g, 0, none⟩ = some (.int .i64 k) ∧ w'.cell? ⟨g, 1, none⟩ = some (.int .i64 c) ∧ w'.cell? ⟨g, 2, none⟩ = some (.int .i64 t) ∧ w'.cell? ⟨g, 3, none⟩ = some (.int .i64 r) ∧ w'.cell? ⟨g, 4, none⟩ = some (.int .i64 m) ∧ w'.cell? ⟨g, 5, none⟩ = some (.int .i64 p)) (by kernel_rfl) ?_ (fun hHeld => ?_)
  · exact KP.out _ (Below.refl _ _).drew
  refine wpAnyH_take (i := 0) (v := ?_) rfl (by kernel_rfl) (by kernel_rfl) (by kernel_rfl) (fun _ _ _ h => h) (Or.inl ⟨by rfl, ?_⟩) (by assumption) ?_
  rotate_left
  · (intro w0 hSw; (try dsimp only at hSw); go_simp; try with_reducible rfl)
  try simp only [List.getElem_toArray, List.getElem_cons_succ, List.getElem_cons_zero, Act.put, List.setIfInBounds_toArray, List.set_cons_zero, List.set_cons_succ]
  refine wpAnyH_take (i := 1) (v := ?_) rfl (by kernel_rfl) (by kernel_rfl) (by kernel_rfl) (fun _ _ _ h => h) (Or.inl ⟨by rfl, ?_⟩) (by assumption) ?_
  rotate_left
  · (intro w0 hSw; (try dsimp only at hSw); go_simp; try with_reducible rfl)
  try simp only [List.getElem_toArray, List.getElem_cons_succ, List.getElem_cons_zero, Act.put, List.setIfInBounds_toArray, List.set_cons_zero, List.set_cons_succ]
  refine wpAnyH_take (i := 2) (v := ?_) rfl (by kernel_rfl) (by kernel_rfl) (by kernel_rfl) (fun _ _ _ h => h) (Or.inl ⟨by rfl, ?_⟩) (by assumption) ?_
  rotate_left
  · (intro w0 hSw; (try dsimp only at hSw); go_simp; try with_reducible rfl)
  try simp only [List.getElem_toArray, List.getElem_cons_succ, List.getElem_cons_zero, Act.put, List.setIfInBounds_toArray, List.set_cons_zero, List.set_cons_succ]
  refine wpAnyH_take (i := 3) (v := ?_) rfl (by kernel_rfl) (by kernel_rfl) (by kernel_rfl) (fun _ _ _ h => h) (Or.inl ⟨by rfl, ?_⟩) (by assumption) ?_
  rotate_left
  · (intro w0 hSw; (try dsimp only at hSw); go_simp; try with_reducible rfl)
  try simp only [List.getElem_toArray, List.getElem_cons_succ, List.getElem_cons_zero, Act.put, List.setIfInBounds_toArray, List.set_cons_zero, List.set_cons_succ]
  refine wpAnyH_take (i := 4) (v := ?_) rfl (by kernel_rfl) (by kernel_rfl) (by kernel_rfl) (fun _ _ _ h => h) (Or.inl ⟨by rfl, ?_⟩) (by assumption) ?_
  rotate_left
  · (intro w0 hSw; (try dsimp only at hSw); go_simp; try with_reducible rfl)
  try simp only [List.getElem_toArray, List.getElem_cons_succ, List.getElem_cons_zero, Act.put, List.setIfInBounds_toArray, List.set_cons_zero, List.set_cons_succ]
  refine wpAnyH_take (i := 5) (v := ?_) rfl (by kernel_rfl) (by kernel_rfl) (by kernel_rfl) (fun _ _ _ h => h) (Or.inl ⟨by rfl, ?_⟩) (by assumption) ?_
  rotate_left
  · (intro w0 hSw; (try dsimp only at hSw); go_simp; try with_reducible rfl)
  try simp only [List.getElem_toArray, List.getElem_cons_succ, List.getElem_cons_zero, Act.put, List.setIfInBounds_toArray, List.set_cons_zero, List.set_cons_succ]
  refine wpAnyH_take (i := 6) (v := ?_) rfl (by kernel_rfl) (by kernel_rfl) (by kernel_rfl) (fun _ _ _ h => h) (Or.inl ⟨by rfl, ?_⟩) (by assumption) ?_
  rotate_left
  · (intro w0 hSw; (try dsimp only at hSw); go_simp; try with_reducible rfl)
  try simp only [List.getElem_toArray, List.getElem_cons_succ, List.getElem_cons_zero, Act.put, List.setIfInBounds_toArray, List.set_cons_zero, List.set_cons_succ]
  refine wpAnyH_take (i := 7) (v := ?_) rfl (by kernel_rfl) (by kernel_rfl) (by kernel_rfl) (fun _ _ _ h => h) (Or.inl ⟨by rfl, ?_⟩) (by assumption) ?_
  rotate_left
  · (intro w0 hSw; (try dsimp only at hSw); go_simp; try with_reducible rfl)
  try simp only [List.getElem_toArray, List.getElem_cons_succ, List.getElem_cons_zero, Act.put, List.setIfInBounds_toArray, List.set_cons_zero, List.set_cons_succ]
  refine wpAnyH_take (i := 8) (v := ?_) rfl (by kernel_rfl) (by kernel_rfl) (by kernel_rfl) (fun _ _ _ h => h) (Or.inl ⟨by rfl, ?_⟩) (by assumption) ?_
  rotate_left
  · (intro w0 hSw; (try dsimp only at hSw); go_simp; try with_reducible rfl)
  try simp only [List.getElem_toArray, List.getElem_cons_succ, List.getElem_cons_zero, Act.put, List.setIfInBounds_toArray, List.set_cons_zero, List.set_cons_succ]
  refine wpAnyH_take (i := 9) (v := ?_) rfl (by kernel_rfl) (by kernel_rfl) (by kernel_rfl) (fun _ _ _ h => h) (Or.inl ⟨by rfl, ?_⟩) (by assumption) ?_
  rotate_left
  · (intro w0 hSw; (try dsimp only at hSw); go_simp; try with_reducible rfl)
  try simp only [List.getElem_toArray, List.getElem_cons_succ, List.getElem_cons_zero, Act.put, List.setIfInBounds_toArray, List.set_cons_zero, List.set_cons_succ]
  refine wpAnyH_take (i := 10) (v := ?_) rfl (by kernel_rfl) (by kernel_rfl) (by kernel_rfl) (fun _ _ _ h => h) (Or.inl ⟨by rfl, ?_⟩) (by assumption) ?_
  rotate_left
  · (intro w0 hSw; (try dsimp only at hSw); go_simp; try with_reducible rfl)
  try simp only [List.getElem_toArray, List.getElem_cons_succ, List.getElem_cons_zero, Act.put, List.setIfInBounds_toArray, List.set_cons_zero, List.set_cons_succ]
  refine wpAnyH_take (i := 11) (v := ?_) rfl (by kernel_rfl) (by kernel_rfl) (by kernel_rfl) (fun _ _ _ h => h) (Or.inl ⟨by rfl, ?_⟩) (by assumption) ?_
  rotate_left
  · (intro w0 hSw; (try dsimp only at hSw); go_simp; try with_reducible rfl)
  try simp only [List.getElem_toArray, List.getElem_cons_succ, List.getElem_cons_zero, Act.put, List.setIfInBounds_toArray, List.set_cons_zero, List.set_cons_succ]
  refine wpAnyH_take (i := 12) (v := ?_) rfl (by kernel_rfl) (by kernel_rfl) (by kernel_rfl) (fun _ _ _ h => h) (Or.inl ⟨by rfl, ?_⟩) (by assumption) ?_
  rotate_left
  · (intro w0 hSw; (try dsimp only at hSw); go_simp; try with_reducible rfl)
  try simp only [List.getElem_toArray, List.getElem_cons_succ, List.getElem_cons_zero, Act.put, List.setIfInBounds_toArray, List.set_cons_zero, List.set_cons_succ]
  refine wpAnyH_take (i := 13) (v := ?_) rfl (by kernel_rfl) (by kernel_rfl) (by kernel_rfl) (fun _ _ _ h => h) (Or.inl ⟨by rfl, ?_⟩) (by assumption) ?_
  rotate_left
  · (intro w0 hSw; (try dsimp only at hSw); go_simp; try with_reducible rfl)
  try simp only [List.getElem_toArray, List.getElem_cons_succ, List.getElem_cons_zero, Act.put, List.setIfInBounds_toArray, List.set_cons_zero, List.set_cons_succ]
  refine wpAnyH_take (i := 14) (v := ?_) rfl (by kernel_rfl) (by kernel_rfl) (by kernel_rfl) (fun _ _ _ h => h) (Or.inl ⟨by rfl, ?_⟩) (by assumption) ?_
  rotate_left
  · (intro w0 hSw; (try dsimp only at hSw); go_simp; try with_reducible rfl)
  try simp only [List.getElem_toArray, List.getElem_cons_succ, List.getElem_cons_zero, Act.put, List.setIfInBounds_toArray, List.set_cons_zero, List.set_cons_succ]
  refine wpAnyH_take (i := 15) (v := ?_) rfl (by kernel_rfl) (by kernel_rfl) (by kernel_rfl) (fun _ _ _ h => h) (Or.inl ⟨by rfl, ?_⟩) (by assumption) ?_
  rotate_left
  · (intro w0 hSw; (try dsimp only at hSw); go_simp; try with_reducible rfl)
  try simp only [List.getElem_toArray, List.getElem_cons_succ, List.getElem_cons_zero, Act.put, List.setIfInBounds_toArray, List.set_cons_zero, List.set_cons_succ]
  refine wpAnyH_take (i := 16) (v := ?_) rfl (by kernel_rfl) (by kernel_rfl) (by kernel_rfl) (fun _ _ _ h => h) (Or.inl ⟨by rfl, ?_⟩) (by assumption) ?_
  rotate_left
  · (intro w0 hSw; (try dsimp only at hSw); go_simp; try with_reducible rfl)
  try simp only [List.getElem_toArray, List.getElem_cons_succ, List.getElem_cons_zero, Act.put, List.setIfInBounds_toArray, List.set_cons_zero, List.set_cons_succ]
  refine wpAnyH_take (i := 17) (v := ?_) rfl (by kernel_rfl) (by kernel_rfl) (by kernel_rfl) (fun _ _ _ h => h) (Or.inl ⟨by rfl, ?_⟩) (by assumption) ?_
  rotate_left
  · (intro w0 hSw; (try dsimp only at hSw); go_simp; try with_reducible rfl)
  try simp only [List.getElem_toArray, List.getElem_cons_succ, List.getElem_cons_zero, Act.put, List.setIfInBounds_toArray, List.set_cons_zero, List.set_cons_succ]
  refine wpAnyH_take (i := 18) (v := ?_) rfl (by kernel_rfl) (by kernel_rfl) (by kernel_rfl) (fun _ _ _ h => h) (Or.inl ⟨by rfl, ?_⟩) (by assumption) ?_
  rotate_left
  · (intro w0 hSw; (try dsimp only at hSw); go_simp; try with_reducible rfl)
  try simp only [List.getElem_toArray, List.getElem_cons_succ, List.getElem_cons_zero, Act.put, List.setIfInBounds_toArray, List.set_cons_zero, List.set_cons_succ]
  refine wpAnyH_take (i := 19) (v := ?_) rfl (by kernel_rfl) (by kernel_rfl) (by kernel_rfl) (fun _ _ _ h => h) (Or.inl ⟨by rfl, ?_⟩) (by assumption) ?_
  rotate_left
  · (intro w0 hSw; (try dsimp only at hSw); go_simp; try with_reducible rfl)
  try simp only [List.getElem_toArray, List.getElem_cons_succ, List.getElem_cons_zero, Act.put, List.setIfInBounds_toArray, List.set_cons_zero, List.set_cons_succ]
  refine wpAnyH_take (i := 21) (v := ?_) rfl (by kernel_rfl) (by kernel_rfl) (by kernel_rfl) (fun _ _ _ h => h) (Or.inl ⟨by rfl, ?_⟩) (by assumption) ?_
  rotate_left
  · (intro w0 hSw; (try dsimp only at hSw); go_simp; try with_reducible rfl)
  try simp only [List.getElem_toArray, List.getElem_cons_succ, List.getElem_cons_zero, Act.put, List.setIfInBounds_toArray, List.set_cons_zero, List.set_cons_succ]
  refine wpAnyH_ready (rs := [20]) (by kernel_rfl) (by simp) ?_
  refine AllReadyH.cons rfl (fun K hK => ?_) AllReadyH.nil
  go_simp
  refine (oneR_any (k) (c) (t) (r) (m) HB.out.2.1 HB.out.2.2.1 HB.out.2.2.2.1 HB.out.2.2.2.2 _).mono ?_
  rintro x9 w9 ⟨rfl, hb9⟩
  rw [HE.out, show (ints [e0, e1, e2, e3, e4, e5]).toArray = #[.int .i64 e0, .int .i64 e1, .int .i64 e2, .int .i64 e3, .int .i64 e4, .int .i64 e5] from rfl]
  have hbV : Below V.heap.size V w9 := ⟨hb9.os, hb9.tape, hb9.output, hb9.size, hb9.block⟩
  have X9 := Lib.hid (XB.out.here hbV)
  have B9 := Lib.hid (stepB B1.out hbV)
  try go_simp
  refine hK.out _ _ (KP.out _ hbV) (fun hHeld => ?_)
  clear hK K hb9 hbV
  refine wpAnyH_take (i := 22) (v := ?_) rfl (by kernel_rfl) (by kernel_rfl) (by kernel_rfl) (fun _ _ _ h => h) (Or.inl ⟨by rfl, ?_⟩) (by assumption) ?_
  rotate_left
  · (intro w0 hSw; (try dsimp only at hSw); go_simp; try with_reducible rfl)
  try simp only [List.getElem_toArray, List.getElem_cons_succ, List.getElem_cons_zero, Act.put, List.setIfInBounds_toArray, List.set_cons_zero, List.set_cons_succ]
  refine wpAnyH_done (by kernel_rfl) ?_ _
  clear hHeld
  go_wp2_with fail
  go_ret2
  exact ⟨rfl, B9.out⟩
set_option maxRecDepth 100000 in
set_option maxHeartbeats 4000000 in
theorem bytes_pic_ok (k c t r m p : Int) (hk : 0 ≤ k ∧ k ≤ 9) (hc : 0 ≤ c ∧ c ≤ 255) (ht : 0 ≤ t ∧ t ≤ 255) (hr : 0 ≤ r ∧ r ≤ 255) (hm : 0 ≤ m ∧ m ≤ 255) (hp : 0 ≤ p ∧ p ≤ 16777215) (h7 : 7 ≤ k) (ho : okE k c t r m p = true) (w : World) :
    Calls Tryd.prog 6 #[ent9V k c t r m p] w fun e w' => (∃ g, e = .returned (.tuple #[.slice (some ⟨g, 0, none⟩) 5 5, .bool true]) ∧ Reads w' w'.heap.size 1 (some ⟨g, 0, none⟩) 5 (u8s (wrE [k, c, t, r, m, p]))) ∧ Below w.heap.size w w' := by
  have f0 : decide (k < 0) = false := decide_eq_false (by omega)
  have f1 : decide (9 < k) = false := decide_eq_false (by omega)
  have f2 : decide (c < 0) = false := decide_eq_false (by omega)
  have f3 : decide (255 < c) = false := decide_eq_false (by omega)
  have f4 : decide (t < 0) = false := decide_eq_false (by omega)
  have f5 : decide (255 < t) = false := decide_eq_false (by omega)
  have f6 : decide (r < 0) = false := decide_eq_false (by omega)
  have f7 : decide (255 < r) = false := decide_eq_false (by omega)
  have f8 : decide (m < 0) = false := decide_eq_false (by omega)
  have f9 : decide (255 < m) = false := decide_eq_false (by omega)
  have f10 : decide (p < 0) = false := decide_eq_false (by omega)
  have f11 : decide (16777215 < p) = false := decide_eq_false (by omega)
  have f20 : decide (7 ≤ k) = true := decide_eq_true (by omega)
  have u0 : IntKind.u8.wrap k = k := u8w_in (by omega)
  have u1 : IntKind.u8.wrap c = c := u8w_in (by omega)
  have u2 : IntKind.u8.wrap t = t := u8w_in (by omega)
  have u3 : IntKind.u8.wrap r = r := u8w_in (by omega)
  have u4 : IntKind.u8.wrap m = m := u8w_in (by omega)
  have u5 : IntKind.u8.wrap (p / 65536) = p / 65536 := u8w_in (by omega)
  have u6 : IntKind.u8.wrap (p / 256 % 256) = p / 256 % 256 := u8w_in (by omega)
  have u7 : IntKind.u8.wrap (p % 256) = p % 256 := u8w_in (by omega)
  have q1 : p.tdiv 65536 = p / 65536 := Int.tdiv_eq_ediv_of_nonneg hp.1
  have q2 : p.tdiv 256 = p / 256 := Int.tdiv_eq_ediv_of_nonneg hp.1
  have q3 : (p / 256).tmod 256 = p / 256 % 256 := Int.tmod_eq_emod_of_nonneg (by omega)
  have q4 : p.tmod 256 = p % 256 := Int.tmod_eq_emod_of_nonneg hp.1
  have v1 : IntKind.i64.wrap (p / 65536) = p / 65536 := IntWalk.i64_in _ (by omega)
  have v2 : IntKind.i64.wrap (p / 256) = p / 256 := IntWalk.i64_in _ (by omega)
  have v3 : IntKind.i64.wrap (p / 256 % 256) = p / 256 % 256 := IntWalk.i64_in _ (by omega)
  have v4 : IntKind.i64.wrap (p % 256) = p % 256 := IntWalk.i64_in _ (by omega)
  have z0 : IntKind.i64.wrap k = k := IntWalk.i64_in _ (by omega)
  have z1 : IntKind.i64.wrap c = c := IntWalk.i64_in _ (by omega)
  have z2 : IntKind.i64.wrap t = t := IntWalk.i64_in _ (by omega)
  have z3 : IntKind.i64.wrap r = r := IntWalk.i64_in _ (by omega)
  have z4 : IntKind.i64.wrap m = m := IntWalk.i64_in _ (by omega)
  have HQ := Lib.hid (show decide (oneE (k) (p / 65536) (p / 256 % 256) (p % 256) ((0 : Int)) = [k, c, t, r, m, p]) = true from (one_pic ⟨h7, hk.2⟩ hp).trans ho)
  obtain ⟨e0, e1, e2, e3, e4, e5, hee⟩ := six_ints (one_length (k) (p / 65536) (p / 256 % 256) (p % 256) ((0 : Int)))
  have HE := Lib.hid hee
  have HB := Lib.hid (show (0 ≤ (k) ∧ (k) ≤ 255) ∧ (0 ≤ (p / 65536) ∧ (p / 65536) ≤ 255) ∧ (0 ≤ (p / 256 % 256) ∧ (p / 256 % 256) ≤ 255) ∧ (0 ≤ (p % 256) ∧ (p % 256) ≤ 255) ∧ (0 ≤ ((0 : Int)) ∧ ((0 : Int)) ≤ 255) from ⟨(by omega), (by omega), (by omega), (by omega), (by omega)⟩)
  have qn := neq_ent9S e0 e1 e2 e3 e4 e5 k c t r m p false (by rw [← hee, HQ.out]; rfl)
  have gq := guard_ent9
  have HW := Lib.hid (show wrE [k, c, t, r, m, p] = [u8i (k), u8i (p / 65536), u8i (p / 256 % 256), u8i (p % 256), u8i ((0 : Int))] from by
    unfold wrE; rw [show fld [k, c, t, r, m, p] 0 = k from rfl, show picB k = true from by unfold picB; simp; omega, if_pos rfl, u8i_mod, u8i_mod]; have h2 := (okE_iff _ _ _ _ _ _).1 ho; rw [if_neg (show ¬ (k = 3) by omega)] at h2; rw [h2.2.2.1.2.2]; rfl)
  clear hk hc ht hr hm hp h7 ho hee
  go_enter Tryd.func6, Tryd.ntmps6
  go_upto_region 6 with fail
  have XE := Lib.hid (((Blk.new w 33 #[.int .i64 k, .int .i64 c, .int .i64 t, .int .i64 r, .int .i64 m, .int .i64 p]).alloc (.cells #[.int .u8 k, .int .u8 c, .int .u8 t, .int .u8 r, .int .u8 m] 5)).alloc (.cells #[.int .u8 k, .int .u8 (p / 65536), .int .u8 (p / 256 % 256), .int .u8 (p % 256), .int .u8 0] 5))
  have XB := Lib.hid (Blk.new_at (w := ((w.alloc (.cells #[.int .i64 k, .int .i64 c, .int .i64 t, .int .i64 r, .int .i64 m, .int .i64 p] 33)).alloc (.cells #[.int .u8 k, .int .u8 c, .int .u8 t, .int .u8 r, .int .u8 m] 5))) (n := w.heap.size + 1 + 1) (by simp) 5 #[.int .u8 k, .int .u8 (p / 65536), .int .u8 (p / 256 % 256), .int .u8 (p % 256), .int .u8 0])
  have B1 := Lib.hid (((Joins.below_alloc1 w (.cells #[.int .i64 k, .int .i64 c, .int .i64 t, .int .i64 r, .int .i64 m, .int .i64 p] 33)).alloc (by simp) (.cells #[.int .u8 k, .int .u8 c, .int .u8 t, .int .u8 r, .int .u8 m] 5)).alloc (by simp; omega) (.cells #[.int .u8 k, .int .u8 (p / 65536), .int .u8 (p / 256 % 256), .int .u8 (p % 256), .int .u8 0] 5))
  obtain ⟨gb, hgb⟩ : ∃ gb, gb = w.heap.size + 1 + 1 := ⟨_, rfl⟩
  rw [← hgb] at XB ⊢
  clear hgb
  generalize w.heap.size = g at XE ⊢
  generalize World.alloc _ _ = V at XE XB B1 ⊢
  have KP := Lib.hid (fun Y (hy : Below V.heap.size V Y) => (show (fun w' => w'.cell? ⟨gb, 0, none⟩ = some (.int .u8 (k)) ∧ w'.cell? ⟨gb, 1, none⟩ = some (.int .u8 (p / 65536)) ∧ w'.cell? ⟨gb, 2, none⟩ = some (.int .u8 (p / 256 % 256)) ∧ w'.cell? ⟨gb, 3, none⟩ = some (.int .u8 (p % 256)) ∧ w'.cell? ⟨gb, 4, none⟩ = some (.int .u8 ((0 : Int))) ∧ w'.cell? ⟨g, 0, none⟩ = some (.int .i64 k) ∧ w'.cell? ⟨g, 1, none⟩ = some (.int .i64 c) ∧ w'.cell? ⟨g, 2, none⟩ = some (.int .i64 t) ∧ w'.cell? ⟨g, 3, none⟩ = some (.int .i64 r) ∧ w'.cell? ⟨g, 4, none⟩ = some (.int .i64 m) ∧ w'.cell? ⟨g, 5, none⟩ = some (.int .i64 p)) Y from ⟨(XB.out.here hy).cell 0, (XB.out.here hy).cell 1, (XB.out.here hy).cell 2, (XB.out.here hy).cell 3, (XB.out.here hy).cell 4, (XE.out.here hy).cell 0, (XE.out.here hy).cell 1, (XE.out.here hy).cell 2, (XE.out.here hy).cell 3, (XE.out.here hy).cell 4, (XE.out.here hy).cell 5⟩))
  refine wp_region_held_drew (S := fun w' => w'.cell? ⟨gb, 0, none⟩ = some (.int .u8 (k)) ∧ w'.cell? ⟨gb, 1, none⟩ = some (.int .u8 (p / 65536)) ∧ w'.cell? ⟨gb, 2, none⟩ = some (.int .u8 (p / 256 % 256)) ∧ w'.cell? ⟨gb, 3, none⟩ = some (.int .u8 (p % 256)) ∧ w'.cell? ⟨gb, 4, none⟩ = some (.int .u8 ((0 : Int))) ∧ w'.cell? ⟨g, 0, none⟩ = some (.int .i64 k) ∧ w'.cell? ⟨g, 1, none⟩ = some (.int .i64 c) ∧ w'.cell? ⟨g, 2, none⟩ = some (.int .i64 t) ∧ w'.cell? ⟨g, 3, none⟩ = some (.int .i64 r) ∧ w'.cell? ⟨g, 4, none⟩ = some (.int .i64 m) ∧ w'.cell? ⟨g, 5, none⟩ = some (.int .i64 p)) (by kernel_rfl) ?_ (fun hHeld => ?_)
  · exact KP.out _ (Below.refl _ _).drew
  refine wpAnyH_take (i := 0) (v := ?_) rfl (by kernel_rfl) (by kernel_rfl) (by kernel_rfl) (fun _ _ _ h => h) (Or.inl ⟨by rfl, ?_⟩) (by assumption) ?_
  rotate_left
  · (intro w0 hSw; (try dsimp only at hSw); go_simp; try with_reducible rfl)
  try simp only [List.getElem_toArray, List.getElem_cons_succ, List.getElem_cons_zero, Act.put, List.setIfInBounds_toArray, List.set_cons_zero, List.set_cons_succ]
  refine wpAnyH_take (i := 1) (v := ?_) rfl (by kernel_rfl) (by kernel_rfl) (by kernel_rfl) (fun _ _ _ h => h) (Or.inl ⟨by rfl, ?_⟩) (by assumption) ?_
  rotate_left
  · (intro w0 hSw; (try dsimp only at hSw); go_simp; try with_reducible rfl)
  try simp only [List.getElem_toArray, List.getElem_cons_succ, List.getElem_cons_zero, Act.put, List.setIfInBounds_toArray, List.set_cons_zero, List.set_cons_succ]
  refine wpAnyH_take (i := 2) (v := ?_) rfl (by kernel_rfl) (by kernel_rfl) (by kernel_rfl) (fun _ _ _ h => h) (Or.inl ⟨by rfl, ?_⟩) (by assumption) ?_
  rotate_left
  · (intro w0 hSw; (try dsimp only at hSw); go_simp; try with_reducible rfl)
  try simp only [List.getElem_toArray, List.getElem_cons_succ, List.getElem_cons_zero, Act.put, List.setIfInBounds_toArray, List.set_cons_zero, List.set_cons_succ]
  refine wpAnyH_take (i := 3) (v := ?_) rfl (by kernel_rfl) (by kernel_rfl) (by kernel_rfl) (fun _ _ _ h => h) (Or.inl ⟨by rfl, ?_⟩) (by assumption) ?_
  rotate_left
  · (intro w0 hSw; (try dsimp only at hSw); go_simp; try with_reducible rfl)
  try simp only [List.getElem_toArray, List.getElem_cons_succ, List.getElem_cons_zero, Act.put, List.setIfInBounds_toArray, List.set_cons_zero, List.set_cons_succ]
  refine wpAnyH_take (i := 4) (v := ?_) rfl (by kernel_rfl) (by kernel_rfl) (by kernel_rfl) (fun _ _ _ h => h) (Or.inl ⟨by rfl, ?_⟩) (by assumption) ?_
  rotate_left
  · (intro w0 hSw; (try dsimp only at hSw); go_simp; try with_reducible rfl)
  try simp only [List.getElem_toArray, List.getElem_cons_succ, List.getElem_cons_zero, Act.put, List.setIfInBounds_toArray, List.set_cons_zero, List.set_cons_succ]
  refine wpAnyH_take (i := 5) (v := ?_) rfl (by kernel_rfl) (by kernel_rfl) (by kernel_rfl) (fun _ _ _ h => h) (Or.inl ⟨by rfl, ?_⟩) (by assumption) ?_
  rotate_left
  · (intro w0 hSw; (try dsimp only at hSw); go_simp; try with_reducible rfl)
  try simp only [List.getElem_toArray, List.getElem_cons_succ, List.getElem_cons_zero, Act.put, List.setIfInBounds_toArray, List.set_cons_zero, List.set_cons_succ]
  refine wpAnyH_take (i := 6) (v := ?_) rfl (by kernel_rfl) (by kernel_rfl) (by kernel_rfl) (fun _ _ _ h => h) (Or.inl ⟨by rfl, ?_⟩) (by assumption) ?_
  rotate_left
  · (intro w0 hSw; (try dsimp only at hSw); go_simp; try with_reducible rfl)
  try simp only [List.getElem_toArray, List.getElem_cons_succ, List.getElem_cons_zero, Act.put, List.setIfInBounds_toArray, List.set_cons_zero, List.set_cons_succ]
  refine wpAnyH_take (i := 7) (v := ?_) rfl (by kernel_rfl) (by kernel_rfl) (by kernel_rfl) (fun _ _ _ h => h) (Or.inl ⟨by rfl, ?_⟩) (by assumption) ?_
  rotate_left
  · (intro w0 hSw; (try dsimp only at hSw); go_simp; try with_reducible rfl)
  try simp only [List.getElem_toArray, List.getElem_cons_succ, List.getElem_cons_zero, Act.put, List.setIfInBounds_toArray, List.set_cons_zero, List.set_cons_succ]
  refine wpAnyH_take (i := 8) (v := ?_) rfl (by kernel_rfl) (by kernel_rfl) (by kernel_rfl) (fun _ _ _ h => h) (Or.inl ⟨by rfl, ?_⟩) (by assumption) ?_
  rotate_left
  · (intro w0 hSw; (try dsimp only at hSw); go_simp; try with_reducible rfl)
  try simp only [List.getElem_toArray, List.getElem_cons_succ, List.getElem_cons_zero, Act.put, List.setIfInBounds_toArray, List.set_cons_zero, List.set_cons_succ]
  refine wpAnyH_take (i := 9) (v := ?_) rfl (by kernel_rfl) (by kernel_rfl) (by kernel_rfl) (fun _ _ _ h => h) (Or.inl ⟨by rfl, ?_⟩) (by assumption) ?_
  rotate_left
  · (intro w0 hSw; (try dsimp only at hSw); go_simp; try with_reducible rfl)
  try simp only [List.getElem_toArray, List.getElem_cons_succ, List.getElem_cons_zero, Act.put, List.setIfInBounds_toArray, List.set_cons_zero, List.set_cons_succ]
  refine wpAnyH_take (i := 10) (v := ?_) rfl (by kernel_rfl) (by kernel_rfl) (by kernel_rfl) (fun _ _ _ h => h) (Or.inl ⟨by rfl, ?_⟩) (by assumption) ?_
  rotate_left
  · (intro w0 hSw; (try dsimp only at hSw); go_simp; try with_reducible rfl)
  try simp only [List.getElem_toArray, List.getElem_cons_succ, List.getElem_cons_zero, Act.put, List.setIfInBounds_toArray, List.set_cons_zero, List.set_cons_succ]
  refine wpAnyH_take (i := 11) (v := ?_) rfl (by kernel_rfl) (by kernel_rfl) (by kernel_rfl) (fun _ _ _ h => h) (Or.inl ⟨by rfl, ?_⟩) (by assumption) ?_
  rotate_left
  · (intro w0 hSw; (try dsimp only at hSw); go_simp; try with_reducible rfl)
  try simp only [List.getElem_toArray, List.getElem_cons_succ, List.getElem_cons_zero, Act.put, List.setIfInBounds_toArray, List.set_cons_zero, List.set_cons_succ]
  refine wpAnyH_take (i := 12) (v := ?_) rfl (by kernel_rfl) (by kernel_rfl) (by kernel_rfl) (fun _ _ _ h => h) (Or.inl ⟨by rfl, ?_⟩) (by assumption) ?_
  rotate_left
  · (intro w0 hSw; (try dsimp only at hSw); go_simp; try with_reducible rfl)
  try simp only [List.getElem_toArray, List.getElem_cons_succ, List.getElem_cons_zero, Act.put, List.setIfInBounds_toArray, List.set_cons_zero, List.set_cons_succ]
  refine wpAnyH_take (i := 13) (v := ?_) rfl (by kernel_rfl) (by kernel_rfl) (by kernel_rfl) (fun _ _ _ h => h) (Or.inl ⟨by rfl, ?_⟩) (by assumption) ?_
  rotate_left
  · (intro w0 hSw; (try dsimp only at hSw); go_simp; try with_reducible rfl)
  try simp only [List.getElem_toArray, List.getElem_cons_succ, List.getElem_cons_zero, Act.put, List.setIfInBounds_toArray, List.set_cons_zero, List.set_cons_succ]
  refine wpAnyH_take (i := 14) (v := ?_) rfl (by kernel_rfl) (by kernel_rfl) (by kernel_rfl) (fun _ _ _ h => h) (Or.inl ⟨by rfl, ?_⟩) (by assumption) ?_
  rotate_left
  · (intro w0 hSw; (try dsimp only at hSw); go_simp; try with_reducible rfl)
  try simp only [List.getElem_toArray, List.getElem_cons_succ, List.getElem_cons_zero, Act.put, List.setIfInBounds_toArray, List.set_cons_zero, List.set_cons_succ]
  refine wpAnyH_take (i := 15) (v := ?_) rfl (by kernel_rfl) (by kernel_rfl) (by kernel_rfl) (fun _ _ _ h => h) (Or.inl ⟨by rfl, ?_⟩) (by assumption) ?_
  rotate_left
  · (intro w0 hSw; (try dsimp only at hSw); go_simp; try with_reducible rfl)
  try simp only [List.getElem_toArray, List.getElem_cons_succ, List.getElem_cons_zero, Act.put, List.setIfInBounds_toArray, List.set_cons_zero, List.set_cons_succ]
  refine wpAnyH_take (i := 16) (v := ?_) rfl (by kernel_rfl) (by kernel_rfl) (by kernel_rfl) (fun _ _ _ h => h) (Or.inl ⟨by rfl, ?_⟩) (by assumption) ?_
  rotate_left
  · (intro w0 hSw; (try dsimp only at hSw); go_simp; try with_reducible rfl)
  try simp only [List.getElem_toArray, List.getElem_cons_succ, List.getElem_cons_zero, Act.put, List.setIfInBounds_toArray, List.set_cons_zero, List.set_cons_succ]
  refine wpAnyH_take (i := 17) (v := ?_) rfl (by kernel_rfl) (by kernel_rfl) (by kernel_rfl) (fun _ _ _ h => h) (Or.inl ⟨by rfl, ?_⟩) (by assumption) ?_
  rotate_left
  · (intro w0 hSw; (try dsimp only at hSw); go_simp; try with_reducible rfl)
  try simp only [List.getElem_toArray, List.getElem_cons_succ, List.getElem_cons_zero, Act.put, List.setIfInBounds_toArray, List.set_cons_zero, List.set_cons_succ]
  refine wpAnyH_take (i := 18) (v := ?_) rfl (by kernel_rfl) (by kernel_rfl) (by kernel_rfl) (fun _ _ _ h => h) (Or.inl ⟨by rfl, ?_⟩) (by assumption) ?_
  rotate_left
  · (intro w0 hSw; (try dsimp only at hSw); go_simp; try with_reducible rfl)
  try simp only [List.getElem_toArray, List.getElem_cons_succ, List.getElem_cons_zero, Act.put, List.setIfInBounds_toArray, List.set_cons_zero, List.set_cons_succ]
  refine wpAnyH_take (i := 19) (v := ?_) rfl (by kernel_rfl) (by kernel_rfl) (by kernel_rfl) (fun _ _ _ h => h) (Or.inl ⟨by rfl, ?_⟩) (by assumption) ?_
  rotate_left
  · (intro w0 hSw; (try dsimp only at hSw); go_simp; try with_reducible rfl)
  try simp only [List.getElem_toArray, List.getElem_cons_succ, List.getElem_cons_zero, Act.put, List.setIfInBounds_toArray, List.set_cons_zero, List.set_cons_succ]
  refine wpAnyH_take (i := 21) (v := ?_) rfl (by kernel_rfl) (by kernel_rfl) (by kernel_rfl) (fun _ _ _ h => h) (Or.inl ⟨by rfl, ?_⟩) (by assumption) ?_
  rotate_left
  · (intro w0 hSw; (try dsimp only at hSw); go_simp; try with_reducible rfl)
  try simp only [List.getElem_toArray, List.getElem_cons_succ, List.getElem_cons_zero, Act.put, List.setIfInBounds_toArray, List.set_cons_zero, List.set_cons_succ]
  refine wpAnyH_ready (rs := [20]) (by kernel_rfl) (by simp) ?_
  refine AllReadyH.cons rfl (fun K hK => ?_) AllReadyH.nil
  go_simp
  refine (oneR_any (k) (p / 65536) (p / 256 % 256) (p % 256) ((0 : Int)) HB.out.2.1 HB.out.2.2.1 HB.out.2.2.2.1 HB.out.2.2.2.2 _).mono ?_
  rintro x9 w9 ⟨rfl, hb9⟩
  rw [HE.out, show (ints [e0, e1, e2, e3, e4, e5]).toArray = #[.int .i64 e0, .int .i64 e1, .int .i64 e2, .int .i64 e3, .int .i64 e4, .int .i64 e5] from rfl]
  have hbV : Below V.heap.size V w9 := ⟨hb9.os, hb9.tape, hb9.output, hb9.size, hb9.block⟩
  have X9 := Lib.hid (XB.out.here hbV)
  have B9 := Lib.hid (stepB B1.out hbV)
  try go_simp
  refine hK.out _ _ (KP.out _ hbV) (fun hHeld => ?_)
  clear hK K hb9 hbV
  refine wpAnyH_take (i := 22) (v := ?_) rfl (by kernel_rfl) (by kernel_rfl) (by kernel_rfl) (fun _ _ _ h => h) (Or.inl ⟨by rfl, ?_⟩) (by assumption) ?_
  rotate_left
  · (intro w0 hSw; (try dsimp only at hSw); go_simp; try with_reducible rfl)
  try simp only [List.getElem_toArray, List.getElem_cons_succ, List.getElem_cons_zero, Act.put, List.setIfInBounds_toArray, List.set_cons_zero, List.set_cons_succ]
  refine wpAnyH_done (by kernel_rfl) ?_ _
  clear hHeld
  go_wp2_with fail
  go_ret2
  exact ⟨⟨gb, rfl, by rw [HW.out]; exact reads_fiveI X9.out HB.out.1 HB.out.2.1 HB.out.2.2.1 HB.out.2.2.2.1 HB.out.2.2.2.2⟩, B9.out⟩
set_option maxRecDepth 100000 in
set_option maxHeartbeats 4000000 in
theorem bytes_pic_no (k c t r m p : Int) (hk : 0 ≤ k ∧ k ≤ 9) (hc : 0 ≤ c ∧ c ≤ 255) (ht : 0 ≤ t ∧ t ≤ 255) (hr : 0 ≤ r ∧ r ≤ 255) (hm : 0 ≤ m ∧ m ≤ 255) (hp : 0 ≤ p ∧ p ≤ 16777215) (h7 : 7 ≤ k) (ho : okE k c t r m p = false) (w : World) :
    Calls Tryd.prog 6 #[ent9V k c t r m p] w fun e w' => e = .returned (.tuple #[.slice none 0 0, .bool false]) ∧ Below w.heap.size w w' := by
  have f0 : decide (k < 0) = false := decide_eq_false (by omega)
  have f1 : decide (9 < k) = false := decide_eq_false (by omega)
  have f2 : decide (c < 0) = false := decide_eq_false (by omega)
  have f3 : decide (255 < c) = false := decide_eq_false (by omega)
  have f4 : decide (t < 0) = false := decide_eq_false (by omega)
  have f5 : decide (255 < t) = false := decide_eq_false (by omega)
  have f6 : decide (r < 0) = false := decide_eq_false (by omega)
  have f7 : decide (255 < r) = false := decide_eq_false (by omega)
  have f8 : decide (m < 0) = false := decide_eq_false (by omega)
  have f9 : decide (255 < m) = false := decide_eq_false (by omega)
  have f10 : decide (p < 0) = false := decide_eq_false (by omega)
  have f11 : decide (16777215 < p) = false := decide_eq_false (by omega)
  have f20 : decide (7 ≤ k) = true := decide_eq_true (by omega)
  have u0 : IntKind.u8.wrap k = k := u8w_in (by omega)
  have u1 : IntKind.u8.wrap c = c := u8w_in (by omega)
  have u2 : IntKind.u8.wrap t = t := u8w_in (by omega)
  have u3 : IntKind.u8.wrap r = r := u8w_in (by omega)
  have u4 : IntKind.u8.wrap m = m := u8w_in (by omega)
  have u5 : IntKind.u8.wrap (p / 65536) = p / 65536 := u8w_in (by omega)
  have u6 : IntKind.u8.wrap (p / 256 % 256) = p / 256 % 256 := u8w_in (by omega)
  have u7 : IntKind.u8.wrap (p % 256) = p % 256 := u8w_in (by omega)
  have q1 : p.tdiv 65536 = p / 65536 := Int.tdiv_eq_ediv_of_nonneg hp.1
  have q2 : p.tdiv 256 = p / 256 := Int.tdiv_eq_ediv_of_nonneg hp.1
  have q3 : (p / 256).tmod 256 = p / 256 % 256 := Int.tmod_eq_emod_of_nonneg (by omega)
  have q4 : p.tmod 256 = p % 256 := Int.tmod_eq_emod_of_nonneg hp.1
  have v1 : IntKind.i64.wrap (p / 65536) = p / 65536 := IntWalk.i64_in _ (by omega)
  have v2 : IntKind.i64.wrap (p / 256) = p / 256 := IntWalk.i64_in _ (by omega)
  have v3 : IntKind.i64.wrap (p / 256 % 256) = p / 256 % 256 := IntWalk.i64_in _ (by omega)
  have v4 : IntKind.i64.wrap (p % 256) = p % 256 := IntWalk.i64_in _ (by omega)
  have z0 : IntKind.i64.wrap k = k := IntWalk.i64_in _ (by omega)
  have z1 : IntKind.i64.wrap c = c := IntWalk.i64_in _ (by omega)
  have z2 : IntKind.i64.wrap t = t := IntWalk.i64_in _ (by omega)
  have z3 : IntKind.i64.wrap r = r := IntWalk.i64_in _ (by omega)
  have z4 : IntKind.i64.wrap m = m := IntWalk.i64_in _ (by omega)
  have HQ := Lib.hid (show decide (oneE (k) (p / 65536) (p / 256 % 256) (p % 256) ((0 : Int)) = [k, c, t, r, m, p]) = false from (one_pic ⟨h7, hk.2⟩ hp).trans ho)
  obtain ⟨e0, e1, e2, e3, e4, e5, hee⟩ := six_ints (one_length (k) (p / 65536) (p / 256 % 256) (p % 256) ((0 : Int)))
  have HE := Lib.hid hee
  have HB := Lib.hid (show (0 ≤ (k) ∧ (k) ≤ 255) ∧ (0 ≤ (p / 65536) ∧ (p / 65536) ≤ 255) ∧ (0 ≤ (p / 256 % 256) ∧ (p / 256 % 256) ≤ 255) ∧ (0 ≤ (p % 256) ∧ (p % 256) ≤ 255) ∧ (0 ≤ ((0 : Int)) ∧ ((0 : Int)) ≤ 255) from ⟨(by omega), (by omega), (by omega), (by omega), (by omega)⟩)
  have qn := neq_ent9S e0 e1 e2 e3 e4 e5 k c t r m p true (by rw [← hee, HQ.out]; rfl)
  have gq := guard_ent9
  have HW := True.intro
  clear hk hc ht hr hm hp h7 ho hee
  go_enter Tryd.func6, Tryd.ntmps6
  go_upto_region 6 with fail
  have XE := Lib.hid (((Blk.new w 33 #[.int .i64 k, .int .i64 c, .int .i64 t, .int .i64 r, .int .i64 m, .int .i64 p]).alloc (.cells #[.int .u8 k, .int .u8 c, .int .u8 t, .int .u8 r, .int .u8 m] 5)).alloc (.cells #[.int .u8 k, .int .u8 (p / 65536), .int .u8 (p / 256 % 256), .int .u8 (p % 256), .int .u8 0] 5))
  have XB := Lib.hid (Blk.new_at (w := ((w.alloc (.cells #[.int .i64 k, .int .i64 c, .int .i64 t, .int .i64 r, .int .i64 m, .int .i64 p] 33)).alloc (.cells #[.int .u8 k, .int .u8 c, .int .u8 t, .int .u8 r, .int .u8 m] 5))) (n := w.heap.size + 1 + 1) (by simp) 5 #[.int .u8 k, .int .u8 (p / 65536), .int .u8 (p / 256 % 256), .int .u8 (p % 256), .int .u8 0])
  have B1 := Lib.hid (((Joins.below_alloc1 w (.cells #[.int .i64 k, .int .i64 c, .int .i64 t, .int .i64 r, .int .i64 m, .int .i64 p] 33)).alloc (by simp) (.cells #[.int .u8 k, .int .u8 c, .int .u8 t, .int .u8 r, .int .u8 m] 5)).alloc (by simp; omega) (.cells #[.int .u8 k, .int .u8 (p / 65536), .int .u8 (p / 256 % 256), .int .u8 (p % 256), .int .u8 0] 5))
  obtain ⟨gb, hgb⟩ : ∃ gb, gb = w.heap.size + 1 + 1 := ⟨_, rfl⟩
  rw [← hgb] at XB ⊢
  clear hgb
  generalize w.heap.size = g at XE ⊢
  generalize World.alloc _ _ = V at XE XB B1 ⊢
  have KP := Lib.hid (fun Y (hy : Below V.heap.size V Y) => (show (fun w' => w'.cell? ⟨gb, 0, none⟩ = some (.int .u8 (k)) ∧ w'.cell? ⟨gb, 1, none⟩ = some (.int .u8 (p / 65536)) ∧ w'.cell? ⟨gb, 2, none⟩ = some (.int .u8 (p / 256 % 256)) ∧ w'.cell? ⟨gb, 3, none⟩ = some (.int .u8 (p % 256)) ∧ w'.cell? ⟨gb, 4, none⟩ = some (.int .u8 ((0 : Int))) ∧ w'.cell? ⟨g, 0, none⟩ = some (.int .i64 k) ∧ w'.cell? ⟨g, 1, none⟩ = some (.int .i64 c) ∧ w'.cell? ⟨g, 2, none⟩ = some (.int .i64 t) ∧ w'.cell? ⟨g, 3, none⟩ = some (.int .i64 r) ∧ w'.cell? ⟨g, 4, none⟩ = some (.int .i64 m) ∧ w'.cell? ⟨g, 5, none⟩ = some (.int .i64 p)) Y from ⟨(XB.out.here hy).cell 0, (XB.out.here hy).cell 1, (XB.out.here hy).cell 2, (XB.out.here hy).cell 3, (XB.out.here hy).cell 4, (XE.out.here hy).cell 0, (XE.out.here hy).cell 1, (XE.out.here hy).cell 2, (XE.out.here hy).cell 3, (XE.out.here hy).cell 4, (XE.out.here hy).cell 5⟩))
  refine wp_region_held_drew (S := fun w' => w'.cell? ⟨gb, 0, none⟩ = some (.int .u8 (k)) ∧ w'.cell? ⟨gb, 1, none⟩ = some (.int .u8 (p / 65536)) ∧ w'.cell? ⟨gb, 2, none⟩ = some (.int .u8 (p / 256 % 256)) ∧ w'.cell? ⟨gb, 3, none⟩ = some (.int .u8 (p % 256)) ∧ w'.cell? ⟨gb, 4, none⟩ = some (.int .u8 ((0 : Int))) ∧ w'.cell? ⟨g, 0, none⟩ = some (.int .i64 k) ∧ w'.cell? ⟨g, 1, none⟩ = some (.int .i64 c) ∧ w'.cell? ⟨g, 2, none⟩ = some (.int .i64 t) ∧ w'.cell? ⟨g, 3, none⟩ = some (.int .i64 r) ∧ w'.cell? ⟨g, 4, none⟩ = some (.int .i64 m) ∧ w'.cell? ⟨g, 5, none⟩ = some (.int .i64 p)) (by kernel_rfl) ?_ (fun hHeld => ?_)
  · exact KP.out _ (Below.refl _ _).drew
  refine wpAnyH_take (i := 0) (v := ?_) rfl (by kernel_rfl) (by kernel_rfl) (by kernel_rfl) (fun _ _ _ h => h) (Or.inl ⟨by rfl, ?_⟩) (by assumption) ?_
  rotate_left
  · (intro w0 hSw; (try dsimp only at hSw); go_simp; try with_reducible rfl)
  try simp only [List.getElem_toArray, List.getElem_cons_succ, List.getElem_cons_zero, Act.put, List.setIfInBounds_toArray, List.set_cons_zero, List.set_cons_succ]
  refine wpAnyH_take (i := 1) (v := ?_) rfl (by kernel_rfl) (by kernel_rfl) (by kernel_rfl) (fun _ _ _ h => h) (Or.inl ⟨by rfl, ?_⟩) (by assumption) ?_
  rotate_left
  · (intro w0 hSw; (try dsimp only at hSw); go_simp; try with_reducible rfl)
  try simp only [List.getElem_toArray, List.getElem_cons_succ, List.getElem_cons_zero, Act.put, List.setIfInBounds_toArray, List.set_cons_zero, List.set_cons_succ]
  refine wpAnyH_take (i := 2) (v := ?_) rfl (by kernel_rfl) (by kernel_rfl) (by kernel_rfl) (fun _ _ _ h => h) (Or.inl ⟨by rfl, ?_⟩) (by assumption) ?_
  rotate_left
  · (intro w0 hSw; (try dsimp only at hSw); go_simp; try with_reducible rfl)
  try simp only [List.getElem_toArray, List.getElem_cons_succ, List.getElem_cons_zero, Act.put, List.setIfInBounds_toArray, List.set_cons_zero, List.set_cons_succ]
  refine wpAnyH_take (i := 3) (v := ?_) rfl (by kernel_rfl) (by kernel_rfl) (by kernel_rfl) (fun _ _ _ h => h) (Or.inl ⟨by rfl, ?_⟩) (by assumption) ?_
  rotate_left
  · (intro w0 hSw; (try dsimp only at hSw); go_simp; try with_reducible rfl)
  try simp only [List.getElem_toArray, List.getElem_cons_succ, List.getElem_cons_zero, Act.put, List.setIfInBounds_toArray, List.set_cons_zero, List.set_cons_succ]
  refine wpAnyH_take (i := 4) (v := ?_) rfl (by kernel_rfl) (by kernel_rfl) (by kernel_rfl) (fun _ _ _ h => h) (Or.inl ⟨by rfl, ?_⟩) (by assumption) ?_
  rotate_left
  · (intro w0 hSw; (try dsimp only at hSw); go_simp; try with_reducible rfl)
  try simp only [List.getElem_toArray, List.getElem_cons_succ, List.getElem_cons_zero, Act.put, List.setIfInBounds_toArray, List.set_cons_zero, List.set_cons_succ]
  refine wpAnyH_take (i := 5) (v := ?_) rfl (by kernel_rfl) (by kernel_rfl) (by kernel_rfl) (fun _ _ _ h => h) (Or.inl ⟨by rfl, ?_⟩) (by assumption) ?_
  rotate_left
  · (intro w0 hSw; (try dsimp only at hSw); go_simp; try with_reducible rfl)
  try simp only [List.getElem_toArray, List.getElem_cons_succ, List.getElem_cons_zero, Act.put, List.setIfInBounds_toArray, List.set_cons_zero, List.set_cons_succ]
  refine wpAnyH_take (i := 6) (v := ?_) rfl (by kernel_rfl) (by kernel_rfl) (by kernel_rfl) (fun _ _ _ h => h) (Or.inl ⟨by rfl, ?_⟩) (by assumption) ?_
  rotate_left
  · (intro w0 hSw; (try dsimp only at hSw); go_simp; try with_reducible rfl)
  try simp only [List.getElem_toArray, List.getElem_cons_succ, List.getElem_cons_zero, Act.put, List.setIfInBounds_toArray, List.set_cons_zero, List.set_cons_succ]
  refine wpAnyH_take (i := 7) (v := ?_) rfl (by kernel_rfl) (by kernel_rfl) (by kernel_rfl) (fun _ _ _ h => h) (Or.inl ⟨by rfl, ?_⟩) (by assumption) ?_
  rotate_left
  · (intro w0 hSw; (try dsimp only at hSw); go_simp; try with_reducible rfl)
  try simp only [List.getElem_toArray, List.getElem_cons_succ, List.getElem_cons_zero, Act.put, List.setIfInBounds_toArray, List.set_cons_zero, List.set_cons_succ]
  refine wpAnyH_take (i := 8) (v := ?_) rfl (by kernel_rfl) (by kernel_rfl) (by kernel_rfl) (fun _ _ _ h => h) (Or.inl ⟨by rfl, ?_⟩) (by assumption) ?_
  rotate_left
  · (intro w0 hSw; (try dsimp only at hSw); go_simp; try with_reducible rfl)
  try simp only [List.getElem_toArray, List.getElem_cons_succ, List.getElem_cons_zero, Act.put, List.setIfInBounds_toArray, List.set_cons_zero, List.set_cons_succ]
  refine wpAnyH_take (i := 9) (v := ?_) rfl (by kernel_rfl) (by kernel_rfl) (by kernel_rfl) (fun _ _ _ h => h) (Or.inl ⟨by rfl, ?_⟩) (by assumption) ?_
  rotate_left
  · (intro w0 hSw; (try dsimp only at hSw); go_simp; try with_reducible rfl)
  try simp only [List.getElem_toArray, List.getElem_cons_succ, List.getElem_cons_zero, Act.put, List.setIfInBounds_toArray, List.set_cons_zero, List.set_cons_succ]
  refine wpAnyH_take (i := 10) (v := ?_) rfl (by kernel_rfl) (by kernel_rfl) (by kernel_rfl) (fun _ _ _ h => h) (Or.inl ⟨by rfl, ?_⟩) (by assumption) ?_
  rotate_left
  · (intro w0 hSw; (try dsimp only at hSw); go_simp; try with_reducible rfl)
  try simp only [List.getElem_toArray, List.getElem_cons_succ, List.getElem_cons_zero, Act.put, List.setIfInBounds_toArray, List.set_cons_zero, List.set_cons_succ]
  refine wpAnyH_take (i := 11) (v := ?_) rfl (by kernel_rfl) (by kernel_rfl) (by kernel_rfl) (fun _ _ _ h => h) (Or.inl ⟨by rfl, ?_⟩) (by assumption) ?_
  rotate_left
  · (intro w0 hSw; (try dsimp only at hSw); go_simp; try with_reducible rfl)
  try simp only [List.getElem_toArray, List.getElem_cons_succ, List.getElem_cons_zero, Act.put, List.setIfInBounds_toArray, List.set_cons_zero, List.set_cons_succ]
  refine wpAnyH_take (i := 12) (v := ?_) rfl (by kernel_rfl) (by kernel_rfl) (by kernel_rfl) (fun _ _ _ h => h) (Or.inl ⟨by rfl, ?_⟩) (by assumption) ?_
  rotate_left
  · (intro w0 hSw; (try dsimp only at hSw); go_simp; try with_reducible rfl)
  try simp only [List.getElem_toArray, List.getElem_cons_succ, List.getElem_cons_zero, Act.put, List.setIfInBounds_toArray, List.set_cons_zero, List.set_cons_succ]
  refine wpAnyH_take (i := 13) (v := ?_) rfl (by kernel_rfl) (by kernel_rfl) (by kernel_rfl) (fun _ _ _ h => h) (Or.inl ⟨by rfl, ?_⟩) (by assumption) ?_
  rotate_left
  · (intro w0 hSw; (try dsimp only at hSw); go_simp; try with_reducible rfl)
  try simp only [List.getElem_toArray, List.getElem_cons_succ, List.getElem_cons_zero, Act.put, List.setIfInBounds_toArray, List.set_cons_zero, List.set_cons_succ]
  refine wpAnyH_take (i := 14) (v := ?_) rfl (by kernel_rfl) (by kernel_rfl) (by kernel_rfl) (fun _ _ _ h => h) (Or.inl ⟨by rfl, ?_⟩) (by assumption) ?_
  rotate_left
  · (intro w0 hSw; (try dsimp only at hSw); go_simp; try with_reducible rfl)
  try simp only [List.getElem_toArray, List.getElem_cons_succ, List.getElem_cons_zero, Act.put, List.setIfInBounds_toArray, List.set_cons_zero, List.set_cons_succ]
  refine wpAnyH_take (i := 15) (v := ?_) rfl (by kernel_rfl) (by kernel_rfl) (by kernel_rfl) (fun _ _ _ h => h) (Or.inl ⟨by rfl, ?_⟩) (by assumption) ?_
  rotate_left
  · (intro w0 hSw; (try dsimp only at hSw); go_simp; try with_reducible rfl)
  try simp only [List.getElem_toArray, List.getElem_cons_succ, List.getElem_cons_zero, Act.put, List.setIfInBounds_toArray, List.set_cons_zero, List.set_cons_succ]
  refine wpAnyH_take (i := 16) (v := ?_) rfl (by kernel_rfl) (by kernel_rfl) (by kernel_rfl) (fun _ _ _ h => h) (Or.inl ⟨by rfl, ?_⟩) (by assumption) ?_
  rotate_left
  · (intro w0 hSw; (try dsimp only at hSw); go_simp; try with_reducible rfl)
  try simp only [List.getElem_toArray, List.getElem_cons_succ, List.getElem_cons_zero, Act.put, List.setIfInBounds_toArray, List.set_cons_zero, List.set_cons_succ]
  refine wpAnyH_take (i := 17) (v := ?_) rfl (by kernel_rfl) (by kernel_rfl) (by kernel_rfl) (fun _ _ _ h => h) (Or.inl ⟨by rfl, ?_⟩) (by assumption) ?_
  rotate_left
  · (intro w0 hSw; (try dsimp only at hSw); go_simp; try with_reducible rfl)
  try simp only [List.getElem_toArray, List.getElem_cons_succ, List.getElem_cons_zero, Act.put, List.setIfInBounds_toArray, List.set_cons_zero, List.set_cons_succ]
  refine wpAnyH_take (i := 18) (v := ?_) rfl (by kernel_rfl) (by kernel_rfl) (by kernel_rfl) (fun _ _ _ h => h) (Or.inl ⟨by rfl, ?_⟩) (by assumption) ?_
  rotate_left
  · (intro w0 hSw; (try dsimp only at hSw); go_simp; try with_reducible rfl)
  try simp only [List.getElem_toArray, List.getElem_cons_succ, List.getElem_cons_zero, Act.put, List.setIfInBounds_toArray, List.set_cons_zero, List.set_cons_succ]
  refine wpAnyH_take (i := 19) (v := ?_) rfl (by kernel_rfl) (by kernel_rfl) (by kernel_rfl) (fun _ _ _ h => h) (Or.inl ⟨by rfl, ?_⟩) (by assumption) ?_
  rotate_left
  · (intro w0 hSw; (try dsimp only at hSw); go_simp; try with_reducible rfl)
  try simp only [List.getElem_toArray, List.getElem_cons_succ, List.getElem_cons_zero, Act.put, List.setIfInBounds_toArray, List.set_cons_zero, List.set_cons_succ]
  refine wpAnyH_take (i := 21) (v := ?_) rfl (by kernel_rfl) (by kernel_rfl) (by kernel_rfl) (fun _ _ _ h => h) (Or.inl ⟨by rfl, ?_⟩) (by assumption) ?_
  rotate_left
  · (intro w0 hSw; (try dsimp only at hSw); go_simp; try with_reducible rfl)
  try simp only [List.getElem_toArray, List.getElem_cons_succ, List.getElem_cons_zero, Act.put, List.setIfInBounds_toArray, List.set_cons_zero, List.set_cons_succ]
  refine wpAnyH_ready (rs := [20]) (by kernel_rfl) (by simp) ?_
  refine AllReadyH.cons rfl (fun K hK => ?_) AllReadyH.nil
  go_simp
  refine (oneR_any (k) (p / 65536) (p / 256 % 256) (p % 256) ((0 : Int)) HB.out.2.1 HB.out.2.2.1 HB.out.2.2.2.1 HB.out.2.2.2.2 _).mono ?_
  rintro x9 w9 ⟨rfl, hb9⟩
  rw [HE.out, show (ints [e0, e1, e2, e3, e4, e5]).toArray = #[.int .i64 e0, .int .i64 e1, .int .i64 e2, .int .i64 e3, .int .i64 e4, .int .i64 e5] from rfl]
  have hbV : Below V.heap.size V w9 := ⟨hb9.os, hb9.tape, hb9.output, hb9.size, hb9.block⟩
  have X9 := Lib.hid (XB.out.here hbV)
  have B9 := Lib.hid (stepB B1.out hbV)
  try go_simp
  refine hK.out _ _ (KP.out _ hbV) (fun hHeld => ?_)
  clear hK K hb9 hbV
  refine wpAnyH_take (i := 22) (v := ?_) rfl (by kernel_rfl) (by kernel_rfl) (by kernel_rfl) (fun _ _ _ h => h) (Or.inl ⟨by rfl, ?_⟩) (by assumption) ?_
  rotate_left
  · (intro w0 hSw; (try dsimp only at hSw); go_simp; try with_reducible rfl)
  try simp only [List.getElem_toArray, List.getElem_cons_succ, List.getElem_cons_zero, Act.put, List.setIfInBounds_toArray, List.set_cons_zero, List.set_cons_succ]
  refine wpAnyH_done (by kernel_rfl) ?_ _
  clear hHeld
  go_wp2_with fail
  go_ret2
  exact ⟨rfl, B9.out⟩
theorem bytesR_no {k c t r m p : Int} (h : k < 0 ∨ 9 < k ∨ c < 0 ∨ 255 < c ∨ t < 0 ∨ 255 < t ∨ r < 0 ∨ 255 < r ∨ m < 0 ∨ 255 < m ∨ p < 0 ∨ 16777215 < p) : okE k c t r m p = false := by
  cases ho : okE k c t r m p with
  | false => rfl
  | true =>
    exfalso
    have h2 := (okE_iff _ _ _ _ _ _).1 ho
    obtain ⟨h1, hc, hx, hp⟩ := h2
    have hc' : 0 ≤ c ∧ c ≤ 255 := by split at hc <;> omega
    have hx' : (0 ≤ t ∧ t ≤ 255) ∧ (0 ≤ r ∧ r ≤ 255) ∧ (0 ≤ m ∧ m ≤ 255) := by split at hx <;> omega
    have hp' : 0 ≤ p ∧ p ≤ 16777215 := by split at hp <;> omega
    omega
theorem bytesR_any (k c t r m p : Int) (w : World) :
    Calls Tryd.prog 6 #[ent9V k c t r m p] w fun e w' => ((okE k c t r m p = true ∧ ∃ g, e = .returned (.tuple #[.slice (some ⟨g, 0, none⟩) 5 5, .bool true]) ∧ Reads w' w'.heap.size 1 (some ⟨g, 0, none⟩) 5 (u8s (wrE [k, c, t, r, m, p]))) ∨ (okE k c t r m p = false ∧ e = .returned (.tuple #[.slice none 0 0, .bool false]))) ∧ Below w.heap.size w w' := by
  by_cases h0 : k < 0
  · exact (bytes_out0 k c t r m p h0 w).mono fun e w' ⟨h1, h2⟩ => ⟨.inr ⟨bytesR_no (by omega), h1⟩, h2⟩
  by_cases h1 : 9 < k
  · exact (bytes_out1 k c t r m p h0 h1 w).mono fun e w' ⟨h1, h2⟩ => ⟨.inr ⟨bytesR_no (by omega), h1⟩, h2⟩
  by_cases h2 : c < 0
  · exact (bytes_out2 k c t r m p h0 h1 h2 w).mono fun e w' ⟨h1, h2⟩ => ⟨.inr ⟨bytesR_no (by omega), h1⟩, h2⟩
  by_cases h3 : 255 < c
  · exact (bytes_out3 k c t r m p h0 h1 h2 h3 w).mono fun e w' ⟨h1, h2⟩ => ⟨.inr ⟨bytesR_no (by omega), h1⟩, h2⟩
  by_cases h4 : t < 0
  · exact (bytes_out4 k c t r m p h0 h1 h2 h3 h4 w).mono fun e w' ⟨h1, h2⟩ => ⟨.inr ⟨bytesR_no (by omega), h1⟩, h2⟩
  by_cases h5 : 255 < t
  · exact (bytes_out5 k c t r m p h0 h1 h2 h3 h4 h5 w).mono fun e w' ⟨h1, h2⟩ => ⟨.inr ⟨bytesR_no (by omega), h1⟩, h2⟩
  by_cases h6 : r < 0
  · exact (bytes_out6 k c t r m p h0 h1 h2 h3 h4 h5 h6 w).mono fun e w' ⟨h1, h2⟩ => ⟨.inr ⟨bytesR_no (by omega), h1⟩, h2⟩
  by_cases h7 : 255 < r
  · exact (bytes_out7 k c t r m p h0 h1 h2 h3 h4 h5 h6 h7 w).mono fun e w' ⟨h1, h2⟩ => ⟨.inr ⟨bytesR_no (by omega), h1⟩, h2⟩
  by_cases h8 : m < 0
  · exact (bytes_out8 k c t r m p h0 h1 h2 h3 h4 h5 h6 h7 h8 w).mono fun e w' ⟨h1, h2⟩ => ⟨.inr ⟨bytesR_no (by omega), h1⟩, h2⟩
  by_cases h9 : 255 < m
  · exact (bytes_out9 k c t r m p h0 h1 h2 h3 h4 h5 h6 h7 h8 h9 w).mono fun e w' ⟨h1, h2⟩ => ⟨.inr ⟨bytesR_no (by omega), h1⟩, h2⟩
  by_cases h10 : p < 0
  · exact (bytes_out10 k c t r m p h0 h1 h2 h3 h4 h5 h6 h7 h8 h9 h10 w).mono fun e w' ⟨h1, h2⟩ => ⟨.inr ⟨bytesR_no (by omega), h1⟩, h2⟩
  by_cases h11 : 16777215 < p
  · exact (bytes_out11 k c t r m p h0 h1 h2 h3 h4 h5 h6 h7 h8 h9 h10 h11 w).mono fun e w' ⟨h1, h2⟩ => ⟨.inr ⟨bytesR_no (by omega), h1⟩, h2⟩
  have hk : 0 ≤ k ∧ k ≤ 9 := by omega
  have hc : 0 ≤ c ∧ c ≤ 255 := by omega
  have ht : 0 ≤ t ∧ t ≤ 255 := by omega
  have hr : 0 ≤ r ∧ r ≤ 255 := by omega
  have hm : 0 ≤ m ∧ m ≤ 255 := by omega
  have hp : 0 ≤ p ∧ p ≤ 16777215 := by omega
  by_cases h7 : 7 ≤ k
  · cases ho : okE k c t r m p with
    | true => exact (bytes_pic_ok k c t r m p hk hc ht hr hm hp h7 ho w).mono fun e w' ⟨h1, h2⟩ => ⟨.inl ⟨rfl, h1⟩, h2⟩
    | false => exact (bytes_pic_no k c t r m p hk hc ht hr hm hp h7 ho w).mono fun e w' ⟨h1, h2⟩ => ⟨.inr ⟨rfl, h1⟩, h2⟩
  · cases ho : okE k c t r m p with
    | true => exact (bytes_not_ok k c t r m p hk hc ht hr hm hp (by omega) ho w).mono fun e w' ⟨h1, h2⟩ => ⟨.inl ⟨rfl, h1⟩, h2⟩
    | false => exact (bytes_not_no k c t r m p hk hc ht hr hm hp (by omega) ho w).mono fun e w' ⟨h1, h2⟩ => ⟨.inr ⟨rfl, h1⟩, h2⟩
end Go.Proofs.YtggfadiahacgeaaDoor
