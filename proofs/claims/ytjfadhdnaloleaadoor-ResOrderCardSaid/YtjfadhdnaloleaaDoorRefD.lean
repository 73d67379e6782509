/- The document's own numerals and texts. -/
import Derived.Test.YtjfadhdnaloleaaDoorResT
import Derived.RegionTactic
import Derived.Deep.RegionWith
import Derived.Lib.ConvBytes
namespace Go.Proofs.YtjfadhdnaloleaaDoor
open Go.RowKit
set_option linter.unusedVariables false
set_option linter.unusedSimpArgs false

theorem conv1 (W : World) (g : Nat) (x : Int) (c : UInt8) (hx : x = c.toNat) (hc : W.cell? ⟨g, 0, none⟩ = some (.int .u8 x)) :
    (convert 67 9 (.slice (some ⟨g, 0, none⟩) 1 1)).run Tryd.prog W = .ok (strV [c]) W :=
  run_convert_bytes_back W _ _ 5 ⟨g, 0, none⟩ 1 [c] Tryd.underlying67 Tryd.underlying5 Tryd.underlying9 (fun j hj => by
    obtain rfl : j = 0 := by simpa using hj
    simpa [Addr.add, hx] using hc)

theorem below_undrew {B : Nat} {w w' : World} (h : Below B w.drew w') : Below B w w' := ⟨h.os, h.tape, h.output, h.size, h.block⟩
theorem strV_app (x y : List UInt8) : Value.string (ByteArray.mk x.toArray ++ ByteArray.mk y.toArray) = strV (x ++ y) := by rw [ByteArray.mk_append_mk]

set_option maxRecDepth 100000 in
set_option maxHeartbeats 4000000 in
theorem digR_one (n : Nat) (h : n < 10) (w : World) :
    Calls Tryd.prog 25 #[.int .i64 n] w fun e w' => e = .returned (strV (dig n)) ∧ Below w.heap.size w w' := by
  have hw : IntKind.i64.wrap (48 + (n : Int)) = 48 + n := IntWalk.i64_in _ (by omega)
  have hw8 : IntKind.u8.wrap (48 + (n : Int)) = 48 + n := by rw [IntKind.wrap_u8]; omega
  have d0 : decide ((n : Int) < 10) = true := by simp; omega
  have hcv := conv1 (w.alloc (.cells #[.int .u8 (48 + (n : Int))] 5)) w.heap.size (48 + (n : Int)) (dc n) (by rw [dc_toNat n h]; omega) (by simp)
  rw [dig_lt h]
  go_enter Tryd.func25, Tryd.ntmps25
  go_wp2_with fail
  go_ret
  exact ⟨rfl, Joins.below_alloc1 _ _⟩

set_option maxRecDepth 100000 in
set_option maxHeartbeats 1000000 in
theorem digR_more (x : Int) (m : Nat) (l : List UInt8) (h0 : 0 ≤ x) (h : decide (x < 10) = false) (hm : 0 ≤ x % 10) (hm2 : x % 10 < 10) (hx : m = (x % 10).toNat) (hl : l.length ≤ 3) (hx2 : x ≤ 250) (w : World)
    (ih : ∀ W : World, Calls Tryd.prog 25 #[.int .i64 (x / 10)] W fun e w' => e = .returned (strV l) ∧ Below W.heap.size W w') :
    Calls Tryd.prog 25 #[.int .i64 x] w fun e w' => e = .returned (strV (l ++ [dc m])) ∧ Below w.heap.size w w' := by
  have hw : IntKind.i64.wrap (48 + x % 10) = 48 + x % 10 := IntWalk.i64_in _ (by omega)
  have hw8 : IntKind.u8.wrap (48 + x % 10) = 48 + x % 10 := by rw [IntKind.wrap_u8]; omega
  have q1 : (9223372036854775807 < l.length + 1) = False := by simp; omega
  have hcv : ∀ (W : World) (g : Nat), W.cell? ⟨g, 0, none⟩ = some (.int .u8 (48 + x % 10)) → (convert 67 9 (.slice (some ⟨g, 0, none⟩) 1 1)).run Tryd.prog W = .ok (strV [dc m]) W :=
    fun W g => conv1 W g (48 + x % 10) (dc m) (by rw [dc_toNat m (by omega)]; omega)
  have hq : IntKind.i64.wrap (x.tdiv 10) = x / 10 := by rw [Int.tdiv_eq_ediv_of_nonneg h0]; exact IntWalk.i64_in _ (by simp at h; omega)
  have ht : x.tmod 10 = x % 10 := Int.tmod_eq_emod_of_nonneg h0
  have HI := Lib.hid ih
  clear ih hx
  go_enter Tryd.func25, Tryd.ntmps25
  go_wp2_with fail
  go_region_with (go_at_call 25; ((with_reducible refine (HI.out _).mono ?_); rintro e w5 ⟨rfl, hb5⟩; obtain ⟨bc, bf⟩ := bcell hb5; have hz5 := hb5.size; simp at hz5))
  all_goals
    go_wp2_with fail
    go_ret
    refine ⟨(congrArg Ending.returned (strV_app l [dc m]) :), ?_⟩
    first
      | exact (below_undrew hb5).alloc hb5.size _
      | exact (Joins.below_alloc1 w _).trans ((below_undrew hb5).mono (by simp))

theorem digR (n : Nat) (h : n ≤ 250) (w : World) :
    Calls Tryd.prog 25 #[.int .i64 n] w fun e w' => e = .returned (strV (dig n)) ∧ Below w.heap.size w w' := by
  induction n using Nat.strongRecOn generalizing w with
  | _ n ih =>
    by_cases h1 : n < 10
    · exact digR_one n h1 w
    · rw [dig_ge h1]
      refine digR_more n (n % 10) (dig (n / 10)) (by omega) (by simp; omega) (by omega) (by omega) (by omega) (dig_len3 (by omega)) (by omega) w fun W => ?_
      rw [show (n : Int) / 10 = ((n / 10 : Nat) : Int) by omega]
      exact ih (n / 10) (by omega) (by omega) W

theorem digR_int (x : Int) (h0 : 0 ≤ x) (h : x ≤ 250) (w : World) :
    Calls Tryd.prog 25 #[.int .i64 x] w fun e w' => e = .returned (strV (dig x.toNat)) ∧ Below w.heap.size w w' := by
  have := digR x.toNat (by omega) w
  rwa [show ((x.toNat : Nat) : Int) = x by omega] at this

set_option maxRecDepth 100000 in
set_option maxHeartbeats 1000000 in
theorem textR_table (t : Nat) (h2 : t ≤ 250) (w : World) :
    Calls Tryd.prog 15 #[resV t 0] w fun e w' => e = .returned (strV (dig t)) ∧ Below w.heap.size w w' := by
  go_enter Tryd.func15, Tryd.ntmps15
  go_wp2_with fail
  have hb : Below w.heap.size w (w.alloc (.cells #[.int .i64 t, .int .i64 0] 23)) := Joins.below_alloc1 _ _
  refine (digR t h2 _).mono ?_
  rintro e w' ⟨rfl, hb2⟩
  go_wp2_with fail
  go_ret
  exact ⟨rfl, hb.trans (hb2.mono hb.size)⟩

set_option maxRecDepth 100000 in
set_option maxHeartbeats 4000000 in
theorem textR_row (t r : Nat) (h2 : t ≤ 250) (h3 : 1 ≤ r) (h4 : r ≤ 250) (w : World) :
    Calls Tryd.prog 15 #[resV t r] w fun e w' => e = .returned (strV (dig t ++ 46 :: dig r)) ∧ Below w.heap.size w w' := by
  have hr0 : ((r : Int) == 0) = false := by simp; omega
  go_enter Tryd.func15, Tryd.ntmps15
  go_wp2_with fail
  have hb : Below w.heap.size w (w.alloc (.cells #[.int .i64 t, .int .i64 r] 23)) := Joins.below_alloc1 _ _
  have hz : w.heap.size < (w.alloc (.cells #[.int .i64 t, .int .i64 r] 23)).heap.size := by simp
  have k0 : (w.alloc (.cells #[.int .i64 t, .int .i64 r] 23)).cell? ⟨w.heap.size, 0, none⟩ = some (.int .i64 t) := by simp
  have k1 : (w.alloc (.cells #[.int .i64 t, .int .i64 r] 23)).cell? ⟨w.heap.size, 1, none⟩ = some (.int .i64 r) := by simp
  generalize (w.alloc (.cells #[.int .i64 t, .int .i64 r] 23)) = W at hb hz k0 k1 ⊢
  have hl1 := dig_len3 h2
  have hl2 := dig_len3 h4
  have q1 : (9223372036854775807 < (dig t).length + 1) = False := by simp; omega
  have q2 : (9223372036854775807 < (dig t).length + 1 + (dig r).length) = False := by simp; omega
  go_region_held3 (fun w' => w'.cell? ⟨w.heap.size, 0, none⟩ = some (.int .i64 t) ∧ w'.cell? ⟨w.heap.size, 1, none⟩ = some (.int .i64 r) ∧ w.heap.size < w'.heap.size ∧ Below w.heap.size w w')
    (first
      | (exact ⟨k0, k1, hz, hb.drew⟩)
      | go_keep
      | (go_split_ands
         refine ⟨?_, ?_, ?_, ?_⟩
         · (rw [(bcell hb5).1 _ _ (by assumption)]; assumption)
         · (rw [(bcell hb5).1 _ _ (by assumption)]; assumption)
         · (exact Nat.lt_of_lt_of_le (by assumption) hb5.size)
         · (exact Below.trans (by assumption) (hb5.mono (Nat.le_of_lt (by assumption))))))
    (first
      | (go_at_call 25; refine (digR_int _ (by omega) (by omega) _).mono ?_; rintro e w5 ⟨rfl, hb5⟩))
  all_goals
    go_wp2_with fail
    go_ret
    rename_i hh
    refine ⟨?_, hh.2.2.2⟩
    rw [show (ByteArray.mk (dig t).toArray ++ ByteArray.mk #[46] ++ ByteArray.mk (dig r).toArray) = ByteArray.mk (dig t ++ 46 :: dig r).toArray by
      rw [show ByteArray.mk #[46] = ByteArray.mk [46].toArray from rfl, ByteArray.mk_append_mk, ByteArray.mk_append_mk]; simp]
    rfl
theorem textR (t r : Nat) (h2 : t ≤ 250) (h4 : r ≤ 250) (w : World) :
    Calls Tryd.prog 15 #[resV t r] w fun e w' => e = .returned (strV (Tx t r)) ∧ Below w.heap.size w w' := by
  unfold Tx
  by_cases h : r = 0
  · subst h; rw [if_pos rfl]; exact textR_table t h2 w
  · rw [if_neg h]; exact textR_row t r h2 (by omega) h4 w

set_option maxRecDepth 100000 in
set_option maxHeartbeats 1000000 in
theorem rokR_any (t r : Int) (w : World) :
    Calls Tryd.prog 12 #[resV t r] w fun e w' => e = .returned (.bool (okR t r)) ∧ Below w.heap.size w w' := by
  have HQ : Hid ((decide (0 < t) && (decide (t < 251) && (decide (-1 < r) && decide (r < 251)))) = okR t r) := by
    show _ = _
    unfold okR; rw [Bool.eq_iff_iff]; simp; omega
  cases h1 : decide (0 < t) <;> cases h2 : decide (t < 251) <;> cases h3 : decide (-1 < r) <;> cases h4 : decide (r < 251)
  all_goals
    go_enter Tryd.func12, Tryd.ntmps12
    go_wp2
    go_ret
    exact ⟨ret_bool (by rw [← HQ.out, h1, h2, h3, h4]; rfl), Joins.below_alloc1 _ _⟩

/-- Does a resource stand ahead of another one? -/
def lessR (a b c d : Int) : Bool := if a = c then decide (b < d) else decide (a < c)
set_option maxRecDepth 100000 in
set_option maxHeartbeats 1000000 in
theorem lessR_any (a b c d : Int) (w : World) :
    Calls Tryd.prog 22 #[resV a b, resV c d] w fun e w' => e = .returned (.bool (lessR a b c d)) ∧ Below w.heap.size w w' := by
  have HQ : Hid ((a = c → lessR a b c d = decide (b < d)) ∧ (a ≠ c → lessR a b c d = decide (a < c))) := by
    show _ ∧ _
    unfold lessR; exact ⟨fun h => by rw [if_pos h], fun h => by rw [if_neg h]⟩
  have hb : Below w.heap.size w ((w.alloc (.cells #[.int .i64 a, .int .i64 b] 23)).alloc (.cells #[.int .i64 c, .int .i64 d] 23)) := Joins.below_alloc2 _ _ _
  by_cases h : a = c
  · have HE := Lib.hid h
    have h1 : (a != c) = false := by simpa using h
    have h2 : (a == c) = true := by simpa using h
    cases h3 : decide (b < d)
    all_goals
      clear h
      go_enter Tryd.func22, Tryd.ntmps22
      go_wp2_with fail
      go_ret
      exact ⟨ret_bool (by rw [HQ.out.1 HE.out, h3]), hb⟩
  · have HE := Lib.hid h
    have h1 : (a != c) = true := by simpa using h
    have h2 : (a == c) = false := by simpa using h
    cases h3 : decide (a < c)
    all_goals
      clear h
      go_enter Tryd.func22, Tryd.ntmps22
      go_wp2_with fail
      go_ret
      exact ⟨ret_bool (by rw [HQ.out.2 HE.out, h3]), hb⟩

/-- The document's count round. -/
def roundR (n : Nat) : Nat → Nat
  | 0 => 0
  | k + 1 => if n < roundR n k + 1 then 1 else roundR n k + 1
theorem roundR_le (n : Nat) (h : 1 ≤ n) : ∀ k, roundR n k ≤ n
  | 0 => by simp [roundR]
  | k + 1 => by rw [roundR]; split <;> omega
theorem roundR_eq (n : Nat) (h : 1 ≤ n) : ∀ k, 1 ≤ k → roundR n k = (k - 1) % n + 1
  | 0, h0 => by omega
  | 1, _ => by
    rw [roundR, roundR]; simp
    try omega
  | k + 2, _ => by
    rw [roundR, roundR_eq n h (k + 1) (by omega)]
    have e : k + 1 - 1 = k := by omega
    have e2 : k + 2 - 1 = k + 1 := by omega
    rw [e, e2]
    have hm := Nat.mod_lt k h
    split
    · have h1 : k % n = n - 1 := by omega
      rw [Nat.add_mod, h1]
      by_cases h2 : n = 1
      · subst h2; simp [Nat.mod_one]
      · rw [Nat.mod_eq_of_lt (show 1 < n by omega), show n - 1 + 1 = n by omega, Nat.mod_self]
    · rw [Nat.add_mod]
      by_cases h2 : n = 1
      · omega
      · rw [Nat.mod_eq_of_lt (show 1 < n by omega), Nat.mod_eq_of_lt (show k % n + 1 < n by omega)]
theorem shardF_round (t n : Nat) (h1 : 1 ≤ t) (h2 : 1 ≤ n) : shardF t n = roundR n t := by
  unfold shardF
  rw [roundR_eq n h2 t h1]
  have : (t : Int) - 1 = ((t - 1 : Nat) : Int) := by omega
  rw [this]; omega

set_option maxRecDepth 100000 in
set_option maxHeartbeats 1000000 in
theorem shardR_any (t n : Nat) (r : Int) (h1 : t ≤ 250) (h2 : n ≤ 64) (h3 : 1 ≤ n) (w : World) :
    Calls Tryd.prog 16 #[resV t r, .int .i64 n] w fun e w' => e = .returned (.int .i64 (roundR n t)) ∧ Below w.heap.size w w' := by
  go_enter Tryd.func16, Tryd.ntmps16
  go_wp2_with fail
  go_loop [5, 6] (fun s i => ∃ k : Nat, k ≤ t ∧ s = .int .i64 (roundR n k) ∧ i = .int .i64 k) (fun _ i => t - (intOf i).toNat)
  case atStart => exact ⟨0, Nat.zero_le _, rfl, rfl⟩
  case round =>
    obtain ⟨k, hk, rfl, rfl⟩ := hrel
    have hle := roundR_le n h3 k
    have HS := Lib.hid (show (n < roundR n k + 1 → roundR n (k + 1) = 1) ∧ (¬ n < roundR n k + 1 → roundR n (k + 1) = roundR n k + 1) from ⟨fun h => by rw [roundR, if_pos h], fun h => by rw [roundR, if_neg h]⟩)
    by_cases hlt : k < t
    · generalize roundR n k = s at hle HS
      by_cases hb : n < s + 1
      · have d1 : decide ((n : Int) < (s : Int) + 1) = true := by simp; omega
        have HB := Lib.hid hb
        clear hb
        go_wp2_with fail
        go_round
        case rel => exact ⟨k + 1, by omega, by rw [HS.out.1 HB.out]; rfl, by go_num⟩
        case measure => simp [intOf]; omega
      · have d1 : decide ((n : Int) < (s : Int) + 1) = false := by simp; omega
        have HB := Lib.hid hb
        clear hb
        go_wp2_with fail
        go_round
        case rel => exact ⟨k + 1, by omega, by rw [HS.out.2 HB.out]; go_num, by go_num⟩
        case measure => simp [intOf]; omega
    · obtain rfl : k = t := by omega
      clear HS
      go_wp2_with fail
      go_ret
      exact ⟨rfl, Joins.below_alloc1 _ _⟩
end Go.Proofs.YtjfadhdnaloleaaDoor
