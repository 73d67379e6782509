/- The contract of package res's Text. -/
import Derived.Test.YtjfadhdnaloleaaDoorRes
import Derived.Test.YtjfadhdnaloleaaDoorResM
import Derived.Test.YtjfadhdnaloleaaDoorShelf2
import Derived.Lib.AppendIntMem
import Derived.Deep.RegionHeld3
import Derived.Outline
namespace Go.Proofs.YtjfadhdnaloleaaDoor
open Go.RowKit

/-- The library's table of powers of ten is laid. -/
abbrev PTab (w : World) : Prop := Lib.TabIs Tryd.prog w "internal/strconv.uint64pow10" .u64 Lib.pow10Tab
theorem pow_global : Tryd.prog.globalNamed "internal/strconv.uint64pow10" = some 1 := by kernel_rfl
theorem PTab.below {w w' : World} (h : PTab w) (hb : Below w.heap.size w w') : PTab w' := Joins.tab_stays pow_global h hb (Nat.le_refl _)

theorem PTab.drew {w : World} (h : PTab w) : PTab w.drew := h
/-- A string of bytes. -/
abbrev strV (l : List UInt8) : Value := .string ⟨l.toArray⟩

theorem itoa_nat (n : Nat) (h : n ≤ 250) (w : World) (ht : PTab w) :
    Calls Tryd.prog 23 #[.int .i64 n] w fun e w' => e = .returned (strV (dig n)) ∧ Below w.heap.size w w' :=
  (Tryd.itoa n (by omega) (by omega) w ht).mono fun _ _ ⟨he, k, os, hw⟩ => ⟨by rw [he, Lib.itoa_nonneg], by rw [hw]; exact Lib.below_grow _ _ (Nat.le_refl _) _ _⟩
/-- The same, of whatever number that is a row's or a table's. -/
theorem itoa_int (x : Int) (h0 : 0 ≤ x) (h : x ≤ 250) (w : World) (ht : PTab w) :
    Calls Tryd.prog 23 #[.int .i64 x] w fun e w' => e = .returned (strV (dig x.toNat)) ∧ Below w.heap.size w w' := by
  have := itoa_nat x.toNat (by omega) w ht
  rwa [show ((x.toNat : Nat) : Int) = x by omega] at this

set_option maxRecDepth 100000 in
set_option maxHeartbeats 1000000 in
theorem text_no (t r : Int) (h : okR t r = false) (w : World) :
    Calls Tryd.prog 11 #[resV t r] w fun e w' => e = .returned (.tuple #[strV [], errno 1]) ∧ Below w.heap.size w w' := by
  have H := Lib.hid h; clear h
  go_enter Tryd.func11, Tryd.ntmps11
  go_wp2_with (go_at_call 13; refine (rok_no t r H.out _).mono ?_; rintro e w' ⟨rfl, rfl⟩)
  go_ret2
  refine ⟨rfl, ?_⟩
  repeat (first | exact Below.refl _ _ | refine Below.setCell ?_ (by simp) _ | refine Below.alloc ?_ (by simp <;> omega) _)

set_option maxRecDepth 100000 in
set_option maxHeartbeats 1000000 in
theorem text_table (t : Nat) (h1 : 1 ≤ t) (h2 : t ≤ 250) (w : World) (ht : PTab w) :
    Calls Tryd.prog 11 #[resV t 0] w fun e w' => e = .returned (.tuple #[strV (dig t), .nilIface]) ∧ Below w.heap.size w w' := by
  have h : okR t 0 = true := by unfold okR; simp; omega
  have H := Lib.hid h; clear h
  have HT := Lib.hid ht; clear ht
  go_enter Tryd.func11, Tryd.ntmps11
  go_wp2_with (go_at_call 13; refine (rok_yes t 0 H.out _).mono ?_; rintro e w' ⟨rfl, rfl⟩)
  have hb : Below w.heap.size w ((w.alloc (.cells #[.int .i64 t, .int .i64 0] 23)).alloc (.cells #[.int .i64 t, .int .i64 0] 23)) := Joins.below_alloc2 _ _ _
  refine (itoa_nat t h2 _ (HT.out.below hb)).mono ?_
  rintro e w' ⟨rfl, hb2⟩
  go_wp2_with fail
  go_ret2
  exact ⟨rfl, hb.trans (hb2.mono hb.size)⟩

set_option maxRecDepth 100000 in
set_option maxHeartbeats 4000000 in
theorem text_row (t r : Nat) (h1 : 1 ≤ t) (h2 : t ≤ 250) (h3 : 1 ≤ r) (h4 : r ≤ 250) (w : World) (ht : PTab w) :
    Calls Tryd.prog 11 #[resV t r] w fun e w' => e = .returned (.tuple #[strV (dig t ++ 46 :: dig r), .nilIface]) ∧ Below w.heap.size w w' := by
  have h : okR t r = true := by unfold okR; simp; omega
  have H := Lib.hid h; clear h
  have HT := Lib.hid ht; clear ht
  have hr0 : ((r : Int) == 0) = false := by simp; omega
  go_enter Tryd.func11, Tryd.ntmps11
  go_wp2_with (go_at_call 13; refine (rok_yes t r H.out _).mono ?_; rintro e w' ⟨rfl, rfl⟩)
  have hb : Below w.heap.size w ((w.alloc (.cells #[.int .i64 t, .int .i64 r] 23)).alloc (.cells #[.int .i64 t, .int .i64 r] 23)) := Joins.below_alloc2 _ _ _
  have hp := HT.out.below hb
  have hz : w.heap.size < ((w.alloc (.cells #[.int .i64 t, .int .i64 r] 23)).alloc (.cells #[.int .i64 t, .int .i64 r] 23)).heap.size := by simp; omega
  have k0 : ((w.alloc (.cells #[.int .i64 t, .int .i64 r] 23)).alloc (.cells #[.int .i64 t, .int .i64 r] 23)).cell? ⟨w.heap.size, 0, none⟩ = some (.int .i64 t) := by simp
  have k1 : ((w.alloc (.cells #[.int .i64 t, .int .i64 r] 23)).alloc (.cells #[.int .i64 t, .int .i64 r] 23)).cell? ⟨w.heap.size, 1, none⟩ = some (.int .i64 r) := by simp
  generalize ((w.alloc (.cells #[.int .i64 t, .int .i64 r] 23)).alloc (.cells #[.int .i64 t, .int .i64 r] 23)) = W at hb hp hz k0 k1 ⊢
  have hl1 := dig_len3 h2
  have hl2 := dig_len3 h4
  have q1 : (9223372036854775807 < (dig t).length + 1) = False := by simp; omega
  have q2 : (9223372036854775807 < (dig t).length + 1 + (dig r).length) = False := by simp; omega
  go_region_held3 (fun w' => w'.cell? ⟨w.heap.size, 0, none⟩ = some (.int .i64 t) ∧ w'.cell? ⟨w.heap.size, 1, none⟩ = some (.int .i64 r) ∧ PTab w' ∧ w.heap.size < w'.heap.size ∧ Below w.heap.size w w')
    (first
      | (exact ⟨k0, k1, hp, hz, hb.drew⟩)
      | go_keep
      | (go_split_ands
         refine ⟨?_, ?_, ?_, ?_, ?_⟩
         · (rw [(bcell hb5).1 _ _ (by assumption)]; assumption)
         · (rw [(bcell hb5).1 _ _ (by assumption)]; assumption)
         · (exact PTab.below (by assumption) hb5)
         · (exact Nat.lt_of_lt_of_le (by assumption) hb5.size)
         · (exact Below.trans (by assumption) (hb5.mono (Nat.le_of_lt (by assumption))))))
    (first
      | (go_at_call 23; refine (itoa_int _ (by omega) (by omega) _ ?_).mono ?_; (first | exact hp | exact PTab.below hp hb5 | exact PTab.below hp.drew hb5); rintro e w5 ⟨rfl, hb5⟩))
  all_goals
    go_wp2_with fail
    go_ret2
    rename_i hh
    refine ⟨?_, hh.2.2.2.2⟩
    rw [show (ByteArray.mk (dig t).toArray ++ ByteArray.mk #[46] ++ ByteArray.mk (dig r).toArray) = ByteArray.mk (dig t ++ 46 :: dig r).toArray by
      rw [show ByteArray.mk #[46] = ByteArray.mk [46].toArray from rfl, ByteArray.mk_append_mk, ByteArray.mk_append_mk]; simp]
    rfl

/-- The text of a resource that may be. -/
theorem text_any (t r : Nat) (h1 : 1 ≤ t) (h2 : t ≤ 250) (h4 : r ≤ 250) (w : World) (ht : PTab w) :
    Calls Tryd.prog 11 #[resV t r] w fun e w' => e = .returned (.tuple #[strV (Tx t r), .nilIface]) ∧ Below w.heap.size w w' := by
  unfold Tx
  by_cases h : r = 0
  · subst h; rw [if_pos rfl]; exact text_table t h1 h2 w ht
  · rw [if_neg h]; exact text_row t r h1 h2 (by omega) h4 w ht
end Go.Proofs.YtjfadhdnaloleaaDoor
