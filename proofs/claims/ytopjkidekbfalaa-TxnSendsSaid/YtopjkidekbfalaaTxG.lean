/- Is a message of a transaction, and no stale one? -/
import Derived.Test.YtopjkidekbfalaaTxC
import Derived.Test.YtopjkidekbfalaaMsgF
namespace Go.Proofs.Ytopjkidekbfalaa
open Go.RowKit
set_option linter.unusedVariables false
set_option linter.unusedSimpArgs false

set_option maxRecDepth 100000 in
set_option maxHeartbeats 1000000 in
theorem msgOk_any (m : List Int) (hl : m.length = 28) (w : World) :
    Calls Try.prog 46 #[.agg (mc m)] w fun e w' => e = .returned (if mayB m then .nilIface else errno 5) ∧ Below w.heap.size w w' := by
  have HL := Lib.hid hl
  have HI := Lib.hid (mc_info hl)
  clear hl
  cases hm : mayB m
  all_goals
    have HM := Lib.hid hm
    clear hm
    go_enter Try.func46, Try.ntmps46
    go_wp2_with (refine wpList_load_row rfl 42 (.tmp 1) rfl w.heap.size rfl 42 (mc m) (0, 0) _ (Blk.new _ _ _) Try.underlying42 rfl HI.out ?_)
    refine (mayBe_msg m HL.out _).mono ?_
    rintro e w1 ⟨rfl, hb1⟩
    rw [HM.out]
    have HB1 := Lib.hid (stepB (stepA (Below.refl w.heap.size w) _) hb1)
    clear hb1
    go_wp2_with fail
    go_ret
    exact ⟨rfl, HB1.out⟩
theorem own_ints (V : World) (t : TypeId) (ys : List Int) {B n : Nat} (hB : B ≤ V.heap.size) (hn : n = ys.length) (hs : ys.length ≤ 1000) : (V.alloc (.cells (i64s ys).toArray t)).ownsRow B t 1 (.slice (some ⟨V.heap.size, 0, none⟩) n n) ys.length (i64s ys) := by
  subst hn
  exact ⟨by rw [i64s_length]; omega, .inr ⟨_, _, (i64s ys).toArray, rfl, hB, Blk.new V t _, Nat.le_refl _, by simp only [maxLen]; omega, by simp [i64s_length], by rw [List.take_of_length_le (by simp [i64s_length])]⟩⟩
theorem contG {B : Nat} {v : Value} {l : List Int} (x : Int) (w : World) (h : NumR w B v l) (hn : l.length ≤ 1000) (r : Bool) (hr : l.contains x = r) :
    Calls Try.prog 38 #[v, .int .i64 x] w fun e w' => e = .returned (.bool r) ∧ w = w' := by rw [← hr]; exact cont_own x w h hn
set_option maxRecDepth 100000 in
set_option maxHeartbeats 8000000 in
theorem isOf_any {B : Nat} {v : Value} {ks : List Int} (x : Tr) (s : Sl) (m : List Int) (hm : m.length = 28) (w : World) (h : NumR w B v ks) (hn : ks.length ≤ 1000) :
    Calls Try.prog 35 #[.agg (trc x s), .agg (mc m), v] w fun e w' => e = .returned (.bool (isOf x m ks)) ∧ Below w.heap.size w w' := by
  obtain ⟨A, c, rfl⟩ := own_len h
  have X1 := Lib.hid ((Blk.new w 30 (trc x s)).alloc (.cells (mc m) 42))
  have M1 := Lib.hid (Blk.new_at (w := w.alloc (.cells (trc x s) 30)) (n := w.heap.size + 1) (by simp) 42 (mc m))
  have B1 := Lib.hid ((Joins.below_alloc1 w (.cells (trc x s) 30)).alloc (by simp) (.cells (mc m) 42))
  have H1 := Lib.hid (own_step h B1.out)
  have HL := Lib.hid hm
  have HI := Lib.hid (mc_info hm)
  have HN := Lib.hid hn
  have hen := fun W => run_eql_nil_nil (P := Try.prog) W 32 Try.underlying32
  have he5 := fun W => run_eql_held_nil (P := Try.prog) W 32 62 (.int .i64 5) Try.underlying32
  obtain ⟨r, hr⟩ : ∃ r, isOf x m ks = r := ⟨_, rfl⟩
  rw [hr]
  unfold isOf at hr
  clear h hm hn
  go_enter Try.func35, Try.ntmps35
  go_upto_region 1 with fail
  obtain ⟨g, hg⟩ : ∃ g, g = w.heap.size := ⟨_, rfl⟩
  have HG := Lib.hid hg
  rw [← hg] at X1 M1 ⊢
  clear hg
  generalize (w.alloc (.cells (trc x s) 30)).alloc (.cells (mc m) 42) = V at X1 M1 B1 H1 ⊢
  have c0 : V.cell? ⟨g, 0, none⟩ = some (.int .i64 x.tx) := X1.out.cell 0
  have m0 := mc_cell HL.out M1.out (i := 0) (by omega)
  have m3 := mc_cell HL.out M1.out (i := 3) (by omega)
  cases hk : ks.contains (fld m 0) with
  | false =>
    have HK := Lib.hid hk
    obtain rfl : r = false := by rw [← hr, hk]; rfl
    clear hk hr
    go_wp2_with (go_at_call 38; refine (contG _ _ H1.out HN.out false HK.out).mono ?_; rintro e w' ⟨rfl, rfl⟩)
    go_ret
    exact ⟨rfl, B1.out⟩
  | true =>
    have HK := Lib.hid hk
    rw [hk, Bool.true_and] at hr
    clear hk
    by_cases ht : fld m 3 = x.tx
    · have e3 : (fld m 3 == x.tx) = true := by simpa using ht
      rw [decide_eq_true ht, Bool.true_and] at hr
      clear ht
      cases hb : mayB m with
      | false =>
        have OK := Lib.hid (msgOk_any m HL.out)
        rw [hb, if_neg (by simp)] at OK
        obtain rfl : r = false := hr.symm.trans hb
        clear hb hr
        go_wp2_with (first
          | (go_at_call 38; refine (contG _ _ H1.out HN.out true HK.out).mono ?_; rintro e w' ⟨rfl, rfl⟩)
          | (refine wpList_load_row_g (by rfl) 42 (.tmp 4) rfl (g + 1) rfl 42 (mc m) (0, 0) _ M1.out Try.underlying42 rfl HI.out ?_)
          | (go_at_call 46; refine (OK.out _).mono ?_; rintro e w2 ⟨rfl, hb2⟩; have B2 := Lib.hid (stepB B1.out hb2); clear hb2))
        go_ret
        exact ⟨rfl, B2.out⟩
      | true =>
        have OK := Lib.hid (msgOk_any m HL.out)
        rw [hb, if_pos rfl] at OK
        obtain rfl : r = true := hr.symm.trans hb
        clear hb hr
        go_wp2_with (first
          | (go_at_call 38; refine (contG _ _ H1.out HN.out true HK.out).mono ?_; rintro e w' ⟨rfl, rfl⟩)
          | (refine wpList_load_row_g (by rfl) 42 (.tmp 4) rfl (g + 1) rfl 42 (mc m) (0, 0) _ M1.out Try.underlying42 rfl HI.out ?_)
          | (go_at_call 46; refine (OK.out _).mono ?_; rintro e w2 ⟨rfl, hb2⟩; have B2 := Lib.hid (stepB B1.out hb2); clear hb2))
        go_ret
        exact ⟨rfl, B2.out⟩
    · have e3 : (fld m 3 == x.tx) = false := by simpa using ht
      obtain rfl : r = false := by rw [← hr, decide_eq_false ht]; rfl
      clear ht hr
      go_wp2_with (go_at_call 38; refine (contG _ _ H1.out HN.out true HK.out).mono ?_; rintro e w' ⟨rfl, rfl⟩)
      go_ret
      exact ⟨rfl, B1.out⟩
end Go.Proofs.Ytopjkidekbfalaa
