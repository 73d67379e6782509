/- A transaction: New, and whether it is over. -/
import Derived.Test.YtopjkidekbfalaaTxQ
namespace Go.Proofs.Ytopjkidekbfalaa
open Go.RowKit
set_option linter.unusedVariables false
set_option linter.unusedSimpArgs false

set_option maxRecDepth 100000 in
set_option maxHeartbeats 4000000 in
theorem new_ok (tx : Int) (h1 : 1 ≤ tx) (h2 : tx ≤ 1048576) (w : World) :
    Calls Try.prog 8 #[.int .i64 tx] w fun e w' => e = .returned (.tuple #[.agg (trc (newL tx) noSl), .nilIface]) ∧ Below w.heap.size w w' := by
  have d1 : decide (tx < 1) = false := by simp; omega
  have d2 : decide (1048576 < tx) = false := by simp; omega
  have Z1 := Lib.hid (show Blk (w.alloc (.cells zTr 30)) w.heap.size 30 (trc noTr noSl) from Blk.new w _ _)
  have B1 := Lib.hid (Joins.below_alloc1 w (.cells zTr 30))
  go_enter Try.func8, Try.ntmps8
  go_wp2_with (refine wpList_store_mid (by rfl) 30 (.tmp 2) (.tmp 13) (by rfl) w.heap.size 0 (trc (newL tx) noSl) (by rfl) (by rfl) (Z1.out.there (Nat.le_refl 13)) (tr_info _ _) (tr_one _ _ rfl rfl rfl rfl) ?_
               have Z2 := Lib.hid (Z1.out.put (trc (newL tx) noSl) rfl)
               have E2 := Lib.hid (Below.setCells (b := w.heap.size) (Nat.le_refl _) (trc (newL tx) noSl).toList 0 _ B1.out)
               generalize (w.alloc (.cells zTr 30)).setCells w.heap.size 0 (trc (newL tx) noSl).toList = W2 at Z2 E2 ⊢)
  exact bodyPost_ret (v := .tuple #[.agg (trc (newL tx) noSl), .nilIface]) (results_cell_and rfl rfl rfl (tr_load Z2.out)) rfl ⟨rfl, E2.out⟩
set_option maxRecDepth 100000 in
set_option maxHeartbeats 4000000 in
theorem new_bad (tx : Int) (h : tx < 1 ∨ 1048576 < tx) (w : World) :
    Calls Try.prog 8 #[.int .i64 tx] w fun e w' => e = .returned (.tuple #[.agg (trc noTr noSl), errno 1]) ∧ Below w.heap.size w w' := by
  have Z1 := Lib.hid (show Blk (w.alloc (.cells zTr 30)) w.heap.size 30 (trc noTr noSl) from Blk.new w _ _)
  have B1 := Lib.hid (Joins.below_alloc1 w (.cells zTr 30))
  by_cases h1 : tx < 1
  · have d1 : decide (tx < 1) = true := by simpa using h1
    clear h h1
    go_enter Try.func8, Try.ntmps8
    go_wp2_with (refine wpList_store_mid (by rfl) 30 (.tmp 2) (.tmp 10) (by rfl) w.heap.size 0 (trc noTr noSl) (by rfl) (by rfl) (Z1.out.there (Nat.le_refl 13)) (tr_info _ _) (tr_one _ _ rfl rfl rfl rfl) ?_
                 have Z2 := Lib.hid (Z1.out.put (trc noTr noSl) rfl)
                 have E2 := Lib.hid (Below.setCells (b := w.heap.size) (Nat.le_refl _) (trc noTr noSl).toList 0 _ B1.out)
                 generalize (w.alloc (.cells zTr 30)).setCells w.heap.size 0 (trc noTr noSl).toList = W2 at Z2 E2 ⊢)
    exact bodyPost_ret (v := .tuple #[.agg (trc noTr noSl), errno 1]) (results_cell_and rfl rfl rfl (tr_load Z2.out)) rfl ⟨rfl, E2.out⟩
  · have d1 : decide (tx < 1) = false := by simpa using h1
    have d2 : decide (1048576 < tx) = true := by simp; omega
    clear h h1
    go_enter Try.func8, Try.ntmps8
    go_wp2_with (refine wpList_store_mid (by rfl) 30 (.tmp 2) (.tmp 10) (by rfl) w.heap.size 0 (trc noTr noSl) (by rfl) (by rfl) (Z1.out.there (Nat.le_refl 13)) (tr_info _ _) (tr_one _ _ rfl rfl rfl rfl) ?_
                 have Z2 := Lib.hid (Z1.out.put (trc noTr noSl) rfl)
                 have E2 := Lib.hid (Below.setCells (b := w.heap.size) (Nat.le_refl _) (trc noTr noSl).toList 0 _ B1.out)
                 generalize (w.alloc (.cells zTr 30)).setCells w.heap.size 0 (trc noTr noSl).toList = W2 at Z2 E2 ⊢)
    exact bodyPost_ret (v := .tuple #[.agg (trc noTr noSl), errno 1]) (results_cell_and rfl rfl rfl (tr_load Z2.out)) rfl ⟨rfl, E2.out⟩

set_option maxRecDepth 100000 in
set_option maxHeartbeats 4000000 in
theorem over_any {B : Nat} (x : Tr) (s : Sl) (w : World) (h : Tm w B x s) (ht : Shs x.tch) (hk : Shs x.acks) :
    Calls Try.prog 13 #[.agg (trc x s)] w fun e w' => e = .returned (.bool (overB x)) ∧ Below w.heap.size w w' := by
  have XV := Lib.hid (Blk.new w 30 (trc x s))
  have BV := Lib.hid (Joins.below_alloc1 w (.cells (trc x s) 30))
  have TV := Lib.hid (h.step BV.out)
  have HT := Lib.hid ht
  have HK := Lib.hid hk
  obtain ⟨r, hr⟩ : ∃ r, overB x = r := ⟨_, rfl⟩
  rw [hr]
  unfold overB at hr
  obtain ⟨lw, hlw⟩ : ∃ lw, withoutL x.tch x.acks = lw := ⟨_, rfl⟩
  rw [hlw] at hr
  have HLW := Lib.hid hlw
  clear h ht hk hlw
  go_enter Try.func13, Try.ntmps13
  go_upto_region 1 with fail
  obtain ⟨g, hg⟩ : ∃ g, g = w.heap.size := ⟨_, rfl⟩
  rw [← hg] at XV ⊢
  clear hg
  generalize w.alloc (.cells (trc x s) 30) = WV at XV BV TV ⊢
  have c9 : WV.cell? ⟨g, 9, none⟩ = some s.t := XV.out.cell 9
  have c11 : WV.cell? ⟨g, 11, none⟩ = some s.k := XV.out.cell 11
  cases hd : decided x with
  | false =>
    have HD := Lib.hid hd
    obtain rfl : r = false := by rw [← hr, hd]; rfl
    clear hr hd
    go_wp2_with (first
      | (refine wpList_load_row rfl 30 (.tmp 1) rfl g rfl 30 (trc x s) (0, 0) _ XV.out Try.underlying30 rfl (tr_info _ _) ?_)
      | (go_at_call 10; refine (decided_b x s _ false HD.out).mono ?_; rintro e W2 ⟨rfl, hb2⟩; have B2 := Lib.hid (stepB BV.out hb2); clear hb2))
    go_ret
    exact ⟨rfl, B2.out⟩
  | true =>
    have HD := Lib.hid hd
    rw [hd, Bool.true_and] at hr
    clear hd
    have hr' : ((lw.length : Int) == 0) = r := by rw [← hr]; cases lw <;> simp <;> omega
    have hr2 : (lw.length == 0) = r := by rw [← hr]; cases lw <;> simp
    clear hr
    go_wp2_with (first
      | (refine wpList_load_row rfl 30 (.tmp 1) rfl g rfl 30 (trc x s) (0, 0) _ XV.out Try.underlying30 rfl (tr_info _ _) ?_)
      | (go_at_call 10; refine (decided_b x s _ true HD.out).mono ?_; rintro e W2 ⟨rfl, hb2⟩; have B2 := Lib.hid (stepB BV.out hb2); have T2 := Lib.hid (TV.out.step hb2); have k9 : W2.cell? ⟨g, 9, none⟩ = some s.t := (XV.out.here hb2).cell 9; have k11 : W2.cell? ⟨g, 11, none⟩ = some s.k := (XV.out.here hb2).cell 11; clear hb2 c9 c11)
      | (go_at_call 26; refine (without_l _ _ _ T2.out.t T2.out.k HT.out HK.out lw HLW.out).mono ?_; rintro e W3 ⟨z, rfl, hz, hb3⟩; obtain ⟨Az, cz, rfl⟩ := own_len hz; have B3 := Lib.hid (stepB B2.out hb3); clear hz hb3))
    go_ret
    exact ⟨rfl, B3.out⟩
end Go.Proofs.Ytopjkidekbfalaa
