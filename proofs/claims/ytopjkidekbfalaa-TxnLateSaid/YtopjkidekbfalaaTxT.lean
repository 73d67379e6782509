/- The document's example of a transaction. -/
import Derived.Test.YtopjkidekbfalaaTxS
namespace Go.Proofs.Ytopjkidekbfalaa
open Go.RowKit
set_option linter.unusedVariables false
set_option linter.unusedSimpArgs false

def ax0 : Tr := newL 5
def ax1 : Tr := ⟨5, 1, 0, 1, true, 2, 3, 1, 4, [2], [], [], []⟩
def ax2 : Tr := ⟨5, 1, 0, 1, false, 2, 3, 1, 4, [2], [], [], [[5, 1, 3, 1, 4]]⟩
def ax3 : Tr := ⟨5, 2, 0, 1, false, 2, 3, 1, 4, [2], [], [], [[5, 1, 3, 1, 4]]⟩
def ax4 : Tr := ⟨5, 3, 0, 1, false, 2, 3, 1, 4, [2], [2], [], [[5, 1, 3, 1, 4]]⟩
def ax5 : Tr := ⟨5, 3, 0, 1, false, 2, 3, 1, 4, [2], [2], [2], [[5, 1, 3, 1, 4]]⟩
def am2 : List Int := [2, 2, 0, 5, 1, 3, 1, 4, 0, 0, 0, 0, 0, 0, 0, 0, 0, 0, 0, 0, 0, 0, 0, 0, 0, 0, 0, 0]
def am5 : List Int := [5, 2, 0, 5, 0, 0, 0, 0, 1, 0, 0, 0, 0, 0, 0, 0, 0, 0, 0, 0, 0, 0, 0, 0, 0, 0, 0, 0]
def am7 : List Int := [7, 2, 0, 5, 0, 0, 0, 0, 0, 0, 0, 0, 0, 0, 0, 0, 0, 0, 0, 0, 0, 0, 0, 0, 0, 0, 0, 0]
def apm : List Int := [4, 0, 2, 5, 0, 0, 0, 0, 0, 0, 0, 0, 0, 0, 0, 0, 0, 0, 0, 0, 0, 0, 0, 0, 0, 0, 0, 0]
def adm : List Int := [6, 0, 2, 5, 0, 0, 0, 0, 1, 0, 0, 0, 0, 0, 0, 0, 0, 0, 0, 0, 0, 0, 0, 0, 0, 0, 0, 0]
theorem alock : lockL ax1 2 = [1, 0, 2, 5, 1, 3, 1, 4, 0, 0, 0, 0, 0, 0, 0, 0, 0, 0, 0, 0, 0, 0, 0, 0, 0, 0, 0, 0] := rfl
theorem astep1 : askL ax0 2 3 1 4 = (ax1, [lockL ax1 2], 0) := by kernel_rfl
theorem astep2 : ansL ax1 am2 = (ax2, [], 0) := by kernel_rfl
theorem astep3 : finL ax2 = (ax3, [apm], 0) := by kernel_rfl
theorem astep4 : votL ax3 am5 = (ax4, [adm], 0) := by kernel_rfl
theorem astep5 : ackL ax4 am7 = (ax5, [], 0) := by kernel_rfl
theorem aover : overB ax5 = true := by kernel_rfl
theorem two_ok : Shs [2] := ⟨by simp [Ris], fun n hn => by rw [List.mem_singleton.1 hn]; omega⟩
theorem got_ok : ∀ m ∈ [[(5 : Int), 1, 3, 1, 4]], m.length = 5 := fun m hm => by rw [List.mem_singleton.1 hm]; rfl
theorem as0 : Short ax0 := ⟨by show 0 ≤ 1000; omega, by show 0 ≤ 1000; omega, by show 0 ≤ 1000; omega, by show 0 ≤ 1000; omega, fun _ h => by cases h⟩
theorem as1 : Short ax1 := ⟨by show 1 ≤ 1000; omega, by show 0 ≤ 1000; omega, by show 0 ≤ 1000; omega, by show 0 ≤ 1000; omega, fun _ h => by cases h⟩
theorem as2 : Short ax2 := ⟨by show 1 ≤ 1000; omega, by show 0 ≤ 1000; omega, by show 0 ≤ 1000; omega, by show 1 ≤ 1000; omega, got_ok⟩
theorem as3 : Short ax3 := ⟨by show 1 ≤ 1000; omega, by show 0 ≤ 1000; omega, by show 0 ≤ 1000; omega, by show 1 ≤ 1000; omega, got_ok⟩
theorem as4 : Short ax4 := ⟨by show 1 ≤ 1000; omega, by show 1 ≤ 1000; omega, by show 0 ≤ 1000; omega, by show 1 ≤ 1000; omega, got_ok⟩
/-- A message in a row of one. -/
theorem one_msg {w : World} {B n c : Nat} {A : Option Addr} {m : List Int} (hm : m.length = 28) (h : MsgR w B (.slice A n c) [m]) : n = 1 ∧ ∃ r, A = some ⟨r, 0, none⟩ ∧ ∀ j v, (ints m)[j]? = some v → w.cell? ((⟨r, 0, none⟩ : Addr).add j) = some v := by
  obtain ⟨A', c', e1⟩ := own_len h
  injection e1 with e1 e2 e3
  simp only [List.length_cons, List.length_nil] at e2
  subst e2
  obtain ⟨r, cap, hv, _, _⟩ := World.ownsRow.form h (by simp)
  injection hv with hv _ _
  subst hv
  refine ⟨rfl, r, rfl, fun j v hj => ?_⟩
  rw [show (⟨r, 0, none⟩ : Addr).add j = ⟨r, j, none⟩ by unfold Addr.add; split <;> simp_all]
  exact own_cell h (by simpa using hj)

set_option maxRecDepth 100000 in
set_option maxHeartbeats 16000000 in
theorem txnAlive (w : World) : Calls Try.prog 7 #[] w fun e w' => e = .returned (.bool true) ∧ Below w.heap.size w w' := by
  have hen := fun W => run_eql_nil_nil (P := Try.prog) W 32 Try.underlying32
  have HIM := Lib.hid (fun (q : List Int) (hq : q.length = 28) => show (Try.prog.info? 42).map (·.size) = some (ints q).length from by have := mc_info hq; simpa [mc] using this)
  go_enter Try.func7, Try.ntmps7
  go_upto_region 2 with (first
    | (go_at_call 8; refine (new_ok 5 (by omega) (by omega) _).mono ?_; rintro e W1 ⟨rfl, hb⟩; have B1 := Lib.hid hb; clear hb)
    | (refine wpList_store_mid (by rfl) 30 (.tmp 1) (.tmp 14) (by rfl) W1.heap.size 0 (trc (newL 5) noSl) (by rfl) (by rfl) ((show Blk (W1.alloc (.cells zTr 30)) W1.heap.size 30 (trc noTr noSl) from Blk.new W1 _ _).there (Nat.le_refl 13)) (tr_info _ _) (tr_one _ _ rfl rfl rfl rfl) ?_
       have XV := Lib.hid (show Blk ((W1.alloc (.cells zTr 30)).setCells W1.heap.size 0 (trc (newL 5) noSl).toList) W1.heap.size 30 (trc ax0 noSl) from (show Blk (W1.alloc (.cells zTr 30)) W1.heap.size 30 (trc noTr noSl) from Blk.new W1 _ _).put _ rfl)
       have BV := Lib.hid (Below.setCells (b := W1.heap.size) (show w.heap.size ≤ W1.heap.size from B1.out.size) (trc (newL 5) noSl).toList 0 _ (stepA B1.out (.cells zTr 30)))
       have HG := Lib.hid B1.out.size
       generalize (W1.alloc (.cells zTr 30)).setCells W1.heap.size 0 (trc (newL 5) noSl).toList = WV at XV BV ⊢
       generalize W1.heap.size = g at XV HG ⊢))
  have hgl := XV.out.lt
  have XW := Lib.hid (XV.out.alloc (.cells #[.int .i64 3, .int .i64 1] 25))
  have RW := Lib.hid (Blk.new WV 25 #[.int .i64 3, .int .i64 1])
  have BW := Lib.hid (stepA BV.out (.cells #[.int .i64 3, .int .i64 1] 25))
  go_upto_region 3 with fail
  have HGR := Lib.hid (show g < WV.heap.size from hgl)
  have HGW := Lib.hid (show w.heap.size ≤ WV.heap.size from BV.out.size)
  clear XV BV hgl B1
  generalize WV.heap.size = r at RW HGR HGW ⊢
  generalize WV.alloc (.cells #[.int .i64 3, .int .i64 1] 25) = WV at XW RW BW ⊢
  have XV := XW
  have RV := RW
  have BV := BW
  have TV := Lib.hid (show Tm WV 0 ax0 noSl from Tm.new WV 0 5)
  clear XW RW BW
  have LG := Lib.hid (show g < WV.heap.size from XV.out.lt)
  have r0 : WV.cell? ⟨r, 0, none⟩ = some (.int .i64 3) := RV.out.cell 0
  have r1 : WV.cell? ⟨r, 1, none⟩ = some (.int .i64 1) := RV.out.cell 1
  have CO := Lib.hid (show Calls Try.prog 18 #[.agg (trc ax0 noSl), .int .i64 2, .agg #[.int .i64 3, .int .i64 1], .int .i64 4] WV (Post3 WV (ax1, [lockL ax1 2], 0)) from by rw [← astep1]; exact ask_any ax0 noSl 3 1 2 4 WV TV.out as0 Shs.nil (by show (0 : Int) ≤ 0; omega))
  go_upto_region 4 with (first
    | (refine wpList_load_row rfl 30 (.tmp 1) rfl g rfl 30 (trc ax0 noSl) (0, 0) _ XV.out Try.underlying30 rfl (tr_info _ _) ?_)
    | (go_at_call 18; refine CO.out.mono ?_; rintro e W2 ⟨s1, u0, rfl, ht2, hu2, hb2⟩; obtain ⟨A0, c0, rfl⟩ := own_len hu2; rw [errV_zero]; have T2 := Lib.hid ht2; have U2 := Lib.hid hu2; have E2 := Lib.hid hb2; clear ht2 hu2 hb2)
    | (refine wpList_store_mid (by rfl) 30 (.tmp 1) (.tmp 21) (by rfl) g 0 (trc ax1 s1) (by rfl) (by rfl) ((XV.out.here E2.out).there (Nat.le_refl 13)) (tr_info _ _) T2.out.one ?_
       have E3 := Lib.hid (show Turn (fun k => k = g) W2 (W2.setCells g 0 (trc ax1 s1).toList) from Turn.setCells (S := fun k => k = g) (fun _ => rfl) _ _ _ (Turn.refl _ _))
       have XQ := Lib.hid ((XV.out.here E2.out).put (trc ax1 s1) rfl)
       have hrl := RV.out.lt
       have RQ := Lib.hid ((RV.out.here E2.out).turn E3.out (by have := HGR.out; omega))
       have BQ := Lib.hid ((stepB BV.out E2.out).trans (E3.out.below (B := w.heap.size) (fun k hk e => by have := HG.out; omega) (Nat.le_trans BV.out.size E2.out.size)))
       have TQ := Lib.hid (T2.out.offB (XV.out.here E2.out) E3.out)
       have UA := Lib.hid (own_off U2.out E3.out (fun k hk _ e => by have := LG.out; omega))
       have UAL := Lib.hid LG.out
       clear hrl
       generalize W2.setCells g 0 (trc ax1 s1).toList = W3 at XQ RQ BQ TQ UA ⊢))
  clear XV RV BV TV CO T2 E2 E3 LG U2
  generalize W3 = WV at XQ RQ BQ TQ UA ⊢
  have XV := XQ
  have RV := RQ
  have BV := BQ
  have TV := TQ
  clear XQ RQ BQ TQ
  have LG := Lib.hid (show g < WV.heap.size from XV.out.lt)
  have r0 : WV.cell? ⟨r, 0, none⟩ = some (.int .i64 3) := RV.out.cell 0
  have r1 : WV.cell? ⟨r, 1, none⟩ = some (.int .i64 1) := RV.out.cell 1
  have CO := Lib.hid (show Calls Try.prog 19 #[.agg (trc ax1 s1), .agg #[.int .i64 2, .int .i64 2, .int .i64 0, .int .i64 5, .int .i64 1, .int .i64 3, .int .i64 1, .int .i64 4, .int .i64 0, .int .i64 0, .int .i64 0, .int .i64 0, .int .i64 0, .int .i64 0, .int .i64 0, .int .i64 0, .int .i64 0, .int .i64 0, .int .i64 0, .int .i64 0, .int .i64 0, .int .i64 0, .int .i64 0, .int .i64 0, .int .i64 0, .int .i64 0, .int .i64 0, .int .i64 0]] WV (Post2 WV (ax2, [], 0)) from by rw [← astep2]; exact answered_any ax1 s1 am2 WV TV.out as1 rfl)
  go_upto_region 5 with (first
    | (refine wpList_load_row rfl 30 (.tmp 1) rfl g rfl 30 (trc ax1 s1) (0, 0) _ XV.out Try.underlying30 rfl (tr_info _ _) ?_)
    | (go_at_call 19; refine CO.out.mono ?_; rintro e W2 ⟨s2, rfl, ht2, hb2⟩; rw [errV_zero]; have T2 := Lib.hid ht2; have E2 := Lib.hid hb2; clear ht2 hb2)
    | (refine wpList_store_mid (by rfl) 30 (.tmp 1) (.tmp 29) (by rfl) g 0 (trc ax2 s2) (by rfl) (by rfl) ((XV.out.here E2.out).there (Nat.le_refl 13)) (tr_info _ _) T2.out.one ?_
       have E3 := Lib.hid (show Turn (fun k => k = g) W2 (W2.setCells g 0 (trc ax2 s2).toList) from Turn.setCells (S := fun k => k = g) (fun _ => rfl) _ _ _ (Turn.refl _ _))
       have XQ := Lib.hid ((XV.out.here E2.out).put (trc ax2 s2) rfl)
       have hrl := RV.out.lt
       have RQ := Lib.hid ((RV.out.here E2.out).turn E3.out (by have := HGR.out; omega))
       have BQ := Lib.hid ((stepB BV.out E2.out).trans (E3.out.below (B := w.heap.size) (fun k hk e => by have := HG.out; omega) (Nat.le_trans BV.out.size E2.out.size)))
       have TQ := Lib.hid (T2.out.offB (XV.out.here E2.out) E3.out)
       have UA := Lib.hid (own_off (own_step UA.out E2.out) E3.out (fun k hk _ e => by have := UAL.out; omega))
       clear hrl
       generalize W2.setCells g 0 (trc ax2 s2).toList = W3 at XQ RQ BQ TQ UA ⊢))
  clear XV RV BV TV CO T2 E2 E3 LG
  generalize W3 = WV at XQ RQ BQ TQ UA ⊢
  have XV := XQ
  have RV := RQ
  have BV := BQ
  have TV := TQ
  clear XQ RQ BQ TQ
  have LG := Lib.hid (show g < WV.heap.size from XV.out.lt)
  have CO := Lib.hid (show Calls Try.prog 20 #[.agg (trc ax2 s2)] WV (Post3 WV (ax3, [apm], 0)) from by rw [← astep3]; exact finish_any ax2 s2 WV TV.out as2 two_ok Shs.nil)
  go_upto_region 6 with (first
    | (refine wpList_load_row rfl 30 (.tmp 1) rfl g rfl 30 (trc ax2 s2) (0, 0) _ XV.out Try.underlying30 rfl (tr_info _ _) ?_)
    | (go_at_call 20; refine CO.out.mono ?_; rintro e W2 ⟨s3, u2, rfl, ht2, hu2, hb2⟩; obtain ⟨A2, c2, rfl⟩ := own_len hu2; rw [errV_zero]; have T2 := Lib.hid ht2; have U2 := Lib.hid hu2; have E2 := Lib.hid hb2; clear ht2 hu2 hb2)
    | (refine wpList_store_mid (by rfl) 30 (.tmp 1) (.tmp 34) (by rfl) g 0 (trc ax3 s3) (by rfl) (by rfl) ((XV.out.here E2.out).there (Nat.le_refl 13)) (tr_info _ _) T2.out.one ?_
       have E3 := Lib.hid (show Turn (fun k => k = g) W2 (W2.setCells g 0 (trc ax3 s3).toList) from Turn.setCells (S := fun k => k = g) (fun _ => rfl) _ _ _ (Turn.refl _ _))
       have XQ := Lib.hid ((XV.out.here E2.out).put (trc ax3 s3) rfl)
       have hrl := RV.out.lt
       have RQ := Lib.hid ((RV.out.here E2.out).turn E3.out (by have := HGR.out; omega))
       have BQ := Lib.hid ((stepB BV.out E2.out).trans (E3.out.below (B := w.heap.size) (fun k hk e => by have := HG.out; omega) (Nat.le_trans BV.out.size E2.out.size)))
       have TQ := Lib.hid (T2.out.offB (XV.out.here E2.out) E3.out)
       have UA := Lib.hid (own_off (own_step UA.out E2.out) E3.out (fun k hk _ e => by have := UAL.out; omega))
       have UB := Lib.hid (own_off U2.out E3.out (fun k hk _ e => by have := LG.out; omega))
       have UBL := Lib.hid LG.out
       clear hrl
       generalize W2.setCells g 0 (trc ax3 s3).toList = W3 at XQ RQ BQ TQ UA UB ⊢))
  clear XV RV BV TV CO T2 E2 E3 LG U2
  generalize W3 = WV at XQ RQ BQ TQ UA UB ⊢
  have XV := XQ
  have RV := RQ
  have BV := BQ
  have TV := TQ
  clear XQ RQ BQ TQ
  have LG := Lib.hid (show g < WV.heap.size from XV.out.lt)
  have CO := Lib.hid (show Calls Try.prog 21 #[.agg (trc ax3 s3), .agg #[.int .i64 5, .int .i64 2, .int .i64 0, .int .i64 5, .int .i64 0, .int .i64 0, .int .i64 0, .int .i64 0, .int .i64 1, .int .i64 0, .int .i64 0, .int .i64 0, .int .i64 0, .int .i64 0, .int .i64 0, .int .i64 0, .int .i64 0, .int .i64 0, .int .i64 0, .int .i64 0, .int .i64 0, .int .i64 0, .int .i64 0, .int .i64 0, .int .i64 0, .int .i64 0, .int .i64 0, .int .i64 0]] WV (Post3 WV (ax4, [adm], 0)) from by rw [← astep4]; exact vote_any ax3 s3 am5 WV TV.out as3 rfl two_ok Shs.nil)
  go_upto_region 7 with (first
    | (refine wpList_load_row rfl 30 (.tmp 1) rfl g rfl 30 (trc ax3 s3) (0, 0) _ XV.out Try.underlying30 rfl (tr_info _ _) ?_)
    | (go_at_call 21; refine CO.out.mono ?_; rintro e W2 ⟨s4, u3, rfl, ht2, hu2, hb2⟩; obtain ⟨A3, c3, rfl⟩ := own_len hu2; rw [errV_zero]; have T2 := Lib.hid ht2; have U2 := Lib.hid hu2; have E2 := Lib.hid hb2; clear ht2 hu2 hb2)
    | (refine wpList_store_mid (by rfl) 30 (.tmp 1) (.tmp 41) (by rfl) g 0 (trc ax4 s4) (by rfl) (by rfl) ((XV.out.here E2.out).there (Nat.le_refl 13)) (tr_info _ _) T2.out.one ?_
       have E3 := Lib.hid (show Turn (fun k => k = g) W2 (W2.setCells g 0 (trc ax4 s4).toList) from Turn.setCells (S := fun k => k = g) (fun _ => rfl) _ _ _ (Turn.refl _ _))
       have XQ := Lib.hid ((XV.out.here E2.out).put (trc ax4 s4) rfl)
       have hrl := RV.out.lt
       have RQ := Lib.hid ((RV.out.here E2.out).turn E3.out (by have := HGR.out; omega))
       have BQ := Lib.hid ((stepB BV.out E2.out).trans (E3.out.below (B := w.heap.size) (fun k hk e => by have := HG.out; omega) (Nat.le_trans BV.out.size E2.out.size)))
       have TQ := Lib.hid (T2.out.offB (XV.out.here E2.out) E3.out)
       have UA := Lib.hid (own_off (own_step UA.out E2.out) E3.out (fun k hk _ e => by have := UAL.out; omega))
       have UB := Lib.hid (own_off (own_step UB.out E2.out) E3.out (fun k hk _ e => by have := UBL.out; omega))
       have UC := Lib.hid (own_off U2.out E3.out (fun k hk _ e => by have := LG.out; omega))
       have UCL := Lib.hid LG.out
       clear hrl
       generalize W2.setCells g 0 (trc ax4 s4).toList = W3 at XQ RQ BQ TQ UA UB UC ⊢))
  clear XV RV BV TV CO T2 E2 E3 LG U2
  generalize W3 = WV at XQ RQ BQ TQ UA UB UC ⊢
  have XV := XQ
  have RV := RQ
  have BV := BQ
  have TV := TQ
  clear XQ RQ BQ TQ
  have LG := Lib.hid (show g < WV.heap.size from XV.out.lt)
  have CO := Lib.hid (show Calls Try.prog 22 #[.agg (trc ax4 s4), .agg #[.int .i64 7, .int .i64 2, .int .i64 0, .int .i64 5, .int .i64 0, .int .i64 0, .int .i64 0, .int .i64 0, .int .i64 0, .int .i64 0, .int .i64 0, .int .i64 0, .int .i64 0, .int .i64 0, .int .i64 0, .int .i64 0, .int .i64 0, .int .i64 0, .int .i64 0, .int .i64 0, .int .i64 0, .int .i64 0, .int .i64 0, .int .i64 0, .int .i64 0, .int .i64 0, .int .i64 0, .int .i64 0]] WV (Post2 WV (ax5, [], 0)) from by rw [← astep5]; exact ack_any ax4 s4 am7 WV TV.out as4 rfl Shs.nil)
  go_upto_region 8 with (first
    | (refine wpList_load_row rfl 30 (.tmp 1) rfl g rfl 30 (trc ax4 s4) (0, 0) _ XV.out Try.underlying30 rfl (tr_info _ _) ?_)
    | (go_at_call 22; refine CO.out.mono ?_; rintro e W2 ⟨s5, rfl, ht2, hb2⟩; rw [errV_zero]; have T2 := Lib.hid ht2; have E2 := Lib.hid hb2; clear ht2 hb2)
    | (refine wpList_store_mid (by rfl) 30 (.tmp 1) (.tmp 48) (by rfl) g 0 (trc ax5 s5) (by rfl) (by rfl) ((XV.out.here E2.out).there (Nat.le_refl 13)) (tr_info _ _) T2.out.one ?_
       have E3 := Lib.hid (show Turn (fun k => k = g) W2 (W2.setCells g 0 (trc ax5 s5).toList) from Turn.setCells (S := fun k => k = g) (fun _ => rfl) _ _ _ (Turn.refl _ _))
       have XQ := Lib.hid ((XV.out.here E2.out).put (trc ax5 s5) rfl)
       have hrl := RV.out.lt
       have RQ := Lib.hid ((RV.out.here E2.out).turn E3.out (by have := HGR.out; omega))
       have BQ := Lib.hid ((stepB BV.out E2.out).trans (E3.out.below (B := w.heap.size) (fun k hk e => by have := HG.out; omega) (Nat.le_trans BV.out.size E2.out.size)))
       have TQ := Lib.hid (T2.out.offB (XV.out.here E2.out) E3.out)
       have UA := Lib.hid (own_off (own_step UA.out E2.out) E3.out (fun k hk _ e => by have := UAL.out; omega))
       have UB := Lib.hid (own_off (own_step UB.out E2.out) E3.out (fun k hk _ e => by have := UBL.out; omega))
       have UC := Lib.hid (own_off (own_step UC.out E2.out) E3.out (fun k hk _ e => by have := UCL.out; omega))
       clear hrl
       generalize W2.setCells g 0 (trc ax5 s5).toList = W3 at XQ RQ BQ TQ UA UB UC ⊢))
  clear XV RV BV TV CO T2 E2 E3 LG
  generalize W3 = WV at XQ RQ BQ TQ UA UB UC ⊢
  have XV := XQ
  have RV := RQ
  have BV := BQ
  have TV := TQ
  clear XQ RQ BQ TQ
  obtain ⟨eA, rA, rfl, CA⟩ := one_msg rfl UA.out
  obtain ⟨eB, rB, rfl, CB⟩ := one_msg (show apm.length = 28 from rfl) UB.out
  obtain ⟨eC, rC, rfl, CC⟩ := one_msg (show adm.length = 28 from rfl) UC.out

  clear eA eB eC UA UB UC UAL UBL UCL
  have HCB := Lib.hid CB
  have HCC := Lib.hid CC
  have EB := fun W => eql_msg (a := apm) (b := apm) rfl rfl W
  have EC := fun W => eql_msg (a := adm) (b := adm) rfl rfl W
  rw [decide_eq_true rfl] at EB EC
  have EB : ∀ W, (binOp .eql 42 (.agg (ints apm).toArray) (.agg #[.int .i64 4, .int .i64 0, .int .i64 2, .int .i64 5, .int .i64 0, .int .i64 0, .int .i64 0, .int .i64 0, .int .i64 0, .int .i64 0, .int .i64 0, .int .i64 0, .int .i64 0, .int .i64 0, .int .i64 0, .int .i64 0, .int .i64 0, .int .i64 0, .int .i64 0, .int .i64 0, .int .i64 0, .int .i64 0, .int .i64 0, .int .i64 0, .int .i64 0, .int .i64 0, .int .i64 0, .int .i64 0])).run Try.prog W = .ok (.bool true) W := EB
  have EC : ∀ W, (binOp .eql 42 (.agg (ints adm).toArray) (.agg #[.int .i64 6, .int .i64 0, .int .i64 2, .int .i64 5, .int .i64 0, .int .i64 0, .int .i64 0, .int .i64 0, .int .i64 1, .int .i64 0, .int .i64 0, .int .i64 0, .int .i64 0, .int .i64 0, .int .i64 0, .int .i64 0, .int .i64 0, .int .i64 0, .int .i64 0, .int .i64 0, .int .i64 0, .int .i64 0, .int .i64 0, .int .i64 0, .int .i64 0, .int .i64 0, .int .i64 0, .int .i64 0])).run Try.prog W = .ok (.bool true) W := EC
  clear CA CB CC
  have c1 : WV.cell? ⟨g, 1, none⟩ = some (.int .i64 3) := XV.out.cell 1
  have TKB := Lib.hid True.intro
  have TKC := Lib.hid True.intro
  go_wp2_with (first
    | (have _t := TKB; refine wpList_load_cells_g (by rfl) 42 (.tmp 84) rfl ⟨rB, 0, none⟩ rfl (ints apm) _ HCB.out Try.underlying42 rfl (HIM.out apm rfl) ?_; clear _t TKB)
    | (have _t := TKC; refine wpList_load_cells_g (by rfl) 42 (.tmp 96) rfl ⟨rC, 0, none⟩ rfl (ints adm) _ HCC.out Try.underlying42 rfl (HIM.out adm rfl) ?_; clear _t TKC)
    | (refine wpList_load_row_g (by rfl) 30 (.tmp 1) rfl g rfl 30 (trc ax5 s5) (0, 0) _ XV.out Try.underlying30 rfl (tr_info _ _) ?_)
    | (go_at_call 13; refine (over_any ax5 s5 _ TV.out two_ok two_ok).mono ?_; rintro e W9 ⟨rfl, hb9⟩; rw [aover]; have B9 := Lib.hid (stepB BV.out hb9); clear hb9))
  go_ret
  exact ⟨rfl, B9.out⟩
end Go.Proofs.Ytopjkidekbfalaa
