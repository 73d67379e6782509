/- Probes: plain data. -/
import Derived.Test.YtadnlannbafjpaaGreatQMsgA
import Derived.Test.YtadnlannbafjpaaGreatQBase
import Derived.Test.YtadnlannbafjpaaGreatQTxM
namespace Go.Proofs.YtadnlannbafjpaaGreat
open Go.RowKit
set_option linter.unusedVariables false
set_option linter.unusedSimpArgs false
def isP (m : List Int) : Bool := mayB m && decide (fld m 0 = 11)
theorem isP_kind {m : List Int} (h : isP m = true) : fld m 0 = 11 := by unfold isP at h; simp at h; exact h.2
theorem isP_N {m : List Int} (h : isP m = true) : 1 ≤ fld m 11 ∧ fld m 11 ≤ 8 := by
 have hk := isP_kind h
 unfold isP mayB at h
 simp only [Bool.and_eq_true] at h
 have h2 := h.1.2.2.2.2.2.2.2.2.1
 rw [hk] at h2
 have h3 := inS_iff.1 h2
 simpa [sN] using h3
def backL (m : List Int) : Bool := isP m && (decide (fld m 9 = stTx m 0) && (decide (fld m 10 = 0) || decide (fld m 10 = stSeq m 0)))
def vicL (m : List Int) : Nat → Int
 | 0 => stTx m 0
 | k + 1 => if vicL m k < stTx m k then stTx m k else vicL m k
def liveL (m : List Int) (os : List (List Int)) : Bool := isP m && (List.range (fld m 11).toNat).all fun i => decide ([stTx m i, stSeq m i] ∈ os)
theorem eql_step (a b a' b' : Int) (w : World) : (binOp .eql 42 (.agg #[.int .i64 a, .int .i64 b]) (.agg #[.int .i64 a', .int .i64 b'])).run Tryz.prog w = .ok (.bool (decide (a = a' ∧ b = b'))) w := eql_two flat_step (by omega) a b a' b' w
theorem info_step2 : (Tryz.prog.info? 42).map (·.size) = some 2 := by kernel_rfl
theorem exec_loadP {P : Program} {a : Act} {o : Oper} {w : World} {ty : TypeId} {x : Operand} {v : Value} (ho : o.op = .load ty x) {ad : Addr} (hx : a.eval x = .pointer (some ad)) (hL : (loadVar ty ad).run P w = .ok v w) : (execOp a.eval o).run P w = .ok (.value v) w := by
 unfold execOp
 simp only [ho, hx, Instr.loadAt, Instr.sureAddr, Sem.run_bind, Sem.run_pure, Result.andThen_ok, hL]
theorem cells_2 {X : World} {b o : Nat} {x y : Int} (h0 : X.cell? ⟨b, o, none⟩ = some (.int .i64 x)) (h1 : X.cell? ⟨b, o + 1, none⟩ = some (.int .i64 y)) : ∀ j v, [Value.int .i64 x, .int .i64 y][j]? = some v → X.cell? ((⟨b, o, none⟩ : Addr).add j) = some v := by
 intro j v hj
 have h2 : (⟨b, o, none⟩ : Addr).add j = ⟨b, o + j, none⟩ := by unfold Addr.add; split <;> simp_all
 rw [h2]
 rcases j with _ | _ | j
 · simp at hj; subst hj; exact h0
 · simp at hj; subst hj; exact h1
 · simp at hj
theorem load_step {w : World} {b o : Nat} {x y : Int} (h0 : w.cell? ⟨b, o, none⟩ = some (.int .i64 x)) (h1 : w.cell? ⟨b, o + 1, none⟩ = some (.int .i64 y)) : (loadVar 42 ⟨b, o, none⟩).run Tryz.prog w = .ok (.agg #[.int .i64 x, .int .i64 y]) w :=
 run_loadVar_cells w _ _ [.int .i64 x, .int .i64 y] _ (cells_2 h0 h1) Tryz.underlying42 rfl info_step2
theorem two_of {l : List Int} (h : l.length = 2) : l = [fld l 0, fld l 1] := by
 match l, h with
 | [a, b], _ => rfl
set_option maxRecDepth 100000 in
set_option maxHeartbeats 8000000 in
theorem isProbe_any (m : List Int) (hl : m.length = 28) (b : Bool) (hb : isP m = b) (w : World) :
   Calls Tryz.prog 137 #[.agg (mc m)] w fun e w' => e = .returned (.bool b) ∧ Below w.heap.size w w' := by
 have HL := Lib.hid hl
 have HI := Lib.hid (mc_info hl)
 have M1 := Lib.hid (show Blk (w.alloc (.cells (mc m) 45)) w.heap.size 45 (mc m) from Blk.new w _ _)
 have B1 := Lib.hid (Joins.below_alloc1 w (.cells (mc m) 45))
 have hen := fun W => run_eql_nil_nil (P := Tryz.prog) W 28 Tryz.underlying28
 have heh := fun W => run_eql_held_nil (P := Tryz.prog) W 28 81 (.int .i64 5) Tryz.underlying28
 have HB := Lib.hid hb
 by_cases hk : fld m 0 = 11
 · have HM := Lib.hid (show mayB m = b from by have := HB.out; unfold isP at this; rwa [decide_eq_true hk, Bool.and_true] at this)
   have HK := Lib.hid hk
   clear hb hl hk HB
   cases b
   all_goals
     go_enter Tryz.func137, Tryz.ntmps137
     go_upto_region 1 with fail
     generalize w.heap.size = g at M1 ⊢
     generalize w.alloc (.cells (mc m) 45) = V at M1 B1 ⊢
     have m0 : V.cell? ⟨g, 0, none⟩ = some (.int .i64 11) := by rw [← HK.out]; exact mc_cell HL.out M1.out (i := 0) (by omega)
     go_wp2_with (first
       | (refine wpList_load_row_g (by rfl) 45 (.tmp 1) rfl g rfl 45 (mc m) (0, 0) _ M1.out Tryz.underlying45 rfl HI.out ?_)
       | (go_at_call 58; refine (msgOk_any m HL.out _).mono ?_; rintro e V2 ⟨rfl, hb⟩; rw [HM.out]; have B2 := Lib.hid (stepB B1.out hb); clear hb; first | rw [if_pos rfl] | rw [if_neg (by simp)]))
     go_ret
     exact ⟨rfl, B2.out⟩
 · obtain rfl : b = false := by rw [← hb]; unfold isP; rw [decide_eq_false hk, Bool.and_false]
   have d1 : (fld m 0 == 11) = false := by simpa using hk
   clear hb hl hk HB
   go_enter Tryz.func137, Tryz.ntmps137
   go_upto_region 1 with fail
   generalize w.heap.size = g at M1 ⊢
   generalize w.alloc (.cells (mc m) 45) = V at M1 B1 ⊢
   have m0 : V.cell? ⟨g, 0, none⟩ = some (.int .i64 (fld m 0)) := mc_cell HL.out M1.out (i := 0) (by omega)
   generalize fld m 0 = k at m0 d1
   go_wp2_with fail
   go_ret
   exact ⟨rfl, B1.out⟩
set_option maxRecDepth 100000 in
set_option maxHeartbeats 8000000 in
theorem back_any (m : List Int) (hl : m.length = 28) (b : Bool) (hb : backL m = b) (w : World) :
   Calls Tryz.prog 101 #[.agg (mc m)] w fun e w' => e = .returned (.bool b) ∧ Below w.heap.size w w' := by
 have HL := Lib.hid hl
 have HI := Lib.hid (mc_info hl)
 have M1 := Lib.hid (show Blk (w.alloc (.cells (mc m) 45)) w.heap.size 45 (mc m) from Blk.new w _ _)
 have B1 := Lib.hid (Joins.below_alloc1 w (.cells (mc m) 45))
 obtain ⟨p, hp⟩ : ∃ p, isP m = p := ⟨_, rfl⟩
 have HP := Lib.hid hp
 have HB : Hid (b = (p && (decide (fld m 9 = fld m 12) && (decide (fld m 10 = 0) || decide (fld m 10 = fld m 13))))) := Lib.hid (by rw [← hb, ← hp]; rfl)
 have TOK := Lib.hid True.intro
 clear hp hb
 go_enter Tryz.func101, Tryz.ntmps101
 go_upto_region 1 with fail
 generalize w.heap.size = g at M1 ⊢
 generalize w.alloc (.cells (mc m) 45) = V at M1 B1 ⊢
 have C9 := Lib.hid (fun (Y : World) (h : Blk Y g 45 (mc m)) => mc_cell HL.out h (i := 9) (by omega))
 have C10 := Lib.hid (fun (Y : World) (h : Blk Y g 45 (mc m)) => mc_cell HL.out h (i := 10) (by omega))
 have m12 := mc_cell HL.out M1.out (i := 12) (by omega)
 have m13 := mc_cell HL.out M1.out (i := 13) (by omega)
 generalize fld m 9 = x9 at HB C9
 generalize fld m 10 = x10 at HB C10
 generalize fld m 12 = x12 at HB m12
 generalize fld m 13 = x13 at HB m13
 go_upto_region 2 with fail
 have Z2 := Lib.hid (show Blk (V.alloc (.cells #[.int .i64 x12, .int .i64 x13] 42)) V.heap.size 42 #[.int .i64 x12, .int .i64 x13] from Blk.new _ _ _)
 have M2 := Lib.hid (M1.out.alloc (.cells #[.int .i64 x12, .int .i64 x13] 42))
 have B2 := Lib.hid (stepA B1.out (.cells #[.int .i64 x12, .int .i64 x13] 42))
 clear m12 m13 M1 B1
 generalize V.heap.size = z at Z2 ⊢
 generalize V.alloc (.cells #[.int .i64 x12, .int .i64 x13] 42) = V2 at Z2 M2 B2 ⊢
 cases p with
 | false =>
   obtain rfl : b = false := HB.out
   clear HB
   go_wp2_with (first
     | (have _t := TOK; refine wpList_load_row_g (by rfl) 45 (.tmp 1) rfl g rfl 45 (mc m) (0, 0) _ M2.out Tryz.underlying45 rfl HI.out ?_; clear _t TOK)
     | (go_at_call 137; refine (isProbe_any m HL.out false HP.out _).mono ?_; rintro e V3 ⟨rfl, hb⟩; have B3 := Lib.hid (stepB B2.out hb); clear hb))
   go_ret
   exact ⟨rfl, B3.out⟩
 | true =>
   have HBB : Hid (b = (decide (x9 = x12) && (decide (x10 = 0) || decide (x10 = x13)))) := Lib.hid (by rw [HB.out, Bool.true_and])
   clear HB
   by_cases h1 : x9 = x12
   · have BB1 : Hid (b = (decide (x10 = 0) || decide (x10 = x13))) := Lib.hid (by rw [HBB.out, decide_eq_true h1, Bool.true_and])
     clear HBB
     by_cases h2 : x10 = 0
     · obtain rfl : b = true := by rw [BB1.out, decide_eq_true h2, Bool.true_or]
       subst h1
       subst h2
       clear BB1
       go_wp2_with (first
         | (have _t := TOK; refine wpList_load_row_g (by rfl) 45 (.tmp 1) rfl g rfl 45 (mc m) (0, 0) _ M2.out Tryz.underlying45 rfl HI.out ?_; clear _t TOK)
         | (go_at_call 137
            refine (isProbe_any m HL.out true HP.out _).mono ?_
            rintro e V3 ⟨rfl, hb⟩
            have B3 := Lib.hid (stepB B2.out hb)
            have m9 := C9.out V3 (M2.out.here hb)
            have m10 := C10.out V3 (M2.out.here hb)
            have s0 := (Z2.out.here hb).cell 0
            have s1 := (Z2.out.here hb).cell 1
            simp only [List.getElem?_toArray, List.getElem?_cons_zero, List.getElem?_cons_succ] at s0 s1
            clear hb))
       go_ret
       exact ⟨rfl, B3.out⟩
     · have d2 : (x10 == 0) = false := by simpa using h2
       have BB2 : Hid (b = decide (x10 = x13)) := Lib.hid (by rw [BB1.out, decide_eq_false h2, Bool.false_or])
       subst h1
       clear BB1 h2
       by_cases h3 : x10 = x13
       · obtain rfl : b = true := by rw [BB2.out, decide_eq_true h3]
         subst h3
         clear BB2
         go_wp2_with (first
           | (have _t := TOK; refine wpList_load_row_g (by rfl) 45 (.tmp 1) rfl g rfl 45 (mc m) (0, 0) _ M2.out Tryz.underlying45 rfl HI.out ?_; clear _t TOK)
           | (go_at_call 137
              refine (isProbe_any m HL.out true HP.out _).mono ?_
              rintro e V3 ⟨rfl, hb⟩
              have B3 := Lib.hid (stepB B2.out hb)
              have m9 := C9.out V3 (M2.out.here hb)
              have m10 := C10.out V3 (M2.out.here hb)
              have s0 := (Z2.out.here hb).cell 0
              have s1 := (Z2.out.here hb).cell 1
              simp only [List.getElem?_toArray, List.getElem?_cons_zero, List.getElem?_cons_succ] at s0 s1
              clear hb))
         go_ret
         exact ⟨rfl, B3.out⟩
       · obtain rfl : b = false := by rw [BB2.out, decide_eq_false h3]
         have d3 : (x10 == x13) = false := by simpa using h3
         clear BB2 h3
         go_wp2_with (first
           | (have _t := TOK; refine wpList_load_row_g (by rfl) 45 (.tmp 1) rfl g rfl 45 (mc m) (0, 0) _ M2.out Tryz.underlying45 rfl HI.out ?_; clear _t TOK)
           | (go_at_call 137
              refine (isProbe_any m HL.out true HP.out _).mono ?_
              rintro e V3 ⟨rfl, hb⟩
              have B3 := Lib.hid (stepB B2.out hb)
              have m9 := C9.out V3 (M2.out.here hb)
              have m10 := C10.out V3 (M2.out.here hb)
              have s0 := (Z2.out.here hb).cell 0
              have s1 := (Z2.out.here hb).cell 1
              simp only [List.getElem?_toArray, List.getElem?_cons_zero, List.getElem?_cons_succ] at s0 s1
              clear hb))
         go_ret
         exact ⟨rfl, B3.out⟩
   · obtain rfl : b = false := by rw [HBB.out, decide_eq_false h1]; rfl
     have d1 : (x9 == x12) = false := by simpa using h1
     clear h1 HBB
     go_wp2_with (first
       | (have _t := TOK; refine wpList_load_row_g (by rfl) 45 (.tmp 1) rfl g rfl 45 (mc m) (0, 0) _ M2.out Tryz.underlying45 rfl HI.out ?_; clear _t TOK)
       | (go_at_call 137
          refine (isProbe_any m HL.out true HP.out _).mono ?_
          rintro e V3 ⟨rfl, hb⟩
          have B3 := Lib.hid (stepB B2.out hb)
          have m9 := C9.out V3 (M2.out.here hb)
          have m10 := C10.out V3 (M2.out.here hb)
          have s0 := (Z2.out.here hb).cell 0
          have s1 := (Z2.out.here hb).cell 1
          simp only [List.getElem?_toArray, List.getElem?_cons_zero, List.getElem?_cons_succ] at s0 s1
          clear hb))
     go_ret
     exact ⟨rfl, B3.out⟩
def onwL (sh : Int) (m : List Int) : List Int := (m.set 1 0).set 2 sh
theorem onwL_len {sh : Int} {m : List Int} (h : m.length = 28) : (onwL sh m).length = 28 := by simp [onwL, h]
set_option maxRecDepth 100000 in
set_option maxHeartbeats 900000 in
theorem sent_ok  (m : List Int) (hl : m.length = 28) (hp : isP m = true) (w : World) :
   Calls Tryz.prog 142 #[.agg (mc m)] w fun e w' => e = .returned (.tuple #[.agg (mc m), .nilIface]) ∧ Below w.heap.size w w' := by
 have HL := Lib.hid hl
 have HI := Lib.hid (mc_info hl)
 have HIZ := Lib.hid (mc_info zM_length)
 have BU := Lib.hid (ints_oneCell m)
 have BZ := Lib.hid (ints_oneCell zM)
 have HP := Lib.hid hp
 have TOK := Lib.hid True.intro
 have M1 := Lib.hid ((Blk.new w 45 (mc m)).alloc (.cells zMs 45))
 have Z1 := Lib.hid (show Blk ((w.alloc (.cells (mc m) 45)).alloc (.cells zMs 45)) (w.heap.size + 1) 45 (mc zM) from Blk.new_at (by simp) _ _)
 have B1 := Lib.hid ((Joins.below_alloc1 w (.cells (mc m) 45)).alloc (by simp) (.cells zMs 45))
 clear hl hp
 go_enter Tryz.func142, Tryz.ntmps142
 go_upto_region 1 with fail
 obtain ⟨g, hg⟩ : ∃ g, g = w.heap.size := ⟨_, rfl⟩
 have HG := Lib.hid hg
 rw [← hg] at M1 Z1 ⊢
 clear hg
 generalize (w.alloc (.cells (mc m) 45)).alloc (.cells zMs 45) = V at M1 Z1 B1 ⊢
 have TOK2 := Lib.hid True.intro
 go_wp2_with (first
   | (have _t := TOK; refine wpList_load_row_g (by rfl) 45 (.tmp 1) rfl g rfl 45 (mc m) (0, 0) _ M1.out Tryz.underlying45 rfl HI.out ?_; clear _t TOK)
   | (go_at_call 137; refine (isProbe_any m HL.out true HP.out _).mono ?_; rintro e V2 ⟨rfl, hb⟩; have B2 := Lib.hid (stepB B1.out hb); have M2 := Lib.hid (M1.out.here hb); have Z2 := Lib.hid (Z1.out.here hb); clear hb)
   | (have _t := TOK2; refine wpList_load_row_g (by rfl) 45 (.tmp 1) rfl g rfl 45 (mc m) (0, 0) _ M2.out Tryz.underlying45 rfl HI.out ?_; clear _t TOK2)
   | (refine wpList_store_mid (by rfl) 45 (.tmp 2) (.tmp 9) (by rfl) (g + 1) 0 (mc m) (by rfl) (by rfl) (mc_there zM_length HL.out Z2.out) HI.out BU.out ?_
      have Z9 := Lib.hid (mc_put zM_length HL.out Z2.out)
      have E9 := Lib.hid (show Below w.heap.size w (V2.setCells (g + 1) 0 (mc m).toList) from Below.setCells (by have := HG.out; omega) _ _ _ B2.out)
      generalize V2.setCells (g + 1) 0 (mc m).toList = V9 at Z9 E9 ⊢))
 exact bodyPost_ret (v := .tuple #[.agg (mc m), .nilIface]) (results_cell_and rfl rfl rfl (results_msg HL.out Z9.out)) rfl ⟨rfl, E9.out⟩
set_option maxRecDepth 100000 in
set_option maxHeartbeats 900000 in
theorem sent_err  (m : List Int) (hl : m.length = 28) (hp : isP m = false) (w : World) :
   Calls Tryz.prog 142 #[.agg (mc m)] w fun e w' => e = .returned (.tuple #[.agg (mc zM), errno 1]) ∧ Below w.heap.size w w' := by
 have HL := Lib.hid hl
 have HI := Lib.hid (mc_info hl)
 have HIZ := Lib.hid (mc_info zM_length)
 have BU := Lib.hid (ints_oneCell m)
 have BZ := Lib.hid (ints_oneCell zM)
 have HP := Lib.hid hp
 have TOK := Lib.hid True.intro
 have M1 := Lib.hid ((Blk.new w 45 (mc m)).alloc (.cells zMs 45))
 have Z1 := Lib.hid (show Blk ((w.alloc (.cells (mc m) 45)).alloc (.cells zMs 45)) (w.heap.size + 1) 45 (mc zM) from Blk.new_at (by simp) _ _)
 have B1 := Lib.hid ((Joins.below_alloc1 w (.cells (mc m) 45)).alloc (by simp) (.cells zMs 45))
 clear hl hp
 go_enter Tryz.func142, Tryz.ntmps142
 go_upto_region 1 with fail
 obtain ⟨g, hg⟩ : ∃ g, g = w.heap.size := ⟨_, rfl⟩
 have HG := Lib.hid hg
 rw [← hg] at M1 Z1 ⊢
 clear hg
 generalize (w.alloc (.cells (mc m) 45)).alloc (.cells zMs 45) = V at M1 Z1 B1 ⊢
 go_wp2_with (first
   | (have _t := TOK; refine wpList_load_row_g (by rfl) 45 (.tmp 1) rfl g rfl 45 (mc m) (0, 0) _ M1.out Tryz.underlying45 rfl HI.out ?_; clear _t TOK)
   | (go_at_call 137; refine (isProbe_any m HL.out false HP.out _).mono ?_; rintro e V2 ⟨rfl, hb⟩; have B2 := Lib.hid (stepB B1.out hb); have M2 := Lib.hid (M1.out.here hb); have Z2 := Lib.hid (Z1.out.here hb); clear hb)
   | (refine wpList_store_mid (by rfl) 45 (.tmp 2) (.tmp 7) (by rfl) (g + 1) 0 (mc zM) (by rfl) (by rfl) (mc_there zM_length zM_length Z2.out) HIZ.out BZ.out ?_
      have Z9 := Lib.hid (mc_put zM_length zM_length Z2.out)
      have E9 := Lib.hid (show Below w.heap.size w (V2.setCells (g + 1) 0 (mc zM).toList) from Below.setCells (by have := HG.out; omega) _ _ _ B2.out)
      generalize V2.setCells (g + 1) 0 (mc zM).toList = V9 at Z9 E9 ⊢))
 exact bodyPost_ret (v := .tuple #[.agg (mc zM), errno 1]) (results_cell_and rfl rfl rfl (results_msg zM_length Z9.out)) rfl ⟨rfl, E9.out⟩
set_option maxRecDepth 100000 in
set_option maxHeartbeats 900000 in
theorem onward_ok (sh : Int) (m : List Int) (hl : m.length = 28) (hp : isP m = true) (w : World) (q : List Int) (hq : onwL sh m = q) (hp2 : isP q = true) :
   Calls Tryz.prog 103 #[.int .i64 sh, .agg (mc m)] w fun e w' => e = .returned (.tuple #[.agg (mc q), .nilIface]) ∧ Below w.heap.size w w' := by
 have HL := Lib.hid hl
 have HI := Lib.hid (mc_info hl)
 have HIZ := Lib.hid (mc_info zM_length)
 have BU := Lib.hid (ints_oneCell m)
 have BZ := Lib.hid (ints_oneCell zM)
 have HP := Lib.hid hp
 have TOK := Lib.hid True.intro
 have M1 := Lib.hid ((Blk.new w 45 (mc m)).alloc (.cells zMs 45))
 have Z1 := Lib.hid (show Blk ((w.alloc (.cells (mc m) 45)).alloc (.cells zMs 45)) (w.heap.size + 1) 45 (mc zM) from Blk.new_at (by simp) _ _)
 have B1 := Lib.hid ((Joins.below_alloc1 w (.cells (mc m) 45)).alloc (by simp) (.cells zMs 45))
 have HQ := Lib.hid hq
 have HP2 := Lib.hid hp2
 have HLO := Lib.hid (show q.length = 28 from by rw [← hq]; exact onwL_len hl)
 have HIQ := Lib.hid (mc_info HLO.out)
 have BQ := Lib.hid (ints_oneCell q)
 clear hl hp hq hp2
 go_enter Tryz.func103, Tryz.ntmps103
 go_upto_region 1 with fail
 obtain ⟨g, hg⟩ : ∃ g, g = w.heap.size := ⟨_, rfl⟩
 have HG := Lib.hid hg
 rw [← hg] at M1 Z1 ⊢
 clear hg
 generalize (w.alloc (.cells (mc m) 45)).alloc (.cells zMs 45) = V at M1 Z1 B1 ⊢
 go_upto_region 3 with (first
   | (have _t := TOK; refine wpList_load_row_g (by rfl) 45 (.tmp 3) rfl g rfl 45 (mc m) (0, 0) _ M1.out Tryz.underlying45 rfl HI.out ?_; clear _t TOK)
   | (go_at_call 137; refine (isProbe_any m HL.out true HP.out _).mono ?_; rintro e V2 ⟨rfl, hb⟩; have B2 := Lib.hid (stepB B1.out hb); have M2 := Lib.hid (M1.out.here hb); have Z2 := Lib.hid (Z1.out.here hb); clear hb))
 have m1 := mc_cell HL.out M2.out (i := 1) (by omega)
 have m2 := mc_cell HL.out M2.out (i := 2) (by omega)
 have f1 := M2.out.frozen 1
 have f2 := M2.out.frozen 2
 have HGB := Lib.hid (show w.heap.size ≤ g from by have := HG.out; omega)
 go_upto_region 4 with fail
 have M3 := Lib.hid (show Blk ((V2.setCell ⟨g, 1, none⟩ (.int .i64 0)).setCell ⟨g, 2, none⟩ (.int .i64 sh)) g 45 (mc q) from by rw [← HQ.out]; exact mc_setCell (mc_setCell M2.out 1 0) 2 sh)
 have Z3 := Lib.hid ((Z2.out.far (p := ⟨g, 1, none⟩) (by simp) (.int .i64 0)).far (p := ⟨g, 2, none⟩) (by simp) (.int .i64 sh))
 have B3 := Lib.hid ((B2.out.setCell (p := ⟨g, 1, none⟩) HGB.out (.int .i64 0)).setCell (p := ⟨g, 2, none⟩) HGB.out (.int .i64 sh))
 clear m1 m2 f1 f2 M2 Z2 B2 M1 Z1 B1
 generalize (V2.setCell ⟨g, 1, none⟩ (.int .i64 0)).setCell ⟨g, 2, none⟩ (.int .i64 sh) = V3 at M3 Z3 B3 ⊢
 have TOK2 := Lib.hid True.intro
 go_wp2_with (first
   | (have _t := TOK2; refine wpList_load_row_g (by rfl) 45 (.tmp 3) rfl g rfl 45 (mc q) (0, 0) _ M3.out Tryz.underlying45 rfl HIQ.out ?_; clear _t TOK2)
   | (go_at_call 142; refine (sent_ok q HLO.out HP2.out _).mono ?_; rintro e V4 ⟨rfl, hb⟩; have B4 := Lib.hid (stepB B3.out hb); have Z4 := Lib.hid (Z3.out.here hb); clear hb)
   | (refine wpList_store_mid (by rfl) 45 (.tmp 4) (.tmp 16) (by rfl) (g + 1) 0 (mc q) (by rfl) (by rfl) (mc_there zM_length HLO.out Z4.out) HIQ.out BQ.out ?_
      have Z9 := Lib.hid (mc_put zM_length HLO.out Z4.out)
      have E9 := Lib.hid (show Below w.heap.size w (V4.setCells (g + 1) 0 (mc q).toList) from Below.setCells (by have := HG.out; omega) _ _ _ B4.out)
      generalize V4.setCells (g + 1) 0 (mc q).toList = V9 at Z9 E9 ⊢))
 exact bodyPost_ret (v := .tuple #[.agg (mc q), .nilIface]) (results_cell_and rfl rfl rfl (results_msg HLO.out Z9.out)) rfl ⟨rfl, E9.out⟩
set_option maxRecDepth 100000 in
set_option maxHeartbeats 900000 in
theorem onward_err (sh : Int) (m : List Int) (hl : m.length = 28) (hp : isP m = true) (w : World) (q : List Int) (hq : onwL sh m = q) (hp2 : isP q = false) :
   Calls Tryz.prog 103 #[.int .i64 sh, .agg (mc m)] w fun e w' => e = .returned (.tuple #[.agg (mc zM), errno 1]) ∧ Below w.heap.size w w' := by
 have HL := Lib.hid hl
 have HI := Lib.hid (mc_info hl)
 have HIZ := Lib.hid (mc_info zM_length)
 have BU := Lib.hid (ints_oneCell m)
 have BZ := Lib.hid (ints_oneCell zM)
 have HP := Lib.hid hp
 have TOK := Lib.hid True.intro
 have M1 := Lib.hid ((Blk.new w 45 (mc m)).alloc (.cells zMs 45))
 have Z1 := Lib.hid (show Blk ((w.alloc (.cells (mc m) 45)).alloc (.cells zMs 45)) (w.heap.size + 1) 45 (mc zM) from Blk.new_at (by simp) _ _)
 have B1 := Lib.hid ((Joins.below_alloc1 w (.cells (mc m) 45)).alloc (by simp) (.cells zMs 45))
 have HQ := Lib.hid hq
 have HP2 := Lib.hid hp2
 have HLO := Lib.hid (show q.length = 28 from by rw [← hq]; exact onwL_len hl)
 have HIQ := Lib.hid (mc_info HLO.out)
 have BQ := Lib.hid (ints_oneCell q)
 clear hl hp hq hp2
 go_enter Tryz.func103, Tryz.ntmps103
 go_upto_region 1 with fail
 obtain ⟨g, hg⟩ : ∃ g, g = w.heap.size := ⟨_, rfl⟩
 have HG := Lib.hid hg
 rw [← hg] at M1 Z1 ⊢
 clear hg
 generalize (w.alloc (.cells (mc m) 45)).alloc (.cells zMs 45) = V at M1 Z1 B1 ⊢
 go_upto_region 3 with (first
   | (have _t := TOK; refine wpList_load_row_g (by rfl) 45 (.tmp 3) rfl g rfl 45 (mc m) (0, 0) _ M1.out Tryz.underlying45 rfl HI.out ?_; clear _t TOK)
   | (go_at_call 137; refine (isProbe_any m HL.out true HP.out _).mono ?_; rintro e V2 ⟨rfl, hb⟩; have B2 := Lib.hid (stepB B1.out hb); have M2 := Lib.hid (M1.out.here hb); have Z2 := Lib.hid (Z1.out.here hb); clear hb))
 have m1 := mc_cell HL.out M2.out (i := 1) (by omega)
 have m2 := mc_cell HL.out M2.out (i := 2) (by omega)
 have f1 := M2.out.frozen 1
 have f2 := M2.out.frozen 2
 have HGB := Lib.hid (show w.heap.size ≤ g from by have := HG.out; omega)
 go_upto_region 4 with fail
 have M3 := Lib.hid (show Blk ((V2.setCell ⟨g, 1, none⟩ (.int .i64 0)).setCell ⟨g, 2, none⟩ (.int .i64 sh)) g 45 (mc q) from by rw [← HQ.out]; exact mc_setCell (mc_setCell M2.out 1 0) 2 sh)
 have Z3 := Lib.hid ((Z2.out.far (p := ⟨g, 1, none⟩) (by simp) (.int .i64 0)).far (p := ⟨g, 2, none⟩) (by simp) (.int .i64 sh))
 have B3 := Lib.hid ((B2.out.setCell (p := ⟨g, 1, none⟩) HGB.out (.int .i64 0)).setCell (p := ⟨g, 2, none⟩) HGB.out (.int .i64 sh))
 clear m1 m2 f1 f2 M2 Z2 B2 M1 Z1 B1
 generalize (V2.setCell ⟨g, 1, none⟩ (.int .i64 0)).setCell ⟨g, 2, none⟩ (.int .i64 sh) = V3 at M3 Z3 B3 ⊢
 have TOK2 := Lib.hid True.intro
 go_wp2_with (first
   | (have _t := TOK2; refine wpList_load_row_g (by rfl) 45 (.tmp 3) rfl g rfl 45 (mc q) (0, 0) _ M3.out Tryz.underlying45 rfl HIQ.out ?_; clear _t TOK2)
   | (go_at_call 142; refine (sent_err q HLO.out HP2.out _).mono ?_; rintro e V4 ⟨rfl, hb⟩; have B4 := Lib.hid (stepB B3.out hb); have Z4 := Lib.hid (Z3.out.here hb); clear hb)
   | (refine wpList_store_mid (by rfl) 45 (.tmp 4) (.tmp 16) (by rfl) (g + 1) 0 (mc zM) (by rfl) (by rfl) (mc_there zM_length zM_length Z4.out) HIZ.out BZ.out ?_
      have Z9 := Lib.hid (mc_put zM_length zM_length Z4.out)
      have E9 := Lib.hid (show Below w.heap.size w (V4.setCells (g + 1) 0 (mc zM).toList) from Below.setCells (by have := HG.out; omega) _ _ _ B4.out)
      generalize V4.setCells (g + 1) 0 (mc zM).toList = V9 at Z9 E9 ⊢))
 exact bodyPost_ret (v := .tuple #[.agg (mc zM), errno 1]) (results_cell_and rfl rfl rfl (results_msg zM_length Z9.out)) rfl ⟨rfl, E9.out⟩
end Go.Proofs.YtadnlannbafjpaaGreat
