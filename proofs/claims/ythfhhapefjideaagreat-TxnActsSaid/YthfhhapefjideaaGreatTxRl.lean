/- The document's Again. -/
import Derived.Test.YthfhhapefjideaaGreatTxRk
namespace Go.Proofs.YthfhhapefjideaaGreat
open Go.RowKit
set_option linter.unusedVariables false
set_option linter.unusedSimpArgs false

theorem againL_1 (x : Tr) (al : Bool) (h1 : x.st = 1) : againL x al = (if x.op = true then [lockL x x.sh] else []) ++ (if al = true then eachL x 8 0 x.tch [] else []) := by
  unfold againL
  rw [if_pos h1, eachL_news (z := x) (k := 8) (cd := 0) (by unfold newsK; rw [if_neg (by omega), if_neg (by omega)]) (by unfold newsC; rw [if_neg (by omega)]), without_no]
theorem againL_2 (x : Tr) (al : Bool) (h1 : x.st = 2) : againL x al = eachL x 4 0 x.tch x.vts := by
  unfold againL
  rw [if_neg (by omega), if_pos h1, eachL_news (z := x) (k := 4) (cd := 0) (by unfold newsK; rw [if_pos h1]) (by unfold newsC; rw [if_neg (by omega)])]
theorem againL_3 (x : Tr) (al : Bool) (h1 : x.st = 3 ∨ x.st = 4) : againL x al = eachL x 6 (4 - x.st) x.tch x.acks := by
  unfold againL
  rw [if_neg (by omega), if_neg (by omega), if_pos h1, eachL_news (z := x) (k := 6) (cd := 4 - x.st) (by unfold newsK; rw [if_neg (by omega), if_pos h1]) (by unfold newsC; split <;> omega)]
/-- What tells messages alone. -/
def MsgP (w : World) (l : List (List Int)) (e : Ending) (w' : World) : Prop := ∃ u, e = .returned u ∧ MsgR w' w.heap.size u l ∧ Below w.heap.size w w'
set_option maxRecDepth 100000 in
set_option maxHeartbeats 8000000 in
theorem refAgain_oa {B : Nat} (x : Tr) (s : Sl) (al : Bool) (h1 : x.st = 1) (ho : x.op = true) (ha : al = true) (q : List Int) (hq : lockL x x.sh = q) (w : World) (h : Tm w B x s) (ht : x.tch.length ≤ 900) (hv : x.vts.length ≤ 900) (hk : x.acks.length ≤ 900) :
    Calls Tryz.prog 13 #[.agg (trc x s), .bool al] w (MsgP w ([q] ++ eachL x 8 0 x.tch [])) := by
  obtain ⟨i0, hi0, hz0, hz1, hz2⟩ := info_parts info_msg
  have X1 := Lib.hid (Blk.new w 37 (trc x s))
  have B1 := Lib.hid (Joins.below_alloc1 w (.cells (trc x s) 37))
  have T1 := Lib.hid (h.step B1.out)
  have HT := Lib.hid ht
  have HV := Lib.hid hv
  have HK := Lib.hid hk
  have e1 : (x.st == 1) = true := by simp; omega
  have HO := Lib.hid ho
  subst ha
  clear h1 ho
  clear h ht hv hk
  go_enter Tryz.func13, Tryz.ntmps13
  go_upto_region 1 with fail
  obtain ⟨g, hg⟩ : ∃ g, g = w.heap.size := ⟨_, rfl⟩
  have HG := Lib.hid hg
  rw [← hg] at X1 ⊢
  clear hg
  generalize w.alloc (.cells (trc x s) 37) = V1 at X1 B1 T1 ⊢
  have c1 : V1.cell? ⟨g, 1, none⟩ = some (.int .i64 x.st) := X1.out.cell 1
  have c4 : V1.cell? ⟨g, 4, none⟩ = some (.bool true) := by rw [← HO.out]; exact X1.out.cell 4
  have HQ := Lib.hid hq
  have LQ := Lib.hid (show q.length = 28 from by rw [← hq]; rfl)
  have FL := Lib.hid (show [q].flatten = q from by simp)
  clear hq
  have EL := Lib.hid (eachL_len x 8 0 x.tch [])
  go_upto_region 5 with (first
    | (refine wpList_load_row rfl 37 (.tmp 2) rfl g rfl 37 (trc x s) (0, 0) _ X1.out Tryz.underlying37 rfl (tr_infoR _ _) ?_)
    | (go_at_call 37; refine (refLock_q x s q HQ.out _).mono ?_; rintro e V2 ⟨rfl, hb⟩; have X2 := Lib.hid (X1.out.here hb); have B2 := Lib.hid (stepB B1.out hb); have T2 := Lib.hid (T1.out.step hb); have RN := Lib.hid (reads_flat (V := V2) 46 q (size := 28) LQ.out); have AL := Lib.hid (Joins.below_alloc1 V2 (.cells (ints q).toArray 46)); clear hb)
    | (refine wpList_build_msgs rfl 1 _ rfl [q] (by simpa using LQ.out) rfl (by omega) (by rfl) ?_; rw [FL.out])
    | (at_builtin; refine wpList_append_any _ rfl (.tmp 11) (.tmp 14) _ rfl w.heap.size 46 i0 _ 28 224 Tryz.underlying39 hi0 hz0 hz1 hz2 rfl (by omega) (.slice none 0 0) 0 [] rfl (World.ownsRow_nil _ _ _ _) _ _ 1 1 (ints q) rfl RN.out (ints_one _) (by simp only [maxLen]; omega) (by omega) (Nat.le_trans B2.out.size AL.out.size) ?_; intro v9 V3 hown9 hg9 _; obtain ⟨A9, c9, rfl⟩ := own_len hown9; have G9 := Lib.hid (AL.out.grown hg9 AL.out.size (fun k hk => by cases hk)); have O9 := Lib.hid hown9; clear hown9 hg9))
  have X3 := Lib.hid (X2.out.here G9.out)
  have B3 := Lib.hid (stepB B2.out G9.out)
  have T3 := Lib.hid (T2.out.step G9.out)
  have O3 := Lib.hid (show V3.ownsRow w.heap.size 46 28 (.slice A9 1 c9) 1 (ints q) from O9.out)
  clear G9 O9 RN AL c1 c4 X2 B2 T2
  go_wp2_with (first
    | (refine wpList_load_row rfl 37 (.tmp 2) rfl g rfl 37 (trc x s) (0, 0) _ X3.out Tryz.underlying37 rfl (tr_infoR _ _) ?_)
    | (go_at_call 38; refine (refEach_any (o := []) x s 8 0 _ T3.out (World.ownsRow_nil _ _ _ _) (by have := HT.out; omega) (Nat.zero_le _)).mono ?_; rintro e V4 ⟨u, rfl, hu, hb⟩; obtain ⟨Au, cu, ru, rd, _, _⟩ := own_rd hu; subst ru; have RU := Lib.hid rd; have B4 := Lib.hid (stepB B3.out hb); have O4 := Lib.hid (own_step O3.out hb); clear hu rd hb)
    | (at_builtin; refine wpList_append_any _ rfl (.tmp 17) (.tmp 19) _ rfl w.heap.size 46 i0 _ 28 224 Tryz.underlying39 hi0 hz0 hz1 hz2 rfl (by omega) (.slice A9 1 c9) 1 _ rfl O4.out _ _ (eachL x 8 0 x.tch []).length cu (ints (eachL x 8 0 x.tch []).flatten) rfl RU.out (ints_one _) (by have := EL.out; have := HT.out; simp only [maxLen]; omega) (by have := EL.out; have := HT.out; omega) B4.out.size ?_; intro v9 V9 hown9 hg9 _; obtain ⟨A10, c10, rfl⟩ := own_len hown9; have B9 := Lib.hid (B4.out.grown hg9 B4.out.size (fun k hk => (own_ge O4.out hk).1)); have O10 := Lib.hid hown9; clear hown9 hg9))
  go_ret
  exact ⟨_, rfl, by
    unfold MsgR
    rw [List.flatten_cons, show ints (q ++ (eachL x 8 0 x.tch []).flatten) = ints q ++ ints (eachL x 8 0 x.tch []).flatten by simp [ints], show (q :: eachL x 8 0 x.tch []).length = 1 + (eachL x 8 0 x.tch []).length by rw [List.length_cons]; omega]
    exact O10.out, B9.out⟩
set_option maxRecDepth 100000 in
set_option maxHeartbeats 8000000 in
theorem refAgain_on {B : Nat} (x : Tr) (s : Sl) (al : Bool) (h1 : x.st = 1) (ho : x.op = true) (ha : al = false) (q : List Int) (hq : lockL x x.sh = q) (w : World) (h : Tm w B x s) (ht : x.tch.length ≤ 900) (hv : x.vts.length ≤ 900) (hk : x.acks.length ≤ 900) :
    Calls Tryz.prog 13 #[.agg (trc x s), .bool al] w (MsgP w [q]) := by
  obtain ⟨i0, hi0, hz0, hz1, hz2⟩ := info_parts info_msg
  have X1 := Lib.hid (Blk.new w 37 (trc x s))
  have B1 := Lib.hid (Joins.below_alloc1 w (.cells (trc x s) 37))
  have T1 := Lib.hid (h.step B1.out)
  have HT := Lib.hid ht
  have HV := Lib.hid hv
  have HK := Lib.hid hk
  have e1 : (x.st == 1) = true := by simp; omega
  have HO := Lib.hid ho
  subst ha
  clear h1 ho
  clear h ht hv hk
  go_enter Tryz.func13, Tryz.ntmps13
  go_upto_region 1 with fail
  obtain ⟨g, hg⟩ : ∃ g, g = w.heap.size := ⟨_, rfl⟩
  have HG := Lib.hid hg
  rw [← hg] at X1 ⊢
  clear hg
  generalize w.alloc (.cells (trc x s) 37) = V1 at X1 B1 T1 ⊢
  have c1 : V1.cell? ⟨g, 1, none⟩ = some (.int .i64 x.st) := X1.out.cell 1
  have c4 : V1.cell? ⟨g, 4, none⟩ = some (.bool true) := by rw [← HO.out]; exact X1.out.cell 4
  have HQ := Lib.hid hq
  have LQ := Lib.hid (show q.length = 28 from by rw [← hq]; rfl)
  have FL := Lib.hid (show [q].flatten = q from by simp)
  clear hq
  go_upto_region 5 with (first
    | (refine wpList_load_row rfl 37 (.tmp 2) rfl g rfl 37 (trc x s) (0, 0) _ X1.out Tryz.underlying37 rfl (tr_infoR _ _) ?_)
    | (go_at_call 37; refine (refLock_q x s q HQ.out _).mono ?_; rintro e V2 ⟨rfl, hb⟩; have X2 := Lib.hid (X1.out.here hb); have B2 := Lib.hid (stepB B1.out hb); have T2 := Lib.hid (T1.out.step hb); have RN := Lib.hid (reads_flat (V := V2) 46 q (size := 28) LQ.out); have AL := Lib.hid (Joins.below_alloc1 V2 (.cells (ints q).toArray 46)); clear hb)
    | (refine wpList_build_msgs rfl 1 _ rfl [q] (by simpa using LQ.out) rfl (by omega) (by rfl) ?_; rw [FL.out])
    | (at_builtin; refine wpList_append_any _ rfl (.tmp 11) (.tmp 14) _ rfl w.heap.size 46 i0 _ 28 224 Tryz.underlying39 hi0 hz0 hz1 hz2 rfl (by omega) (.slice none 0 0) 0 [] rfl (World.ownsRow_nil _ _ _ _) _ _ 1 1 (ints q) rfl RN.out (ints_one _) (by simp only [maxLen]; omega) (by omega) (Nat.le_trans B2.out.size AL.out.size) ?_; intro v9 V3 hown9 hg9 _; obtain ⟨A9, c9, rfl⟩ := own_len hown9; have G9 := Lib.hid (AL.out.grown hg9 AL.out.size (fun k hk => by cases hk)); have O9 := Lib.hid hown9; clear hown9 hg9))
  have X3 := Lib.hid (X2.out.here G9.out)
  have B3 := Lib.hid (stepB B2.out G9.out)
  have T3 := Lib.hid (T2.out.step G9.out)
  have O3 := Lib.hid (show V3.ownsRow w.heap.size 46 28 (.slice A9 1 c9) 1 (ints q) from O9.out)
  clear G9 O9 RN AL c1 c4 X2 B2 T2
  go_wp2_with fail
  go_ret
  exact ⟨_, rfl, by
    unfold MsgR
    rw [FL.out]
    exact O3.out, B3.out⟩
set_option maxRecDepth 100000 in
set_option maxHeartbeats 8000000 in
theorem refAgain_na {B : Nat} (x : Tr) (s : Sl) (al : Bool) (h1 : x.st = 1) (ho : x.op = false) (ha : al = true) (w : World) (h : Tm w B x s) (ht : x.tch.length ≤ 900) (hv : x.vts.length ≤ 900) (hk : x.acks.length ≤ 900) :
    Calls Tryz.prog 13 #[.agg (trc x s), .bool al] w (MsgP w (eachL x 8 0 x.tch [])) := by
  obtain ⟨i0, hi0, hz0, hz1, hz2⟩ := info_parts info_msg
  have X1 := Lib.hid (Blk.new w 37 (trc x s))
  have B1 := Lib.hid (Joins.below_alloc1 w (.cells (trc x s) 37))
  have T1 := Lib.hid (h.step B1.out)
  have HT := Lib.hid ht
  have HV := Lib.hid hv
  have HK := Lib.hid hk
  have e1 : (x.st == 1) = true := by simp; omega
  have HO := Lib.hid ho
  subst ha
  clear h1 ho
  clear h ht hv hk
  go_enter Tryz.func13, Tryz.ntmps13
  go_upto_region 1 with fail
  obtain ⟨g, hg⟩ : ∃ g, g = w.heap.size := ⟨_, rfl⟩
  have HG := Lib.hid hg
  rw [← hg] at X1 ⊢
  clear hg
  generalize w.alloc (.cells (trc x s) 37) = V1 at X1 B1 T1 ⊢
  have c1 : V1.cell? ⟨g, 1, none⟩ = some (.int .i64 x.st) := X1.out.cell 1
  have c4 : V1.cell? ⟨g, 4, none⟩ = some (.bool false) := by rw [← HO.out]; exact X1.out.cell 4
  have EL := Lib.hid (eachL_len x 8 0 x.tch [])
  go_wp2_with (first
    | (refine wpList_load_row rfl 37 (.tmp 2) rfl g rfl 37 (trc x s) (0, 0) _ X1.out Tryz.underlying37 rfl (tr_infoR _ _) ?_)
    | (go_at_call 38; refine (refEach_any (o := []) x s 8 0 _ T1.out (World.ownsRow_nil _ _ _ _) (by have := HT.out; omega) (Nat.zero_le _)).mono ?_; rintro e V4 ⟨u, rfl, hu, hb⟩; obtain ⟨Au, cu, ru, rd, _, _⟩ := own_rd hu; subst ru; have RU := Lib.hid rd; have B4 := Lib.hid (stepB B1.out hb); skip; clear hu rd hb)
    | (at_builtin; refine wpList_append_any _ rfl (.tmp 17) (.tmp 19) _ rfl w.heap.size 46 i0 _ 28 224 Tryz.underlying39 hi0 hz0 hz1 hz2 rfl (by omega) (.slice none 0 0) 0 _ rfl (show V4.ownsRow w.heap.size 46 28 (.slice none 0 0) 0 [] from World.ownsRow_nil _ _ _ _) _ _ (eachL x 8 0 x.tch []).length cu (ints (eachL x 8 0 x.tch []).flatten) rfl RU.out (ints_one _) (by have := EL.out; have := HT.out; simp only [maxLen]; omega) (by have := EL.out; have := HT.out; omega) B4.out.size ?_; intro v9 V9 hown9 hg9 _; obtain ⟨A10, c10, rfl⟩ := own_len hown9; have B9 := Lib.hid (B4.out.grown hg9 B4.out.size (fun k hk => by cases hk)); have O10 := Lib.hid hown9; clear hown9 hg9))
  go_ret
  exact ⟨_, rfl, by
    have h := O10.out
    rw [List.nil_append, Nat.zero_add] at h
    exact h, B9.out⟩
set_option maxRecDepth 100000 in
set_option maxHeartbeats 8000000 in
theorem refAgain_nn {B : Nat} (x : Tr) (s : Sl) (al : Bool) (h1 : x.st = 1) (ho : x.op = false) (ha : al = false) (w : World) (h : Tm w B x s) (ht : x.tch.length ≤ 900) (hv : x.vts.length ≤ 900) (hk : x.acks.length ≤ 900) :
    Calls Tryz.prog 13 #[.agg (trc x s), .bool al] w (MsgP w []) := by
  obtain ⟨i0, hi0, hz0, hz1, hz2⟩ := info_parts info_msg
  have X1 := Lib.hid (Blk.new w 37 (trc x s))
  have B1 := Lib.hid (Joins.below_alloc1 w (.cells (trc x s) 37))
  have T1 := Lib.hid (h.step B1.out)
  have HT := Lib.hid ht
  have HV := Lib.hid hv
  have HK := Lib.hid hk
  have e1 : (x.st == 1) = true := by simp; omega
  have HO := Lib.hid ho
  subst ha
  clear h1 ho
  clear h ht hv hk
  go_enter Tryz.func13, Tryz.ntmps13
  go_upto_region 1 with fail
  obtain ⟨g, hg⟩ : ∃ g, g = w.heap.size := ⟨_, rfl⟩
  have HG := Lib.hid hg
  rw [← hg] at X1 ⊢
  clear hg
  generalize w.alloc (.cells (trc x s) 37) = V1 at X1 B1 T1 ⊢
  have c1 : V1.cell? ⟨g, 1, none⟩ = some (.int .i64 x.st) := X1.out.cell 1
  have c4 : V1.cell? ⟨g, 4, none⟩ = some (.bool false) := by rw [← HO.out]; exact X1.out.cell 4
  go_wp2_with fail
  go_ret
  exact ⟨_, rfl, World.ownsRow_nil _ _ _ _, B1.out⟩
set_option maxRecDepth 100000 in
set_option maxHeartbeats 8000000 in
theorem refAgain_2 {B : Nat} (x : Tr) (s : Sl) (al : Bool) (h1 : x.st = 2) (w : World) (h : Tm w B x s) (ht : x.tch.length ≤ 900) (hv : x.vts.length ≤ 900) (hk : x.acks.length ≤ 900) :
    Calls Tryz.prog 13 #[.agg (trc x s), .bool al] w (MsgP w (eachL x 4 0 x.tch x.vts)) := by
  obtain ⟨i0, hi0, hz0, hz1, hz2⟩ := info_parts info_msg
  have X1 := Lib.hid (Blk.new w 37 (trc x s))
  have B1 := Lib.hid (Joins.below_alloc1 w (.cells (trc x s) 37))
  have T1 := Lib.hid (h.step B1.out)
  have HT := Lib.hid ht
  have HV := Lib.hid hv
  have HK := Lib.hid hk
  have e1 : (x.st == 1) = false := by simp; omega
  have e2 : (x.st == 2) = true := by simp; omega
  clear h1
  clear h ht hv hk
  go_enter Tryz.func13, Tryz.ntmps13
  go_upto_region 1 with fail
  obtain ⟨g, hg⟩ : ∃ g, g = w.heap.size := ⟨_, rfl⟩
  have HG := Lib.hid hg
  rw [← hg] at X1 ⊢
  clear hg
  generalize w.alloc (.cells (trc x s) 37) = V1 at X1 B1 T1 ⊢
  have c1 : V1.cell? ⟨g, 1, none⟩ = some (.int .i64 x.st) := X1.out.cell 1
  obtain ⟨Al, cl, el⟩ := own_len T1.out.v
  have RL := Lib.hid (show NumR V1 B (.slice Al x.vts.length cl) x.vts from by rw [← show s.v = .slice Al x.vts.length cl from el]; exact T1.out.v)
  have kl : V1.cell? ⟨g, 10, none⟩ = some (.slice Al x.vts.length cl) := by rw [← show s.v = .slice Al x.vts.length cl from el]; exact X1.out.cell 10
  clear el
  go_wp2_with (first
    | (refine wpList_load_row rfl 37 (.tmp 2) rfl g rfl 37 (trc x s) (0, 0) _ X1.out Tryz.underlying37 rfl (tr_infoR _ _) ?_)
    | (go_at_call 38; refine (refEach_any (o := x.vts) x s 4 0 _ T1.out RL.out (by have := HT.out; omega) (by have := HV.out; omega)).mono ?_; rintro e V4 ⟨u, rfl, hu, hb⟩; obtain ⟨Au, cu, rfl⟩ := own_len hu; have U4 := Lib.hid (own_less hu B1.out.size); have B4 := Lib.hid (stepB B1.out hb); clear hu hb))
  go_ret
  exact ⟨_, rfl, U4.out, B4.out⟩
set_option maxRecDepth 100000 in
set_option maxHeartbeats 8000000 in
theorem refAgain_3 {B : Nat} (x : Tr) (s : Sl) (al : Bool) (h1 : x.st = 3 ∨ x.st = 4) (w : World) (h : Tm w B x s) (ht : x.tch.length ≤ 900) (hv : x.vts.length ≤ 900) (hk : x.acks.length ≤ 900) :
    Calls Tryz.prog 13 #[.agg (trc x s), .bool al] w (MsgP w (eachL x 6 (4 - x.st) x.tch x.acks)) := by
  obtain ⟨i0, hi0, hz0, hz1, hz2⟩ := info_parts info_msg
  have X1 := Lib.hid (Blk.new w 37 (trc x s))
  have B1 := Lib.hid (Joins.below_alloc1 w (.cells (trc x s) 37))
  have T1 := Lib.hid (h.step B1.out)
  have HT := Lib.hid ht
  have HV := Lib.hid hv
  have HK := Lib.hid hk
  have e1 : (x.st == 1) = false := by simp; omega
  have e2 : (x.st == 2) = false := by simp; omega
  have hw4 : IntKind.i64.wrap (4 - x.st) = 4 - x.st := IntWalk.i64_in _ (by omega)
  have HD := Lib.hid (show decided x = true from by unfold decided; simp; omega)
  clear h1
  clear h ht hv hk
  go_enter Tryz.func13, Tryz.ntmps13
  go_upto_region 1 with fail
  obtain ⟨g, hg⟩ : ∃ g, g = w.heap.size := ⟨_, rfl⟩
  have HG := Lib.hid hg
  rw [← hg] at X1 ⊢
  clear hg
  generalize w.alloc (.cells (trc x s) 37) = V1 at X1 B1 T1 ⊢
  have c1 : V1.cell? ⟨g, 1, none⟩ = some (.int .i64 x.st) := X1.out.cell 1
  obtain ⟨Al, cl, el⟩ := own_len T1.out.k
  have RL := Lib.hid (show NumR V1 B (.slice Al x.acks.length cl) x.acks from by rw [← show s.k = .slice Al x.acks.length cl from el]; exact T1.out.k)
  have kl : V1.cell? ⟨g, 11, none⟩ = some (.slice Al x.acks.length cl) := by rw [← show s.k = .slice Al x.acks.length cl from el]; exact X1.out.cell 11
  clear el
  have HC := Lib.hid (fun (Y : World) (hy : Below V1.heap.size V1 Y) => (hy.cell (p := ⟨g, 11, none⟩) X1.out.lt).trans kl)
  clear kl
  go_upto_region 11 with (first
    | (refine wpList_load_row rfl 37 (.tmp 2) rfl g rfl 37 (trc x s) (0, 0) _ X1.out Tryz.underlying37 rfl (tr_infoR _ _) ?_)
    | (go_at_call 15; refine (refDecided_b x s _ true HD.out).mono ?_; rintro e V2 ⟨rfl, hb⟩; have X2 := Lib.hid (X1.out.here hb); have B2 := Lib.hid (stepB B1.out hb); have T2 := Lib.hid (T1.out.step hb); have RL2 := Lib.hid (own_step RL.out hb); have kl := HC.out _ hb; clear hb))
  clear c1 HC
  have c1 : V2.cell? ⟨g, 1, none⟩ = some (.int .i64 x.st) := X2.out.cell 1
  go_wp2_with (first
    | (refine wpList_load_row rfl 37 (.tmp 2) rfl g rfl 37 (trc x s) (0, 0) _ X2.out Tryz.underlying37 rfl (tr_infoR _ _) ?_)
    | (go_at_call 38; refine (refEach_any (o := x.acks) x s 6 (4 - x.st) _ T2.out RL2.out (by have := HT.out; omega) (by have := HK.out; omega)).mono ?_; rintro e V4 ⟨u, rfl, hu, hb⟩; obtain ⟨Au, cu, rfl⟩ := own_len hu; have U4 := Lib.hid (own_less hu B2.out.size); have B4 := Lib.hid (stepB B2.out hb); clear hu hb))
  go_ret
  exact ⟨_, rfl, U4.out, B4.out⟩
theorem refAgain_any {B : Nat} (x : Tr) (s : Sl) (al : Bool) (w : World) (h : Tm w B x s) (ht : x.tch.length ≤ 900) (hv : x.vts.length ≤ 900) (hk : x.acks.length ≤ 900) (hst : 1 ≤ x.st ∧ x.st ≤ 4) :
    Calls Tryz.prog 13 #[.agg (trc x s), .bool al] w (MsgP w (againL x al)) := by
  by_cases h1 : x.st = 1
  · rw [againL_1 x al h1]
    cases ho : x.op with
    | true =>
      rw [if_pos rfl]
      cases al with
      | true => rw [if_pos rfl]; exact refAgain_oa x s true h1 ho rfl _ rfl w h ht hv hk
      | false => rw [if_neg (by simp), List.append_nil]; exact refAgain_on x s false h1 ho rfl _ rfl w h ht hv hk
    | false =>
      rw [if_neg (by simp), List.nil_append]
      cases al with
      | true => rw [if_pos rfl]; exact refAgain_na x s true h1 ho rfl w h ht hv hk
      | false => rw [if_neg (by simp)]; exact refAgain_nn x s false h1 ho rfl w h ht hv hk
  · by_cases h2 : x.st = 2
    · rw [againL_2 x al h2]; exact refAgain_2 x s al h2 w h ht hv hk
    · have h3 : x.st = 3 ∨ x.st = 4 := by omega
      rw [againL_3 x al h3]; exact refAgain_3 x s al h3 w h ht hv hk
end Go.Proofs.YthfhhapefjideaaGreat
