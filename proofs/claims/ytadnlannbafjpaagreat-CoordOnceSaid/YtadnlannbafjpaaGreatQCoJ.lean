/- A coordinator: a probe that comes. -/
import Derived.Test.YtadnlannbafjpaaGreatQCoTc
import Derived.Test.YtadnlannbafjpaaGreatQCoV
import Derived.Test.YtadnlannbafjpaaGreatQPrbN
import Derived.Test.YtadnlannbafjpaaGreatQPrbJ
namespace Go.Proofs.YtadnlannbafjpaaGreat
open Go.RowKit
set_option linter.unusedVariables false
set_option linter.unusedSimpArgs false
theorem vicL_mem {m : List Int} : ∀ k : Nat, ∃ j : Nat, (j < k ∨ (k = 0 ∧ j = 0)) ∧ vicL m k = stTx m j
 | 0 => ⟨0, .inr ⟨rfl, rfl⟩, rfl⟩
 | k + 1 => by
   obtain ⟨j, hj, e⟩ := vicL_mem (m := m) k
   by_cases h : vicL m k < stTx m k
   · exact ⟨k, .inl (by omega), by show (if vicL m k < stTx m k then stTx m k else vicL m k) = _; rw [if_pos h]⟩
   · exact ⟨j, .inl (by omega), by show (if vicL m k < stTx m k then stTx m k else vicL m k) = _; rw [if_neg h, e]⟩
theorem stepC_mem {c : Co} {n k L : Nat} (hok : nowL n c.cl ((k : Int) + 1) = 0 ∨ ∃ i : Nat, i < L ∧ nowL n c.cl ((k : Int) + 1) = (i : Int) + 1) : ∀ o ∈ stepC c n k, ∃ i : Nat, i < L ∧ fld o 0 = (i : Int) + 1 := by
 intro o ho
 unfold stepC at ho
 split at ho
 · cases ho
 · rename_i h0
   obtain ⟨i, hi, e⟩ := hok.resolve_left h0
   split at ho
   · rw [List.mem_singleton.1 ho]
     exact ⟨i, hi, by rw [e]; rfl⟩
   · cases ho
theorem openC_mem {c : Co} {n L : Nat} : ∀ {k : Nat}, (∀ j : Nat, j < k → nowL n c.cl ((j : Int) + 1) = 0 ∨ ∃ i : Nat, i < L ∧ nowL n c.cl ((j : Int) + 1) = (i : Int) + 1) → ∀ o ∈ openC c n k, ∃ i : Nat, i < L ∧ fld o 0 = (i : Int) + 1
 | 0, _, o, ho => by cases ho
 | k + 1, hok, o, ho => by
   rcases List.mem_append.1 ho with ho | ho
   · exact openC_mem (fun j hj => hok j (by omega)) o ho
   · exact stepC_mem (hok k (by omega)) o ho
theorem own_msg1 (V : World) (q : List Int) (hq : q.length = 28) : MsgR (V.alloc (.cells (ints [q].flatten).toArray 45)) V.heap.size (.slice (some ⟨V.heap.size, 0, none⟩) 1 1) [q] := by
 have hl : (ints [q].flatten).length = 28 := by simp [hq]
 exact ⟨by rw [hl]; rfl, .inr ⟨_, _, (ints [q].flatten).toArray, rfl, Nat.le_refl _, Blk.new V 45 _, Nat.le_refl _, by simp only [maxLen]; omega, by simp [hq], by rw [List.take_of_length_le (by simp [hq])]⟩⟩
def probedL (c : Co) (n : Nat) (m : List Int) : Co × List (List Int) :=
 if c.cf.pb = false ∨ liveL m (openC c n n) = false then (c, []) else
 if backL m = true then abtC c (eL c.txs (vicL m (fld m 11).toNat)) (vicL m (fld m 11).toNat - 1).toNat 4 else
 if (eL c.txs (fld m 9)).op = false ∨ (fld m 10 ≠ 0 ∧ fld m 10 ≠ (eL c.txs (fld m 9)).sq) then (c, []) else
 if isP (onwL (eL c.txs (fld m 9)).sh m) = true then (c, [onwL (eL c.txs (fld m 9)).sh m]) else (c, [])
section
variable {g n : Nat} {c : Co} {P : Pt}
theorem abort_all (x : Tr) (s : Sl) (r : Int) (w : World) (h : CoM w g n c P) (hT : Tm w 0 x s) (hS : Short x) (i : Nat) (hi : i < P.L.length) (hl : P.L.length ≤ 1000) (hx : x.tx = (i : Int) + 1) (hev : c.ev.length ≤ 90000) :
   Calls Tryz.prog 56 #[.pointer (some ⟨g, 0, none⟩), .agg (trc x s), .int .i64 r] w (OkP w g n P (abtC c x i r)) := by
 unfold abtC
 by_cases hc : (abtL x r).2.2 = 0
 · rw [if_pos hc]; exact abortC_ok x s r w h hT hS _ _ i hi hl hx hev (res3 hc) _ _ rfl
 · rw [if_neg hc]; exact (abortC_err x s r w h hT hS _ _ _ hc rfl).mono fun e w' q => OkP.nil h q
set_option maxRecDepth 100000 in
set_option maxHeartbeats 3000000 in
theorem probed_no (m : List Int) (w : World) (h : CoM w g n c P) (hm : m.length = 28) (hpb : c.cf.pb = false) :
   Calls Tryz.prog 59 #[.pointer (some ⟨g, 0, none⟩), .agg (mc m)] w fun e w' => e = .returned (.slice none 0 0) ∧ Below w.heap.size w w' := by
 have hn0 := fun W => run_neq_nil_nil (P := Tryz.prog) W 28 Tryz.underlying28
 have HM := Lib.hid h
 have HL := Lib.hid hm
 have HI := Lib.hid (mc_info hm)
 have TOK := Lib.hid True.intro
 have M1 := Lib.hid (show Blk (w.alloc (.cells (mc m) 45)) w.heap.size 45 (mc m) from Blk.new w _ _)
 have B1 := Lib.hid (Joins.below_alloc1 w (.cells (mc m) 45))
 have HPB := Lib.hid hpb
 clear hpb
 clear h hm
 go_enter Tryz.func59, Tryz.ntmps59
 go_upto_region 1 with fail
 generalize w.heap.size = bm at M1 ⊢
 generalize w.alloc (.cells (mc m) 45) = V at M1 B1 ⊢
 have KQ := Lib.hid (show ∀ Y, Below V.heap.size V Y → (Y.cell? ⟨g, 1, none⟩ = some (.bool false) ∧ Blk Y bm 45 (mc m)) from fun Y hy =>
   ⟨by rw [← HPB.out]; exact ((HM.out.step B1.out).step hy).box.cell 1, M1.out.here hy⟩)
 refine wp_region_held_drew (S := fun w' => w'.cell? ⟨g, 1, none⟩ = some (.bool false) ∧ Blk w' bm 45 (mc m)) (by kernel_rfl) (KQ.out _ (Below.refl _ _).drew) (fun hHeld => ?_)
 have BD := Lib.hid (show Below V.heap.size V V.drew from (Below.refl _ _).drew)
 generalize V.drew = V2 at BD hHeld ⊢
 refine wpAnyH_take (i := 0) (v := ?_) rfl (by kernel_rfl) (by kernel_rfl) (by kernel_rfl) (fun _ _ _ h => h) (Or.inl ⟨by rfl, ?_⟩) (by assumption) ?_
 rotate_left
 · (intro w0 hSw; (try dsimp only at hSw); go_simp; try with_reducible rfl)
 try simp only [List.getElem_toArray, List.getElem_cons_succ, List.getElem_cons_zero, Act.put, List.setIfInBounds_toArray, List.set_cons_zero, List.set_cons_succ]
 refine wpAnyH_take (i := 1) (v := ?_) rfl (by kernel_rfl) (by kernel_rfl) (by kernel_rfl) (fun _ _ _ h => h) (Or.inl ⟨by rfl, ?_⟩) (by assumption) ?_
 rotate_left
 · (intro w0 hSw; (try dsimp only at hSw); go_simp; try with_reducible rfl)
 try simp only [List.getElem_toArray, List.getElem_cons_succ, List.getElem_cons_zero, Act.put, List.setIfInBounds_toArray, List.set_cons_zero, List.set_cons_succ]
 refine wpAnyH_take (i := 2) (v := ?_) rfl (by kernel_rfl) (by kernel_rfl) (by kernel_rfl) (fun _ _ _ h => h) (Or.inl ⟨by rfl, ?_⟩) (by assumption) ?_
 rotate_left
 · (intro w0 hSw; (try dsimp only at hSw); go_simp; try with_reducible rfl)
 try simp only [List.getElem_toArray, List.getElem_cons_succ, List.getElem_cons_zero, Act.put, List.setIfInBounds_toArray, List.set_cons_zero, List.set_cons_succ]
 refine wpAnyH_take (i := 3) (v := ?_) rfl (by kernel_rfl) (by kernel_rfl) (by kernel_rfl) (fun _ _ _ h => h) (Or.inl ⟨by rfl, ?_⟩) (by assumption) ?_
 rotate_left
 · (intro w0 hSw; (try dsimp only at hSw); go_simp; try with_reducible rfl)
 try simp only [List.getElem_toArray, List.getElem_cons_succ, List.getElem_cons_zero, Act.put, List.setIfInBounds_toArray, List.set_cons_zero, List.set_cons_succ]
 refine wpAnyH_take (i := 4) (v := ?_) rfl (by kernel_rfl) (by kernel_rfl) (by kernel_rfl) (fun _ _ _ h => h) (Or.inl ⟨by rfl, ?_⟩) (by assumption) ?_
 rotate_left
 · (intro w0 hSw; (try dsimp only at hSw); go_simp; try with_reducible rfl)
 try simp only [List.getElem_toArray, List.getElem_cons_succ, List.getElem_cons_zero, Act.put, List.setIfInBounds_toArray, List.set_cons_zero, List.set_cons_succ]
 refine wpAnyH_take (i := 5) (v := ?_) rfl (by kernel_rfl) (by kernel_rfl) (by kernel_rfl) (fun _ _ _ h => h) (Or.inl ⟨by rfl, ?_⟩) (by assumption) ?_
 rotate_left
 · (intro w0 hSw; (try dsimp only at hSw); go_simp; try with_reducible rfl)
 try simp only [List.getElem_toArray, List.getElem_cons_succ, List.getElem_cons_zero, Act.put, List.setIfInBounds_toArray, List.set_cons_zero, List.set_cons_succ]
 refine wpAnyH_take (i := 6) (v := ?_) rfl (by kernel_rfl) (by kernel_rfl) (by kernel_rfl) (fun _ _ _ h => h) (Or.inl ⟨by rfl, ?_⟩) (by assumption) ?_
 rotate_left
 · (intro w0 hSw; (try dsimp only at hSw); go_simp; try with_reducible rfl)
 try simp only [List.getElem_toArray, List.getElem_cons_succ, List.getElem_cons_zero, Act.put, List.setIfInBounds_toArray, List.set_cons_zero, List.set_cons_succ]
 refine wpAnyH_take (i := 7) (v := undef) rfl (by kernel_rfl) (by kernel_rfl) (by kernel_rfl) (fun _ _ _ h => h) (Or.inr ⟨by rfl, rfl⟩) (by assumption) ?_
 try simp only [List.getElem_toArray, List.getElem_cons_succ, List.getElem_cons_zero, Act.put, List.setIfInBounds_toArray, List.set_cons_zero, List.set_cons_succ]
 refine wpAnyH_take (i := 8) (v := undef) rfl (by kernel_rfl) (by kernel_rfl) (by kernel_rfl) (fun _ _ _ h => h) (Or.inr ⟨by rfl, rfl⟩) (by assumption) ?_
 try simp only [List.getElem_toArray, List.getElem_cons_succ, List.getElem_cons_zero, Act.put, List.setIfInBounds_toArray, List.set_cons_zero, List.set_cons_succ]
 refine wpAnyH_take (i := 9) (v := undef) rfl (by kernel_rfl) (by kernel_rfl) (by kernel_rfl) (fun _ _ _ h => h) (Or.inr ⟨by rfl, rfl⟩) (by assumption) ?_
 try simp only [List.getElem_toArray, List.getElem_cons_succ, List.getElem_cons_zero, Act.put, List.setIfInBounds_toArray, List.set_cons_zero, List.set_cons_succ]
 refine wpAnyH_take (i := 10) (v := undef) rfl (by kernel_rfl) (by kernel_rfl) (by kernel_rfl) (fun _ _ _ h => h) (Or.inr ⟨by rfl, rfl⟩) (by assumption) ?_
 try simp only [List.getElem_toArray, List.getElem_cons_succ, List.getElem_cons_zero, Act.put, List.setIfInBounds_toArray, List.set_cons_zero, List.set_cons_succ]
 refine wpAnyH_take (i := 11) (v := undef) rfl (by kernel_rfl) (by kernel_rfl) (by kernel_rfl) (fun _ _ _ h => h) (Or.inr ⟨by rfl, rfl⟩) (by assumption) ?_
 try simp only [List.getElem_toArray, List.getElem_cons_succ, List.getElem_cons_zero, Act.put, List.setIfInBounds_toArray, List.set_cons_zero, List.set_cons_succ]
 refine wpAnyH_take (i := 12) (v := ?_) rfl (by kernel_rfl) (by kernel_rfl) (by kernel_rfl) (fun _ _ _ h => h) (Or.inl ⟨by rfl, ?_⟩) (by assumption) ?_
 rotate_left
 · (intro w0 hSw; (try dsimp only at hSw); go_simp; try with_reducible rfl)
 try simp only [List.getElem_toArray, List.getElem_cons_succ, List.getElem_cons_zero, Act.put, List.setIfInBounds_toArray, List.set_cons_zero, List.set_cons_succ]
 refine wpAnyH_done (by kernel_rfl) ?_ _
 clear hHeld
 have B2 := Lib.hid (stepB B1.out BD.out)
 go_wp2_with fail
 go_ret
 exact ⟨rfl, B2.out⟩
set_option maxRecDepth 100000 in
set_option maxHeartbeats 3000000 in
theorem probed_dead (m : List Int) (w : World) (h : CoM w g n c P) (hm : m.length = 28) (hpb : c.cf.pb = true) (h8 : n ≤ 8) (hl : P.L.length ≤ 1000) (hok : ∀ k : Nat, k < n → nowL n c.cl ((k : Int) + 1) = 0 ∨ ∃ i : Nat, i < P.L.length ∧ nowL n c.cl ((k : Int) + 1) = (i : Int) + 1) (hlv : liveL m (openC c n n) = false) :
   Calls Tryz.prog 59 #[.pointer (some ⟨g, 0, none⟩), .agg (mc m)] w fun e w' => e = .returned (.slice none 0 0) ∧ Below w.heap.size w w' := by
 have hn0 := fun W => run_neq_nil_nil (P := Tryz.prog) W 28 Tryz.underlying28
 have HM := Lib.hid h
 have HL := Lib.hid hm
 have HI := Lib.hid (mc_info hm)
 have TOK := Lib.hid True.intro
 have M1 := Lib.hid (show Blk (w.alloc (.cells (mc m) 45)) w.heap.size 45 (mc m) from Blk.new w _ _)
 have B1 := Lib.hid (Joins.below_alloc1 w (.cells (mc m) 45))
 have HPB := Lib.hid hpb
 have HLL := Lib.hid hl
 obtain ⟨os, hos⟩ : ∃ os, openC c n n = os := ⟨_, rfl⟩
 obtain ⟨k0, hk0⟩ : ∃ k, os.length = k := ⟨_, rfl⟩
 have HOC := Lib.hid (fun W (hW : CoM W g n c P) => show Calls Tryz.prog 100 #[.pointer (some ⟨g, 0, none⟩)] W fun e w' => ∃ A c', e = .returned (.slice A k0 c') ∧ Reads w' w'.heap.size 2 A k0 (ints os.flatten) ∧ Below W.heap.size W w' from by
   refine (open_any W hW h8 hl hok).mono ?_
   rintro e w' ⟨u, rfl, hu, hb⟩
   rw [hos, hk0] at hu
   obtain ⟨A, c', e1, hr, _, _⟩ := own_rd hu
   exact ⟨A, c', by rw [e1], hr, hb⟩)
 have HO2 := Lib.hid (show ∀ o ∈ os, o.length = 2 from by rw [← hos]; exact openC_2)
 have HK8 := Lib.hid (show k0 ≤ 1000 from by have := openC_len (c := c) (n := n) n; rw [hos] at this; omega)
 have HK0 := Lib.hid hk0
 rw [hos] at hlv
 have HLV := Lib.hid hlv
 clear hpb hl hok hos hk0 h8 hlv
 clear h hm
 go_enter Tryz.func59, Tryz.ntmps59
 go_upto_region 1 with fail
 generalize w.heap.size = bm at M1 ⊢
 generalize w.alloc (.cells (mc m) 45) = V at M1 B1 ⊢
 have KQ := Lib.hid (show ∀ Y, Below V.heap.size V Y → (Y.cell? ⟨g, 1, none⟩ = some (.bool true) ∧ Blk Y bm 45 (mc m)) from fun Y hy =>
   ⟨by rw [← HPB.out]; exact ((HM.out.step B1.out).step hy).box.cell 1, M1.out.here hy⟩)
 refine wp_region_held_drew (S := fun w' => w'.cell? ⟨g, 1, none⟩ = some (.bool true) ∧ Blk w' bm 45 (mc m)) (by kernel_rfl) (KQ.out _ (Below.refl _ _).drew) (fun hHeld => ?_)
 have BD := Lib.hid (show Below V.heap.size V V.drew from (Below.refl _ _).drew)
 generalize V.drew = V2 at BD hHeld ⊢
 refine wpAnyH_take (i := 0) (v := ?_) rfl (by kernel_rfl) (by kernel_rfl) (by kernel_rfl) (fun _ _ _ h => h) (Or.inl ⟨by rfl, ?_⟩) (by assumption) ?_
 rotate_left
 · (intro w0 hSw; (try dsimp only at hSw); go_simp; try with_reducible rfl)
 try simp only [List.getElem_toArray, List.getElem_cons_succ, List.getElem_cons_zero, Act.put, List.setIfInBounds_toArray, List.set_cons_zero, List.set_cons_succ]
 refine wpAnyH_take (i := 1) (v := ?_) rfl (by kernel_rfl) (by kernel_rfl) (by kernel_rfl) (fun _ _ _ h => h) (Or.inl ⟨by rfl, ?_⟩) (by assumption) ?_
 rotate_left
 · (intro w0 hSw; (try dsimp only at hSw); go_simp; try with_reducible rfl)
 try simp only [List.getElem_toArray, List.getElem_cons_succ, List.getElem_cons_zero, Act.put, List.setIfInBounds_toArray, List.set_cons_zero, List.set_cons_succ]
 refine wpAnyH_take (i := 2) (v := ?_) rfl (by kernel_rfl) (by kernel_rfl) (by kernel_rfl) (fun _ _ _ h => h) (Or.inl ⟨by rfl, ?_⟩) (by assumption) ?_
 rotate_left
 · (intro w0 hSw; (try dsimp only at hSw); go_simp; try with_reducible rfl)
 try simp only [List.getElem_toArray, List.getElem_cons_succ, List.getElem_cons_zero, Act.put, List.setIfInBounds_toArray, List.set_cons_zero, List.set_cons_succ]
 refine wpAnyH_take (i := 3) (v := ?_) rfl (by kernel_rfl) (by kernel_rfl) (by kernel_rfl) (fun _ _ _ h => h) (Or.inl ⟨by rfl, ?_⟩) (by assumption) ?_
 rotate_left
 · (intro w0 hSw; (try dsimp only at hSw); go_simp; try with_reducible rfl)
 try simp only [List.getElem_toArray, List.getElem_cons_succ, List.getElem_cons_zero, Act.put, List.setIfInBounds_toArray, List.set_cons_zero, List.set_cons_succ]
 refine wpAnyH_take (i := 4) (v := ?_) rfl (by kernel_rfl) (by kernel_rfl) (by kernel_rfl) (fun _ _ _ h => h) (Or.inl ⟨by rfl, ?_⟩) (by assumption) ?_
 rotate_left
 · (intro w0 hSw; (try dsimp only at hSw); go_simp; try with_reducible rfl)
 try simp only [List.getElem_toArray, List.getElem_cons_succ, List.getElem_cons_zero, Act.put, List.setIfInBounds_toArray, List.set_cons_zero, List.set_cons_succ]
 refine wpAnyH_take (i := 5) (v := ?_) rfl (by kernel_rfl) (by kernel_rfl) (by kernel_rfl) (fun _ _ _ h => h) (Or.inl ⟨by rfl, ?_⟩) (by assumption) ?_
 rotate_left
 · (intro w0 hSw; (try dsimp only at hSw); go_simp; try with_reducible rfl)
 try simp only [List.getElem_toArray, List.getElem_cons_succ, List.getElem_cons_zero, Act.put, List.setIfInBounds_toArray, List.set_cons_zero, List.set_cons_succ]
 refine wpAnyH_take (i := 6) (v := ?_) rfl (by kernel_rfl) (by kernel_rfl) (by kernel_rfl) (fun _ _ _ h => h) (Or.inl ⟨by rfl, ?_⟩) (by assumption) ?_
 rotate_left
 · (intro w0 hSw; (try dsimp only at hSw); go_simp; try with_reducible rfl)
 try simp only [List.getElem_toArray, List.getElem_cons_succ, List.getElem_cons_zero, Act.put, List.setIfInBounds_toArray, List.set_cons_zero, List.set_cons_succ]
 refine wpAnyH_take (i := 7) (v := .agg (mc m)) rfl (by kernel_rfl) (by kernel_rfl) (by kernel_rfl) (fun _ _ _ h => h) (Or.inl ⟨by rfl, fun w0 hSw => exec_load (x := .tmp 3) rfl rfl (loadM HL.out hSw.2)⟩) (by assumption) ?_
 try simp only [List.getElem_toArray, List.getElem_cons_succ, List.getElem_cons_zero, Act.put, List.setIfInBounds_toArray, List.set_cons_zero, List.set_cons_succ]
 refine wpAnyH_take (i := 8) (v := ?_) rfl (by kernel_rfl) (by kernel_rfl) (by kernel_rfl) (fun _ _ _ h => h) (Or.inl ⟨by rfl, ?_⟩) (by assumption) ?_
 rotate_left
 · (intro w0 hSw; (try dsimp only at hSw); go_simp; try with_reducible rfl)
 try simp only [List.getElem_toArray, List.getElem_cons_succ, List.getElem_cons_zero, Act.put, List.setIfInBounds_toArray, List.set_cons_zero, List.set_cons_succ]
 refine wpAnyH_ready (rs := [9]) (by kernel_rfl) (by simp) ?_
 refine AllReadyH.cons rfl (fun K hK => ?_) AllReadyH.nil
 go_simp
 refine (HOC.out _ ((HM.out.step B1.out).step BD.out)).mono ?_
 rintro e V3 ⟨A3, c3', rfl, rd3, hb⟩
 have R3 := Lib.hid rd3
 try go_simp
 have BE := Lib.hid (stepB BD.out hb)
 clear rd3 hb
 refine hK.out _ _ (KQ.out _ BE.out) (fun hHeld => ?_)
 clear hK K
 refine wpAnyH_ready (rs := [10]) (by kernel_rfl) (by simp) ?_
 refine AllReadyH.cons rfl (fun K hK => ?_) AllReadyH.nil
 go_simp
 refine (live_any m HL.out A3 k0 c3' os _ R3.out HO2.out HK0.out HK8.out false HLV.out).mono ?_
 rintro e V4 ⟨rfl, hb⟩
 try go_simp
 have BF := Lib.hid (stepB BE.out hb)
 clear hb
 refine hK.out _ _ (KQ.out _ BF.out) (fun hHeld => ?_)
 clear hK K
 refine wpAnyH_take (i := 11) (v := ?_) rfl (by kernel_rfl) (by kernel_rfl) (by kernel_rfl) (fun _ _ _ h => h) (Or.inl ⟨by rfl, ?_⟩) (by assumption) ?_
 rotate_left
 · (intro w0 hSw; (try dsimp only at hSw); go_simp; try with_reducible rfl)
 try simp only [List.getElem_toArray, List.getElem_cons_succ, List.getElem_cons_zero, Act.put, List.setIfInBounds_toArray, List.set_cons_zero, List.set_cons_succ]
 refine wpAnyH_take (i := 12) (v := ?_) rfl (by kernel_rfl) (by kernel_rfl) (by kernel_rfl) (fun _ _ _ h => h) (Or.inl ⟨by rfl, ?_⟩) (by assumption) ?_
 rotate_left
 · (intro w0 hSw; (try dsimp only at hSw); go_simp; try with_reducible rfl)
 try simp only [List.getElem_toArray, List.getElem_cons_succ, List.getElem_cons_zero, Act.put, List.setIfInBounds_toArray, List.set_cons_zero, List.set_cons_succ]
 refine wpAnyH_done (by kernel_rfl) ?_ _
 clear hHeld KQ
 have B4 := Lib.hid (stepB B1.out BF.out)
 have M4 := Lib.hid (M1.out.here BF.out)
 clear BD BE BF R3 M1
 have HB4 := Lib.hid B4.out.size
 have H4 := Lib.hid (HM.out.step B4.out)
 go_wp2_with fail
 go_ret
 exact ⟨rfl, B4.out⟩
set_option maxRecDepth 100000 in
set_option maxHeartbeats 3000000 in
theorem probed_back (m : List Int) (w : World) (h : CoM w g n c P) (hm : m.length = 28) (hpb : c.cf.pb = true) (h8 : n ≤ 8) (hl : P.L.length ≤ 1000) (hok : ∀ k : Nat, k < n → nowL n c.cl ((k : Int) + 1) = 0 ∨ ∃ i : Nat, i < P.L.length ∧ nowL n c.cl ((k : Int) + 1) = (i : Int) + 1) (hlv : liveL m (openC c n n) = true) (hbk : backL m = true) (hp : isP m = true) (N : Nat) (hN : fld m 11 = (N : Int)) (i : Nat) (hvi : vicL m N = (i : Int) + 1) (hst : 0 ≤ stTx m 0) (hi : i < P.L.length) (x : Tr) (s : Sl) (hq : P.L[i] = (x, s)) (hS : Short x) (hx : x.tx = (i : Int) + 1) (hev : c.ev.length ≤ 90000) (r : Co × List (List Int)) (hr : abtC c x i 4 = r) :
   Calls Tryz.prog 59 #[.pointer (some ⟨g, 0, none⟩), .agg (mc m)] w fun e w' => ∃ u, e = .returned u ∧ MsgR w' w.heap.size u r.2 ∧ ∃ P', CoS w w' g n P (fun _ => False) r.1 P' := by
 have hn0 := fun W => run_neq_nil_nil (P := Tryz.prog) W 28 Tryz.underlying28
 have HM := Lib.hid h
 have HL := Lib.hid hm
 have HI := Lib.hid (mc_info hm)
 have TOK := Lib.hid True.intro
 have M1 := Lib.hid (show Blk (w.alloc (.cells (mc m) 45)) w.heap.size 45 (mc m) from Blk.new w _ _)
 have B1 := Lib.hid (Joins.below_alloc1 w (.cells (mc m) 45))
 have HT := Lib.hid (show Tm w 0 x s from by have := h.r.sls _ (List.getElem_mem hi); rw [hq] at this; exact this)
 have HC := Lib.hid (fun W (hW : CoM W g n c P) => show Calls Tryz.prog 60 #[.pointer (some ⟨g, 0, none⟩), .int .i64 ((i : Int) + 1)] W fun e w' => e = .returned (.tuple #[.agg (trc x s), .bool true]) ∧ Below W.heap.size W w' from find_some i W hW hi (by omega) (x, s) hq)
 have HAB := Lib.hid (fun W (hW : CoM W g n c P) (hT : Tm W 0 x s) => show Calls Tryz.prog 56 #[.pointer (some ⟨g, 0, none⟩), .agg (trc x s), .int .i64 4] W (OkP W g n P r) from by rw [← hr]; exact abort_all x s 4 W hW hT hS i hi hl hx hev)
 have HBK := Lib.hid hbk
 have HP := Lib.hid hp
 have HN := Lib.hid hN
 have HVI := Lib.hid hvi
 have HST := Lib.hid hst
 clear hbk hp hN hvi hst hq hS hx hev hr
 have HPB := Lib.hid hpb
 have HLL := Lib.hid hl
 obtain ⟨os, hos⟩ : ∃ os, openC c n n = os := ⟨_, rfl⟩
 obtain ⟨k0, hk0⟩ : ∃ k, os.length = k := ⟨_, rfl⟩
 have HOC := Lib.hid (fun W (hW : CoM W g n c P) => show Calls Tryz.prog 100 #[.pointer (some ⟨g, 0, none⟩)] W fun e w' => ∃ A c', e = .returned (.slice A k0 c') ∧ Reads w' w'.heap.size 2 A k0 (ints os.flatten) ∧ Below W.heap.size W w' from by
   refine (open_any W hW h8 hl hok).mono ?_
   rintro e w' ⟨u, rfl, hu, hb⟩
   rw [hos, hk0] at hu
   obtain ⟨A, c', e1, hr, _, _⟩ := own_rd hu
   exact ⟨A, c', by rw [e1], hr, hb⟩)
 have HO2 := Lib.hid (show ∀ o ∈ os, o.length = 2 from by rw [← hos]; exact openC_2)
 have HK8 := Lib.hid (show k0 ≤ 1000 from by have := openC_len (c := c) (n := n) n; rw [hos] at this; omega)
 have HK0 := Lib.hid hk0
 rw [hos] at hlv
 have HLV := Lib.hid hlv
 clear hpb hl hok hos hk0 h8 hlv
 clear h hm
 go_enter Tryz.func59, Tryz.ntmps59
 go_upto_region 1 with fail
 generalize w.heap.size = bm at M1 ⊢
 generalize w.alloc (.cells (mc m) 45) = V at M1 B1 ⊢
 have KQ := Lib.hid (show ∀ Y, Below V.heap.size V Y → (Y.cell? ⟨g, 1, none⟩ = some (.bool true) ∧ Blk Y bm 45 (mc m)) from fun Y hy =>
   ⟨by rw [← HPB.out]; exact ((HM.out.step B1.out).step hy).box.cell 1, M1.out.here hy⟩)
 refine wp_region_held_drew (S := fun w' => w'.cell? ⟨g, 1, none⟩ = some (.bool true) ∧ Blk w' bm 45 (mc m)) (by kernel_rfl) (KQ.out _ (Below.refl _ _).drew) (fun hHeld => ?_)
 have BD := Lib.hid (show Below V.heap.size V V.drew from (Below.refl _ _).drew)
 generalize V.drew = V2 at BD hHeld ⊢
 refine wpAnyH_take (i := 0) (v := ?_) rfl (by kernel_rfl) (by kernel_rfl) (by kernel_rfl) (fun _ _ _ h => h) (Or.inl ⟨by rfl, ?_⟩) (by assumption) ?_
 rotate_left
 · (intro w0 hSw; (try dsimp only at hSw); go_simp; try with_reducible rfl)
 try simp only [List.getElem_toArray, List.getElem_cons_succ, List.getElem_cons_zero, Act.put, List.setIfInBounds_toArray, List.set_cons_zero, List.set_cons_succ]
 refine wpAnyH_take (i := 1) (v := ?_) rfl (by kernel_rfl) (by kernel_rfl) (by kernel_rfl) (fun _ _ _ h => h) (Or.inl ⟨by rfl, ?_⟩) (by assumption) ?_
 rotate_left
 · (intro w0 hSw; (try dsimp only at hSw); go_simp; try with_reducible rfl)
 try simp only [List.getElem_toArray, List.getElem_cons_succ, List.getElem_cons_zero, Act.put, List.setIfInBounds_toArray, List.set_cons_zero, List.set_cons_succ]
 refine wpAnyH_take (i := 2) (v := ?_) rfl (by kernel_rfl) (by kernel_rfl) (by kernel_rfl) (fun _ _ _ h => h) (Or.inl ⟨by rfl, ?_⟩) (by assumption) ?_
 rotate_left
 · (intro w0 hSw; (try dsimp only at hSw); go_simp; try with_reducible rfl)
 try simp only [List.getElem_toArray, List.getElem_cons_succ, List.getElem_cons_zero, Act.put, List.setIfInBounds_toArray, List.set_cons_zero, List.set_cons_succ]
 refine wpAnyH_take (i := 3) (v := ?_) rfl (by kernel_rfl) (by kernel_rfl) (by kernel_rfl) (fun _ _ _ h => h) (Or.inl ⟨by rfl, ?_⟩) (by assumption) ?_
 rotate_left
 · (intro w0 hSw; (try dsimp only at hSw); go_simp; try with_reducible rfl)
 try simp only [List.getElem_toArray, List.getElem_cons_succ, List.getElem_cons_zero, Act.put, List.setIfInBounds_toArray, List.set_cons_zero, List.set_cons_succ]
 refine wpAnyH_take (i := 4) (v := ?_) rfl (by kernel_rfl) (by kernel_rfl) (by kernel_rfl) (fun _ _ _ h => h) (Or.inl ⟨by rfl, ?_⟩) (by assumption) ?_
 rotate_left
 · (intro w0 hSw; (try dsimp only at hSw); go_simp; try with_reducible rfl)
 try simp only [List.getElem_toArray, List.getElem_cons_succ, List.getElem_cons_zero, Act.put, List.setIfInBounds_toArray, List.set_cons_zero, List.set_cons_succ]
 refine wpAnyH_take (i := 5) (v := ?_) rfl (by kernel_rfl) (by kernel_rfl) (by kernel_rfl) (fun _ _ _ h => h) (Or.inl ⟨by rfl, ?_⟩) (by assumption) ?_
 rotate_left
 · (intro w0 hSw; (try dsimp only at hSw); go_simp; try with_reducible rfl)
 try simp only [List.getElem_toArray, List.getElem_cons_succ, List.getElem_cons_zero, Act.put, List.setIfInBounds_toArray, List.set_cons_zero, List.set_cons_succ]
 refine wpAnyH_take (i := 6) (v := ?_) rfl (by kernel_rfl) (by kernel_rfl) (by kernel_rfl) (fun _ _ _ h => h) (Or.inl ⟨by rfl, ?_⟩) (by assumption) ?_
 rotate_left
 · (intro w0 hSw; (try dsimp only at hSw); go_simp; try with_reducible rfl)
 try simp only [List.getElem_toArray, List.getElem_cons_succ, List.getElem_cons_zero, Act.put, List.setIfInBounds_toArray, List.set_cons_zero, List.set_cons_succ]
 refine wpAnyH_take (i := 7) (v := .agg (mc m)) rfl (by kernel_rfl) (by kernel_rfl) (by kernel_rfl) (fun _ _ _ h => h) (Or.inl ⟨by rfl, fun w0 hSw => exec_load (x := .tmp 3) rfl rfl (loadM HL.out hSw.2)⟩) (by assumption) ?_
 try simp only [List.getElem_toArray, List.getElem_cons_succ, List.getElem_cons_zero, Act.put, List.setIfInBounds_toArray, List.set_cons_zero, List.set_cons_succ]
 refine wpAnyH_take (i := 8) (v := ?_) rfl (by kernel_rfl) (by kernel_rfl) (by kernel_rfl) (fun _ _ _ h => h) (Or.inl ⟨by rfl, ?_⟩) (by assumption) ?_
 rotate_left
 · (intro w0 hSw; (try dsimp only at hSw); go_simp; try with_reducible rfl)
 try simp only [List.getElem_toArray, List.getElem_cons_succ, List.getElem_cons_zero, Act.put, List.setIfInBounds_toArray, List.set_cons_zero, List.set_cons_succ]
 refine wpAnyH_ready (rs := [9]) (by kernel_rfl) (by simp) ?_
 refine AllReadyH.cons rfl (fun K hK => ?_) AllReadyH.nil
 go_simp
 refine (HOC.out _ ((HM.out.step B1.out).step BD.out)).mono ?_
 rintro e V3 ⟨A3, c3', rfl, rd3, hb⟩
 have R3 := Lib.hid rd3
 try go_simp
 have BE := Lib.hid (stepB BD.out hb)
 clear rd3 hb
 refine hK.out _ _ (KQ.out _ BE.out) (fun hHeld => ?_)
 clear hK K
 refine wpAnyH_ready (rs := [10]) (by kernel_rfl) (by simp) ?_
 refine AllReadyH.cons rfl (fun K hK => ?_) AllReadyH.nil
 go_simp
 refine (live_any m HL.out A3 k0 c3' os _ R3.out HO2.out HK0.out HK8.out true HLV.out).mono ?_
 rintro e V4 ⟨rfl, hb⟩
 try go_simp
 have BF := Lib.hid (stepB BE.out hb)
 clear hb
 refine hK.out _ _ (KQ.out _ BF.out) (fun hHeld => ?_)
 clear hK K
 refine wpAnyH_take (i := 11) (v := ?_) rfl (by kernel_rfl) (by kernel_rfl) (by kernel_rfl) (fun _ _ _ h => h) (Or.inl ⟨by rfl, ?_⟩) (by assumption) ?_
 rotate_left
 · (intro w0 hSw; (try dsimp only at hSw); go_simp; try with_reducible rfl)
 try simp only [List.getElem_toArray, List.getElem_cons_succ, List.getElem_cons_zero, Act.put, List.setIfInBounds_toArray, List.set_cons_zero, List.set_cons_succ]
 refine wpAnyH_take (i := 12) (v := ?_) rfl (by kernel_rfl) (by kernel_rfl) (by kernel_rfl) (fun _ _ _ h => h) (Or.inl ⟨by rfl, ?_⟩) (by assumption) ?_
 rotate_left
 · (intro w0 hSw; (try dsimp only at hSw); go_simp; try with_reducible rfl)
 try simp only [List.getElem_toArray, List.getElem_cons_succ, List.getElem_cons_zero, Act.put, List.setIfInBounds_toArray, List.set_cons_zero, List.set_cons_succ]
 refine wpAnyH_done (by kernel_rfl) ?_ _
 clear hHeld KQ
 have B4 := Lib.hid (stepB B1.out BF.out)
 have M4 := Lib.hid (M1.out.here BF.out)
 clear BD BE BF R3 M1
 have HB4 := Lib.hid B4.out.size
 have H4 := Lib.hid (HM.out.step B4.out)
 have TOK2 := Lib.hid True.intro
 have TOK3 := Lib.hid True.intro
 go_upto_region 4 with (first
   | (have _t := TOK2; refine wpList_load_row_g (by rfl) 45 (.tmp 3) rfl bm rfl 45 (mc m) (0, 0) _ M4.out Tryz.underlying45 rfl HI.out ?_; clear _t TOK2)
   | (go_at_call 101; refine (back_any m HL.out true HBK.out _).mono ?_; rintro e V5 ⟨rfl, hb⟩; have B5 := Lib.hid (stepB B4.out hb); have M5 := Lib.hid (M4.out.here hb); clear hb))
 go_upto_region 5 with (first
   | (have _t := TOK3; refine wpList_load_row_g (by rfl) 45 (.tmp 3) rfl bm rfl 45 (mc m) (0, 0) _ M5.out Tryz.underlying45 rfl HI.out ?_; clear _t TOK3)
   | (go_at_call 102; refine (vic_any m HL.out HP.out N HN.out ((i : Int) + 1) HVI.out HST.out _).mono ?_; rintro e V51 ⟨rfl, hb⟩; have B51 := Lib.hid (stepB B5.out hb); have M51 := Lib.hid (M5.out.here hb); clear hb))
 go_upto_region 6 with (first
   | (go_at_call 60; refine (HC.out _ (HM.out.step B51.out)).mono ?_; rintro e V6 ⟨rfl, hb⟩; have T6 := Lib.hid (HT.out.step B51.out); have C6 := Lib.hid hb; clear hb)
   | (refine wpList_store_mid (by rfl) 62 (.tmp 7) (.tmp 37) (by rfl) V6.heap.size 0 (trc x s) (by rfl) (by rfl) ((show Blk (V6.alloc (.cells zTr 62)) V6.heap.size 62 (trc noTr noSl) from Blk.new V6 _ _).there (Nat.le_refl 13)) (tr_info _ _) (T6.out.step C6.out).one ?_
      have XZ := Lib.hid (show Blk ((V6.alloc (.cells zTr 62)).setCells V6.heap.size 0 (trc x s).toList) V6.heap.size 62 (trc x s) from (show Blk (V6.alloc (.cells zTr 62)) V6.heap.size 62 (trc noTr noSl) from Blk.new V6 _ _).put _ rfl)
      have EA := Lib.hid (show Below V6.heap.size V6 ((V6.alloc (.cells zTr 62)).setCells V6.heap.size 0 (trc x s).toList) from Below.setCells (b := V6.heap.size) (Nat.le_refl _) (trc x s).toList 0 _ (Joins.below_alloc1 V6 (.cells zTr 62)))
      have B7 := Lib.hid (stepB (stepB B51.out C6.out) EA.out)
      have M7 := Lib.hid ((M51.out.here C6.out).here EA.out)
      generalize (V6.alloc (.cells zTr 62)).setCells V6.heap.size 0 (trc x s).toList = V7 at XZ EA B7 M7 ⊢
      generalize V6.heap.size = bt at XZ EA ⊢))
 have HB7 := Lib.hid B7.out.size
 go_wp2_with (first
   | (refine wpList_load_row rfl 62 (.tmp 7) rfl bt rfl 62 (trc x s) (0, 0) _ XZ.out Tryz.underlying62 rfl (tr_info _ _) ?_)
   | (go_at_call 56; refine (HAB.out _ (HM.out.step B7.out) (HT.out.step B7.out)).mono ?_; rintro e V8 ⟨u, rfl, hu, P8, hs⟩; have U8 := Lib.hid hu; have S8 := Lib.hid ((CoS.below (N := fun _ => False) HM.out B7.out).trans hs); clear hu hs))
 go_ret
 exact ⟨_, rfl, own_less U8.out HB7.out, _, S8.out.fresh (fun k e => by simp only [or_false] at e)⟩
set_option maxRecDepth 100000 in
set_option maxHeartbeats 3000000 in
theorem probed_shut1 (m : List Int) (w : World) (h : CoM w g n c P) (hm : m.length = 28) (hpb : c.cf.pb = true) (h8 : n ≤ 8) (hl : P.L.length ≤ 1000) (hok : ∀ k : Nat, k < n → nowL n c.cl ((k : Int) + 1) = 0 ∨ ∃ i : Nat, i < P.L.length ∧ nowL n c.cl ((k : Int) + 1) = (i : Int) + 1) (hlv : liveL m (openC c n n) = true) (hbk : backL m = false) (z : Tr) (hz : eL c.txs (fld m 9) = z) (hop : z.op = false) :
   Calls Tryz.prog 59 #[.pointer (some ⟨g, 0, none⟩), .agg (mc m)] w fun e w' => e = .returned (.slice none 0 0) ∧ Below w.heap.size w w' := by
 have hn0 := fun W => run_neq_nil_nil (P := Tryz.prog) W 28 Tryz.underlying28
 have HM := Lib.hid h
 have HL := Lib.hid hm
 have HI := Lib.hid (mc_info hm)
 have TOK := Lib.hid True.intro
 have M1 := Lib.hid (show Blk (w.alloc (.cells (mc m) 45)) w.heap.size 45 (mc m) from Blk.new w _ _)
 have B1 := Lib.hid (Joins.below_alloc1 w (.cells (mc m) 45))
 have HBK := Lib.hid hbk
 have HZ := Lib.hid hz
 clear hbk hz
 have HOP := Lib.hid hop
 clear hop
 have HPB := Lib.hid hpb
 have HLL := Lib.hid hl
 obtain ⟨os, hos⟩ : ∃ os, openC c n n = os := ⟨_, rfl⟩
 obtain ⟨k0, hk0⟩ : ∃ k, os.length = k := ⟨_, rfl⟩
 have HOC := Lib.hid (fun W (hW : CoM W g n c P) => show Calls Tryz.prog 100 #[.pointer (some ⟨g, 0, none⟩)] W fun e w' => ∃ A c', e = .returned (.slice A k0 c') ∧ Reads w' w'.heap.size 2 A k0 (ints os.flatten) ∧ Below W.heap.size W w' from by
   refine (open_any W hW h8 hl hok).mono ?_
   rintro e w' ⟨u, rfl, hu, hb⟩
   rw [hos, hk0] at hu
   obtain ⟨A, c', e1, hr, _, _⟩ := own_rd hu
   exact ⟨A, c', by rw [e1], hr, hb⟩)
 have HO2 := Lib.hid (show ∀ o ∈ os, o.length = 2 from by rw [← hos]; exact openC_2)
 have HK8 := Lib.hid (show k0 ≤ 1000 from by have := openC_len (c := c) (n := n) n; rw [hos] at this; omega)
 have HK0 := Lib.hid hk0
 rw [hos] at hlv
 have HLV := Lib.hid hlv
 clear hpb hl hok hos hk0 h8 hlv
 clear h hm
 go_enter Tryz.func59, Tryz.ntmps59
 go_upto_region 1 with fail
 generalize w.heap.size = bm at M1 ⊢
 generalize w.alloc (.cells (mc m) 45) = V at M1 B1 ⊢
 have KQ := Lib.hid (show ∀ Y, Below V.heap.size V Y → (Y.cell? ⟨g, 1, none⟩ = some (.bool true) ∧ Blk Y bm 45 (mc m)) from fun Y hy =>
   ⟨by rw [← HPB.out]; exact ((HM.out.step B1.out).step hy).box.cell 1, M1.out.here hy⟩)
 refine wp_region_held_drew (S := fun w' => w'.cell? ⟨g, 1, none⟩ = some (.bool true) ∧ Blk w' bm 45 (mc m)) (by kernel_rfl) (KQ.out _ (Below.refl _ _).drew) (fun hHeld => ?_)
 have BD := Lib.hid (show Below V.heap.size V V.drew from (Below.refl _ _).drew)
 generalize V.drew = V2 at BD hHeld ⊢
 refine wpAnyH_take (i := 0) (v := ?_) rfl (by kernel_rfl) (by kernel_rfl) (by kernel_rfl) (fun _ _ _ h => h) (Or.inl ⟨by rfl, ?_⟩) (by assumption) ?_
 rotate_left
 · (intro w0 hSw; (try dsimp only at hSw); go_simp; try with_reducible rfl)
 try simp only [List.getElem_toArray, List.getElem_cons_succ, List.getElem_cons_zero, Act.put, List.setIfInBounds_toArray, List.set_cons_zero, List.set_cons_succ]
 refine wpAnyH_take (i := 1) (v := ?_) rfl (by kernel_rfl) (by kernel_rfl) (by kernel_rfl) (fun _ _ _ h => h) (Or.inl ⟨by rfl, ?_⟩) (by assumption) ?_
 rotate_left
 · (intro w0 hSw; (try dsimp only at hSw); go_simp; try with_reducible rfl)
 try simp only [List.getElem_toArray, List.getElem_cons_succ, List.getElem_cons_zero, Act.put, List.setIfInBounds_toArray, List.set_cons_zero, List.set_cons_succ]
 refine wpAnyH_take (i := 2) (v := ?_) rfl (by kernel_rfl) (by kernel_rfl) (by kernel_rfl) (fun _ _ _ h => h) (Or.inl ⟨by rfl, ?_⟩) (by assumption) ?_
 rotate_left
 · (intro w0 hSw; (try dsimp only at hSw); go_simp; try with_reducible rfl)
 try simp only [List.getElem_toArray, List.getElem_cons_succ, List.getElem_cons_zero, Act.put, List.setIfInBounds_toArray, List.set_cons_zero, List.set_cons_succ]
 refine wpAnyH_take (i := 3) (v := ?_) rfl (by kernel_rfl) (by kernel_rfl) (by kernel_rfl) (fun _ _ _ h => h) (Or.inl ⟨by rfl, ?_⟩) (by assumption) ?_
 rotate_left
 · (intro w0 hSw; (try dsimp only at hSw); go_simp; try with_reducible rfl)
 try simp only [List.getElem_toArray, List.getElem_cons_succ, List.getElem_cons_zero, Act.put, List.setIfInBounds_toArray, List.set_cons_zero, List.set_cons_succ]
 refine wpAnyH_take (i := 4) (v := ?_) rfl (by kernel_rfl) (by kernel_rfl) (by kernel_rfl) (fun _ _ _ h => h) (Or.inl ⟨by rfl, ?_⟩) (by assumption) ?_
 rotate_left
 · (intro w0 hSw; (try dsimp only at hSw); go_simp; try with_reducible rfl)
 try simp only [List.getElem_toArray, List.getElem_cons_succ, List.getElem_cons_zero, Act.put, List.setIfInBounds_toArray, List.set_cons_zero, List.set_cons_succ]
 refine wpAnyH_take (i := 5) (v := ?_) rfl (by kernel_rfl) (by kernel_rfl) (by kernel_rfl) (fun _ _ _ h => h) (Or.inl ⟨by rfl, ?_⟩) (by assumption) ?_
 rotate_left
 · (intro w0 hSw; (try dsimp only at hSw); go_simp; try with_reducible rfl)
 try simp only [List.getElem_toArray, List.getElem_cons_succ, List.getElem_cons_zero, Act.put, List.setIfInBounds_toArray, List.set_cons_zero, List.set_cons_succ]
 refine wpAnyH_take (i := 6) (v := ?_) rfl (by kernel_rfl) (by kernel_rfl) (by kernel_rfl) (fun _ _ _ h => h) (Or.inl ⟨by rfl, ?_⟩) (by assumption) ?_
 rotate_left
 · (intro w0 hSw; (try dsimp only at hSw); go_simp; try with_reducible rfl)
 try simp only [List.getElem_toArray, List.getElem_cons_succ, List.getElem_cons_zero, Act.put, List.setIfInBounds_toArray, List.set_cons_zero, List.set_cons_succ]
 refine wpAnyH_take (i := 7) (v := .agg (mc m)) rfl (by kernel_rfl) (by kernel_rfl) (by kernel_rfl) (fun _ _ _ h => h) (Or.inl ⟨by rfl, fun w0 hSw => exec_load (x := .tmp 3) rfl rfl (loadM HL.out hSw.2)⟩) (by assumption) ?_
 try simp only [List.getElem_toArray, List.getElem_cons_succ, List.getElem_cons_zero, Act.put, List.setIfInBounds_toArray, List.set_cons_zero, List.set_cons_succ]
 refine wpAnyH_take (i := 8) (v := ?_) rfl (by kernel_rfl) (by kernel_rfl) (by kernel_rfl) (fun _ _ _ h => h) (Or.inl ⟨by rfl, ?_⟩) (by assumption) ?_
 rotate_left
 · (intro w0 hSw; (try dsimp only at hSw); go_simp; try with_reducible rfl)
 try simp only [List.getElem_toArray, List.getElem_cons_succ, List.getElem_cons_zero, Act.put, List.setIfInBounds_toArray, List.set_cons_zero, List.set_cons_succ]
 refine wpAnyH_ready (rs := [9]) (by kernel_rfl) (by simp) ?_
 refine AllReadyH.cons rfl (fun K hK => ?_) AllReadyH.nil
 go_simp
 refine (HOC.out _ ((HM.out.step B1.out).step BD.out)).mono ?_
 rintro e V3 ⟨A3, c3', rfl, rd3, hb⟩
 have R3 := Lib.hid rd3
 try go_simp
 have BE := Lib.hid (stepB BD.out hb)
 clear rd3 hb
 refine hK.out _ _ (KQ.out _ BE.out) (fun hHeld => ?_)
 clear hK K
 refine wpAnyH_ready (rs := [10]) (by kernel_rfl) (by simp) ?_
 refine AllReadyH.cons rfl (fun K hK => ?_) AllReadyH.nil
 go_simp
 refine (live_any m HL.out A3 k0 c3' os _ R3.out HO2.out HK0.out HK8.out true HLV.out).mono ?_
 rintro e V4 ⟨rfl, hb⟩
 try go_simp
 have BF := Lib.hid (stepB BE.out hb)
 clear hb
 refine hK.out _ _ (KQ.out _ BF.out) (fun hHeld => ?_)
 clear hK K
 refine wpAnyH_take (i := 11) (v := ?_) rfl (by kernel_rfl) (by kernel_rfl) (by kernel_rfl) (fun _ _ _ h => h) (Or.inl ⟨by rfl, ?_⟩) (by assumption) ?_
 rotate_left
 · (intro w0 hSw; (try dsimp only at hSw); go_simp; try with_reducible rfl)
 try simp only [List.getElem_toArray, List.getElem_cons_succ, List.getElem_cons_zero, Act.put, List.setIfInBounds_toArray, List.set_cons_zero, List.set_cons_succ]
 refine wpAnyH_take (i := 12) (v := ?_) rfl (by kernel_rfl) (by kernel_rfl) (by kernel_rfl) (fun _ _ _ h => h) (Or.inl ⟨by rfl, ?_⟩) (by assumption) ?_
 rotate_left
 · (intro w0 hSw; (try dsimp only at hSw); go_simp; try with_reducible rfl)
 try simp only [List.getElem_toArray, List.getElem_cons_succ, List.getElem_cons_zero, Act.put, List.setIfInBounds_toArray, List.set_cons_zero, List.set_cons_succ]
 refine wpAnyH_done (by kernel_rfl) ?_ _
 clear hHeld KQ
 have B4 := Lib.hid (stepB B1.out BF.out)
 have M4 := Lib.hid (M1.out.here BF.out)
 clear BD BE BF R3 M1
 have HB4 := Lib.hid B4.out.size
 have H4 := Lib.hid (HM.out.step B4.out)
 have TOK2 := Lib.hid True.intro
 have TOK3 := Lib.hid True.intro
 go_upto_region 7 with (first
   | (have _t := TOK2; refine wpList_load_row_g (by rfl) 45 (.tmp 3) rfl bm rfl 45 (mc m) (0, 0) _ M4.out Tryz.underlying45 rfl HI.out ?_; clear _t TOK2)
   | (go_at_call 101; refine (back_any m HL.out false HBK.out _).mono ?_; rintro e V5 ⟨rfl, hb⟩; have B5 := Lib.hid (stepB B4.out hb); have M5 := Lib.hid (M4.out.here hb); clear hb))
 have m9 := mc_cell HL.out M5.out (i := 9) (by omega)
 go_upto_region 8 with (first
   | (go_at_call 60; refine (find_any (fld m 9) _ (HM.out.step B5.out) HLL.out z HZ.out _ rfl).mono ?_; rintro e V6 ⟨s, rfl, ht, hb⟩; have T6 := Lib.hid ht; have C6 := Lib.hid hb; clear ht hb)
   | (refine wpList_store_mid (by rfl) 62 (.tmp 9) (.tmp 47) (by rfl) V6.heap.size 0 (trc z s) (by rfl) (by rfl) ((show Blk (V6.alloc (.cells zTr 62)) V6.heap.size 62 (trc noTr noSl) from Blk.new V6 _ _).there (Nat.le_refl 13)) (tr_info _ _) (T6.out.step C6.out).one ?_
      have XZ := Lib.hid (show Blk ((V6.alloc (.cells zTr 62)).setCells V6.heap.size 0 (trc z s).toList) V6.heap.size 62 (trc z s) from (show Blk (V6.alloc (.cells zTr 62)) V6.heap.size 62 (trc noTr noSl) from Blk.new V6 _ _).put _ rfl)
      have EA := Lib.hid (show Below V6.heap.size V6 ((V6.alloc (.cells zTr 62)).setCells V6.heap.size 0 (trc z s).toList) from Below.setCells (b := V6.heap.size) (Nat.le_refl _) (trc z s).toList 0 _ (Joins.below_alloc1 V6 (.cells zTr 62)))
      have B7 := Lib.hid (stepB (stepB B5.out C6.out) EA.out)
      have M7 := Lib.hid ((M5.out.here C6.out).here EA.out)
      generalize (V6.alloc (.cells zTr 62)).setCells V6.heap.size 0 (trc z s).toList = V7 at XZ EA B7 M7 ⊢
      generalize V6.heap.size = bt at XZ EA ⊢))
 have HB7 := Lib.hid B7.out.size
 clear m9
 have z4 : V7.cell? ⟨bt, 4, none⟩ = some (.bool false) := by rw [← HOP.out]; exact XZ.out.cell 4
 have z3 : V7.cell? ⟨bt, 3, none⟩ = some (.int .i64 z.sq) := XZ.out.cell 3
 have z5 : V7.cell? ⟨bt, 5, none⟩ = some (.int .i64 z.sh) := XZ.out.cell 5
 go_wp2_with fail
 go_ret
 exact ⟨rfl, B7.out⟩
set_option maxRecDepth 100000 in
set_option maxHeartbeats 3000000 in
theorem probed_shut2 (m : List Int) (w : World) (h : CoM w g n c P) (hm : m.length = 28) (hpb : c.cf.pb = true) (h8 : n ≤ 8) (hl : P.L.length ≤ 1000) (hok : ∀ k : Nat, k < n → nowL n c.cl ((k : Int) + 1) = 0 ∨ ∃ i : Nat, i < P.L.length ∧ nowL n c.cl ((k : Int) + 1) = (i : Int) + 1) (hlv : liveL m (openC c n n) = true) (hbk : backL m = false) (z : Tr) (hz : eL c.txs (fld m 9) = z) (hop : z.op = true) (h10 : fld m 10 ≠ 0) (hsq : fld m 10 ≠ z.sq) :
   Calls Tryz.prog 59 #[.pointer (some ⟨g, 0, none⟩), .agg (mc m)] w fun e w' => e = .returned (.slice none 0 0) ∧ Below w.heap.size w w' := by
 have hn0 := fun W => run_neq_nil_nil (P := Tryz.prog) W 28 Tryz.underlying28
 have HM := Lib.hid h
 have HL := Lib.hid hm
 have HI := Lib.hid (mc_info hm)
 have TOK := Lib.hid True.intro
 have M1 := Lib.hid (show Blk (w.alloc (.cells (mc m) 45)) w.heap.size 45 (mc m) from Blk.new w _ _)
 have B1 := Lib.hid (Joins.below_alloc1 w (.cells (mc m) 45))
 have HBK := Lib.hid hbk
 have HZ := Lib.hid hz
 clear hbk hz
 have HOP := Lib.hid hop
 have d1 : (fld m 10 != 0) = true := by simp [h10]
 have d2 : (fld m 10 != z.sq) = true := by simp [hsq]
 clear hop h10 hsq
 have HPB := Lib.hid hpb
 have HLL := Lib.hid hl
 obtain ⟨os, hos⟩ : ∃ os, openC c n n = os := ⟨_, rfl⟩
 obtain ⟨k0, hk0⟩ : ∃ k, os.length = k := ⟨_, rfl⟩
 have HOC := Lib.hid (fun W (hW : CoM W g n c P) => show Calls Tryz.prog 100 #[.pointer (some ⟨g, 0, none⟩)] W fun e w' => ∃ A c', e = .returned (.slice A k0 c') ∧ Reads w' w'.heap.size 2 A k0 (ints os.flatten) ∧ Below W.heap.size W w' from by
   refine (open_any W hW h8 hl hok).mono ?_
   rintro e w' ⟨u, rfl, hu, hb⟩
   rw [hos, hk0] at hu
   obtain ⟨A, c', e1, hr, _, _⟩ := own_rd hu
   exact ⟨A, c', by rw [e1], hr, hb⟩)
 have HO2 := Lib.hid (show ∀ o ∈ os, o.length = 2 from by rw [← hos]; exact openC_2)
 have HK8 := Lib.hid (show k0 ≤ 1000 from by have := openC_len (c := c) (n := n) n; rw [hos] at this; omega)
 have HK0 := Lib.hid hk0
 rw [hos] at hlv
 have HLV := Lib.hid hlv
 clear hpb hl hok hos hk0 h8 hlv
 clear h hm
 go_enter Tryz.func59, Tryz.ntmps59
 go_upto_region 1 with fail
 generalize w.heap.size = bm at M1 ⊢
 generalize w.alloc (.cells (mc m) 45) = V at M1 B1 ⊢
 have KQ := Lib.hid (show ∀ Y, Below V.heap.size V Y → (Y.cell? ⟨g, 1, none⟩ = some (.bool true) ∧ Blk Y bm 45 (mc m)) from fun Y hy =>
   ⟨by rw [← HPB.out]; exact ((HM.out.step B1.out).step hy).box.cell 1, M1.out.here hy⟩)
 refine wp_region_held_drew (S := fun w' => w'.cell? ⟨g, 1, none⟩ = some (.bool true) ∧ Blk w' bm 45 (mc m)) (by kernel_rfl) (KQ.out _ (Below.refl _ _).drew) (fun hHeld => ?_)
 have BD := Lib.hid (show Below V.heap.size V V.drew from (Below.refl _ _).drew)
 generalize V.drew = V2 at BD hHeld ⊢
 refine wpAnyH_take (i := 0) (v := ?_) rfl (by kernel_rfl) (by kernel_rfl) (by kernel_rfl) (fun _ _ _ h => h) (Or.inl ⟨by rfl, ?_⟩) (by assumption) ?_
 rotate_left
 · (intro w0 hSw; (try dsimp only at hSw); go_simp; try with_reducible rfl)
 try simp only [List.getElem_toArray, List.getElem_cons_succ, List.getElem_cons_zero, Act.put, List.setIfInBounds_toArray, List.set_cons_zero, List.set_cons_succ]
 refine wpAnyH_take (i := 1) (v := ?_) rfl (by kernel_rfl) (by kernel_rfl) (by kernel_rfl) (fun _ _ _ h => h) (Or.inl ⟨by rfl, ?_⟩) (by assumption) ?_
 rotate_left
 · (intro w0 hSw; (try dsimp only at hSw); go_simp; try with_reducible rfl)
 try simp only [List.getElem_toArray, List.getElem_cons_succ, List.getElem_cons_zero, Act.put, List.setIfInBounds_toArray, List.set_cons_zero, List.set_cons_succ]
 refine wpAnyH_take (i := 2) (v := ?_) rfl (by kernel_rfl) (by kernel_rfl) (by kernel_rfl) (fun _ _ _ h => h) (Or.inl ⟨by rfl, ?_⟩) (by assumption) ?_
 rotate_left
 · (intro w0 hSw; (try dsimp only at hSw); go_simp; try with_reducible rfl)
 try simp only [List.getElem_toArray, List.getElem_cons_succ, List.getElem_cons_zero, Act.put, List.setIfInBounds_toArray, List.set_cons_zero, List.set_cons_succ]
 refine wpAnyH_take (i := 3) (v := ?_) rfl (by kernel_rfl) (by kernel_rfl) (by kernel_rfl) (fun _ _ _ h => h) (Or.inl ⟨by rfl, ?_⟩) (by assumption) ?_
 rotate_left
 · (intro w0 hSw; (try dsimp only at hSw); go_simp; try with_reducible rfl)
 try simp only [List.getElem_toArray, List.getElem_cons_succ, List.getElem_cons_zero, Act.put, List.setIfInBounds_toArray, List.set_cons_zero, List.set_cons_succ]
 refine wpAnyH_take (i := 4) (v := ?_) rfl (by kernel_rfl) (by kernel_rfl) (by kernel_rfl) (fun _ _ _ h => h) (Or.inl ⟨by rfl, ?_⟩) (by assumption) ?_
 rotate_left
 · (intro w0 hSw; (try dsimp only at hSw); go_simp; try with_reducible rfl)
 try simp only [List.getElem_toArray, List.getElem_cons_succ, List.getElem_cons_zero, Act.put, List.setIfInBounds_toArray, List.set_cons_zero, List.set_cons_succ]
 refine wpAnyH_take (i := 5) (v := ?_) rfl (by kernel_rfl) (by kernel_rfl) (by kernel_rfl) (fun _ _ _ h => h) (Or.inl ⟨by rfl, ?_⟩) (by assumption) ?_
 rotate_left
 · (intro w0 hSw; (try dsimp only at hSw); go_simp; try with_reducible rfl)
 try simp only [List.getElem_toArray, List.getElem_cons_succ, List.getElem_cons_zero, Act.put, List.setIfInBounds_toArray, List.set_cons_zero, List.set_cons_succ]
 refine wpAnyH_take (i := 6) (v := ?_) rfl (by kernel_rfl) (by kernel_rfl) (by kernel_rfl) (fun _ _ _ h => h) (Or.inl ⟨by rfl, ?_⟩) (by assumption) ?_
 rotate_left
 · (intro w0 hSw; (try dsimp only at hSw); go_simp; try with_reducible rfl)
 try simp only [List.getElem_toArray, List.getElem_cons_succ, List.getElem_cons_zero, Act.put, List.setIfInBounds_toArray, List.set_cons_zero, List.set_cons_succ]
 refine wpAnyH_take (i := 7) (v := .agg (mc m)) rfl (by kernel_rfl) (by kernel_rfl) (by kernel_rfl) (fun _ _ _ h => h) (Or.inl ⟨by rfl, fun w0 hSw => exec_load (x := .tmp 3) rfl rfl (loadM HL.out hSw.2)⟩) (by assumption) ?_
 try simp only [List.getElem_toArray, List.getElem_cons_succ, List.getElem_cons_zero, Act.put, List.setIfInBounds_toArray, List.set_cons_zero, List.set_cons_succ]
 refine wpAnyH_take (i := 8) (v := ?_) rfl (by kernel_rfl) (by kernel_rfl) (by kernel_rfl) (fun _ _ _ h => h) (Or.inl ⟨by rfl, ?_⟩) (by assumption) ?_
 rotate_left
 · (intro w0 hSw; (try dsimp only at hSw); go_simp; try with_reducible rfl)
 try simp only [List.getElem_toArray, List.getElem_cons_succ, List.getElem_cons_zero, Act.put, List.setIfInBounds_toArray, List.set_cons_zero, List.set_cons_succ]
 refine wpAnyH_ready (rs := [9]) (by kernel_rfl) (by simp) ?_
 refine AllReadyH.cons rfl (fun K hK => ?_) AllReadyH.nil
 go_simp
 refine (HOC.out _ ((HM.out.step B1.out).step BD.out)).mono ?_
 rintro e V3 ⟨A3, c3', rfl, rd3, hb⟩
 have R3 := Lib.hid rd3
 try go_simp
 have BE := Lib.hid (stepB BD.out hb)
 clear rd3 hb
 refine hK.out _ _ (KQ.out _ BE.out) (fun hHeld => ?_)
 clear hK K
 refine wpAnyH_ready (rs := [10]) (by kernel_rfl) (by simp) ?_
 refine AllReadyH.cons rfl (fun K hK => ?_) AllReadyH.nil
 go_simp
 refine (live_any m HL.out A3 k0 c3' os _ R3.out HO2.out HK0.out HK8.out true HLV.out).mono ?_
 rintro e V4 ⟨rfl, hb⟩
 try go_simp
 have BF := Lib.hid (stepB BE.out hb)
 clear hb
 refine hK.out _ _ (KQ.out _ BF.out) (fun hHeld => ?_)
 clear hK K
 refine wpAnyH_take (i := 11) (v := ?_) rfl (by kernel_rfl) (by kernel_rfl) (by kernel_rfl) (fun _ _ _ h => h) (Or.inl ⟨by rfl, ?_⟩) (by assumption) ?_
 rotate_left
 · (intro w0 hSw; (try dsimp only at hSw); go_simp; try with_reducible rfl)
 try simp only [List.getElem_toArray, List.getElem_cons_succ, List.getElem_cons_zero, Act.put, List.setIfInBounds_toArray, List.set_cons_zero, List.set_cons_succ]
 refine wpAnyH_take (i := 12) (v := ?_) rfl (by kernel_rfl) (by kernel_rfl) (by kernel_rfl) (fun _ _ _ h => h) (Or.inl ⟨by rfl, ?_⟩) (by assumption) ?_
 rotate_left
 · (intro w0 hSw; (try dsimp only at hSw); go_simp; try with_reducible rfl)
 try simp only [List.getElem_toArray, List.getElem_cons_succ, List.getElem_cons_zero, Act.put, List.setIfInBounds_toArray, List.set_cons_zero, List.set_cons_succ]
 refine wpAnyH_done (by kernel_rfl) ?_ _
 clear hHeld KQ
 have B4 := Lib.hid (stepB B1.out BF.out)
 have M4 := Lib.hid (M1.out.here BF.out)
 clear BD BE BF R3 M1
 have HB4 := Lib.hid B4.out.size
 have H4 := Lib.hid (HM.out.step B4.out)
 have TOK2 := Lib.hid True.intro
 have TOK3 := Lib.hid True.intro
 go_upto_region 7 with (first
   | (have _t := TOK2; refine wpList_load_row_g (by rfl) 45 (.tmp 3) rfl bm rfl 45 (mc m) (0, 0) _ M4.out Tryz.underlying45 rfl HI.out ?_; clear _t TOK2)
   | (go_at_call 101; refine (back_any m HL.out false HBK.out _).mono ?_; rintro e V5 ⟨rfl, hb⟩; have B5 := Lib.hid (stepB B4.out hb); have M5 := Lib.hid (M4.out.here hb); clear hb))
 have m9 := mc_cell HL.out M5.out (i := 9) (by omega)
 go_upto_region 8 with (first
   | (go_at_call 60; refine (find_any (fld m 9) _ (HM.out.step B5.out) HLL.out z HZ.out _ rfl).mono ?_; rintro e V6 ⟨s, rfl, ht, hb⟩; have T6 := Lib.hid ht; have C6 := Lib.hid hb; clear ht hb)
   | (refine wpList_store_mid (by rfl) 62 (.tmp 9) (.tmp 47) (by rfl) V6.heap.size 0 (trc z s) (by rfl) (by rfl) ((show Blk (V6.alloc (.cells zTr 62)) V6.heap.size 62 (trc noTr noSl) from Blk.new V6 _ _).there (Nat.le_refl 13)) (tr_info _ _) (T6.out.step C6.out).one ?_
      have XZ := Lib.hid (show Blk ((V6.alloc (.cells zTr 62)).setCells V6.heap.size 0 (trc z s).toList) V6.heap.size 62 (trc z s) from (show Blk (V6.alloc (.cells zTr 62)) V6.heap.size 62 (trc noTr noSl) from Blk.new V6 _ _).put _ rfl)
      have EA := Lib.hid (show Below V6.heap.size V6 ((V6.alloc (.cells zTr 62)).setCells V6.heap.size 0 (trc z s).toList) from Below.setCells (b := V6.heap.size) (Nat.le_refl _) (trc z s).toList 0 _ (Joins.below_alloc1 V6 (.cells zTr 62)))
      have B7 := Lib.hid (stepB (stepB B5.out C6.out) EA.out)
      have M7 := Lib.hid ((M5.out.here C6.out).here EA.out)
      generalize (V6.alloc (.cells zTr 62)).setCells V6.heap.size 0 (trc z s).toList = V7 at XZ EA B7 M7 ⊢
      generalize V6.heap.size = bt at XZ EA ⊢))
 have HB7 := Lib.hid B7.out.size
 clear m9
 have z4 : V7.cell? ⟨bt, 4, none⟩ = some (.bool true) := by rw [← HOP.out]; exact XZ.out.cell 4
 have z3 : V7.cell? ⟨bt, 3, none⟩ = some (.int .i64 z.sq) := XZ.out.cell 3
 have z5 : V7.cell? ⟨bt, 5, none⟩ = some (.int .i64 z.sh) := XZ.out.cell 5
 have m10 := mc_cell HL.out M7.out (i := 10) (by omega)
 generalize fld m 10 = k10 at m10 d1 d2
 generalize z.sq = sq at z3 d2
 go_wp2_with fail
 go_ret
 exact ⟨rfl, B7.out⟩
end
end Go.Proofs.YtadnlannbafjpaaGreat
