/- The statements' own letter and act: whatever is done on a net. -/
import Derived.Test.YtmjmplkhngpgnaaNetJ
import Derived.Test.YtmjmplkhngpgnaaNetI
namespace Go.Proofs.Ytmjmplkhngpgnaa
open Go.RowKit
set_option linter.unusedVariables false
set_option linter.unusedSimpArgs false

/-! ### an act: what it answers, what is on its way then -/
def doMs (lim : Int) (ms : List (List Int)) (a : List Int) : List (List Int) :=
  if fld a 0 = 0 then sendMs lim ms (a.drop 2) else if fld a 0 = 4 then [] else if fld a 0 = 3 then twMs lim ms (fld a 1) else if fld a 0 = 1 ∨ fld a 0 = 2 then dlvMs ms (fld a 1) else ms
def doC (lim : Int) (ms : List (List Int)) (a : List Int) : Int :=
  if fld a 0 = 0 then sendC lim ms (a.drop 2) else if fld a 0 = 4 then 0 else if fld a 0 = 3 then twC lim ms else if fld a 0 = 1 ∨ fld a 0 = 2 then pickC ms else 0
def doM (ms : List (List Int)) (a : List Int) : List Int := if fld a 0 = 1 then dlvM ms (fld a 1) else zM
theorem doM_length {ms : List (List Int)} (h : ∀ m ∈ ms, m.length = 28) (a : List Int) : (doM ms a).length = 28 := by
  unfold doM; split
  · exact dlvM_length h _
  · exact zM_length
theorem dlv_none {ms : List (List Int)} (h : ms.length = 0) (k : Int) : dlvM ms k = zM ∧ dlvMs ms k = ms := by
  obtain rfl := List.eq_nil_of_length_eq_zero h
  exact ⟨rfl, rfl⟩
theorem do_any {B h : Nat} {lim : Int} {ms : List (List Int)} {v : Value} {a : List Int} (w : World) (R : RNet w B h lim ms v) (hl : a.length = 30) (hw : (Lit.int .i64 (fld a 1)).wf = true) (hlim : lim ≤ 65536) :
    Calls Try.prog 18 #[.pointer (some ⟨h, 0, none⟩), .agg (ints a).toArray] w fun e w' => e = .returned (.tuple #[.agg (mc (doM ms a)), .int .i64 (doC lim ms a)]) ∧ ∃ v', RNet w' B h lim (doMs lim ms a) v' ∧ Turn (fun k => k = h) w w' := by
  by_cases k0 : fld a 0 = 0
  · rw [show doM ms a = zM by unfold doM; rw [if_neg (by omega)], show doC lim ms a = sendC lim ms (a.drop 2) by unfold doC; rw [if_pos k0], show doMs lim ms a = sendMs lim ms (a.drop 2) by unfold doMs; rw [if_pos k0]]
    cases hm : mayB (a.drop 2)
    · rw [show sendC lim ms (a.drop 2) = 5 by unfold sendC; rw [hm]; rfl, show sendMs lim ms (a.drop 2) = ms by unfold sendMs; rw [hm]; rfl]
      exact do_send_bad w R hl k0 hm
    · by_cases hf : lim ≤ ms.length
      · rw [show sendC lim ms (a.drop 2) = 6 by unfold sendC addC; rw [hm, if_pos hf]; rfl, show sendMs lim ms (a.drop 2) = ms by unfold sendMs addMs; rw [hm, if_pos hf]; rfl]
        exact do_send_full w R hl k0 hm hf
      · rw [show sendC lim ms (a.drop 2) = 0 by unfold sendC addC; rw [hm, if_neg hf]; rfl, show sendMs lim ms (a.drop 2) = ms ++ [a.drop 2] by unfold sendMs addMs; rw [hm, if_neg hf]; rfl]
        exact do_send_room w R hl k0 hm (by omega) hlim
  by_cases k4 : fld a 0 = 4
  · rw [show doM ms a = zM by unfold doM; rw [if_neg (by omega)], show doC lim ms a = 0 by unfold doC; rw [if_neg k0, if_pos k4], show doMs lim ms a = [] by unfold doMs; rw [if_neg k0, if_pos k4]]
    exact do_take w R hl k4
  by_cases k3 : fld a 0 = 3
  · rw [show doM ms a = zM by unfold doM; rw [if_neg (by omega)], show doC lim ms a = twC lim ms by unfold doC; rw [if_neg k0, if_neg k4, if_pos k3], show doMs lim ms a = twMs lim ms (fld a 1) by unfold doMs; rw [if_neg k0, if_neg k4, if_pos k3]]
    by_cases h0 : ms.length = 0
    · rw [show twC lim ms = 10 by unfold twC; rw [if_pos h0], show twMs lim ms (fld a 1) = ms by unfold twMs; rw [if_pos h0]]
      exact do_none w R hl (by omega) h0
    · by_cases hf : lim ≤ ms.length
      · rw [show twC lim ms = 6 by unfold twC addC; rw [if_neg h0, if_pos hf], show twMs lim ms (fld a 1) = ms by unfold twMs addMs; rw [if_neg h0, if_pos hf]]
        exact do_twice_full w R hl k3 (by omega) hw hf
      · rw [show twC lim ms = 0 by unfold twC addC; rw [if_neg h0, if_neg hf], show twMs lim ms (fld a 1) = ms ++ [dlvM ms (fld a 1)] by unfold twMs addMs; rw [if_neg h0, if_neg hf]]
        exact do_twice_room w R hl k3 (by omega) hw (by omega) hlim
  by_cases k1 : fld a 0 = 1
  · rw [show doM ms a = dlvM ms (fld a 1) by unfold doM; rw [if_pos k1], show doC lim ms a = pickC ms by unfold doC; rw [if_neg k0, if_neg k4, if_neg k3, if_pos (.inl k1)], show doMs lim ms a = dlvMs ms (fld a 1) by unfold doMs; rw [if_neg k0, if_neg k4, if_neg k3, if_pos (.inl k1)]]
    by_cases h0 : ms.length = 0
    · rw [(dlv_none h0 _).1, (dlv_none h0 _).2, show pickC ms = 10 by unfold pickC; rw [if_pos h0]]
      exact do_none w R hl (by omega) h0
    · rw [show pickC ms = 0 by unfold pickC; rw [if_neg h0]]
      exact do_deliver w R hl k1 (by omega) hw
  by_cases k2 : fld a 0 = 2
  · rw [show doM ms a = zM by unfold doM; rw [if_neg k1], show doC lim ms a = pickC ms by unfold doC; rw [if_neg k0, if_neg k4, if_neg k3, if_pos (.inr k2)], show doMs lim ms a = dlvMs ms (fld a 1) by unfold doMs; rw [if_neg k0, if_neg k4, if_neg k3, if_pos (.inr k2)]]
    by_cases h0 : ms.length = 0
    · rw [(dlv_none h0 _).2, show pickC ms = 10 by unfold pickC; rw [if_pos h0]]
      exact do_none w R hl (by omega) h0
    · rw [show pickC ms = 0 by unfold pickC; rw [if_neg h0]]
      exact do_drop w R hl k2 (by omega) hw
  · rw [show doM ms a = zM by unfold doM; rw [if_neg k1], show doC lim ms a = 0 by unfold doC; rw [if_neg k0, if_neg k4, if_neg k3, if_neg (by omega)], show doMs lim ms a = ms by unfold doMs; rw [if_neg k0, if_neg k4, if_neg k3, if_neg (by omega)]]
    rcases (show fld a 0 < 0 ∨ 4 < fld a 0 by omega) with hk | hk
    · exact do_other_lo w R hl hk
    · exact do_other_hi w R hl hk

/-! ### the codes of the errors -/
theorem code_add (lim : Int) (ms : List (List Int)) (w : World) : Calls Try.prog 12 #[addE lim ms] w fun e w' => e = .returned (.int .i64 (addC lim ms)) ∧ w = w' := by
  unfold addE addC; split
  · exact code_errno 6 (by decide) w
  · exact code_nil w
theorem code_send (lim : Int) (ms : List (List Int)) (m : List Int) (w : World) : Calls Try.prog 12 #[sendE lim ms m] w fun e w' => e = .returned (.int .i64 (sendC lim ms m)) ∧ w = w' := by
  unfold sendE sendC; split
  · exact code_add lim ms w
  · exact code_errno 5 (by decide) w
theorem code_pick (ms : List (List Int)) (w : World) : Calls Try.prog 12 #[pickE ms] w fun e w' => e = .returned (.int .i64 (pickC ms)) ∧ w = w' := by
  unfold pickE pickC; split
  · exact code_errno 10 (by decide) w
  · exact code_nil w
theorem code_tw (lim : Int) (ms : List (List Int)) (w : World) : Calls Try.prog 12 #[twE lim ms] w fun e w' => e = .returned (.int .i64 (twC lim ms)) ∧ w = w' := by
  unfold twE twC; split
  · exact code_errno 10 (by decide) w
  · exact code_add lim ms w

/-! ### letter -/
def lett (tx : Int) : List Int := [4, 0, 1, tx, 0, 0, 0, 0, 0, 0, 0, 0, 0, 0, 0, 0, 0, 0, 0, 0, 0, 0, 0, 0, 0, 0, 0, 0]
theorem lett_length (tx : Int) : (lett tx).length = 28 := rfl
theorem results_cell1 {P : Program} {fn : Func} {p : Tmp} {ty : TypeId} (h : fn.results = #[.cell p ty]) {tmps : Array Value} {w : World} {a : Addr} {u : Value} (hp : tmps.getD p undef = .pointer (some a))
    (hu : (loadVar ty a).run P w = .ok u w) : (results fn tmps).run P w = .ok u w := by
  have hp' : tmps[p]?.getD undef = .pointer (some a) := by simpa using hp
  simp [results, h, hp', asAddr, hu]
set_option maxRecDepth 100000 in
set_option maxHeartbeats 1000000 in
theorem letter_any (tx : Int) (w : World) : Calls Try.prog 25 #[.int .i64 tx] w fun e w' => e = .returned (.agg (mc (lett tx))) ∧ Below w.heap.size w w' := by
  have HI := Lib.hid (mc_info (lett_length tx))
  have H0 := Lib.hid (Blk.new w 31 (mc zM))
  go_enter Try.func25, Try.ntmps25
  rw [mc_zero] at H0
  go_wp2_with (refine wpList_store_mid (by rfl) 31 (.tmp 2) (.tmp 4) (by rfl) w.heap.size 0 (mc (lett tx)) (by rfl) (by rfl) (mc_there zM_length (lett_length tx) H0.out) HI.out (ints_oneCell _) ?_)
  exact bodyPost_ret (v := .agg (mc (lett tx))) (results_cell1 rfl rfl (loadM (lett_length tx) (mc_put zM_length (lett_length tx) H0.out))) rfl ⟨rfl, Below.setCells (Nat.le_refl _) _ _ _ (stepA (Below.refl _ _) _)⟩

set_option maxRecDepth 100000 in
set_option maxHeartbeats 4000000 in
theorem act_send {B g : Nat} {r : Option Nat} {lim : Int} {ms : List (List Int)} {a : List Int} (w : World) (N : Net w B g r lim ms) (hl : a.length = 30) (hk : fld a 0 = 0) :
    Calls Try.prog 17 #[.pointer (some ⟨g, 0, none⟩), .agg (ints a).toArray] w fun e w' => e = .returned (.tuple #[.agg (mc zM), .int .i64 (sendC lim ms (a.drop 2))]) ∧ ∃ r', Net w' B g r' lim (sendMs lim ms (a.drop 2)) ∧ Turn (NS g r) w w' ∧ Next w r r' := by
  have hg := N.lt
  have HL := Lib.hid hl
  have HZ := Lib.hid (mc_info zM_length)
  have K0 := Lib.hid (KD.begin w a)
  have HN := Lib.hid N
  have e0 : (fld a 0 == 0) = true := by rw [hk]; rfl
  have e1 : (fld a 0 == 1) = false := by rw [hk]; rfl
  have e2 : (fld a 0 == 2) = false := by rw [hk]; rfl
  have e3 : (fld a 0 == 3) = false := by rw [hk]; rfl
  have e4 : (fld a 0 == 4) = false := by rw [hk]; rfl
  have HML := Lib.hid (show (a.drop 2).length = 28 by simp [hl])
  have HMI := Lib.hid (show (Try.prog.info? 31).map (·.size) = some (ints (a.drop 2)).length from by have := mc_info (m := a.drop 2) (by simp [hl]); simpa [mc] using this)
  clear hl N
  go_enter Try.func17, Try.ntmps17
  rw [mc_zero] at K0
  go_upto_region 1 with fail
  generalize World.alloc _ _ = W0 at K0 ⊢
  have c0 := K0.out.field HL.out (i := 0) (by omega)
  have c1 := K0.out.field HL.out (i := 1) (by omega)
  have N0 := Lib.hid (HN.out.step K0.out.bel)
  go_wp2_with (refine wpList_load_cells rfl 31 (.tmp 14) rfl ⟨w.heap.size, 2, none⟩ rfl (ints (a.drop 2)) _ (K0.out.msgAt HL.out) Try.underlying31 rfl HMI.out ?_)
  refine (send_any W0 N0.out HML.out).mono ?_
  rintro e w1 ⟨rfl, r1, hn1, ht1, hx1⟩
  have N1 := Lib.hid hn1
  have X1 := Lib.hid (show Next w r r1 from (Next.refl w r).trans hx1 K0.out.bel.size)
  have AN := Lib.hid (N0.out.kept ht1 K0.out.ans (by decide) (by decide))
  have T1 := Lib.hid ((Turn.of_below (S := NS g r) K0.out.bel).trans ht1 (fun _ _ h => h))
  clear hn1 hx1 ht1
  go_wp2_with fail
  refine (code_send lim ms (a.drop 2) _).mono ?_
  rintro e w2 ⟨rfl, rfl⟩
  go_wp2_with (refine wpList_store_mid (by rfl) 31 (.tmp 4) (.tmp 12) (by rfl) (w.heap.size + 1) 0 (mc zM) (by rfl) (by rfl) (mc_there zM_length zM_length AN.out) HZ.out (ints_oneCell _) ?_)
  exact bodyPost_ret (v := .tuple #[.agg (mc zM), .int .i64 (sendC lim ms (a.drop 2))]) (results_cell_and rfl rfl rfl (loadM zM_length (mc_put zM_length zM_length AN.out))) rfl ⟨rfl, _, N1.out.turn (Turn.again AN.out) id (fun _ _ => id) (fun _ _ _ => id), T1.out.trans (Turn.again AN.out) (fun _ _ hf => hf.elim), X1.out⟩

set_option maxRecDepth 100000 in
set_option maxHeartbeats 4000000 in
theorem act_drop {B g : Nat} {r : Option Nat} {lim : Int} {ms : List (List Int)} {a : List Int} (w : World) (N : Net w B g r lim ms) (hl : a.length = 30) (hk : fld a 0 = 2) (hw : (Lit.int .i64 (fld a 1)).wf = true) :
    Calls Try.prog 17 #[.pointer (some ⟨g, 0, none⟩), .agg (ints a).toArray] w fun e w' => e = .returned (.tuple #[.agg (mc zM), .int .i64 (pickC ms)]) ∧ ∃ r', Net w' B g r' lim (dlvMs ms (fld a 1)) ∧ Turn (NS g r) w w' ∧ Next w r r' := by
  have hg := N.lt
  have HL := Lib.hid hl
  have HZ := Lib.hid (mc_info zM_length)
  have K0 := Lib.hid (KD.begin w a)
  have HN := Lib.hid N
  have e0 : (fld a 0 == 0) = false := by rw [hk]; rfl
  have e1 : (fld a 0 == 1) = false := by rw [hk]; rfl
  have e2 : (fld a 0 == 2) = true := by rw [hk]; rfl
  have e3 : (fld a 0 == 3) = false := by rw [hk]; rfl
  have e4 : (fld a 0 == 4) = false := by rw [hk]; rfl
  clear hl N
  go_enter Try.func17, Try.ntmps17
  rw [mc_zero] at K0
  go_upto_region 1 with fail
  generalize World.alloc _ _ = W0 at K0 ⊢
  have c0 := K0.out.field HL.out (i := 0) (by omega)
  have c1 := K0.out.field HL.out (i := 1) (by omega)
  have N0 := Lib.hid (HN.out.step K0.out.bel)
  go_wp2_with fail
  refine (drop_any W0 N0.out hw).mono ?_
  rintro e w1 ⟨rfl, hn1, ht1⟩
  have hx1 := Next.refl W0 r
  have N1 := Lib.hid hn1
  have X1 := Lib.hid (show Next w r r from (Next.refl w r).trans hx1 K0.out.bel.size)
  have AN := Lib.hid (N0.out.kept ht1 K0.out.ans (by decide) (by decide))
  have T1 := Lib.hid ((Turn.of_below (S := NS g r) K0.out.bel).trans ht1 (fun _ _ h => h))
  clear hn1 hx1 ht1
  go_wp2_with fail
  refine (code_pick ms _).mono ?_
  rintro e w2 ⟨rfl, rfl⟩
  go_wp2_with (refine wpList_store_mid (by rfl) 31 (.tmp 4) (.tmp 32) (by rfl) (w.heap.size + 1) 0 (mc zM) (by rfl) (by rfl) (mc_there zM_length zM_length AN.out) HZ.out (ints_oneCell _) ?_)
  exact bodyPost_ret (v := .tuple #[.agg (mc zM), .int .i64 (pickC ms)]) (results_cell_and rfl rfl rfl (loadM zM_length (mc_put zM_length zM_length AN.out))) rfl ⟨rfl, _, N1.out.turn (Turn.again AN.out) id (fun _ _ => id) (fun _ _ _ => id), T1.out.trans (Turn.again AN.out) (fun _ _ hf => hf.elim), X1.out⟩

set_option maxRecDepth 100000 in
set_option maxHeartbeats 4000000 in
theorem act_twice {B g : Nat} {r : Option Nat} {lim : Int} {ms : List (List Int)} {a : List Int} (w : World) (N : Net w B g r lim ms) (hl : a.length = 30) (hk : fld a 0 = 3) (hw : (Lit.int .i64 (fld a 1)).wf = true) :
    Calls Try.prog 17 #[.pointer (some ⟨g, 0, none⟩), .agg (ints a).toArray] w fun e w' => e = .returned (.tuple #[.agg (mc zM), .int .i64 (twC lim ms)]) ∧ ∃ r', Net w' B g r' lim (twMs lim ms (fld a 1)) ∧ Turn (NS g r) w w' ∧ Next w r r' := by
  have hg := N.lt
  have HL := Lib.hid hl
  have HZ := Lib.hid (mc_info zM_length)
  have K0 := Lib.hid (KD.begin w a)
  have HN := Lib.hid N
  have e0 : (fld a 0 == 0) = false := by rw [hk]; rfl
  have e1 : (fld a 0 == 1) = false := by rw [hk]; rfl
  have e2 : (fld a 0 == 2) = false := by rw [hk]; rfl
  have e3 : (fld a 0 == 3) = true := by rw [hk]; rfl
  have e4 : (fld a 0 == 4) = false := by rw [hk]; rfl
  clear hl N
  go_enter Try.func17, Try.ntmps17
  rw [mc_zero] at K0
  go_upto_region 1 with fail
  generalize World.alloc _ _ = W0 at K0 ⊢
  have c0 := K0.out.field HL.out (i := 0) (by omega)
  have c1 := K0.out.field HL.out (i := 1) (by omega)
  have N0 := Lib.hid (HN.out.step K0.out.bel)
  go_wp2_with fail
  refine (twice_any W0 N0.out hw).mono ?_
  rintro e w1 ⟨rfl, r1, hn1, ht1, hx1⟩
  have N1 := Lib.hid hn1
  have X1 := Lib.hid (show Next w r r1 from (Next.refl w r).trans hx1 K0.out.bel.size)
  have AN := Lib.hid (N0.out.kept ht1 K0.out.ans (by decide) (by decide))
  have T1 := Lib.hid ((Turn.of_below (S := NS g r) K0.out.bel).trans ht1 (fun _ _ h => h))
  clear hn1 hx1 ht1
  go_wp2_with fail
  refine (code_tw lim ms _).mono ?_
  rintro e w2 ⟨rfl, rfl⟩
  go_wp2_with (refine wpList_store_mid (by rfl) 31 (.tmp 4) (.tmp 40) (by rfl) (w.heap.size + 1) 0 (mc zM) (by rfl) (by rfl) (mc_there zM_length zM_length AN.out) HZ.out (ints_oneCell _) ?_)
  exact bodyPost_ret (v := .tuple #[.agg (mc zM), .int .i64 (twC lim ms)]) (results_cell_and rfl rfl rfl (loadM zM_length (mc_put zM_length zM_length AN.out))) rfl ⟨rfl, _, N1.out.turn (Turn.again AN.out) id (fun _ _ => id) (fun _ _ _ => id), T1.out.trans (Turn.again AN.out) (fun _ _ hf => hf.elim), X1.out⟩

set_option maxRecDepth 100000 in
set_option maxHeartbeats 4000000 in
theorem act_take {B g : Nat} {r : Option Nat} {lim : Int} {ms : List (List Int)} {a : List Int} (w : World) (N : Net w B g r lim ms) (hl : a.length = 30) (hk : fld a 0 = 4) :
    Calls Try.prog 17 #[.pointer (some ⟨g, 0, none⟩), .agg (ints a).toArray] w fun e w' => e = .returned (.tuple #[.agg (mc zM), .int .i64 0]) ∧ ∃ r', Net w' B g r' lim [] ∧ Turn (NS g r) w w' ∧ Next w r r' := by
  have hg := N.lt
  have HL := Lib.hid hl
  have HZ := Lib.hid (mc_info zM_length)
  have K0 := Lib.hid (KD.begin w a)
  have HN := Lib.hid N
  have e0 : (fld a 0 == 0) = false := by rw [hk]; rfl
  have e1 : (fld a 0 == 1) = false := by rw [hk]; rfl
  have e2 : (fld a 0 == 2) = false := by rw [hk]; rfl
  have e3 : (fld a 0 == 3) = false := by rw [hk]; rfl
  have e4 : (fld a 0 == 4) = true := by rw [hk]; rfl
  clear hl N
  go_enter Try.func17, Try.ntmps17
  rw [mc_zero] at K0
  go_upto_region 1 with fail
  generalize World.alloc _ _ = W0 at K0 ⊢
  have c0 := K0.out.field HL.out (i := 0) (by omega)
  have c1 := K0.out.field HL.out (i := 1) (by omega)
  have N0 := Lib.hid (HN.out.step K0.out.bel)
  go_wp2_with fail
  refine (ntake_any W0 N0.out).mono ?_
  rintro e w1 ⟨rfl, _, hn1, ht1⟩
  have hx1 : Next W0 r none := .inr (fun k hk => by cases hk)
  have N1 := Lib.hid hn1
  have X1 := Lib.hid (show Next w r none from (Next.refl w r).trans hx1 K0.out.bel.size)
  have AN := Lib.hid (N0.out.kept ht1 K0.out.ans (by decide) (by decide))
  have T1 := Lib.hid ((Turn.of_below (S := NS g r) K0.out.bel).trans ht1 (fun _ _ h => h))
  clear hn1 hx1 ht1
  go_wp2_with (refine wpList_store_mid (by rfl) 31 (.tmp 4) (.tmp 50) (by rfl) (w.heap.size + 1) 0 (mc zM) (by rfl) (by rfl) (mc_there zM_length zM_length AN.out) HZ.out (ints_oneCell _) ?_)
  exact bodyPost_ret (v := .tuple #[.agg (mc zM), .int .i64 0]) (results_cell_and rfl rfl rfl (loadM zM_length (mc_put zM_length zM_length AN.out))) rfl ⟨rfl, _, N1.out.turn (Turn.again AN.out) id (fun _ _ => id) (fun _ _ _ => id), T1.out.trans (Turn.again AN.out) (fun _ _ hf => hf.elim), X1.out⟩

set_option maxRecDepth 100000 in
set_option maxHeartbeats 4000000 in
theorem act_other {B g : Nat} {r : Option Nat} {lim : Int} {ms : List (List Int)} {a : List Int} (w : World) (N : Net w B g r lim ms) (hl : a.length = 30) (hk : fld a 0 < 0 ∨ 4 < fld a 0) :
    Calls Try.prog 17 #[.pointer (some ⟨g, 0, none⟩), .agg (ints a).toArray] w fun e w' => e = .returned (.tuple #[.agg (mc zM), .int .i64 0]) ∧ ∃ r', Net w' B g r' lim ms ∧ Turn (NS g r) w w' ∧ Next w r r' := by
  have hg := N.lt
  have HL := Lib.hid hl
  have HZ := Lib.hid (mc_info zM_length)
  have K0 := Lib.hid (KD.begin w a)
  have HN := Lib.hid N
  have e0 : (fld a 0 == 0) = false := by rw [beq_eq_false_iff_ne]; omega
  have e1 : (fld a 0 == 1) = false := by rw [beq_eq_false_iff_ne]; omega
  have e2 : (fld a 0 == 2) = false := by rw [beq_eq_false_iff_ne]; omega
  have e3 : (fld a 0 == 3) = false := by rw [beq_eq_false_iff_ne]; omega
  have e4 : (fld a 0 == 4) = false := by rw [beq_eq_false_iff_ne]; omega
  clear hl N
  go_enter Try.func17, Try.ntmps17
  rw [mc_zero] at K0
  go_upto_region 1 with fail
  generalize World.alloc _ _ = W0 at K0 ⊢
  have c0 := K0.out.field HL.out (i := 0) (by omega)
  have c1 := K0.out.field HL.out (i := 1) (by omega)
  have N0 := Lib.hid (HN.out.step K0.out.bel)
  have N1 := Lib.hid N0.out
  have X1 := Lib.hid (Next.refl w r)
  have AN := Lib.hid K0.out.ans
  have T1 := Lib.hid (Turn.of_below (S := NS g r) K0.out.bel)
  go_wp2_with (refine wpList_store_mid (by rfl) 31 (.tmp 4) (.tmp 50) (by rfl) (w.heap.size + 1) 0 (mc zM) (by rfl) (by rfl) (mc_there zM_length zM_length AN.out) HZ.out (ints_oneCell _) ?_)
  exact bodyPost_ret (v := .tuple #[.agg (mc zM), .int .i64 0]) (results_cell_and rfl rfl rfl (loadM zM_length (mc_put zM_length zM_length AN.out))) rfl ⟨rfl, _, N1.out.turn (Turn.again AN.out) id (fun _ _ => id) (fun _ _ _ => id), T1.out.trans (Turn.again AN.out) (fun _ _ hf => hf.elim), X1.out⟩

set_option maxRecDepth 100000 in
set_option maxHeartbeats 4000000 in
theorem act_deliver {B g : Nat} {r : Option Nat} {lim : Int} {ms : List (List Int)} {a : List Int} (w : World) (N : Net w B g r lim ms) (hl : a.length = 30) (hk : fld a 0 = 1) (hw : (Lit.int .i64 (fld a 1)).wf = true) :
    Calls Try.prog 17 #[.pointer (some ⟨g, 0, none⟩), .agg (ints a).toArray] w fun e w' => e = .returned (.tuple #[.agg (mc (dlvM ms (fld a 1))), .int .i64 (pickC ms)]) ∧ ∃ r', Net w' B g r' lim (dlvMs ms (fld a 1)) ∧ Turn (NS g r) w w' ∧ Next w r r' := by
  have hg := N.lt
  have HL := Lib.hid hl
  have HZ := Lib.hid (mc_info zM_length)
  have K0 := Lib.hid (KD.begin w a)
  have HN := Lib.hid N
  have e0 : (fld a 0 == 0) = false := by rw [hk]; rfl
  have e1 : (fld a 0 == 1) = true := by rw [hk]; rfl
  have e2 : (fld a 0 == 2) = false := by rw [hk]; rfl
  have e3 : (fld a 0 == 3) = false := by rw [hk]; rfl
  have e4 : (fld a 0 == 4) = false := by rw [hk]; rfl
  have HDL := Lib.hid (dlvM_length N.all (fld a 1))
  clear hl N
  go_enter Try.func17, Try.ntmps17
  rw [mc_zero] at K0
  go_upto_region 1 with fail
  generalize World.alloc _ _ = W0 at K0 ⊢
  have c0 := K0.out.field HL.out (i := 0) (by omega)
  have c1 := K0.out.field HL.out (i := 1) (by omega)
  have N0 := Lib.hid (HN.out.step K0.out.bel)
  go_wp2_with fail
  refine (deliver_any W0 (HN.out.upto.step K0.out.bel) hw).mono ?_
  rintro e W1 ⟨rfl, hn1, ht1⟩
  have U1 := Lib.hid hn1
  have AN := Lib.hid (N0.out.kept ht1 K0.out.ans (by decide) (by decide))
  have T1 := Lib.hid ((Turn.of_below (S := NS g r) K0.out.bel).trans ht1 (fun _ _ h => h))
  have hs1 := ht1.size
  have hs0 := K0.out.lt
  clear hn1 ht1
  generalize hq0 : dlvM ms (fld a 1) = q at HDL
  have HQ := Lib.hid hq0
  clear hq0
  have HQI := Lib.hid (mc_info HDL.out)
  have N6 := Lib.hid (Blk.new W1 31 (mc zM))
  rw [mc_zero] at N6
  have hne : w.heap.size + 1 ≠ W1.heap.size := by omega
  go_upto_region 6 with (refine wpList_store_mid (by rfl) 31 (.tmp 6) (.tmp 25) (by rfl) W1.heap.size 0 (mc q) (by rfl) (by rfl) (mc_there zM_length HDL.out N6.out) HQI.out (ints_oneCell _) ?_)
  have Q2 := Lib.hid (mc_put zM_length HDL.out N6.out)
  have B2 := Lib.hid (show Below W1.heap.size W1 ((W1.alloc (.cells (mc zM) 31)).setCells W1.heap.size 0 (mc q).toList) from Below.setCells (Nat.le_refl _) _ _ _ (stepA (Below.refl _ _) _))
  rw [mc_zero] at B2
  generalize World.setCells _ _ _ _ = W2 at Q2 B2 ⊢
  have Q3 := Lib.hid Q2.out.drew
  have B3 := Lib.hid (Below.drew B2.out)
  go_wp2_with fail
  refine wp_region_held_drew (S := fun w' => Blk w' W1.heap.size 31 (mc q)) (by kernel_rfl) ?_ (fun hHeld => ?_)
  · exact Q3.out
  generalize W2.drew = W3 at Q3 B3 hHeld ⊢
  have A3 := Lib.hid (AN.out.here B3.out)
  have U3 := Lib.hid (U1.out.step B3.out)
  have T3 := Lib.hid (T1.out.step B3.out)
  refine wpAnyH_take (i := 0) (v := .agg (mc q)) rfl (by kernel_rfl) (by kernel_rfl) (by kernel_rfl) (fun _ _ _ h => h) (Or.inl ⟨by rfl, fun w0 hSw => exec_load (x := .tmp 6) rfl (ad := ⟨W1.heap.size, 0, none⟩) rfl (loadM HDL.out hSw)⟩) (by assumption) ?_
  try simp only [List.getElem_toArray, List.getElem_cons_succ, List.getElem_cons_zero, Act.put, List.setIfInBounds_toArray, List.set_cons_zero, List.set_cons_succ]
  refine wpAnyH_take (i := 1) (v := ?_) rfl (by kernel_rfl) (by kernel_rfl) (by kernel_rfl) (fun _ _ _ h => h) (Or.inl ⟨by rfl, ?_⟩) (by assumption) ?_
  rotate_left
  · (intro w0 hSw; (try dsimp only at hSw); go_simp; try with_reducible rfl)
  try simp only [List.getElem_toArray, List.getElem_cons_succ, List.getElem_cons_zero, Act.put, List.setIfInBounds_toArray, List.set_cons_zero, List.set_cons_succ]
  refine wpAnyH_ready (rs := [2]) (by kernel_rfl) (by simp) ?_
  refine AllReadyH.cons rfl (fun K hK => ?_) AllReadyH.nil
  go_simp
  refine (code_pick ms _).mono ?_
  rintro e w5 ⟨rfl, rfl⟩
  try go_simp
  refine hK.out _ _ hHeld (fun hHeld => ?_)
  clear hK K
  refine wpAnyH_ready (rs := [3]) (by kernel_rfl) (by simp) ?_
  refine AllReadyH.cons rfl (fun K hK => ?_) AllReadyH.nil
  refine step_store_mid (by rfl) 31 (.tmp 4) (.tmp 27) rfl (w.heap.size + 1) 0 (mc q) rfl rfl (mc_there zM_length HDL.out A3.out) HQI.out (ints_oneCell _) ?_
  refine hK.out _ _ (hHeld.farCells (Ne.symm hne) _ _ _) (fun hHeld => ?_)
  clear hK K
  refine wpAnyH_take (i := 4) (v := ?_) rfl (by kernel_rfl) (by kernel_rfl) (by kernel_rfl) (fun _ _ _ h => h) (Or.inl ⟨by rfl, ?_⟩) (by assumption) ?_
  rotate_left
  · (intro w0 hSw; (try dsimp only at hSw); go_simp; try with_reducible rfl)
  try simp only [List.getElem_toArray, List.getElem_cons_succ, List.getElem_cons_zero, Act.put, List.setIfInBounds_toArray, List.set_cons_zero, List.set_cons_succ]
  refine wpAnyH_done (by kernel_rfl) ?_ _
  clear hHeld
  have A4 := Lib.hid (mc_put zM_length HDL.out A3.out)
  have U4 := Lib.hid (U3.out.turn (S := fun k => k = w.heap.size + 1) (Turn.setCells (S := fun k => k = w.heap.size + 1) (fun _ => rfl) (mc q).toList 0 _ (Turn.refl _ _)) (by omega) (fun k hk e => by have := (HN.out.row_lt k hk).2; omega) (fun k hk e => by omega))
  have T4 := Lib.hid (Turn.setCells (b := w.heap.size + 1) (fun h => absurd h (by omega)) (mc q).toList 0 _ T3.out)
  go_wp2_with fail
  exact bodyPost_ret (v := .tuple #[.agg (mc q), .int .i64 (pickC ms)]) (results_cell_and rfl rfl rfl (loadM HDL.out A4.out)) rfl ⟨by rw [HQ.out], _, U4.out.net, T4.out, Next.refl _ _⟩

theorem act_any {B g : Nat} {r : Option Nat} {lim : Int} {ms : List (List Int)} {a : List Int} (w : World) (N : Net w B g r lim ms) (hl : a.length = 30) (hw : (Lit.int .i64 (fld a 1)).wf = true) :
    Calls Try.prog 17 #[.pointer (some ⟨g, 0, none⟩), .agg (ints a).toArray] w fun e w' => e = .returned (.tuple #[.agg (mc (doM ms a)), .int .i64 (doC lim ms a)]) ∧ ∃ r', Net w' B g r' lim (doMs lim ms a) ∧ Turn (NS g r) w w' ∧ Next w r r' := by
  by_cases k0 : fld a 0 = 0
  · rw [show doM ms a = zM by unfold doM; rw [if_neg (by omega)], show doC lim ms a = sendC lim ms (a.drop 2) by unfold doC; rw [if_pos k0], show doMs lim ms a = sendMs lim ms (a.drop 2) by unfold doMs; rw [if_pos k0]]
    exact act_send w N hl k0
  by_cases k4 : fld a 0 = 4
  · rw [show doM ms a = zM by unfold doM; rw [if_neg (by omega)], show doC lim ms a = 0 by unfold doC; rw [if_neg k0, if_pos k4], show doMs lim ms a = [] by unfold doMs; rw [if_neg k0, if_pos k4]]
    exact act_take w N hl k4
  by_cases k3 : fld a 0 = 3
  · rw [show doM ms a = zM by unfold doM; rw [if_neg (by omega)], show doC lim ms a = twC lim ms by unfold doC; rw [if_neg k0, if_neg k4, if_pos k3], show doMs lim ms a = twMs lim ms (fld a 1) by unfold doMs; rw [if_neg k0, if_neg k4, if_pos k3]]
    exact act_twice w N hl k3 hw
  by_cases k1 : fld a 0 = 1
  · rw [show doM ms a = dlvM ms (fld a 1) by unfold doM; rw [if_pos k1], show doC lim ms a = pickC ms by unfold doC; rw [if_neg k0, if_neg k4, if_neg k3, if_pos (.inl k1)], show doMs lim ms a = dlvMs ms (fld a 1) by unfold doMs; rw [if_neg k0, if_neg k4, if_neg k3, if_pos (.inl k1)]]
    exact act_deliver w N hl k1 hw
  by_cases k2 : fld a 0 = 2
  · rw [show doM ms a = zM by unfold doM; rw [if_neg k1], show doC lim ms a = pickC ms by unfold doC; rw [if_neg k0, if_neg k4, if_neg k3, if_pos (.inr k2)], show doMs lim ms a = dlvMs ms (fld a 1) by unfold doMs; rw [if_neg k0, if_neg k4, if_neg k3, if_pos (.inr k2)]]
    exact act_drop w N hl k2 hw
  · rw [show doM ms a = zM by unfold doM; rw [if_neg k1], show doC lim ms a = 0 by unfold doC; rw [if_neg k0, if_neg k4, if_neg k3, if_neg (by omega)], show doMs lim ms a = ms by unfold doMs; rw [if_neg k0, if_neg k4, if_neg k3, if_neg (by omega)]]
    exact act_other w N hl (by omega)
end Go.Proofs.Ytmjmplkhngpgnaa
