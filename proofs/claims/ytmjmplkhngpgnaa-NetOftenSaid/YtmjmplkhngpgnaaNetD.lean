/- The contracts of package net's pick, Deliver, Drop, Twice. -/
import Derived.Test.YtmjmplkhngpgnaaNetC
namespace Go.Proofs.Ytmjmplkhngpgnaa
open Go.RowKit
set_option linter.unusedVariables false
set_option linter.unusedSimpArgs false

/-- A block that is written with what it holds. -/
theorem Turn.again {w : World} {g : Nat} {t : TypeId} {cs : Array Value} (h : Blk w g t cs) : Turn (fun _ => False) w (w.setCells g 0 cs.toList) := by
  have ht : Turn (fun k => k = g) w (w.setCells g 0 cs.toList) := Turn.setCells (S := fun k => k = g) (fun _ => rfl) cs.toList 0 w (Turn.refl _ _)
  refine ⟨ht.os, ht.tape, ht.output, ht.size, fun k hk _ => ?_⟩
  by_cases hg : k = g
  · subst hg; exact (h.put cs rfl).trans h.symm
  · exact ht.block k hk hg
/-- The error's value of what picks. -/
def pickE (ms : List (List Int)) : Value := if ms.length = 0 then errno 10 else .nilIface
def dlvM (ms : List (List Int)) (k : Int) : List Int := ms.getD (pickN k ms.length) zM
def dlvMs (ms : List (List Int)) (k : Int) : List (List Int) := ms.eraseIdx (pickN k ms.length)
def twMs (lim : Int) (ms : List (List Int)) (k : Int) : List (List Int) := if ms.length = 0 then ms else addMs lim ms (dlvM ms k)
def twE (lim : Int) (ms : List (List Int)) : Value := if ms.length = 0 then errno 10 else addE lim ms
theorem Net.all {w : World} {B g : Nat} {r : Option Nat} {lim : Int} {ms : List (List Int)} (h : Net w B g r lim ms) : ∀ m ∈ ms, m.length = 28 := by obtain ⟨v, ps, hw, _⟩ := h; exact hw.all
theorem Net.small {w : World} {B g : Nat} {r : Option Nat} {lim : Int} {ms : List (List Int)} (h : Net w B g r lim ms) : (ms.length : Int) ≤ lim ∧ lim ≤ 65536 := by obtain ⟨v, ps, hw, _⟩ := h; exact ⟨hw.cnt, hw.top⟩
theorem dlvM_length {ms : List (List Int)} (h : ∀ m ∈ ms, m.length = 28) (k : Int) : (dlvM ms k).length = 28 := by
  unfold dlvM
  by_cases hp : pickN k ms.length < ms.length
  · rw [show ms.getD (pickN k ms.length) zM = ms[pickN k ms.length] by simp [List.getD, hp]]
    exact h _ (List.getElem_mem hp)
  · rw [show ms.getD (pickN k ms.length) zM = zM by simp [List.getD, hp]]
    exact zM_length

set_option maxRecDepth 100000 in
set_option maxHeartbeats 1000000 in
theorem pick_nil (k : Int) (f : Value) (w : World) : Calls Try.prog 38 #[.pointer none, .int .i64 k, f] w fun e w' => e = .returned (errno 1) ∧ w' = w := by
  go_enter Try.func38, Try.ntmps38
  go_wp2_with fail
  go_ret
  exact ⟨rfl, rfl⟩
set_option maxRecDepth 100000 in
set_option maxHeartbeats 1000000 in
theorem pick_none {B g : Nat} {r : Option Nat} {lim : Int} (w : World) (h : Net w B g r lim []) (k : Int) (f : Value) : Calls Try.prog 38 #[.pointer (some ⟨g, 0, none⟩), .int .i64 k, f] w fun e w' => e = .returned (errno 10) ∧ w' = w := by
  obtain ⟨v, ps, hw, _⟩ := h
  obtain ⟨A, c, rfl, _⟩ := hw.slice
  have k1 : w.cell? ⟨g, 1, none⟩ = some (.slice A 0 c) := hw.box.cell 1
  clear hw
  go_enter Try.func38, Try.ntmps38
  go_wp2_with fail
  go_ret
  exact ⟨rfl, rfl⟩
set_option maxRecDepth 100000 in
set_option maxHeartbeats 2000000 in
theorem pickD_any {B g pn pm u : Nat} {r : Option Nat} {lim k : Int} {ms : List (List Int)} (w0 w : World) (h : NetU w0 B g r lim ms u) (hb : Below w0.heap.size w0 w)
    (hn : Blk w pn 41 #[.pointer (some ⟨g, 0, none⟩)]) (hm : Blk w pm 31 (mc zM)) (hge : w0.heap.size ≤ pm) (hpn : pn ≠ pm) (hk : (Lit.int .i64 k).wf = true) :
    Calls Try.prog 38 #[.pointer (some ⟨g, 0, none⟩), .int .i64 k, .func (.func 39) #[] #[.pointer (some ⟨pn, 0, none⟩), .pointer (some ⟨pm, 0, none⟩)]] w fun e w' =>
      e = .returned (pickE ms) ∧ NetU w' B g r lim (dlvMs ms k) u ∧ Blk w' pm 31 (mc (dlvM ms k)) ∧ Turn (NS g r) w0 w' := by
  by_cases h0 : ms.length = 0
  · obtain rfl := List.eq_nil_of_length_eq_zero h0
    refine (pick_none w (h.net.step hb) k _).mono ?_
    rintro e w' ⟨rfl, rfl⟩
    exact ⟨rfl, h.step hb, hm, Turn.of_below hb⟩
  · have hsm := h.net.small
    have H := Lib.hid h
    have HB := Lib.hid hb
    have HN := Lib.hid hn
    have HM := Lib.hid hm
    have HE := Lib.hid (show pickE ms = .nilIface by unfold pickE; rw [if_neg h0])
    have HP := Lib.hid (pickN_eq k (n := ms.length) (by omega))
    have HL := Lib.hid (pickN_lt k (n := ms.length) (by omega))
    have hz : ((ms.length : Int) == 0) = false := by rw [beq_eq_false_iff_ne]; omega
    have hz2 : (ms.length == 0) = false := by rw [beq_eq_false_iff_ne]; omega
    obtain ⟨v, ps, hw, _, _⟩ := h.step hb
    obtain ⟨A, c, rfl, _⟩ := hw.slice
    have k1 : w.cell? ⟨g, 1, none⟩ = some (.slice A ms.length c) := hw.box.cell 1
    have HRM := Lib.hid (fun W => remainder_any k (n := ms.length) (by omega) (by omega) hk W)
    clear hw hn hm h hb hsm
    go_enter Try.func38, Try.ntmps38
    go_wp2_with fail
    refine (HRM.out _).mono ?_
    rintro e w1 ⟨rfl, rfl⟩
    rw [HP.out]
    go_wp2_with fail
    refine (deliver1_any w0 _ H.out HB.out HL.out HN.out HM.out zM_length hge hpn).mono ?_
    rintro e w2 ⟨rfl, hn2, hm2, ht2⟩
    have N2 := Lib.hid hn2
    have M2 := Lib.hid hm2
    have T2 := Lib.hid ht2
    clear hn2 hm2 ht2
    go_wp2_with fail
    go_ret
    exact ⟨by rw [HE.out]; rfl, N2.out, M2.out, T2.out⟩
set_option maxRecDepth 100000 in
set_option maxHeartbeats 2000000 in
theorem pickT_any {B g pn : Nat} {r : Option Nat} {lim k : Int} {ms : List (List Int)} (w : World) (h : Net w B g r lim ms)
    (hn : Blk w pn 41 #[.pointer (some ⟨g, 0, none⟩)]) (hk : (Lit.int .i64 k).wf = true) :
    Calls Try.prog 38 #[.pointer (some ⟨g, 0, none⟩), .int .i64 k, .func (.func 41) #[] #[.pointer (some ⟨pn, 0, none⟩)]] w fun e w' =>
      e = .returned (twE lim ms) ∧ ∃ r', Net w' B g r' lim (twMs lim ms k) ∧ Turn (NS g r) w w' ∧ Next w r r' := by
  by_cases h0 : ms.length = 0
  · obtain rfl := List.eq_nil_of_length_eq_zero h0
    refine (pick_none w h k _).mono ?_
    rintro e w' ⟨rfl, rfl⟩
    exact ⟨rfl, r, h, Turn.refl _ _, Next.refl _ _⟩
  · have hsm := h.small
    have H := Lib.hid h
    have HN := Lib.hid hn
    have HE := Lib.hid (show twE lim ms = addE lim ms by unfold twE; rw [if_neg h0])
    have HS := Lib.hid (show twMs lim ms k = addMs lim ms (ms.getD (pickN k ms.length) zM) by unfold twMs dlvM; rw [if_neg h0])
    have HP := Lib.hid (pickN_eq k (n := ms.length) (by omega))
    have HL := Lib.hid (pickN_lt k (n := ms.length) (by omega))
    have hz : ((ms.length : Int) == 0) = false := by rw [beq_eq_false_iff_ne]; omega
    have hz2 : (ms.length == 0) = false := by rw [beq_eq_false_iff_ne]; omega
    obtain ⟨v, ps, hw, _⟩ := h
    obtain ⟨A, c, rfl, _⟩ := hw.slice
    have k1 : w.cell? ⟨g, 1, none⟩ = some (.slice A ms.length c) := hw.box.cell 1
    have HRM := Lib.hid (fun W => remainder_any k (n := ms.length) (by omega) (by omega) hk W)
    clear hw hn hsm
    go_enter Try.func38, Try.ntmps38
    go_wp2_with fail
    refine (HRM.out _).mono ?_
    rintro e w1 ⟨rfl, rfl⟩
    rw [HP.out]
    go_wp2_with fail
    refine (twice1_any _ H.out HL.out HN.out).mono ?_
    rintro e w2 ⟨rfl, r2, hn2, ht2, hx2⟩
    have N2 := Lib.hid hn2
    have T2 := Lib.hid ht2
    have X2 := Lib.hid hx2
    clear hn2 ht2 hx2
    go_wp2_with fail
    go_ret
    exact ⟨by rw [HE.out]; rfl, r2, by rw [HS.out]; exact N2.out, T2.out, X2.out⟩

set_option maxRecDepth 100000 in
set_option maxHeartbeats 4000000 in
theorem deliver_nil (k : Int) (w : World) : Calls Try.prog 22 #[.pointer none, .int .i64 k] w fun e w' => e = .returned (.tuple #[.agg (mc zM), errno 1]) ∧ Below w.heap.size w w' := by
  have HZ := Lib.hid (mc_info zM_length)
  have hmf : ∀ (fn : Fn) (first cap : Array Value) (w : World), (Instr.makeFunc fn first cap).run Try.prog w = .ok (.func fn first cap) w := fun _ _ _ _ => rfl
  have H0 := Lib.hid (show Blk ((w.alloc (.cells #[.pointer none] 41)).alloc (.cells (mc zM) 31)) (w.heap.size + 1) 31 (mc zM) from Blk.new_at (by simp) _ _)
  go_enter Try.func22, Try.ntmps22
  rw [mc_zero] at H0
  go_wp2_with fail
  refine (pick_nil k _ _).mono ?_
  rintro e w1 ⟨rfl, rfl⟩
  go_wp2_with (first
    | (refine wpList_load_row rfl 31 (.tmp 4) rfl (w.heap.size + 1) rfl 31 (mc zM) (0, 0) _ H0.out Try.underlying31 rfl HZ.out ?_)
    | (refine wpList_store_mid (by rfl) 31 (.tmp 4) (.tmp 10) (by rfl) (w.heap.size + 1) 0 (mc zM) (by rfl) (by rfl) (mc_there zM_length zM_length H0.out) HZ.out (ints_oneCell _) ?_))
  exact bodyPost_ret (v := .tuple #[.agg (mc zM), errno 1]) (results_cell_and rfl rfl rfl (loadM zM_length (mc_put zM_length zM_length H0.out))) rfl ⟨rfl, Below.setCells (Nat.le_succ _) _ _ _ (Joins.below_alloc2 _ _ _)⟩
set_option maxRecDepth 100000 in
set_option maxHeartbeats 4000000 in
theorem deliver_any {B g u : Nat} {r : Option Nat} {lim k : Int} {ms : List (List Int)} (w : World) (h : NetU w B g r lim ms u) (hk : (Lit.int .i64 k).wf = true) :
    Calls Try.prog 22 #[.pointer (some ⟨g, 0, none⟩), .int .i64 k] w fun e w' => e = .returned (.tuple #[.agg (mc (dlvM ms k)), pickE ms]) ∧ NetU w' B g r lim (dlvMs ms k) u ∧ Turn (NS g r) w w' := by
  have H := Lib.hid h
  have HD := Lib.hid (mc_info (dlvM_length h.net.all k))
  have HDL := Lib.hid (dlvM_length h.net.all k)
  have hmf : ∀ (fn : Fn) (first cap : Array Value) (w : World), (Instr.makeFunc fn first cap).run Try.prog w = .ok (.func fn first cap) w := fun _ _ _ _ => rfl
  have H0 := Lib.hid (show Blk ((w.alloc (.cells #[.pointer (some ⟨g, 0, none⟩)] 41)).alloc (.cells (mc zM) 31)) (w.heap.size + 1) 31 (mc zM) from Blk.new_at (by simp) _ _)
  have H1 := Lib.hid (show Blk ((w.alloc (.cells #[.pointer (some ⟨g, 0, none⟩)] 41)).alloc (.cells (mc zM) 31)) w.heap.size 41 #[.pointer (some ⟨g, 0, none⟩)] from (Blk.new _ _ _).alloc _)
  clear h
  go_enter Try.func22, Try.ntmps22
  rw [mc_zero] at H0 H1
  go_wp2_with fail
  refine (pickD_any w _ H.out (Joins.below_alloc2 _ _ _) H1.out H0.out (Nat.le_succ _) (Nat.ne_of_lt (Nat.lt_succ_self _)) hk).mono ?_
  rintro e w1 ⟨rfl, hn1, hm1, ht1⟩
  have N1 := Lib.hid hn1
  have M1 := Lib.hid hm1
  have T1 := Lib.hid ht1
  clear hn1 hm1 ht1
  go_wp2_with (first
    | (refine wpList_load_row rfl 31 (.tmp 4) rfl (w.heap.size + 1) rfl 31 (mc (dlvM ms k)) (0, 0) _ M1.out Try.underlying31 rfl HD.out ?_)
    | (refine wpList_store_mid (by rfl) 31 (.tmp 4) (.tmp 10) (by rfl) (w.heap.size + 1) 0 (mc (dlvM ms k)) (by rfl) (by rfl) (mc_there HDL.out HDL.out M1.out) HD.out (ints_oneCell _) ?_))
  refine bodyPost_ret (v := .tuple #[.agg (mc (dlvM ms k)), pickE ms]) (results_cell_and rfl rfl rfl (loadM HDL.out (mc_put HDL.out HDL.out M1.out))) rfl ⟨rfl, ?_, ?_⟩
  · exact N1.out.turn (Turn.again M1.out) id (fun _ _ => id) (fun _ _ => id)
  · exact Turn.setCells (fun h => absurd h (by omega)) _ _ _ T1.out

set_option maxRecDepth 100000 in
set_option maxHeartbeats 2000000 in
theorem drop_nil (k : Int) (w : World) : Calls Try.prog 23 #[.pointer none, .int .i64 k] w fun e w' => e = .returned (errno 1) ∧ Below w.heap.size w w' := by
  have HZ := Lib.hid (mc_info zM_length)
  go_enter Try.func23, Try.ntmps23
  go_wp2_with fail
  refine (deliver_nil k _).mono ?_
  rintro e w1 ⟨rfl, hb1⟩
  have B1 := Lib.hid hb1
  clear hb1
  have N1 := Lib.hid (Blk.new w1 31 (mc zM))
  rw [mc_zero] at N1
  go_wp2_with (refine wpList_store_mid (by rfl) 31 (.tmp 5) (.tmp 11) (by rfl) w1.heap.size 0 (mc zM) (by rfl) (by rfl) (mc_there zM_length zM_length N1.out) HZ.out (ints_oneCell _) ?_)
  go_ret
  exact ⟨rfl, Below.setCells B1.out.size _ _ _ (stepA B1.out _)⟩
set_option maxRecDepth 100000 in
set_option maxHeartbeats 2000000 in
theorem drop_any {B g : Nat} {r : Option Nat} {lim k : Int} {ms : List (List Int)} (w : World) (h : Net w B g r lim ms) (hk : (Lit.int .i64 k).wf = true) :
    Calls Try.prog 23 #[.pointer (some ⟨g, 0, none⟩), .int .i64 k] w fun e w' => e = .returned (pickE ms) ∧ Net w' B g r lim (dlvMs ms k) ∧ Turn (NS g r) w w' := by
  have H := Lib.hid h
  have HD := Lib.hid (mc_info (dlvM_length h.all k))
  have HDL := Lib.hid (dlvM_length h.all k)
  clear h
  go_enter Try.func23, Try.ntmps23
  go_wp2_with fail
  refine (deliver_any _ H.out.upto hk).mono ?_
  rintro e w1 ⟨rfl, hn1, ht1⟩
  have N1 := Lib.hid hn1
  have T1 := Lib.hid ht1
  clear hn1 ht1
  have Z1 := Lib.hid (Blk.new w1 31 (mc zM))
  rw [mc_zero] at Z1
  go_wp2_with (refine wpList_store_mid (by rfl) 31 (.tmp 5) (.tmp 11) (by rfl) w1.heap.size 0 (mc (dlvM ms k)) (by rfl) (by rfl) (mc_there zM_length HDL.out Z1.out) HD.out (ints_oneCell _) ?_)
  go_ret
  have hb : Below w1.heap.size w1 ((w1.alloc (.cells (mc zM) 31)).setCells w1.heap.size 0 (mc (dlvM ms k)).toList) := Below.setCells (Nat.le_refl _) _ _ _ (stepA (Below.refl _ _) _)
  exact ⟨rfl, N1.out.net.step hb, T1.out.step hb⟩
set_option maxRecDepth 100000 in
set_option maxHeartbeats 2000000 in
theorem twice_nil (k : Int) (w : World) : Calls Try.prog 24 #[.pointer none, .int .i64 k] w fun e w' => e = .returned (errno 1) ∧ Below w.heap.size w w' := by
  have hmf : ∀ (fn : Fn) (first cap : Array Value) (w : World), (Instr.makeFunc fn first cap).run Try.prog w = .ok (.func fn first cap) w := fun _ _ _ _ => rfl
  go_enter Try.func24, Try.ntmps24
  go_wp2_with fail
  refine (pick_nil k _ _).mono ?_
  rintro e w1 ⟨rfl, rfl⟩
  go_wp2_with fail
  go_ret
  exact ⟨rfl, Joins.below_alloc1 _ _⟩
set_option maxRecDepth 100000 in
set_option maxHeartbeats 2000000 in
theorem twice_any {B g : Nat} {r : Option Nat} {lim k : Int} {ms : List (List Int)} (w : World) (h : Net w B g r lim ms) (hk : (Lit.int .i64 k).wf = true) :
    Calls Try.prog 24 #[.pointer (some ⟨g, 0, none⟩), .int .i64 k] w fun e w' => e = .returned (twE lim ms) ∧ ∃ r', Net w' B g r' lim (twMs lim ms k) ∧ Turn (NS g r) w w' ∧ Next w r r' := by
  have hmf : ∀ (fn : Fn) (first cap : Array Value) (w : World), (Instr.makeFunc fn first cap).run Try.prog w = .ok (.func fn first cap) w := fun _ _ _ _ => rfl
  have B0 := Lib.hid (Joins.below_alloc1 w (.cells #[.pointer (some ⟨g, 0, none⟩)] 41))
  have H0 := Lib.hid (h.step B0.out)
  have H1 := Lib.hid (Blk.new w 41 #[.pointer (some ⟨g, 0, none⟩)])
  clear h
  go_enter Try.func24, Try.ntmps24
  go_wp2_with fail
  refine (pickT_any _ H0.out H1.out hk).mono ?_
  rintro e w1 ⟨rfl, r1, hn1, ht1, hx1⟩
  have N1 := Lib.hid hn1
  have T1 := Lib.hid ht1
  have X1 := Lib.hid hx1
  clear hn1 ht1 hx1
  go_wp2_with fail
  go_ret
  exact ⟨rfl, r1, N1.out, (Turn.of_below B0.out).trans T1.out (fun _ _ h => h), (Next.refl _ _).trans X1.out B0.out.size⟩
end Go.Proofs.Ytmjmplkhngpgnaa
