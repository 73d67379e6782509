/- The document's Do of a net, case by case. -/
import Derived.Test.YtmjmplkhngpgnaaNetG
import Derived.Test.YtmjmplkhngpgnaaLaw4L
namespace Go.Proofs.Ytmjmplkhngpgnaa
open Go.RowKit
set_option linter.unusedVariables false
set_option linter.unusedSimpArgs false

/-- What is kept while Do runs: what was there, what is done, the answer. -/
structure KD (w : World) (a : List Int) (X : World) : Prop where
  bel : Below w.heap.size w X
  act : Blk X w.heap.size 49 (ints a).toArray
  ans : Blk X (w.heap.size + 1) 31 (mc zM)
section
variable {w X X' : World} {a : List Int}
theorem KD.step (k : KD w a X) (hb : Below X.heap.size X X') : KD w a X' := ⟨stepB k.bel hb, k.act.here hb, k.ans.here hb⟩
theorem KD.alloc (k : KD w a X) (o : Obj) : KD w a (X.alloc o) := k.step (Below.alloc (Below.refl _ _) (Nat.le_refl _) o)
theorem KD.drew (k : KD w a X) : KD w a X.drew := ⟨k.bel.drew, k.act.drew, k.ans.drew⟩
theorem KD.drewN (k : KD w a X) (n : Nat) : KD w a (X.drewN n) := ⟨below_drewN k.bel n, k.act.drewN n, k.ans.drewN n⟩
theorem KD.lt (k : KD w a X) : w.heap.size + 1 < X.heap.size := k.ans.lt
theorem KD.grown (k : KD w a X) {r : Option Nat} (hg : X.grownBy X' r) (hr : ∀ g, r = some g → w.heap.size + 2 ≤ g) : KD w a X' :=
  ⟨k.bel.grown hg k.bel.size (fun g e => by have := hr g e; omega), (hg.block _ k.act.lt (fun e => by have := hr _ e.symm; omega)).trans k.act, (hg.block _ k.ans.lt (fun e => by have := hr _ e.symm; omega)).trans k.ans⟩
theorem KD.load (k : KD w a X) (hl : a.length = 30) : (loadVar 31 ⟨w.heap.size, 2, none⟩).run Try.prog X = .ok (.agg (mc (a.drop 2))) X :=
  run_load_msg (by simp [hl]) (by
    have := k.act.cells_at 2 28 (by simp [ints, hl])
    rw [show ((ints a).drop 2).take 28 = ints (a.drop 2) by unfold ints; rw [← List.map_drop]; exact List.take_of_length_le (by simp [hl])] at this
    exact this)
theorem KD.msgAt (k : KD w a X) (hl : a.length = 30) : ∀ j v, (ints (a.drop 2))[j]? = some v → X.cell? ((⟨w.heap.size, 2, none⟩ : Addr).add j) = some v := by
  have := k.act.cells_at 2 28 (by simp [ints, hl])
  rw [show ((ints a).drop 2).take 28 = ints (a.drop 2) by unfold ints; rw [← List.map_drop]; exact List.take_of_length_le (by simp [hl])] at this
  exact this
theorem KD.field (k : KD w a X) (hl : a.length = 30) {i : Nat} (hi : i < 30) : X.cell? ⟨w.heap.size, i, none⟩ = some (.int .i64 (fld a i)) := by
  rw [k.act.cell]
  have : a[i]? = some (fld a i) := fld_get (by omega)
  simp [ints, this]
theorem KD.done (k : KD w a X) {m : List Int} (hm : m.length = 28) : Blk (X.setCells (w.heap.size + 1) 0 (mc m).toList) (w.heap.size + 1) 31 (mc m) := mc_put zM_length hm k.ans
theorem KD.there (k : KD w a X) {m : List Int} (hm : m.length = 28) : X.there (w.heap.size + 1) 0 (mc m).size := mc_there zM_length hm k.ans
theorem KD.begin (w : World) (a : List Int) : KD w a ((w.alloc (.cells (ints a).toArray 49)).alloc (.cells (mc zM) 31)) :=
  ⟨Joins.below_alloc2 _ _ _, (Blk.new _ _ _).alloc _, Blk.new_at (by simp) _ _⟩
theorem KD.turn {S : Nat → Prop} (k : KD w a X) (ht : Turn S w X') {m : List Int} : Turn S w (X'.setCells (w.heap.size + 1) 0 (mc m).toList) := Turn.setCells (fun h => absurd h (by omega)) _ _ _ ht
end
theorem KD.turn_new {w X : World} {a : List Int} (k : KD w a (X.alloc (.cells (mc zM) 31))) (hx : w.heap.size + 1 < X.heap.size) (vs : List Value) : KD w a ((X.alloc (.cells (mc zM) 31)).setCells X.heap.size 0 vs) :=
  ⟨Below.setCells (by omega) _ _ _ k.bel, k.act.farCells (by omega) _ _ _, k.ans.farCells (by omega) _ _ _⟩
theorem RNet.cap {w : World} {B h : Nat} {lim : Int} {ms : List (List Int)} {v : Value} {A : Option Addr} {c : Nat} (R : RNet w B h lim ms v) (hv : v = .slice A ms.length c) : ms.length ≤ c := by
  rcases R.row.2 with ⟨e, h0⟩ | ⟨g, cap, cur, e, _, _, hn, _⟩
  · omega
  · rw [hv] at e; injection e with _ _ e; omega
theorem Reads.first {w : World} {B size n k : Nat} {A : Option Addr} {xs : List Value} (h : Reads w B size A n xs) (hk : k ≤ n) : Reads w B size A k (xs.take (k * size)) := by
  refine ⟨by rw [List.length_take, h.1]; have := Nat.mul_le_mul_right size hk; omega, fun h0 => ?_⟩
  obtain ⟨ad, e, hb, hc⟩ := h.2 (by omega)
  refine ⟨ad, e, hb, fun j u hu => hc j u ?_⟩
  rw [List.getElem?_take] at hu
  split at hu
  · exact hu
  · cases hu
theorem take_flat {ms : List (List Int)} (h : ∀ m ∈ ms, m.length = 28) {i : Nat} (hi : i ≤ ms.length) : (ints ms.flatten).take (i * 28) = ints (ms.take i).flatten := by
  have h1 : (ints (ms.take i).flatten).length = i * 28 := by
    rw [ints_length, flatten_len (fun m hm => h m (List.mem_of_mem_take hm)), List.length_take]
    congr 1; omega
  conv => lhs; rw [← List.take_append_drop i ms, List.flatten_append, ints_append, ← h1]
  exact List.take_left
theorem drop_flat {ms : List (List Int)} (h : ∀ m ∈ ms, m.length = 28) {i : Nat} (hi : i ≤ ms.length) : (ints ms.flatten).drop (i * 28) = ints (ms.drop i).flatten := by
  have h1 : (ints (ms.take i).flatten).length = i * 28 := by
    rw [ints_length, flatten_len (fun m hm => h m (List.mem_of_mem_take hm)), List.length_take]
    congr 1; omega
  conv => lhs; rw [← List.take_append_drop i ms, List.flatten_append, ints_append, ← h1]
  exact List.drop_left
/-- The same, and the message that was picked, in a block below b0. -/
structure KQ (w : World) (a : List Int) (g7 : Nat) (q : List Int) (b0 : Nat) (X : World) : Prop where
  kd : KD w a X
  msg : Blk X g7 31 (mc q)
  glt : g7 < b0
  lt : b0 ≤ X.heap.size
section
variable {w X X' : World} {a q : List Int} {g7 b0 : Nat}
theorem KQ.bel (k : KQ w a g7 q b0 X) : Below w.heap.size w X := k.kd.bel
theorem KQ.step (k : KQ w a g7 q b0 X) (hb : Below X.heap.size X X') : KQ w a g7 q b0 X' := ⟨k.kd.step hb, k.msg.here hb, k.glt, Nat.le_trans k.lt hb.size⟩
theorem KQ.alloc (k : KQ w a g7 q b0 X) (o : Obj) : KQ w a g7 q b0 (X.alloc o) := k.step (Below.alloc (Below.refl _ _) (Nat.le_refl _) o)
theorem KQ.drew (k : KQ w a g7 q b0 X) : KQ w a g7 q b0 X.drew := ⟨k.kd.drew, k.msg.drew, k.glt, k.lt⟩
theorem KQ.grown (k : KQ w a g7 q b0 X) {r : Option Nat} (hg : X.grownBy X' r) (hr : ∀ g, r = some g → b0 ≤ g) (hb : w.heap.size + 2 ≤ b0) : KQ w a g7 q b0 X' :=
  ⟨k.kd.grown hg (fun g e => Nat.le_trans hb (hr g e)), (hg.block _ k.msg.lt (fun e => by have := hr _ e.symm; have := k.glt; omega)).trans k.msg, k.glt, Nat.le_trans k.lt hg.size⟩
end
theorem RNet.ans {w X : World} {B h : Nat} {lim : Int} {ms : List (List Int)} {v : Value} (R : RNet X B h lim ms v) (hh : h < w.heap.size) (hv : ∀ k, v.ownBlock = some k → k ≠ w.heap.size + 1) (vs : List Value) : RNet (X.setCells (w.heap.size + 1) 0 vs) B h lim ms v := by
  have ht : Turn (fun k => k = w.heap.size + 1) X (X.setCells (w.heap.size + 1) 0 vs) := Turn.setCells (S := fun k => k = w.heap.size + 1) (fun _ => rfl) vs 0 X (Turn.refl _ _)
  exact ⟨R.box.turn ht (by omega), own_turn R.row ht (fun k hk e => hv k hk e), R.all, R.geB, R.small⟩
theorem RNet.row_lt {w : World} {B h : Nat} {lim : Int} {ms : List (List Int)} {v : Value} (R : RNet w B h lim ms v) : ∀ k, v.ownBlock = some k → k < w.heap.size := fun k hk => by
  obtain ⟨cur, hc, _⟩ := own_heap R.row k hk
  exact own_lt hc

theorem own_made28 {base : Nat} (X : World) (hb : base ≤ X.heap.size) : (X.alloc (.cells #[] 31)).ownsRow base 31 28 (.slice (some ⟨X.heap.size, 0, none⟩) 0 0) 0 [] := World.ownsRow_made X #[] 0 hb (Nat.zero_le _) (by simp)
theorem ints_one (l : List Int) : ∀ u ∈ ints l, u.oneCell' = true := fun u hu => by obtain ⟨x, _, rfl⟩ := List.mem_map.1 hu; rfl
theorem reads_one {X : World} {g : Nat} {m : List Int} (h : Blk X g 31 (mc m)) (hm : m.length = 28) : Reads X X.heap.size 28 (some ⟨g, 0, none⟩) 1 (ints m) := by
  have := reads_msgs (ms := [m]) (n := 1) (g := g) (w := X) (by simpa [mc] using h) (by simpa using hm) rfl
  simpa using this
def addC (lim : Int) (ms : List (List Int)) : Int := if lim ≤ ms.length then 6 else 0
def sendC (lim : Int) (ms : List (List Int)) (m : List Int) : Int := if mayB m then addC lim ms else 5
def pickC (ms : List (List Int)) : Int := if ms.length = 0 then 10 else 0
def twC (lim : Int) (ms : List (List Int)) : Int := if ms.length = 0 then 10 else addC lim ms

set_option maxRecDepth 100000 in
set_option maxHeartbeats 8000000 in
theorem do_send_bad {B h : Nat} {lim : Int} {ms : List (List Int)} {v : Value} {a : List Int} (w : World) (R : RNet w B h lim ms v) (hl : a.length = 30) (hk : fld a 0 = 0) (hm : mayB (a.drop 2) = false) :
    Calls Try.prog 18 #[.pointer (some ⟨h, 0, none⟩), .agg (ints a).toArray] w fun e w' => e = .returned (.tuple #[.agg (mc zM), .int .i64 5]) ∧ ∃ v', RNet w' B h lim ms v' ∧ Turn (fun k => k = h) w w' := by
  have hlt := R.box.lt
  have HL := Lib.hid hl
  have HZ := Lib.hid (mc_info zM_length)
  have K0 := Lib.hid (KD.begin w a)
  have HR := Lib.hid R
  have HX := Lib.hid (fun X (hb : Below w.heap.size w X) => R.step hb)
  have ha0 : (ints a).toArray[0]? = some (.int .i64 (fld a 0)) := by have : a[0]? = some (fld a 0) := fld_get (by omega); simp [ints, this]
  have ha1 : (ints a).toArray[1]? = some (.int .i64 (fld a 1)) := by have : a[1]? = some (fld a 1) := fld_get (by omega); simp [ints, this]
  have e0 : (fld a 0 == 0) = true := by rw [hk]; rfl
  have HM := Lib.hid hm
  have HML := Lib.hid (show (a.drop 2).length = 28 by simp [hl])
  have HMI := Lib.hid (show (Try.prog.info? 31).map (·.size) = some (ints (a.drop 2)).length from by have := mc_info (m := a.drop 2) (by simp [hl]); simpa [mc] using this)
  clear hm
  clear hl
  go_enter Try.func18, Try.ntmps18
  rw [mc_zero] at K0
  go_wp2_with (refine wpList_load_cells rfl 31 (.tmp 11) rfl ⟨w.heap.size, 2, none⟩ rfl (ints (a.drop 2)) _ (K0.out.msgAt HL.out) Try.underlying31 rfl HMI.out ?_)
  refine (refOk_any (a.drop 2) HML.out _).mono ?_
  rintro e w1 ⟨rfl, hb1⟩
  rw [HM.out]
  have K1 := Lib.hid (K0.out.step hb1)
  clear hb1
  go_wp2_with (refine wpList_store_mid (by rfl) 31 (.tmp 4) (.tmp 15) (by rfl) (w.heap.size + 1) 0 (mc zM) (by rfl) (by rfl) (K1.out.there zM_length) HZ.out (ints_oneCell _) ?_)
  exact bodyPost_ret (v := .tuple #[.agg (mc zM), .int .i64 5]) (results_cell_and rfl rfl rfl (loadM zM_length (K1.out.done zM_length))) rfl ⟨rfl, v, (HX.out _ K1.out.bel).ans hlt (fun k hk => by have := HR.out.row_lt k hk; omega) _, K1.out.turn (Turn.of_below K1.out.bel)⟩

set_option maxRecDepth 100000 in
set_option maxHeartbeats 8000000 in
theorem do_send_full {B h : Nat} {lim : Int} {ms : List (List Int)} {v : Value} {a : List Int} (w : World) (R : RNet w B h lim ms v) (hl : a.length = 30) (hk : fld a 0 = 0) (hm : mayB (a.drop 2) = true) (hf : lim ≤ ms.length) :
    Calls Try.prog 18 #[.pointer (some ⟨h, 0, none⟩), .agg (ints a).toArray] w fun e w' => e = .returned (.tuple #[.agg (mc zM), .int .i64 6]) ∧ ∃ v', RNet w' B h lim ms v' ∧ Turn (fun k => k = h) w w' := by
  have hlt := R.box.lt
  have HL := Lib.hid hl
  have HZ := Lib.hid (mc_info zM_length)
  have K0 := Lib.hid (KD.begin w a)
  have HR := Lib.hid R
  have HX := Lib.hid (fun X (hb : Below w.heap.size w X) => R.step hb)
  have ha0 : (ints a).toArray[0]? = some (.int .i64 (fld a 0)) := by have : a[0]? = some (fld a 0) := fld_get (by omega); simp [ints, this]
  have ha1 : (ints a).toArray[1]? = some (.int .i64 (fld a 1)) := by have : a[1]? = some (fld a 1) := fld_get (by omega); simp [ints, this]
  have e0 : (fld a 0 == 0) = true := by rw [hk]; rfl
  have HM := Lib.hid hm
  have HML := Lib.hid (show (a.drop 2).length = 28 by simp [hl])
  have HMI := Lib.hid (show (Try.prog.info? 31).map (·.size) = some (ints (a.drop 2)).length from by have := mc_info (m := a.drop 2) (by simp [hl]); simpa [mc] using this)
  have d1 : decide (lim ≤ (ms.length : Int)) = true := by simpa using hf
  obtain ⟨A, c, hv, _⟩ := R.slice
  have HV := Lib.hid hv
  clear hm
  clear hl
  go_enter Try.func18, Try.ntmps18
  rw [mc_zero] at K0
  go_wp2_with (refine wpList_load_cells rfl 31 (.tmp 11) rfl ⟨w.heap.size, 2, none⟩ rfl (ints (a.drop 2)) _ (K0.out.msgAt HL.out) Try.underlying31 rfl HMI.out ?_)
  refine (refOk_any (a.drop 2) HML.out _).mono ?_
  rintro e w1 ⟨rfl, hb1⟩
  rw [HM.out]
  have K1 := Lib.hid (K0.out.step hb1)
  clear hb1
  have k1 : w1.cell? ⟨h, 1, none⟩ = some (.slice A ms.length c) := by rw [← HV.out]; exact (HX.out _ K1.out.bel).box.cell 1
  have k0 : w1.cell? ⟨h, 0, none⟩ = some (.int .i64 lim) := (HX.out _ K1.out.bel).box.cell 0
  go_wp2_with fail
  go_quiet (fail)
  generalize hq : w1.drewN _ = W
  have K2 := Lib.hid (show KD w a W by rw [← hq]; exact K1.out.drewN _)
  clear hq k0 k1
  go_wp2_with (refine wpList_store_mid (by rfl) 31 (.tmp 4) (.tmp 26) (by rfl) (w.heap.size + 1) 0 (mc zM) (by rfl) (by rfl) (K2.out.there zM_length) HZ.out (ints_oneCell _) ?_)
  exact bodyPost_ret (v := .tuple #[.agg (mc zM), .int .i64 6]) (results_cell_and rfl rfl rfl (loadM zM_length (K2.out.done zM_length))) rfl ⟨rfl, v, (HX.out _ K2.out.bel).ans hlt (fun k hk => by have := HR.out.row_lt k hk; omega) _, K2.out.turn (Turn.of_below K2.out.bel)⟩

set_option maxRecDepth 100000 in
set_option maxHeartbeats 8000000 in
theorem do_send_room {B h : Nat} {lim : Int} {ms : List (List Int)} {v : Value} {a : List Int} (w : World) (R : RNet w B h lim ms v) (hl : a.length = 30) (hk : fld a 0 = 0) (hm : mayB (a.drop 2) = true) (hf : (ms.length : Int) < lim) (hlim : lim ≤ 65536) :
    Calls Try.prog 18 #[.pointer (some ⟨h, 0, none⟩), .agg (ints a).toArray] w fun e w' => e = .returned (.tuple #[.agg (mc zM), .int .i64 0]) ∧ ∃ v', RNet w' B h lim (ms ++ [a.drop 2]) v' ∧ Turn (fun k => k = h) w w' := by
  have hlt := R.box.lt
  have HL := Lib.hid hl
  have HZ := Lib.hid (mc_info zM_length)
  have K0 := Lib.hid (KD.begin w a)
  have HR := Lib.hid R
  have HX := Lib.hid (fun X (hb : Below w.heap.size w X) => R.step hb)
  have ha0 : (ints a).toArray[0]? = some (.int .i64 (fld a 0)) := by have : a[0]? = some (fld a 0) := fld_get (by omega); simp [ints, this]
  have ha1 : (ints a).toArray[1]? = some (.int .i64 (fld a 1)) := by have : a[1]? = some (fld a 1) := fld_get (by omega); simp [ints, this]
  have e0 : (fld a 0 == 0) = true := by rw [hk]; rfl
  have HM := Lib.hid hm
  have HML := Lib.hid (show (a.drop 2).length = 28 by simp [hl])
  have HMI := Lib.hid (show (Try.prog.info? 31).map (·.size) = some (ints (a.drop 2)).length from by have := mc_info (m := a.drop 2) (by simp [hl]); simpa [mc] using this)
  have d1 : decide (lim ≤ (ms.length : Int)) = false := by simp; omega
  have hsm : ms.length + 1 ≤ 65536 := by omega
  obtain ⟨A, c, hv, hsl⟩ := R.slice
  have HV := Lib.hid hv
  have HSL := Lib.hid (fun X (hb : Below w.heap.size w X) => hsl.below hb)
  have HALLQ := Lib.hid (show ∀ m ∈ ms ++ [a.drop 2], m.length = 28 from fun m hm => by
    rcases List.mem_append.1 hm with h1 | h1
    · exact R.all m h1
    · simp at h1; subst h1; simp [hl])
  have HS := Lib.hid (fun X (k : KD w a X) => (show X.cell? ⟨h, 1, none⟩ = some (.slice A ms.length c) ∧ KD w a X from ⟨by rw [← hv]; exact (R.step k.bel).box.cell 1, k⟩))
  have hnh : w.heap.size + 1 ≠ h := by omega
  obtain ⟨i0, hi0, hz0, hz1, hz2⟩ := info_parts info_msg
  clear hm hsl
  clear hl
  go_enter Try.func18, Try.ntmps18
  rw [mc_zero] at K0
  go_wp2_with (refine wpList_load_cells rfl 31 (.tmp 11) rfl ⟨w.heap.size, 2, none⟩ rfl (ints (a.drop 2)) _ (K0.out.msgAt HL.out) Try.underlying31 rfl HMI.out ?_)
  refine (refOk_any (a.drop 2) HML.out _).mono ?_
  rintro e w1 ⟨rfl, hb1⟩
  rw [HM.out]
  have K1 := Lib.hid (K0.out.step hb1)
  clear hb1
  have k1 : w1.cell? ⟨h, 1, none⟩ = some (.slice A ms.length c) := by rw [← HV.out]; exact (HX.out _ K1.out.bel).box.cell 1
  have k0 : w1.cell? ⟨h, 0, none⟩ = some (.int .i64 lim) := (HX.out _ K1.out.bel).box.cell 0
  go_wp2_with fail
  go_quiet (fail)
  generalize hq : w1.drewN _ = W
  have K2 := Lib.hid (show KD w a W by rw [← hq]; exact K1.out.drewN _)
  clear hq k0 k1
  have k1 : W.cell? ⟨h, 1, none⟩ = some (.slice A ms.length c) := by rw [← HV.out]; exact (HX.out _ K2.out.bel).box.cell 1
  go_wp2_with fail
  have KW0 := Lib.hid K2.out.drew
  refine wp_region_till 13 (fun w' => w'.cell? ⟨h, 1, none⟩ = some (.slice A ms.length c) ∧ KD w a w') (by kernel_rfl) (HS.out _ KW0.out) (fun hHeld => ?_)
  generalize W.drew = W0 at KW0 hHeld ⊢
  clear k1
  refine wpTill_take (i := 0) (v := ?_) rfl (by kernel_rfl) (by kernel_rfl) (by kernel_rfl) (by kernel_rfl) (fun _ _ _ h => h) (Or.inl ⟨by rfl, ?_⟩) (by assumption) ?_
  rotate_left
  · (intro w0 hSw; (try dsimp only at hSw); go_simp; try with_reducible rfl)
  try simp only [List.getElem_toArray, List.getElem_cons_succ, List.getElem_cons_zero, Act.put, List.setIfInBounds_toArray, List.set_cons_zero, List.set_cons_succ]
  refine wpTill_take (i := 2) (v := ?_) rfl (by kernel_rfl) (by kernel_rfl) (by kernel_rfl) (by kernel_rfl) (fun _ _ _ h => h) (Or.inl ⟨by rfl, ?_⟩) (by assumption) ?_
  rotate_left
  · (intro w0 hSw; (try dsimp only at hSw); go_simp; try with_reducible rfl)
  try simp only [List.getElem_toArray, List.getElem_cons_succ, List.getElem_cons_zero, Act.put, List.setIfInBounds_toArray, List.set_cons_zero, List.set_cons_succ]
  refine wpTill_take (i := 3) (v := ?_) rfl (by kernel_rfl) (by kernel_rfl) (by kernel_rfl) (by kernel_rfl) (fun _ _ _ h => h) (Or.inl ⟨by rfl, ?_⟩) (by assumption) ?_
  rotate_left
  · (intro w0 hSw; (try dsimp only at hSw); go_simp; try with_reducible rfl)
  try simp only [List.getElem_toArray, List.getElem_cons_succ, List.getElem_cons_zero, Act.put, List.setIfInBounds_toArray, List.set_cons_zero, List.set_cons_succ]
  refine wpTill_take (i := 4) (v := ?_) rfl (by kernel_rfl) (by kernel_rfl) (by kernel_rfl) (by kernel_rfl) (fun _ _ _ h => h) (Or.inl ⟨by rfl, ?_⟩) (by assumption) ?_
  rotate_left
  · (intro w0 hSw; (try dsimp only at hSw); go_simp; try with_reducible rfl)
  try simp only [List.getElem_toArray, List.getElem_cons_succ, List.getElem_cons_zero, Act.put, List.setIfInBounds_toArray, List.set_cons_zero, List.set_cons_succ]
  refine wpTill_take (i := 5) (v := ?_) rfl (by kernel_rfl) (by kernel_rfl) (by kernel_rfl) (by kernel_rfl) (fun _ _ _ h => h) (Or.inl ⟨by rfl, ?_⟩) (by assumption) ?_
  rotate_left
  · (intro w0 hSw; (try dsimp only at hSw); go_simp; try with_reducible rfl)
  try simp only [List.getElem_toArray, List.getElem_cons_succ, List.getElem_cons_zero, Act.put, List.setIfInBounds_toArray, List.set_cons_zero, List.set_cons_succ]
  refine wpTill_take (i := 7) (v := ?_) rfl (by kernel_rfl) (by kernel_rfl) (by kernel_rfl) (by kernel_rfl) (fun _ _ _ h => h) (Or.inl ⟨by rfl, ?_⟩) (by assumption) ?_
  rotate_left
  · (intro w0 hSw; (try dsimp only at hSw); go_simp; try with_reducible rfl)
  try simp only [List.getElem_toArray, List.getElem_cons_succ, List.getElem_cons_zero, Act.put, List.setIfInBounds_toArray, List.set_cons_zero, List.set_cons_succ]
  refine wpTill_take (i := 8) (v := .agg (mc (a.drop 2))) rfl (by kernel_rfl) (by kernel_rfl) (by kernel_rfl) (by kernel_rfl) (fun _ _ _ h => h) (Or.inl ⟨by rfl, fun w0 hSw => exec_load (x := .tmp 34) rfl (ad := ⟨w.heap.size, 2, none⟩) rfl (hSw.2.load HL.out)⟩) (by assumption) ?_
  try simp only [List.getElem_toArray, List.getElem_cons_succ, List.getElem_cons_zero, Act.put, List.setIfInBounds_toArray, List.set_cons_zero, List.set_cons_succ]
  go_simp
  refine wpTill_ready (rs := [1, 9]) (by kernel_rfl) (by simp) ?_
  refine AllTill.cons rfl (fun K hK => ?_) (AllTill.cons rfl (fun K hK => ?_) AllTill.nil)
  · go_simp
    have KX1 := Lib.hid (KW0.out.alloc (.cells #[] 31))
    have OX1 := Lib.hid (own_made28 (base := w.heap.size + 2) W0 (by have := KW0.out.lt; omega))
    refine hK.out _ _ (HS.out _ KX1.out) (fun hHeld => ?_)
    clear hK K hHeld
    have hHeld := HS.out _ KX1.out
    generalize W0.alloc (.cells #[] 31) = X1 at KX1 OX1 hHeld ⊢
    refine wpTill_ready (rs := [6, 9]) (by kernel_rfl) (by simp) ?_
    refine AllTill.cons rfl (fun K hK => ?_) (AllTill.cons rfl (fun K hK => ?_) AllTill.nil)
    · have hb1 : W0.heap.size < X1.heap.size := own_lt (own_heap OX1.out _ rfl).choose_spec.1
      refine step_append_any _ rfl (.tmp 28) (.tmp 32) _ rfl (w.heap.size + 2) 31 i0 _ 28 224 Try.underlying45 hi0 hz0 hz1 hz2 (mc_size zM_length) (by omega) (.slice (some ⟨W0.heap.size, 0, none⟩) 0 0) 0 [] rfl
        OX1.out w.heap.size A ms.length c (ints ms.flatten) rfl (HSL.out _ KX1.out.bel) (ints_one _) (by simp only [maxLen]; omega) (by omega) (by have := KX1.out.lt; omega) ?_
      intro v6 X2 hown hg _
      rw [Nat.zero_add, List.nil_append] at hown
      have KX2 := Lib.hid (KX1.out.grown hg (fun g e => (ownBlock_ge OX1.out g e)))
      have OX2 := Lib.hid hown
      clear hown hg
      refine hK.out _ _ (HS.out _ KX2.out) (fun hHeld => ?_)
      clear hK K
      refine wpTill_ready (rs := [9]) (by kernel_rfl) (by simp) ?_
      refine AllTill.cons rfl (fun K hK => ?_) AllTill.nil
      refine step_build_msgs (by rfl) 1 _ rfl [(a.drop 2)] (by simpa using HML.out) rfl (by omega) (by rfl) ?_
      rw [show (ints [(a.drop 2)].flatten).toArray = mc (a.drop 2) by simp [mc]]
      have KX3 := Lib.hid (KX2.out.alloc (.cells (mc (a.drop 2)) 31))
      have NX3 := Lib.hid (Blk.new X2 31 (mc (a.drop 2)))
      have OX3 := Lib.hid (World.ownsRow.alloc OX2.out (.cells (mc (a.drop 2)) 31))
      refine hK.out _ _ (HS.out _ KX3.out) (fun hHeld => ?_)
      clear hK K hHeld
      have hHeld := HS.out _ KX3.out
      generalize X2.alloc (.cells (mc (a.drop 2)) 31) = X3 at KX3 NX3 OX3 hHeld ⊢
      refine wpTill_ready (rs := [10]) (by kernel_rfl) (by simp) ?_
      refine AllTill.cons rfl (fun K hK => ?_) AllTill.nil
      refine step_append_any _ rfl (.tmp 33) (.tmp 36) _ rfl (w.heap.size + 2) 31 i0 _ 28 224 Try.underlying45 hi0 hz0 hz1 hz2 (mc_size zM_length) (by omega) v6 ms.length (ints ms.flatten) rfl
        OX3.out X3.heap.size (some ⟨X2.heap.size, 0, none⟩) 1 1 (ints (a.drop 2)) rfl (reads_one NX3.out HML.out) (ints_one _) (by simp only [maxLen]; omega) (by omega) (by have := KX3.out.lt; omega) ?_
      intro v9 W9 hown hg _
      have K9 := Lib.hid (KX3.out.grown hg (fun g e => (ownBlock_ge OX3.out g e)))
      obtain ⟨A9, c9, rfl, _, _⟩ := own_slice_any hown
      rw [← ints_append, show ms.flatten ++ (a.drop 2) = (ms ++ [(a.drop 2)]).flatten by simp] at hown
      obtain ⟨R9, T9⟩ := HR.out.set (ms' := ms ++ [(a.drop 2)]) (Turn.of_below K9.out.bel) (by rw [List.length_append]; exact own_less hown (by omega)) HALLQ.out (by rw [List.length_append]; exact hsm)
      have hv9 := fun k hk => ownBlock_ge hown k hk
      have k9 := (HX.out _ K9.out.bel).box.cell 1
      have f9 := (HX.out _ K9.out.bel).box.frozen 1
      have R9h := Lib.hid R9
      have T9h := Lib.hid T9
      have V9h := Lib.hid hv9
      have AN := Lib.hid (K9.out.ans.far (p := ⟨h, 1, none⟩) hnh (.slice A9 (ms.length + 1) c9))
      clear hown hg R9 T9 hv9
      refine hK.out _ _ (HS.out _ K9.out) (fun hHeld => ?_)
      clear hK K
      refine wpTill_ready (rs := [11]) (by kernel_rfl) (by simp) ?_
      refine AllTill.cons rfl (fun K hK => ?_) AllTill.nil
      go_simp
      refine hK.out _ _ hHeld (fun hHeld => ?_)
      clear hK K
      refine wpTill_take (i := 12) (v := ?_) rfl (by kernel_rfl) (by kernel_rfl) (by kernel_rfl) (by kernel_rfl) (fun _ _ _ h => h) (Or.inl ⟨by rfl, ?_⟩) (by assumption) ?_
      rotate_left
      · (intro w0 hSw; (try dsimp only at hSw); go_simp; try with_reducible rfl)
      try simp only [List.getElem_toArray, List.getElem_cons_succ, List.getElem_cons_zero, Act.put, List.setIfInBounds_toArray, List.set_cons_zero, List.set_cons_succ]
      refine wpTill_ready (rs := [13]) (by kernel_rfl) (by simp) ?_
      refine AllTill.last rfl (of_decide_eq_true (by kernel_rfl)) (fun K hK => ?_)
      go_simp
      refine hK.out _ _ ?_
      clear hK K hHeld k9 f9
      refine wpTill_done (by kernel_rfl) ?_ _
      generalize W9.setCell ⟨h, 1, none⟩ (.slice A9 (ms.length + 1) c9) = V9 at R9h T9h AN ⊢
      go_wp2_with (refine wpList_store_mid (by rfl) 31 (.tmp 4) (.tmp 40) (by rfl) (w.heap.size + 1) 0 (mc zM) (by rfl) (by rfl) (mc_there zM_length zM_length AN.out) HZ.out (ints_oneCell _) ?_)
      exact bodyPost_ret (v := .tuple #[.agg (mc zM), .int .i64 0]) (results_cell_and rfl rfl rfl (loadM zM_length (mc_put zM_length zM_length AN.out))) rfl ⟨rfl, _, R9h.out.ans hlt (fun k hk => by have := V9h.out k hk; omega) _, Turn.setCells (fun h => absurd h (by omega)) _ _ _ T9h.out⟩
    · refine step_build_msgs (by rfl) 1 _ rfl [(a.drop 2)] (by simpa using HML.out) rfl (by omega) (by rfl) ?_
      have hb1 : W0.heap.size < X1.heap.size := own_lt (own_heap OX1.out _ rfl).choose_spec.1
      rw [show (ints [(a.drop 2)].flatten).toArray = mc (a.drop 2) by simp [mc]]
      have KX2 := Lib.hid (KX1.out.alloc (.cells (mc (a.drop 2)) 31))
      have NX2 := Lib.hid (Blk.new X1 31 (mc (a.drop 2)))
      have OX2 := Lib.hid (World.ownsRow.alloc OX1.out (.cells (mc (a.drop 2)) 31))
      refine hK.out _ _ (HS.out _ KX2.out) (fun hHeld => ?_)
      clear hK K hHeld
      have hHeld := HS.out _ KX2.out
      generalize X1.alloc (.cells (mc (a.drop 2)) 31) = X2 at KX2 NX2 OX2 hHeld ⊢
      refine wpTill_ready (rs := [6]) (by kernel_rfl) (by simp) ?_
      refine AllTill.cons rfl (fun K hK => ?_) AllTill.nil
      refine step_append_any _ rfl (.tmp 28) (.tmp 32) _ rfl (w.heap.size + 2) 31 i0 _ 28 224 Try.underlying45 hi0 hz0 hz1 hz2 (mc_size zM_length) (by omega) (.slice (some ⟨W0.heap.size, 0, none⟩) 0 0) 0 [] rfl
        OX2.out w.heap.size A ms.length c (ints ms.flatten) rfl (HSL.out _ KX2.out.bel) (ints_one _) (by simp only [maxLen]; omega) (by omega) (by have := KX2.out.lt; omega) ?_
      intro v6 X3 hown hg _
      rw [Nat.zero_add, List.nil_append] at hown
      have KX3 := Lib.hid (KX2.out.grown hg (fun g e => (ownBlock_ge OX2.out g e)))
      have OX3 := Lib.hid hown
      have NX3 := Lib.hid (NX2.out.grown hg (fun e => by simp [Value.ownBlock] at e; omega))
      clear hown hg
      refine hK.out _ _ (HS.out _ KX3.out) (fun hHeld => ?_)
      clear hK K
      refine wpTill_ready (rs := [10]) (by kernel_rfl) (by simp) ?_
      refine AllTill.cons rfl (fun K hK => ?_) AllTill.nil
      refine step_append_any _ rfl (.tmp 33) (.tmp 36) _ rfl (w.heap.size + 2) 31 i0 _ 28 224 Try.underlying45 hi0 hz0 hz1 hz2 (mc_size zM_length) (by omega) v6 ms.length (ints ms.flatten) rfl
        OX3.out X3.heap.size (some ⟨X1.heap.size, 0, none⟩) 1 1 (ints (a.drop 2)) rfl (reads_one NX3.out HML.out) (ints_one _) (by simp only [maxLen]; omega) (by omega) (by have := KX3.out.lt; omega) ?_
      intro v9 W9 hown hg _
      have K9 := Lib.hid (KX3.out.grown hg (fun g e => (ownBlock_ge OX3.out g e)))
      obtain ⟨A9, c9, rfl, _, _⟩ := own_slice_any hown
      rw [← ints_append, show ms.flatten ++ (a.drop 2) = (ms ++ [(a.drop 2)]).flatten by simp] at hown
      obtain ⟨R9, T9⟩ := HR.out.set (ms' := ms ++ [(a.drop 2)]) (Turn.of_below K9.out.bel) (by rw [List.length_append]; exact own_less hown (by omega)) HALLQ.out (by rw [List.length_append]; exact hsm)
      have hv9 := fun k hk => ownBlock_ge hown k hk
      have k9 := (HX.out _ K9.out.bel).box.cell 1
      have f9 := (HX.out _ K9.out.bel).box.frozen 1
      have R9h := Lib.hid R9
      have T9h := Lib.hid T9
      have V9h := Lib.hid hv9
      have AN := Lib.hid (K9.out.ans.far (p := ⟨h, 1, none⟩) hnh (.slice A9 (ms.length + 1) c9))
      clear hown hg R9 T9 hv9
      refine hK.out _ _ (HS.out _ K9.out) (fun hHeld => ?_)
      clear hK K
      refine wpTill_ready (rs := [11]) (by kernel_rfl) (by simp) ?_
      refine AllTill.cons rfl (fun K hK => ?_) AllTill.nil
      go_simp
      refine hK.out _ _ hHeld (fun hHeld => ?_)
      clear hK K
      refine wpTill_take (i := 12) (v := ?_) rfl (by kernel_rfl) (by kernel_rfl) (by kernel_rfl) (by kernel_rfl) (fun _ _ _ h => h) (Or.inl ⟨by rfl, ?_⟩) (by assumption) ?_
      rotate_left
      · (intro w0 hSw; (try dsimp only at hSw); go_simp; try with_reducible rfl)
      try simp only [List.getElem_toArray, List.getElem_cons_succ, List.getElem_cons_zero, Act.put, List.setIfInBounds_toArray, List.set_cons_zero, List.set_cons_succ]
      refine wpTill_ready (rs := [13]) (by kernel_rfl) (by simp) ?_
      refine AllTill.last rfl (of_decide_eq_true (by kernel_rfl)) (fun K hK => ?_)
      go_simp
      refine hK.out _ _ ?_
      clear hK K hHeld k9 f9
      refine wpTill_done (by kernel_rfl) ?_ _
      generalize W9.setCell ⟨h, 1, none⟩ (.slice A9 (ms.length + 1) c9) = V9 at R9h T9h AN ⊢
      go_wp2_with (refine wpList_store_mid (by rfl) 31 (.tmp 4) (.tmp 40) (by rfl) (w.heap.size + 1) 0 (mc zM) (by rfl) (by rfl) (mc_there zM_length zM_length AN.out) HZ.out (ints_oneCell _) ?_)
      exact bodyPost_ret (v := .tuple #[.agg (mc zM), .int .i64 0]) (results_cell_and rfl rfl rfl (loadM zM_length (mc_put zM_length zM_length AN.out))) rfl ⟨rfl, _, R9h.out.ans hlt (fun k hk => by have := V9h.out k hk; omega) _, Turn.setCells (fun h => absurd h (by omega)) _ _ _ T9h.out⟩
  · refine step_build_msgs (by rfl) 1 _ rfl [(a.drop 2)] (by simpa using HML.out) rfl (by omega) (by rfl) ?_
    rw [show (ints [(a.drop 2)].flatten).toArray = mc (a.drop 2) by simp [mc]]
    have KX1 := Lib.hid (KW0.out.alloc (.cells (mc (a.drop 2)) 31))
    have NX1 := Lib.hid (Blk.new W0 31 (mc (a.drop 2)))
    refine hK.out _ _ (HS.out _ KX1.out) (fun hHeld => ?_)
    clear hK K hHeld
    have hHeld := HS.out _ KX1.out
    generalize W0.alloc (.cells (mc (a.drop 2)) 31) = X1 at KX1 NX1 hHeld ⊢
    have hb1 : W0.heap.size < X1.heap.size := NX1.out.lt
    refine wpTill_ready (rs := [1]) (by kernel_rfl) (by simp) ?_
    refine AllTill.cons rfl (fun K hK => ?_) AllTill.nil
    go_simp
    have KX2 := Lib.hid (KX1.out.alloc (.cells #[] 31))
    have OX2 := Lib.hid (own_made28 (base := w.heap.size + 2) X1 (by have := KX1.out.lt; omega))
    have NX2 := Lib.hid (NX1.out.alloc (.cells #[] 31))
    refine hK.out _ _ (HS.out _ KX2.out) (fun hHeld => ?_)
    clear hK K hHeld
    have hHeld := HS.out _ KX2.out
    generalize X1.alloc (.cells #[] 31) = X2 at KX2 OX2 NX2 hHeld ⊢
    refine wpTill_ready (rs := [6]) (by kernel_rfl) (by simp) ?_
    refine AllTill.cons rfl (fun K hK => ?_) AllTill.nil
    refine step_append_any _ rfl (.tmp 28) (.tmp 32) _ rfl (w.heap.size + 2) 31 i0 _ 28 224 Try.underlying45 hi0 hz0 hz1 hz2 (mc_size zM_length) (by omega) (.slice (some ⟨X1.heap.size, 0, none⟩) 0 0) 0 [] rfl
      OX2.out w.heap.size A ms.length c (ints ms.flatten) rfl (HSL.out _ KX2.out.bel) (ints_one _) (by simp only [maxLen]; omega) (by omega) (by have := KX2.out.lt; omega) ?_
    intro v6 X3 hown hg _
    rw [Nat.zero_add, List.nil_append] at hown
    have KX3 := Lib.hid (KX2.out.grown hg (fun g e => (ownBlock_ge OX2.out g e)))
    have OX3 := Lib.hid hown
    have NX3 := Lib.hid (NX2.out.grown hg (fun e => by simp [Value.ownBlock] at e; omega))
    clear hown hg
    refine hK.out _ _ (HS.out _ KX3.out) (fun hHeld => ?_)
    clear hK K
    refine wpTill_ready (rs := [10]) (by kernel_rfl) (by simp) ?_
    refine AllTill.cons rfl (fun K hK => ?_) AllTill.nil
    refine step_append_any _ rfl (.tmp 33) (.tmp 36) _ rfl (w.heap.size + 2) 31 i0 _ 28 224 Try.underlying45 hi0 hz0 hz1 hz2 (mc_size zM_length) (by omega) v6 ms.length (ints ms.flatten) rfl
      OX3.out X3.heap.size (some ⟨W0.heap.size, 0, none⟩) 1 1 (ints (a.drop 2)) rfl (reads_one NX3.out HML.out) (ints_one _) (by simp only [maxLen]; omega) (by omega) (by have := KX3.out.lt; omega) ?_
    intro v9 W9 hown hg _
    have K9 := Lib.hid (KX3.out.grown hg (fun g e => (ownBlock_ge OX3.out g e)))
    obtain ⟨A9, c9, rfl, _, _⟩ := own_slice_any hown
    rw [← ints_append, show ms.flatten ++ (a.drop 2) = (ms ++ [(a.drop 2)]).flatten by simp] at hown
    obtain ⟨R9, T9⟩ := HR.out.set (ms' := ms ++ [(a.drop 2)]) (Turn.of_below K9.out.bel) (by rw [List.length_append]; exact own_less hown (by omega)) HALLQ.out (by rw [List.length_append]; exact hsm)
    have hv9 := fun k hk => ownBlock_ge hown k hk
    have k9 := (HX.out _ K9.out.bel).box.cell 1
    have f9 := (HX.out _ K9.out.bel).box.frozen 1
    have R9h := Lib.hid R9
    have T9h := Lib.hid T9
    have V9h := Lib.hid hv9
    have AN := Lib.hid (K9.out.ans.far (p := ⟨h, 1, none⟩) hnh (.slice A9 (ms.length + 1) c9))
    clear hown hg R9 T9 hv9
    refine hK.out _ _ (HS.out _ K9.out) (fun hHeld => ?_)
    clear hK K
    refine wpTill_ready (rs := [11]) (by kernel_rfl) (by simp) ?_
    refine AllTill.cons rfl (fun K hK => ?_) AllTill.nil
    go_simp
    refine hK.out _ _ hHeld (fun hHeld => ?_)
    clear hK K
    refine wpTill_take (i := 12) (v := ?_) rfl (by kernel_rfl) (by kernel_rfl) (by kernel_rfl) (by kernel_rfl) (fun _ _ _ h => h) (Or.inl ⟨by rfl, ?_⟩) (by assumption) ?_
    rotate_left
    · (intro w0 hSw; (try dsimp only at hSw); go_simp; try with_reducible rfl)
    try simp only [List.getElem_toArray, List.getElem_cons_succ, List.getElem_cons_zero, Act.put, List.setIfInBounds_toArray, List.set_cons_zero, List.set_cons_succ]
    refine wpTill_ready (rs := [13]) (by kernel_rfl) (by simp) ?_
    refine AllTill.last rfl (of_decide_eq_true (by kernel_rfl)) (fun K hK => ?_)
    go_simp
    refine hK.out _ _ ?_
    clear hK K hHeld k9 f9
    refine wpTill_done (by kernel_rfl) ?_ _
    generalize W9.setCell ⟨h, 1, none⟩ (.slice A9 (ms.length + 1) c9) = V9 at R9h T9h AN ⊢
    go_wp2_with (refine wpList_store_mid (by rfl) 31 (.tmp 4) (.tmp 40) (by rfl) (w.heap.size + 1) 0 (mc zM) (by rfl) (by rfl) (mc_there zM_length zM_length AN.out) HZ.out (ints_oneCell _) ?_)
    exact bodyPost_ret (v := .tuple #[.agg (mc zM), .int .i64 0]) (results_cell_and rfl rfl rfl (loadM zM_length (mc_put zM_length zM_length AN.out))) rfl ⟨rfl, _, R9h.out.ans hlt (fun k hk => by have := V9h.out k hk; omega) _, Turn.setCells (fun h => absurd h (by omega)) _ _ _ T9h.out⟩

set_option maxRecDepth 100000 in
set_option maxHeartbeats 8000000 in
theorem do_take {B h : Nat} {lim : Int} {ms : List (List Int)} {v : Value} {a : List Int} (w : World) (R : RNet w B h lim ms v) (hl : a.length = 30) (hk : fld a 0 = 4) :
    Calls Try.prog 18 #[.pointer (some ⟨h, 0, none⟩), .agg (ints a).toArray] w fun e w' => e = .returned (.tuple #[.agg (mc zM), .int .i64 0]) ∧ ∃ v', RNet w' B h lim [] v' ∧ Turn (fun k => k = h) w w' := by
  have hlt := R.box.lt
  have HL := Lib.hid hl
  have HZ := Lib.hid (mc_info zM_length)
  have K0 := Lib.hid (KD.begin w a)
  have HR := Lib.hid R
  have HX := Lib.hid (fun X (hb : Below w.heap.size w X) => R.step hb)
  have ha0 : (ints a).toArray[0]? = some (.int .i64 (fld a 0)) := by have : a[0]? = some (fld a 0) := fld_get (by omega); simp [ints, this]
  have ha1 : (ints a).toArray[1]? = some (.int .i64 (fld a 1)) := by have : a[1]? = some (fld a 1) := fld_get (by omega); simp [ints, this]
  have e0 : (fld a 0 == 0) = false := by rw [hk]; rfl
  have e4 : (fld a 0 == 4) = true := by rw [hk]; rfl
  have e3 : (fld a 0 == 3) = false := by rw [hk]; rfl
  have e2 : (fld a 0 == 2) = false := by rw [hk]; rfl
  have el1 : decide (fld a 0 < 1) = false := by rw [hk]; rfl
  have eg3 : decide (3 < fld a 0) = true := by rw [hk]; rfl
  have hnh : w.heap.size + 1 ≠ h := by omega
  clear hl
  go_enter Try.func18, Try.ntmps18
  rw [mc_zero] at K0
  go_upto_region 1 with fail
  generalize World.alloc _ _ = W0 at K0 ⊢
  have c0 := K0.out.field HL.out (i := 0) (by omega)
  have c1 := K0.out.field HL.out (i := 1) (by omega)
  have k1 : W0.cell? ⟨h, 1, none⟩ = some v := (HX.out _ K0.out.bel).box.cell 1
  have f1 := (HX.out _ K0.out.bel).box.frozen 1
  obtain ⟨R9, T9⟩ := HR.out.set (ms' := []) (Turn.of_below K0.out.bel) (World.ownsRow_nil _ _ _ _) (by simp) (by simp)
  have R9h := Lib.hid R9
  have T9h := Lib.hid T9
  have AN := Lib.hid (K0.out.ans.far (p := ⟨h, 1, none⟩) hnh (.slice none 0 0))
  clear R9 T9
  go_upto_region 10 with fail
  generalize World.setCell _ _ _ = V9 at R9h T9h AN ⊢
  go_wp2_with (refine wpList_store_mid (by rfl) 31 (.tmp 4) (.tmp 47) (by rfl) (w.heap.size + 1) 0 (mc zM) (by rfl) (by rfl) (mc_there zM_length zM_length AN.out) HZ.out (ints_oneCell _) ?_)
  exact bodyPost_ret (v := .tuple #[.agg (mc zM), .int .i64 0]) (results_cell_and rfl rfl rfl (loadM zM_length (mc_put zM_length zM_length AN.out))) rfl ⟨rfl, _, R9h.out.ans hlt (fun k hk => by simp [Value.ownBlock] at hk) _, Turn.setCells (fun h => absurd h (by omega)) _ _ _ T9h.out⟩

set_option maxRecDepth 100000 in
set_option maxHeartbeats 8000000 in
theorem do_other_lo {B h : Nat} {lim : Int} {ms : List (List Int)} {v : Value} {a : List Int} (w : World) (R : RNet w B h lim ms v) (hl : a.length = 30) (hk : fld a 0 < 0) :
    Calls Try.prog 18 #[.pointer (some ⟨h, 0, none⟩), .agg (ints a).toArray] w fun e w' => e = .returned (.tuple #[.agg (mc zM), .int .i64 0]) ∧ ∃ v', RNet w' B h lim ms v' ∧ Turn (fun k => k = h) w w' := by
  have hlt := R.box.lt
  have HL := Lib.hid hl
  have HZ := Lib.hid (mc_info zM_length)
  have K0 := Lib.hid (KD.begin w a)
  have HR := Lib.hid R
  have HX := Lib.hid (fun X (hb : Below w.heap.size w X) => R.step hb)
  have ha0 : (ints a).toArray[0]? = some (.int .i64 (fld a 0)) := by have : a[0]? = some (fld a 0) := fld_get (by omega); simp [ints, this]
  have ha1 : (ints a).toArray[1]? = some (.int .i64 (fld a 1)) := by have : a[1]? = some (fld a 1) := fld_get (by omega); simp [ints, this]
  have e0 : (fld a 0 == 0) = false := by rw [beq_eq_false_iff_ne]; omega
  have e4 : (fld a 0 == 4) = false := by rw [beq_eq_false_iff_ne]; omega
  have el1 : decide (fld a 0 < 1) = true := by simp; omega
  clear hl
  go_enter Try.func18, Try.ntmps18
  rw [mc_zero] at K0
  go_upto_region 1 with fail
  generalize World.alloc _ _ = W0 at K0 ⊢
  have c0 := K0.out.field HL.out (i := 0) (by omega)
  have c1 := K0.out.field HL.out (i := 1) (by omega)
  have k1 : W0.cell? ⟨h, 1, none⟩ = some v := (HX.out _ K0.out.bel).box.cell 1
  have f1 := (HX.out _ K0.out.bel).box.frozen 1
  go_wp2_with (refine wpList_store_mid (by rfl) 31 (.tmp 4) (.tmp 56) (by rfl) (w.heap.size + 1) 0 (mc zM) (by rfl) (by rfl) (K0.out.there zM_length) HZ.out (ints_oneCell _) ?_)
  exact bodyPost_ret (v := .tuple #[.agg (mc zM), .int .i64 0]) (results_cell_and rfl rfl rfl (loadM zM_length (K0.out.done zM_length))) rfl ⟨rfl, v, (HX.out _ K0.out.bel).ans hlt (fun k hk => by have := HR.out.row_lt k hk; omega) _, K0.out.turn (Turn.of_below K0.out.bel)⟩

set_option maxRecDepth 100000 in
set_option maxHeartbeats 8000000 in
theorem do_other_hi {B h : Nat} {lim : Int} {ms : List (List Int)} {v : Value} {a : List Int} (w : World) (R : RNet w B h lim ms v) (hl : a.length = 30) (hk : 4 < fld a 0) :
    Calls Try.prog 18 #[.pointer (some ⟨h, 0, none⟩), .agg (ints a).toArray] w fun e w' => e = .returned (.tuple #[.agg (mc zM), .int .i64 0]) ∧ ∃ v', RNet w' B h lim ms v' ∧ Turn (fun k => k = h) w w' := by
  have hlt := R.box.lt
  have HL := Lib.hid hl
  have HZ := Lib.hid (mc_info zM_length)
  have K0 := Lib.hid (KD.begin w a)
  have HR := Lib.hid R
  have HX := Lib.hid (fun X (hb : Below w.heap.size w X) => R.step hb)
  have ha0 : (ints a).toArray[0]? = some (.int .i64 (fld a 0)) := by have : a[0]? = some (fld a 0) := fld_get (by omega); simp [ints, this]
  have ha1 : (ints a).toArray[1]? = some (.int .i64 (fld a 1)) := by have : a[1]? = some (fld a 1) := fld_get (by omega); simp [ints, this]
  have e0 : (fld a 0 == 0) = false := by rw [beq_eq_false_iff_ne]; omega
  have e4 : (fld a 0 == 4) = false := by rw [beq_eq_false_iff_ne]; omega
  have el1 : decide (fld a 0 < 1) = false := by simp; omega
  have eg3 : decide (3 < fld a 0) = true := by simp; omega
  clear hl
  go_enter Try.func18, Try.ntmps18
  rw [mc_zero] at K0
  go_upto_region 1 with fail
  generalize World.alloc _ _ = W0 at K0 ⊢
  have c0 := K0.out.field HL.out (i := 0) (by omega)
  have c1 := K0.out.field HL.out (i := 1) (by omega)
  have k1 : W0.cell? ⟨h, 1, none⟩ = some v := (HX.out _ K0.out.bel).box.cell 1
  have f1 := (HX.out _ K0.out.bel).box.frozen 1
  go_wp2_with (refine wpList_store_mid (by rfl) 31 (.tmp 4) (.tmp 56) (by rfl) (w.heap.size + 1) 0 (mc zM) (by rfl) (by rfl) (K0.out.there zM_length) HZ.out (ints_oneCell _) ?_)
  exact bodyPost_ret (v := .tuple #[.agg (mc zM), .int .i64 0]) (results_cell_and rfl rfl rfl (loadM zM_length (K0.out.done zM_length))) rfl ⟨rfl, v, (HX.out _ K0.out.bel).ans hlt (fun k hk => by have := HR.out.row_lt k hk; omega) _, K0.out.turn (Turn.of_below K0.out.bel)⟩

set_option maxRecDepth 100000 in
set_option maxHeartbeats 8000000 in
theorem do_none {B h : Nat} {lim : Int} {ms : List (List Int)} {v : Value} {a : List Int} (w : World) (R : RNet w B h lim ms v) (hl : a.length = 30) (hk : 1 ≤ fld a 0 ∧ fld a 0 ≤ 3) (h0 : ms.length = 0) :
    Calls Try.prog 18 #[.pointer (some ⟨h, 0, none⟩), .agg (ints a).toArray] w fun e w' => e = .returned (.tuple #[.agg (mc zM), .int .i64 10]) ∧ ∃ v', RNet w' B h lim ms v' ∧ Turn (fun k => k = h) w w' := by
  have hlt := R.box.lt
  have HL := Lib.hid hl
  have HZ := Lib.hid (mc_info zM_length)
  have K0 := Lib.hid (KD.begin w a)
  have HR := Lib.hid R
  have HX := Lib.hid (fun X (hb : Below w.heap.size w X) => R.step hb)
  have ha0 : (ints a).toArray[0]? = some (.int .i64 (fld a 0)) := by have : a[0]? = some (fld a 0) := fld_get (by omega); simp [ints, this]
  have ha1 : (ints a).toArray[1]? = some (.int .i64 (fld a 1)) := by have : a[1]? = some (fld a 1) := fld_get (by omega); simp [ints, this]
  have e0 : (fld a 0 == 0) = false := by rw [beq_eq_false_iff_ne]; omega
  have e4 : (fld a 0 == 4) = false := by rw [beq_eq_false_iff_ne]; omega
  have el1 : decide (fld a 0 < 1) = false := by simp; omega
  have eg3 : decide (3 < fld a 0) = false := by simp; omega
  obtain ⟨A, c, hv, hsl⟩ := R.slice
  have HV := Lib.hid hv
  have HSL := Lib.hid (fun X (hb : Below w.heap.size w X) => hsl.below hb)
  have HALL := Lib.hid R.all
  have hsml := R.small
  have HSU := Lib.hid (fun j => dlvM_length R.all j)
  clear hsl
  have H0 := Lib.hid h0
  clear h0
  clear hl
  go_enter Try.func18, Try.ntmps18
  rw [mc_zero] at K0
  go_upto_region 1 with fail
  generalize World.alloc _ _ = W0 at K0 ⊢
  have c0 := K0.out.field HL.out (i := 0) (by omega)
  have c1 := K0.out.field HL.out (i := 1) (by omega)
  have k1 : W0.cell? ⟨h, 1, none⟩ = some v := (HX.out _ K0.out.bel).box.cell 1
  have f1 := (HX.out _ K0.out.bel).box.frozen 1
  rw [HV.out, H0.out] at k1
  go_wp2_with (refine wpList_store_mid (by rfl) 31 (.tmp 4) (.tmp 63) (by rfl) (w.heap.size + 1) 0 (mc zM) (by rfl) (by rfl) (K0.out.there zM_length) HZ.out (ints_oneCell _) ?_)
  exact bodyPost_ret (v := .tuple #[.agg (mc zM), .int .i64 10]) (results_cell_and rfl rfl rfl (loadM zM_length (K0.out.done zM_length))) rfl ⟨rfl, v, (HX.out _ K0.out.bel).ans hlt (fun k hk => by have := HR.out.row_lt k hk; omega) _, K0.out.turn (Turn.of_below K0.out.bel)⟩
end Go.Proofs.Ytmjmplkhngpgnaa
