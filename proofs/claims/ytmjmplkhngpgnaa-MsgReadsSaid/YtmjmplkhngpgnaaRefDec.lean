/- The document's reading of a message. -/
import Derived.Test.YtmjmplkhngpgnaaRefA
import Derived.Test.YtmjmplkhngpgnaaMsgK
import Derived.Test.YtmjmplkhngpgnaaLaw4L
import Derived.Deep.RegionHeld
import Derived.Deep.DeepCutAuto
import Derived.StillTailTactics
namespace Go.Proofs.Ytmjmplkhngpgnaa
open Go.RowKit
set_option linter.unusedVariables false
set_option linter.unusedSimpArgs false

theorem agg_refl (xs : List Int) : (Value.agg (ints xs).toArray) = .agg (ints xs).toArray := rfl
/-- The message, all but its place, its mode and its steps. -/
def part5 (l : List UInt8) : List Int := [decAt l 0, decAt l 1, decAt l 2, decAt l 3, decAt l 4, 0, 0, 0, decAt l 8, decAt l 9, decAt l 10, decAt l 11, 0, 0, 0, 0, 0, 0, 0, 0, 0, 0, 0, 0, 0, 0, 0, 0]
theorem part5_length (l : List UInt8) : (part5 l).length = 28 := rfl
theorem part7 (l : List UInt8) : (((part5 l).set 5 (decAt l 5)).set 6 (decAt l 6)).set 7 (decAt l 7) = fillM l 12 := rfl
theorem byte_at {w : World} {B n cap k : Nat} {b off : Nat} {l : List UInt8} (h : Reads w B 1 (some ⟨b, off, none⟩) n (u8s l)) (hk : k < n) : ∃ c : UInt8, l[k]? = some c ∧ w.cell? ⟨b, off + k, none⟩ = some (.int .u8 (c.toNat : Int)) := by
  have hn := h.u8_len
  obtain ⟨ad, e, _, hc⟩ := h.u8_at (k := k) (by omega)
  cases e
  refine ⟨l[k]'(by omega), List.getElem?_eq_getElem (by omega), ?_⟩
  rw [← hc]; unfold Addr.add; split
  · rename_i h0; subst h0; rfl
  · rfl
theorem dec_one {l : List UInt8} {k i : Nat} {c : UInt8} (h : l[k]? = some c) (hp : posM i = k) (hw : widM i = 1) : decAt l i = (c.toNat : Int) := by
  unfold decAt
  obtain ⟨hlt, e⟩ := List.getElem?_eq_some_iff.1 h
  rw [hp, hw, List.drop_eq_getElem_cons hlt, e]
  simp [decN]
theorem dec_four (l : List UInt8) {k i : Nat} (hp : posM i = k) (hw : widM i = 4) : decAt l i = ((decN ((l.drop k).take 4) : Nat) : Int) := by
  unfold decAt; rw [hp, hw]
/-- Its error's number. -/
def codeM (l : List UInt8) : Int := if mayB (decM l) then 0 else 5
/-- What region 5 leaves. -/
structure CutD (w : World) (l : List UInt8) (v : Value) (wx : World) : Prop where
  val : v = .pointer (some ⟨w.heap.size + 1, 0, none⟩)
  msg : Blk wx (w.heap.size + 1) 31 (mc (part5 l))
  res : Blk wx w.heap.size 31 (mc zM)
  bel : Below w.heap.size w wx

theorem pos_step (i : Nat) : posM (12 + i) = 24 + 4 * i := by
  unfold posM
  rw [if_neg (by omega), if_neg (by omega), if_neg (by omega), if_neg (by omega), if_neg (by omega)]; omega
theorem wid_step (i : Nat) : widM (12 + i) = 4 := by
  unfold widM
  rw [if_neg (by omega), if_neg (by omega), if_neg (by omega), if_neg (by omega), if_neg (by omega)]
theorem at4_dec (A : Option Addr) (n cap B : Nat) (l : List UInt8) (x : Int) (i k : Nat) (hx : x = k) (hp : posM i = k) (hw : widM i = 4) (hk : k + 4 ≤ n) (hn : n ≤ 1000) (w : World) (hr : Reads w B 1 A n (u8s l)) :
    Calls Try.prog 33 #[.slice A n cap, .int .i64 x] w fun e w' => e = .returned (.int .i64 (decAt l i)) ∧ ∃ q, w' = w.drewN q := by
  subst hx
  refine (at4_any A n cap k B l hk hn w hr).mono ?_
  rintro e w' ⟨rfl, h⟩
  exact ⟨by rw [dec_four l hp hw], h⟩
theorem path_put {W : World} {g : Nat} {l : List UInt8} {j : Nat} (hj : j < 8) (h : Blk W g 31 (mc (fillM l (12 + j * 2)))) :
    Blk (W.setCells g (12 + j * 2) [.int .i64 (decAt l (12 + j * 2)), .int .i64 (decAt l (12 + j * 2 + 1))]) g 31 (mc (fillM l (12 + (j + 1) * 2))) := by
  have := h.setCells [.int .i64 (decAt l (12 + j * 2)), .int .i64 (decAt l (12 + j * 2 + 1))] (12 + j * 2)
  simp only [splice] at this
  rw [mc_set, fillM_set l (by omega), mc_set, fillM_set l (by omega)] at this
  rwa [show 12 + (j + 1) * 2 = 12 + j * 2 + 1 + 1 by omega]
theorem at_put {W : World} {g : Nat} {l : List UInt8} (h : Blk W g 31 (mc (part5 l))) :
    Blk (W.setCells g 5 [.int .i64 (decAt l 5), .int .i64 (decAt l 6)]) g 31 (mc (((part5 l).set 5 (decAt l 5)).set 6 (decAt l 6))) := by
  have := h.setCells [.int .i64 (decAt l 5), .int .i64 (decAt l 6)] 5
  simp only [splice] at this
  rwa [mc_set, mc_set] at this
theorem mode_put {W : World} {g : Nat} {l : List UInt8} (h : Blk W g 31 (mc (((part5 l).set 5 (decAt l 5)).set 6 (decAt l 6)))) :
    Blk (W.setCell ⟨g, 7, none⟩ (.int .i64 (decAt l 7))) g 31 (mc (fillM l 12)) := by
  have := h.set_ 7 (.int .i64 (decAt l 7))
  rwa [mc_set, part7] at this

set_option maxRecDepth 100000 in
set_option maxHeartbeats 4000000 in
theorem decodeR_short (A : Option Addr) (n cap : Nat) (hn : n < 88) (w : World) :
    Calls Try.prog 11 #[.slice A n cap] w fun e w' => e = .returned (.tuple #[.agg (mc zM), .int .i64 3]) ∧ Below w.heap.size w w' := by
  have d1 : decide ((n : Int) < 88) = true := by simp; omega
  have d2 : decide (n < 88) = true := by simp; omega
  have HZ := Lib.hid (mc_info zM_length)
  have H0 := Lib.hid (Blk.new w 31 (mc zM))
  go_enter Try.func11, Try.ntmps11
  rw [mc_zero] at H0
  go_wp2_with (refine wpList_store_mid rfl 31 (.tmp 2) (.tmp 9) rfl w.heap.size 0 (mc zM) rfl rfl (mc_there zM_length zM_length H0.out) HZ.out (ints_oneCell _) ?_)
  exact bodyPost_ret (v := .tuple #[.agg (mc zM), .int .i64 3]) (results_cell_and rfl rfl rfl (loadM zM_length (mc_put zM_length zM_length H0.out))) rfl ⟨rfl, Below.setCells (Nat.le_refl _) _ _ _ (stepA (Below.refl _ _) _)⟩
set_option maxRecDepth 100000 in
set_option maxHeartbeats 4000000 in
theorem decodeR_long (A : Option Addr) (n cap : Nat) (hn : 88 < n) (w : World) :
    Calls Try.prog 11 #[.slice A n cap] w fun e w' => e = .returned (.tuple #[.agg (mc zM), .int .i64 4]) ∧ Below w.heap.size w w' := by
  have d1 : decide ((n : Int) < 88) = false := by simp; omega
  have d2 : decide (n < 88) = false := by simp; omega
  have d3 : decide ((88 : Int) < n) = true := by simp; omega
  have d4 : decide (88 < n) = true := by simp; omega
  have HZ := Lib.hid (mc_info zM_length)
  have H0 := Lib.hid (Blk.new w 31 (mc zM))
  go_enter Try.func11, Try.ntmps11
  rw [mc_zero] at H0
  go_wp2_with (refine wpList_store_mid rfl 31 (.tmp 2) (.tmp 13) rfl w.heap.size 0 (mc zM) rfl rfl (mc_there zM_length zM_length H0.out) HZ.out (ints_oneCell _) ?_)
  exact bodyPost_ret (v := .tuple #[.agg (mc zM), .int .i64 4]) (results_cell_and rfl rfl rfl (loadM zM_length (mc_put zM_length zM_length H0.out))) rfl ⟨rfl, Below.setCells (Nat.le_refl _) _ _ _ (stepA (Below.refl _ _) _)⟩

set_option maxRecDepth 100000 in
set_option maxHeartbeats 16000000 in
theorem decodeR_88 (A : Option Addr) (cap : Nat) (l : List UInt8) (w : World) (hr : Reads w w.heap.size 1 A 88 (u8s l)) :
    Calls Try.prog 11 #[.slice A 88 cap] w fun e w' => e = .returned (.tuple #[.agg (mc (ansM l)), .int .i64 (codeM l)]) ∧ Below w.heap.size w w' := by
  obtain ⟨ad, rfl, hb, hcc⟩ := hr.2 (by omega)
  obtain ⟨b, off, sp⟩ := ad
  have hsp : sp = none := by
    have hl := hr.u8_len
    exact World.cell?_spot (hcc 0 _ (u8s_get (k := 0) (by omega)))
  subst hsp
  obtain ⟨c0, e0, k0⟩ := byte_at (cap := cap) hr (k := 0) (by omega)
  have u0 := c0.toNat_lt
  have v0 := dec_one (i := 0) e0 rfl rfl
  rw [← v0] at k0
  have t0 : IntKind.i64.wrap (decAt l 0) = decAt l 0 := by rw [v0]; exact IntWalk.i64_in _ (by omega)
  clear e0 u0 v0
  obtain ⟨c1, e1, k1⟩ := byte_at (cap := cap) hr (k := 1) (by omega)
  have u1 := c1.toNat_lt
  have v1 := dec_one (i := 1) e1 rfl rfl
  rw [← v1] at k1
  have t1 : IntKind.i64.wrap (decAt l 1) = decAt l 1 := by rw [v1]; exact IntWalk.i64_in _ (by omega)
  clear e1 u1 v1
  obtain ⟨c2, e2, k2⟩ := byte_at (cap := cap) hr (k := 2) (by omega)
  have u2 := c2.toNat_lt
  have v2 := dec_one (i := 2) e2 rfl rfl
  rw [← v2] at k2
  have t2 : IntKind.i64.wrap (decAt l 2) = decAt l 2 := by rw [v2]; exact IntWalk.i64_in _ (by omega)
  clear e2 u2 v2
  obtain ⟨c11, e11, k11⟩ := byte_at (cap := cap) hr (k := 11) (by omega)
  have u11 := c11.toNat_lt
  have v11 := dec_one (i := 5) e11 rfl rfl
  rw [← v11] at k11
  have t11 : IntKind.i64.wrap (decAt l 5) = decAt l 5 := by rw [v11]; exact IntWalk.i64_in _ (by omega)
  clear e11 u11 v11
  obtain ⟨c12, e12, k12⟩ := byte_at (cap := cap) hr (k := 12) (by omega)
  have u12 := c12.toNat_lt
  have v12 := dec_one (i := 6) e12 rfl rfl
  rw [← v12] at k12
  have t12 : IntKind.i64.wrap (decAt l 6) = decAt l 6 := by rw [v12]; exact IntWalk.i64_in _ (by omega)
  clear e12 u12 v12
  obtain ⟨c13, e13, k13⟩ := byte_at (cap := cap) hr (k := 13) (by omega)
  have u13 := c13.toNat_lt
  have v13 := dec_one (i := 7) e13 rfl rfl
  rw [← v13] at k13
  have t13 : IntKind.i64.wrap (decAt l 7) = decAt l 7 := by rw [v13]; exact IntWalk.i64_in _ (by omega)
  clear e13 u13 v13
  obtain ⟨c14, e14, k14⟩ := byte_at (cap := cap) hr (k := 14) (by omega)
  have u14 := c14.toNat_lt
  have v14 := dec_one (i := 8) e14 rfl rfl
  rw [← v14] at k14
  have t14 : IntKind.i64.wrap (decAt l 8) = decAt l 8 := by rw [v14]; exact IntWalk.i64_in _ (by omega)
  clear e14 u14 v14
  obtain ⟨c23, e23, k23⟩ := byte_at (cap := cap) hr (k := 23) (by omega)
  have u23 := c23.toNat_lt
  have v23 := dec_one (i := 11) e23 rfl rfl
  rw [← v23] at k23
  have t23 : IntKind.i64.wrap (decAt l 11) = decAt l 11 := by rw [v23]; exact IntWalk.i64_in _ (by omega)
  clear e23 u23 v23
  rw [Nat.add_zero] at k0
  clear hcc
  have HR := Lib.hid hr
  have HA := Lib.hid (show mc (part5 l) = #[.int .i64 (decAt l 0), .int .i64 (decAt l 1), .int .i64 (decAt l 2), .int .i64 (decAt l 3), .int .i64 (decAt l 4), .int .i64 0, .int .i64 0, .int .i64 0, .int .i64 (decAt l 8), .int .i64 (decAt l 9), .int .i64 (decAt l 10), .int .i64 (decAt l 11), .int .i64 0, .int .i64 0, .int .i64 0, .int .i64 0, .int .i64 0, .int .i64 0, .int .i64 0, .int .i64 0, .int .i64 0, .int .i64 0, .int .i64 0, .int .i64 0, .int .i64 0, .int .i64 0, .int .i64 0, .int .i64 0] from rfl)
  have HS := Lib.hid (fun (w' : World) (hB : Below w.heap.size w w') => (show w'.cell? ⟨b, off, none⟩ = some (.int .u8 (decAt l 0)) ∧ w'.cell? ⟨b, off + 1, none⟩ = some (.int .u8 (decAt l 1)) ∧ w'.cell? ⟨b, off + 2, none⟩ = some (.int .u8 (decAt l 2)) ∧ w'.cell? ⟨b, off + 14, none⟩ = some (.int .u8 (decAt l 8)) ∧ w'.cell? ⟨b, off + 23, none⟩ = some (.int .u8 (decAt l 11)) ∧ Below w.heap.size w w' from
    ⟨((bcell hB).1 b _ hb).trans k0 , ((bcell hB).1 b _ hb).trans k1 , ((bcell hB).1 b _ hb).trans k2 , ((bcell hB).1 b _ hb).trans k14 , ((bcell hB).1 b _ hb).trans k23, hB⟩))
  have HI := Lib.hid (fun (w' : World) (hB : Below w.heap.size w w') => (show w'.cell? ⟨b, off + 11, none⟩ = some (.int .u8 (decAt l 5)) ∧ w'.cell? ⟨b, off + 12, none⟩ = some (.int .u8 (decAt l 6)) ∧ w'.cell? ⟨b, off + 13, none⟩ = some (.int .u8 (decAt l 7)) from
    ⟨((bcell hB).1 b _ hb).trans k11 , ((bcell hB).1 b _ hb).trans k12 , ((bcell hB).1 b _ hb).trans k13⟩))
  clear hr k0 k1 k2 k11 k12 k13 k14 k23
  have HZ := Lib.hid (mc_info zM_length)
  have HD := Lib.hid (mc_info (decM_length l))
  have H5 := Lib.hid (mc_info (part5_length l))
  have HE := Lib.hid (show (Try.prog.info? 25).map (·.size) = some (ints [decAt l 5, decAt l 6]).toArray.size from by simp only [ints_length, List.size_toArray]; kernel_rfl)
  have HG := Lib.hid (fun a b => (show (Try.prog.info? 28).map (·.size) = some (ints [a, b]).toArray.size from by simp only [ints_length, List.size_toArray]; kernel_rfl))
  have N1 := Lib.hid (show Blk ((w.alloc (.cells (mc zM) 31)).alloc (.cells (mc zM) 31)) (w.heap.size + 1) 31 (mc zM) from Blk.new_at (by simp) _ _)
  have T1 := Lib.hid (show Blk ((w.alloc (.cells (mc zM) 31)).alloc (.cells (mc zM) 31)) w.heap.size 31 (mc zM) from (Blk.new _ _ _).alloc _)
  rw [mc_zero] at N1 T1
  go_enter Try.func11, Try.ntmps11
  go_upto_region 5 with (fail)
  go_cut [4] (fun v wx => CutD w l v wx)
  case first =>
    refine wp_region_held_drew (S := fun w' => w'.cell? ⟨b, off, none⟩ = some (.int .u8 (decAt l 0)) ∧ w'.cell? ⟨b, off + 1, none⟩ = some (.int .u8 (decAt l 1)) ∧ w'.cell? ⟨b, off + 2, none⟩ = some (.int .u8 (decAt l 2)) ∧ w'.cell? ⟨b, off + 14, none⟩ = some (.int .u8 (decAt l 8)) ∧ w'.cell? ⟨b, off + 23, none⟩ = some (.int .u8 (decAt l 11)) ∧ Below w.heap.size w w') (by kernel_rfl) ?_ (fun hHeld => ?_)
    · exact HS.out _ (Below.drew (stepA (Below.refl _ _) _))
    refine wpAnyH_take (i := 0) (v := ?_) rfl (by kernel_rfl) (by kernel_rfl) (by kernel_rfl) (fun _ _ _ h => h) (Or.inl ⟨by rfl, ?_⟩) (by assumption) ?_
    rotate_left
    · (intro w0 hSw; (try dsimp only at hSw); go_simp; try with_reducible rfl)
    try simp only [List.getElem_toArray, List.getElem_cons_succ, List.getElem_cons_zero, Act.put, List.setIfInBounds_toArray, List.set_cons_zero, List.set_cons_succ]
    refine wpAnyH_take (i := 1) (v := ?_) rfl (by kernel_rfl) (by kernel_rfl) (by kernel_rfl) (fun _ _ _ h => h) (Or.inl ⟨by rfl, ?_⟩) (by assumption) ?_
    rotate_left
    · (intro w0 hSw; (try dsimp only at hSw); go_simp; try with_reducible rfl)
    try simp only [List.getElem_toArray, List.getElem_cons_succ, List.getElem_cons_zero, Act.put, List.setIfInBounds_toArray, List.set_cons_zero, List.set_cons_succ]
    refine wpAnyH_take (i := 2) (v := ?_) rfl (by kernel_rfl) (by kernel_rfl) (by kernel_rfl) (fun _ _ _ h => h) (Or.inl ⟨by rfl, ?_⟩) (by assumption) ?_
    rotate_left
    · (intro w0 hSw; (try dsimp only at hSw); go_simp; try with_reducible rfl)
    try simp only [List.getElem_toArray, List.getElem_cons_succ, List.getElem_cons_zero, Act.put, List.setIfInBounds_toArray, List.set_cons_zero, List.set_cons_succ]
    refine wpAnyH_take (i := 3) (v := ?_) rfl (by kernel_rfl) (by kernel_rfl) (by kernel_rfl) (fun _ _ _ h => h) (Or.inl ⟨by rfl, ?_⟩) (by assumption) ?_
    rotate_left
    · (intro w0 hSw; (try dsimp only at hSw); go_simp; try with_reducible rfl)
    try simp only [List.getElem_toArray, List.getElem_cons_succ, List.getElem_cons_zero, Act.put, List.setIfInBounds_toArray, List.set_cons_zero, List.set_cons_succ]
    go_simp
    refine wpAnyH_take (i := 4) (v := ?_) rfl (by kernel_rfl) (by kernel_rfl) (by kernel_rfl) (fun _ _ _ h => h) (Or.inl ⟨by rfl, ?_⟩) (by assumption) ?_
    rotate_left
    · (intro w0 hSw; (try dsimp only at hSw); go_simp; try with_reducible rfl)
    try simp only [List.getElem_toArray, List.getElem_cons_succ, List.getElem_cons_zero, Act.put, List.setIfInBounds_toArray, List.set_cons_zero, List.set_cons_succ]
    refine wpAnyH_take (i := 5) (v := ?_) rfl (by kernel_rfl) (by kernel_rfl) (by kernel_rfl) (fun _ _ _ h => h) (Or.inl ⟨by rfl, ?_⟩) (by assumption) ?_
    rotate_left
    · (intro w0 hSw; (try dsimp only at hSw); go_simp; try with_reducible rfl)
    try simp only [List.getElem_toArray, List.getElem_cons_succ, List.getElem_cons_zero, Act.put, List.setIfInBounds_toArray, List.set_cons_zero, List.set_cons_succ]
    refine wpAnyH_take (i := 6) (v := ?_) rfl (by kernel_rfl) (by kernel_rfl) (by kernel_rfl) (fun _ _ _ h => h) (Or.inl ⟨by rfl, ?_⟩) (by assumption) ?_
    rotate_left
    · (intro w0 hSw; (try dsimp only at hSw); go_simp; try with_reducible rfl)
    try simp only [List.getElem_toArray, List.getElem_cons_succ, List.getElem_cons_zero, Act.put, List.setIfInBounds_toArray, List.set_cons_zero, List.set_cons_succ]
    refine wpAnyH_take (i := 7) (v := ?_) rfl (by kernel_rfl) (by kernel_rfl) (by kernel_rfl) (fun _ _ _ h => h) (Or.inl ⟨by rfl, ?_⟩) (by assumption) ?_
    rotate_left
    · (intro w0 hSw; (try dsimp only at hSw); go_simp; try with_reducible rfl)
    try simp only [List.getElem_toArray, List.getElem_cons_succ, List.getElem_cons_zero, Act.put, List.setIfInBounds_toArray, List.set_cons_zero, List.set_cons_succ]
    go_simp
    refine wpAnyH_take (i := 8) (v := ?_) rfl (by kernel_rfl) (by kernel_rfl) (by kernel_rfl) (fun _ _ _ h => h) (Or.inl ⟨by rfl, ?_⟩) (by assumption) ?_
    rotate_left
    · (intro w0 hSw; (try dsimp only at hSw); go_simp; try with_reducible rfl)
    try simp only [List.getElem_toArray, List.getElem_cons_succ, List.getElem_cons_zero, Act.put, List.setIfInBounds_toArray, List.set_cons_zero, List.set_cons_succ]
    refine wpAnyH_take (i := 9) (v := ?_) rfl (by kernel_rfl) (by kernel_rfl) (by kernel_rfl) (fun _ _ _ h => h) (Or.inl ⟨by rfl, ?_⟩) (by assumption) ?_
    rotate_left
    · (intro w0 hSw; (try dsimp only at hSw); go_simp; try with_reducible rfl)
    try simp only [List.getElem_toArray, List.getElem_cons_succ, List.getElem_cons_zero, Act.put, List.setIfInBounds_toArray, List.set_cons_zero, List.set_cons_succ]
    refine wpAnyH_take (i := 10) (v := ?_) rfl (by kernel_rfl) (by kernel_rfl) (by kernel_rfl) (fun _ _ _ h => h) (Or.inl ⟨by rfl, ?_⟩) (by assumption) ?_
    rotate_left
    · (intro w0 hSw; (try dsimp only at hSw); go_simp; try with_reducible rfl)
    try simp only [List.getElem_toArray, List.getElem_cons_succ, List.getElem_cons_zero, Act.put, List.setIfInBounds_toArray, List.set_cons_zero, List.set_cons_succ]
    refine wpAnyH_take (i := 11) (v := ?_) rfl (by kernel_rfl) (by kernel_rfl) (by kernel_rfl) (fun _ _ _ h => h) (Or.inl ⟨by rfl, ?_⟩) (by assumption) ?_
    rotate_left
    · (intro w0 hSw; (try dsimp only at hSw); go_simp; try with_reducible rfl)
    try simp only [List.getElem_toArray, List.getElem_cons_succ, List.getElem_cons_zero, Act.put, List.setIfInBounds_toArray, List.set_cons_zero, List.set_cons_succ]
    go_simp
    refine wpAnyH_take (i := 12) (v := ?_) rfl (by kernel_rfl) (by kernel_rfl) (by kernel_rfl) (fun _ _ _ h => h) (Or.inl ⟨by rfl, ?_⟩) (by assumption) ?_
    rotate_left
    · (intro w0 hSw; (try dsimp only at hSw); go_simp; try with_reducible rfl)
    try simp only [List.getElem_toArray, List.getElem_cons_succ, List.getElem_cons_zero, Act.put, List.setIfInBounds_toArray, List.set_cons_zero, List.set_cons_succ]
    refine wpAnyH_take (i := 14) (v := ?_) rfl (by kernel_rfl) (by kernel_rfl) (by kernel_rfl) (fun _ _ _ h => h) (Or.inl ⟨by rfl, ?_⟩) (by assumption) ?_
    rotate_left
    · (intro w0 hSw; (try dsimp only at hSw); go_simp; try with_reducible rfl)
    try simp only [List.getElem_toArray, List.getElem_cons_succ, List.getElem_cons_zero, Act.put, List.setIfInBounds_toArray, List.set_cons_zero, List.set_cons_succ]
    refine wpAnyH_take (i := 16) (v := ?_) rfl (by kernel_rfl) (by kernel_rfl) (by kernel_rfl) (fun _ _ _ h => h) (Or.inl ⟨by rfl, ?_⟩) (by assumption) ?_
    rotate_left
    · (intro w0 hSw; (try dsimp only at hSw); go_simp; try with_reducible rfl)
    try simp only [List.getElem_toArray, List.getElem_cons_succ, List.getElem_cons_zero, Act.put, List.setIfInBounds_toArray, List.set_cons_zero, List.set_cons_succ]
    refine wpAnyH_take (i := 17) (v := ?_) rfl (by kernel_rfl) (by kernel_rfl) (by kernel_rfl) (fun _ _ _ h => h) (Or.inl ⟨by rfl, ?_⟩) (by assumption) ?_
    rotate_left
    · (intro w0 hSw; (try dsimp only at hSw); go_simp; try with_reducible rfl)
    try simp only [List.getElem_toArray, List.getElem_cons_succ, List.getElem_cons_zero, Act.put, List.setIfInBounds_toArray, List.set_cons_zero, List.set_cons_succ]
    go_simp
    refine wpAnyH_take (i := 18) (v := ?_) rfl (by kernel_rfl) (by kernel_rfl) (by kernel_rfl) (fun _ _ _ h => h) (Or.inl ⟨by rfl, ?_⟩) (by assumption) ?_
    rotate_left
    · (intro w0 hSw; (try dsimp only at hSw); go_simp; try with_reducible rfl)
    try simp only [List.getElem_toArray, List.getElem_cons_succ, List.getElem_cons_zero, Act.put, List.setIfInBounds_toArray, List.set_cons_zero, List.set_cons_succ]
    refine wpAnyH_take (i := 19) (v := ?_) rfl (by kernel_rfl) (by kernel_rfl) (by kernel_rfl) (fun _ _ _ h => h) (Or.inl ⟨by rfl, ?_⟩) (by assumption) ?_
    rotate_left
    · (intro w0 hSw; (try dsimp only at hSw); go_simp; try with_reducible rfl)
    try simp only [List.getElem_toArray, List.getElem_cons_succ, List.getElem_cons_zero, Act.put, List.setIfInBounds_toArray, List.set_cons_zero, List.set_cons_succ]
    refine wpAnyH_take (i := 20) (v := ?_) rfl (by kernel_rfl) (by kernel_rfl) (by kernel_rfl) (fun _ _ _ h => h) (Or.inl ⟨by rfl, ?_⟩) (by assumption) ?_
    rotate_left
    · (intro w0 hSw; (try dsimp only at hSw); go_simp; try with_reducible rfl)
    try simp only [List.getElem_toArray, List.getElem_cons_succ, List.getElem_cons_zero, Act.put, List.setIfInBounds_toArray, List.set_cons_zero, List.set_cons_succ]
    refine wpAnyH_take (i := 22) (v := ?_) rfl (by kernel_rfl) (by kernel_rfl) (by kernel_rfl) (fun _ _ _ h => h) (Or.inl ⟨by rfl, ?_⟩) (by assumption) ?_
    rotate_left
    · (intro w0 hSw; (try dsimp only at hSw); go_simp; try with_reducible rfl)
    try simp only [List.getElem_toArray, List.getElem_cons_succ, List.getElem_cons_zero, Act.put, List.setIfInBounds_toArray, List.set_cons_zero, List.set_cons_succ]
    go_simp
    refine wpAnyH_take (i := 24) (v := ?_) rfl (by kernel_rfl) (by kernel_rfl) (by kernel_rfl) (fun _ _ _ h => h) (Or.inl ⟨by rfl, ?_⟩) (by assumption) ?_
    rotate_left
    · (intro w0 hSw; (try dsimp only at hSw); go_simp; try with_reducible rfl)
    try simp only [List.getElem_toArray, List.getElem_cons_succ, List.getElem_cons_zero, Act.put, List.setIfInBounds_toArray, List.set_cons_zero, List.set_cons_succ]
    refine wpAnyH_take (i := 25) (v := ?_) rfl (by kernel_rfl) (by kernel_rfl) (by kernel_rfl) (fun _ _ _ h => h) (Or.inl ⟨by rfl, ?_⟩) (by assumption) ?_
    rotate_left
    · (intro w0 hSw; (try dsimp only at hSw); go_simp; try with_reducible rfl)
    try simp only [List.getElem_toArray, List.getElem_cons_succ, List.getElem_cons_zero, Act.put, List.setIfInBounds_toArray, List.set_cons_zero, List.set_cons_succ]
    refine wpAnyH_take (i := 26) (v := ?_) rfl (by kernel_rfl) (by kernel_rfl) (by kernel_rfl) (fun _ _ _ h => h) (Or.inl ⟨by rfl, ?_⟩) (by assumption) ?_
    rotate_left
    · (intro w0 hSw; (try dsimp only at hSw); go_simp; try with_reducible rfl)
    try simp only [List.getElem_toArray, List.getElem_cons_succ, List.getElem_cons_zero, Act.put, List.setIfInBounds_toArray, List.set_cons_zero, List.set_cons_succ]
    refine wpAnyH_take (i := 27) (v := ?_) rfl (by kernel_rfl) (by kernel_rfl) (by kernel_rfl) (fun _ _ _ h => h) (Or.inl ⟨by rfl, ?_⟩) (by assumption) ?_
    rotate_left
    · (intro w0 hSw; (try dsimp only at hSw); go_simp; try with_reducible rfl)
    try simp only [List.getElem_toArray, List.getElem_cons_succ, List.getElem_cons_zero, Act.put, List.setIfInBounds_toArray, List.set_cons_zero, List.set_cons_succ]
    go_simp
    refine wpAnyH_ready (rs := [13, 29]) (by kernel_rfl) (by simp) ?_
    refine AllReadyH.cons rfl (fun K hK => ?_) (AllReadyH.cons rfl (fun K hK => ?_) AllReadyH.nil)
    · go_simp
      refine (at4_dec (some ⟨b, off, none⟩) 88 cap w.heap.size l _ 3 3 rfl rfl rfl (by omega) (by omega) _ (HR.out.below hHeld.2.2.2.2.2)).mono ?_
      rintro e w9 ⟨rfl, q0, rfl⟩
      try go_simp
      refine hK.out _ _ (HS.out _ (by have h := hHeld.2.2.2.2.2; exact ⟨h.os, h.tape, h.output, h.size, h.block⟩)) (fun hHeld => ?_)
      clear hK K
      refine wpAnyH_ready (rs := [15, 29]) (by kernel_rfl) (by simp) ?_
      refine AllReadyH.cons rfl (fun K hK => ?_) (AllReadyH.cons rfl (fun K hK => ?_) AllReadyH.nil)
      · go_simp
        refine (at4_dec (some ⟨b, off, none⟩) 88 cap w.heap.size l _ 4 7 rfl rfl rfl (by omega) (by omega) _ (HR.out.below hHeld.2.2.2.2.2)).mono ?_
        rintro e w9 ⟨rfl, q1, rfl⟩
        try go_simp
        refine hK.out _ _ (HS.out _ (by have h := hHeld.2.2.2.2.2; exact ⟨h.os, h.tape, h.output, h.size, h.block⟩)) (fun hHeld => ?_)
        clear hK K
        refine wpAnyH_ready (rs := [21, 29]) (by kernel_rfl) (by simp) ?_
        refine AllReadyH.cons rfl (fun K hK => ?_) (AllReadyH.cons rfl (fun K hK => ?_) AllReadyH.nil)
        · go_simp
          refine (at4_dec (some ⟨b, off, none⟩) 88 cap w.heap.size l _ 9 15 rfl rfl rfl (by omega) (by omega) _ (HR.out.below hHeld.2.2.2.2.2)).mono ?_
          rintro e w9 ⟨rfl, q2, rfl⟩
          try go_simp
          refine hK.out _ _ (HS.out _ (by have h := hHeld.2.2.2.2.2; exact ⟨h.os, h.tape, h.output, h.size, h.block⟩)) (fun hHeld => ?_)
          clear hK K
          refine wpAnyH_ready (rs := [23, 29]) (by kernel_rfl) (by simp) ?_
          refine AllReadyH.cons rfl (fun K hK => ?_) (AllReadyH.cons rfl (fun K hK => ?_) AllReadyH.nil)
          · go_simp
            refine (at4_dec (some ⟨b, off, none⟩) 88 cap w.heap.size l _ 10 19 rfl rfl rfl (by omega) (by omega) _ (HR.out.below hHeld.2.2.2.2.2)).mono ?_
            rintro e w9 ⟨rfl, q3, rfl⟩
            try go_simp
            refine hK.out _ _ (HS.out _ (by have h := hHeld.2.2.2.2.2; exact ⟨h.os, h.tape, h.output, h.size, h.block⟩)) (fun hHeld => ?_)
            clear hK K
            refine wpAnyH_take (i := 28) (v := ?_) rfl (by kernel_rfl) (by kernel_rfl) (by kernel_rfl) (fun _ _ _ h => h) (Or.inl ⟨by rfl, ?_⟩) (by assumption) ?_
            rotate_left
            · (intro w0 hSw; (try dsimp only at hSw); go_simp; try with_reducible rfl)
            try simp only [List.getElem_toArray, List.getElem_cons_succ, List.getElem_cons_zero, Act.put, List.setIfInBounds_toArray, List.set_cons_zero, List.set_cons_succ]
            go_simp
            refine wpAnyH_ready (rs := [29]) (by kernel_rfl) (by simp) ?_
            refine AllReadyH.cons rfl (fun K hK => ?_) AllReadyH.nil
            go_simp
            refine hK.out _ _ (HS.out _ (Below.alloc hHeld.2.2.2.2.2 (Below.size hHeld.2.2.2.2.2) _)) (fun hHeld => ?_)
            clear hK K
            refine wpAnyH_ready (rs := [30]) (by kernel_rfl) (by simp) ?_
            refine AllReadyH.cons rfl (fun K hK => ?_) AllReadyH.nil
            refine step_store_mid (by rfl) 31 (.tmp 4) (.tmp 42) rfl (w.heap.size + 1) 0 (mc (part5 l)) rfl rfl (mc_there zM_length (part5_length l) N1.out) H5.out (ints_oneCell _) ?_
            refine hK.out _ _ (HS.out _ (Below.setCells (Nat.le_succ _) _ _ _ hHeld.2.2.2.2.2)) (fun hHeld => ?_)
            clear hK K
            refine wpAnyH_done (by kernel_rfl) ?_ _
            have HB := Lib.hid hHeld.2.2.2.2.2
            clear hHeld
            go_wp2_with fail
            go_meet
            exact ⟨rfl, mc_put zM_length (part5_length l) N1.out, Blk.farCells (Nat.ne_of_lt (Nat.lt_succ_self _)) _ _ _ T1.out, HB.out⟩
          · go_simp
            refine hK.out _ _ (HS.out _ (Below.alloc hHeld.2.2.2.2.2 (Below.size hHeld.2.2.2.2.2) _)) (fun hHeld => ?_)
            clear hK K
            refine wpAnyH_ready (rs := [23]) (by kernel_rfl) (by simp) ?_
            refine AllReadyH.cons rfl (fun K hK => ?_) AllReadyH.nil
            go_simp
            refine (at4_dec (some ⟨b, off, none⟩) 88 cap w.heap.size l _ 10 19 rfl rfl rfl (by omega) (by omega) _ (HR.out.below hHeld.2.2.2.2.2)).mono ?_
            rintro e w9 ⟨rfl, q3, rfl⟩
            try go_simp
            refine hK.out _ _ (HS.out _ (by have h := hHeld.2.2.2.2.2; exact ⟨h.os, h.tape, h.output, h.size, h.block⟩)) (fun hHeld => ?_)
            clear hK K
            refine wpAnyH_take (i := 28) (v := ?_) rfl (by kernel_rfl) (by kernel_rfl) (by kernel_rfl) (fun _ _ _ h => h) (Or.inl ⟨by rfl, ?_⟩) (by assumption) ?_
            rotate_left
            · (intro w0 hSw; (try dsimp only at hSw); go_simp; try with_reducible rfl)
            try simp only [List.getElem_toArray, List.getElem_cons_succ, List.getElem_cons_zero, Act.put, List.setIfInBounds_toArray, List.set_cons_zero, List.set_cons_succ]
            go_simp
            refine wpAnyH_ready (rs := [30]) (by kernel_rfl) (by simp) ?_
            refine AllReadyH.cons rfl (fun K hK => ?_) AllReadyH.nil
            refine step_store_mid (by rfl) 31 (.tmp 4) (.tmp 42) rfl (w.heap.size + 1) 0 (mc (part5 l)) rfl rfl (mc_there zM_length (part5_length l) N1.out) H5.out (ints_oneCell _) ?_
            refine hK.out _ _ (HS.out _ (Below.setCells (Nat.le_succ _) _ _ _ hHeld.2.2.2.2.2)) (fun hHeld => ?_)
            clear hK K
            refine wpAnyH_done (by kernel_rfl) ?_ _
            have HB := Lib.hid hHeld.2.2.2.2.2
            clear hHeld
            go_wp2_with fail
            go_meet
            exact ⟨rfl, mc_put zM_length (part5_length l) N1.out, Blk.farCells (Nat.ne_of_lt (Nat.lt_succ_self _)) _ _ _ T1.out, HB.out⟩
        · go_simp
          refine hK.out _ _ (HS.out _ (Below.alloc hHeld.2.2.2.2.2 (Below.size hHeld.2.2.2.2.2) _)) (fun hHeld => ?_)
          clear hK K
          refine wpAnyH_ready (rs := [21]) (by kernel_rfl) (by simp) ?_
          refine AllReadyH.cons rfl (fun K hK => ?_) AllReadyH.nil
          go_simp
          refine (at4_dec (some ⟨b, off, none⟩) 88 cap w.heap.size l _ 9 15 rfl rfl rfl (by omega) (by omega) _ (HR.out.below hHeld.2.2.2.2.2)).mono ?_
          rintro e w9 ⟨rfl, q2, rfl⟩
          try go_simp
          refine hK.out _ _ (HS.out _ (by have h := hHeld.2.2.2.2.2; exact ⟨h.os, h.tape, h.output, h.size, h.block⟩)) (fun hHeld => ?_)
          clear hK K
          refine wpAnyH_ready (rs := [23]) (by kernel_rfl) (by simp) ?_
          refine AllReadyH.cons rfl (fun K hK => ?_) AllReadyH.nil
          go_simp
          refine (at4_dec (some ⟨b, off, none⟩) 88 cap w.heap.size l _ 10 19 rfl rfl rfl (by omega) (by omega) _ (HR.out.below hHeld.2.2.2.2.2)).mono ?_
          rintro e w9 ⟨rfl, q3, rfl⟩
          try go_simp
          refine hK.out _ _ (HS.out _ (by have h := hHeld.2.2.2.2.2; exact ⟨h.os, h.tape, h.output, h.size, h.block⟩)) (fun hHeld => ?_)
          clear hK K
          refine wpAnyH_take (i := 28) (v := ?_) rfl (by kernel_rfl) (by kernel_rfl) (by kernel_rfl) (fun _ _ _ h => h) (Or.inl ⟨by rfl, ?_⟩) (by assumption) ?_
          rotate_left
          · (intro w0 hSw; (try dsimp only at hSw); go_simp; try with_reducible rfl)
          try simp only [List.getElem_toArray, List.getElem_cons_succ, List.getElem_cons_zero, Act.put, List.setIfInBounds_toArray, List.set_cons_zero, List.set_cons_succ]
          go_simp
          refine wpAnyH_ready (rs := [30]) (by kernel_rfl) (by simp) ?_
          refine AllReadyH.cons rfl (fun K hK => ?_) AllReadyH.nil
          refine step_store_mid (by rfl) 31 (.tmp 4) (.tmp 42) rfl (w.heap.size + 1) 0 (mc (part5 l)) rfl rfl (mc_there zM_length (part5_length l) N1.out) H5.out (ints_oneCell _) ?_
          refine hK.out _ _ (HS.out _ (Below.setCells (Nat.le_succ _) _ _ _ hHeld.2.2.2.2.2)) (fun hHeld => ?_)
          clear hK K
          refine wpAnyH_done (by kernel_rfl) ?_ _
          have HB := Lib.hid hHeld.2.2.2.2.2
          clear hHeld
          go_wp2_with fail
          go_meet
          exact ⟨rfl, mc_put zM_length (part5_length l) N1.out, Blk.farCells (Nat.ne_of_lt (Nat.lt_succ_self _)) _ _ _ T1.out, HB.out⟩
      · go_simp
        refine hK.out _ _ (HS.out _ (Below.alloc hHeld.2.2.2.2.2 (Below.size hHeld.2.2.2.2.2) _)) (fun hHeld => ?_)
        clear hK K
        refine wpAnyH_ready (rs := [15]) (by kernel_rfl) (by simp) ?_
        refine AllReadyH.cons rfl (fun K hK => ?_) AllReadyH.nil
        go_simp
        refine (at4_dec (some ⟨b, off, none⟩) 88 cap w.heap.size l _ 4 7 rfl rfl rfl (by omega) (by omega) _ (HR.out.below hHeld.2.2.2.2.2)).mono ?_
        rintro e w9 ⟨rfl, q1, rfl⟩
        try go_simp
        refine hK.out _ _ (HS.out _ (by have h := hHeld.2.2.2.2.2; exact ⟨h.os, h.tape, h.output, h.size, h.block⟩)) (fun hHeld => ?_)
        clear hK K
        refine wpAnyH_ready (rs := [21]) (by kernel_rfl) (by simp) ?_
        refine AllReadyH.cons rfl (fun K hK => ?_) AllReadyH.nil
        go_simp
        refine (at4_dec (some ⟨b, off, none⟩) 88 cap w.heap.size l _ 9 15 rfl rfl rfl (by omega) (by omega) _ (HR.out.below hHeld.2.2.2.2.2)).mono ?_
        rintro e w9 ⟨rfl, q2, rfl⟩
        try go_simp
        refine hK.out _ _ (HS.out _ (by have h := hHeld.2.2.2.2.2; exact ⟨h.os, h.tape, h.output, h.size, h.block⟩)) (fun hHeld => ?_)
        clear hK K
        refine wpAnyH_ready (rs := [23]) (by kernel_rfl) (by simp) ?_
        refine AllReadyH.cons rfl (fun K hK => ?_) AllReadyH.nil
        go_simp
        refine (at4_dec (some ⟨b, off, none⟩) 88 cap w.heap.size l _ 10 19 rfl rfl rfl (by omega) (by omega) _ (HR.out.below hHeld.2.2.2.2.2)).mono ?_
        rintro e w9 ⟨rfl, q3, rfl⟩
        try go_simp
        refine hK.out _ _ (HS.out _ (by have h := hHeld.2.2.2.2.2; exact ⟨h.os, h.tape, h.output, h.size, h.block⟩)) (fun hHeld => ?_)
        clear hK K
        refine wpAnyH_take (i := 28) (v := ?_) rfl (by kernel_rfl) (by kernel_rfl) (by kernel_rfl) (fun _ _ _ h => h) (Or.inl ⟨by rfl, ?_⟩) (by assumption) ?_
        rotate_left
        · (intro w0 hSw; (try dsimp only at hSw); go_simp; try with_reducible rfl)
        try simp only [List.getElem_toArray, List.getElem_cons_succ, List.getElem_cons_zero, Act.put, List.setIfInBounds_toArray, List.set_cons_zero, List.set_cons_succ]
        go_simp
        refine wpAnyH_ready (rs := [30]) (by kernel_rfl) (by simp) ?_
        refine AllReadyH.cons rfl (fun K hK => ?_) AllReadyH.nil
        refine step_store_mid (by rfl) 31 (.tmp 4) (.tmp 42) rfl (w.heap.size + 1) 0 (mc (part5 l)) rfl rfl (mc_there zM_length (part5_length l) N1.out) H5.out (ints_oneCell _) ?_
        refine hK.out _ _ (HS.out _ (Below.setCells (Nat.le_succ _) _ _ _ hHeld.2.2.2.2.2)) (fun hHeld => ?_)
        clear hK K
        refine wpAnyH_done (by kernel_rfl) ?_ _
        have HB := Lib.hid hHeld.2.2.2.2.2
        clear hHeld
        go_wp2_with fail
        go_meet
        exact ⟨rfl, mc_put zM_length (part5_length l) N1.out, Blk.farCells (Nat.ne_of_lt (Nat.lt_succ_self _)) _ _ _ T1.out, HB.out⟩
    · go_simp
      refine hK.out _ _ (HS.out _ (Below.alloc hHeld.2.2.2.2.2 (Below.size hHeld.2.2.2.2.2) _)) (fun hHeld => ?_)
      clear hK K
      refine wpAnyH_ready (rs := [13]) (by kernel_rfl) (by simp) ?_
      refine AllReadyH.cons rfl (fun K hK => ?_) AllReadyH.nil
      go_simp
      refine (at4_dec (some ⟨b, off, none⟩) 88 cap w.heap.size l _ 3 3 rfl rfl rfl (by omega) (by omega) _ (HR.out.below hHeld.2.2.2.2.2)).mono ?_
      rintro e w9 ⟨rfl, q0, rfl⟩
      try go_simp
      refine hK.out _ _ (HS.out _ (by have h := hHeld.2.2.2.2.2; exact ⟨h.os, h.tape, h.output, h.size, h.block⟩)) (fun hHeld => ?_)
      clear hK K
      refine wpAnyH_ready (rs := [15]) (by kernel_rfl) (by simp) ?_
      refine AllReadyH.cons rfl (fun K hK => ?_) AllReadyH.nil
      go_simp
      refine (at4_dec (some ⟨b, off, none⟩) 88 cap w.heap.size l _ 4 7 rfl rfl rfl (by omega) (by omega) _ (HR.out.below hHeld.2.2.2.2.2)).mono ?_
      rintro e w9 ⟨rfl, q1, rfl⟩
      try go_simp
      refine hK.out _ _ (HS.out _ (by have h := hHeld.2.2.2.2.2; exact ⟨h.os, h.tape, h.output, h.size, h.block⟩)) (fun hHeld => ?_)
      clear hK K
      refine wpAnyH_ready (rs := [21]) (by kernel_rfl) (by simp) ?_
      refine AllReadyH.cons rfl (fun K hK => ?_) AllReadyH.nil
      go_simp
      refine (at4_dec (some ⟨b, off, none⟩) 88 cap w.heap.size l _ 9 15 rfl rfl rfl (by omega) (by omega) _ (HR.out.below hHeld.2.2.2.2.2)).mono ?_
      rintro e w9 ⟨rfl, q2, rfl⟩
      try go_simp
      refine hK.out _ _ (HS.out _ (by have h := hHeld.2.2.2.2.2; exact ⟨h.os, h.tape, h.output, h.size, h.block⟩)) (fun hHeld => ?_)
      clear hK K
      refine wpAnyH_ready (rs := [23]) (by kernel_rfl) (by simp) ?_
      refine AllReadyH.cons rfl (fun K hK => ?_) AllReadyH.nil
      go_simp
      refine (at4_dec (some ⟨b, off, none⟩) 88 cap w.heap.size l _ 10 19 rfl rfl rfl (by omega) (by omega) _ (HR.out.below hHeld.2.2.2.2.2)).mono ?_
      rintro e w9 ⟨rfl, q3, rfl⟩
      try go_simp
      refine hK.out _ _ (HS.out _ (by have h := hHeld.2.2.2.2.2; exact ⟨h.os, h.tape, h.output, h.size, h.block⟩)) (fun hHeld => ?_)
      clear hK K
      refine wpAnyH_take (i := 28) (v := ?_) rfl (by kernel_rfl) (by kernel_rfl) (by kernel_rfl) (fun _ _ _ h => h) (Or.inl ⟨by rfl, ?_⟩) (by assumption) ?_
      rotate_left
      · (intro w0 hSw; (try dsimp only at hSw); go_simp; try with_reducible rfl)
      try simp only [List.getElem_toArray, List.getElem_cons_succ, List.getElem_cons_zero, Act.put, List.setIfInBounds_toArray, List.set_cons_zero, List.set_cons_succ]
      go_simp
      refine wpAnyH_ready (rs := [30]) (by kernel_rfl) (by simp) ?_
      refine AllReadyH.cons rfl (fun K hK => ?_) AllReadyH.nil
      refine step_store_mid (by rfl) 31 (.tmp 4) (.tmp 42) rfl (w.heap.size + 1) 0 (mc (part5 l)) rfl rfl (mc_there zM_length (part5_length l) N1.out) H5.out (ints_oneCell _) ?_
      refine hK.out _ _ (HS.out _ (Below.setCells (Nat.le_succ _) _ _ _ hHeld.2.2.2.2.2)) (fun hHeld => ?_)
      clear hK K
      refine wpAnyH_done (by kernel_rfl) ?_ _
      have HB := Lib.hid hHeld.2.2.2.2.2
      clear hHeld
      go_wp2_with fail
      go_meet
      exact ⟨rfl, mc_put zM_length (part5_length l) N1.out, Blk.farCells (Nat.ne_of_lt (Nat.lt_succ_self _)) _ _ _ T1.out, HB.out⟩
  case rest =>
    obtain ⟨rfl, hm1, ht1, hb1⟩ := hcut
    rename World => X
    have M1 := Lib.hid hm1
    have T2 := Lib.hid ht1
    have B1 := Lib.hid hb1
    have K1 := HI.out _ hb1
    have hne : w.heap.size ≠ w.heap.size + 1 := Nat.ne_of_lt (Nat.lt_succ_self _)
    clear hm1 ht1 hb1
    go_wp2_with fail
    go_still_tail 10, (by kernel_rfl)
    have M2 := Lib.hid (M1.out.drew)
    have T3 := Lib.hid (T2.out.drew)
    have B2 := Lib.hid (Below.drew B1.out)
    have K2 := HI.out _ B2.out
    change wpList _ _ _ _ _ X.drew
    generalize X.drew = Y at M2 T3 B2 K2 ⊢
    clear K1
    refine wpList_store_mid (by rfl) 25 (.tmp 52) (.tmp 51) (by rfl) (w.heap.size + 1) 5 (ints [decAt l 5, decAt l 6]).toArray (by rfl) (by rfl) (fun j hj => ⟨by rw [M2.out.cell, mc_get (part5_length l) (by simp at hj; omega)]; rfl, M2.out.frozen _⟩) HE.out (ints_oneCell _) ?_
    have M3 := Lib.hid (at_put M2.out)
    have T4 := Lib.hid (Blk.farCells hne [.int .i64 (decAt l 5), .int .i64 (decAt l 6)] 5 _ T3.out)
    have B3 := Lib.hid (Below.setCells (Nat.le_succ _) [.int .i64 (decAt l 5), .int .i64 (decAt l 6)] 5 _ B2.out)
    have K3 := HI.out _ B3.out
    change wpList _ _ _ _ _ (Y.setCells (w.heap.size + 1) 5 [.int .i64 (decAt l 5), .int .i64 (decAt l 6)])
    generalize Y.setCells (w.heap.size + 1) 5 [.int .i64 (decAt l 5), .int .i64 (decAt l 6)] = Z at M3 T4 B3 K3 ⊢
    clear K2
    have kf := M3.out.frozen 7
    have kc := (M3.out.cell 7).trans (mc_get (m := ((part5 l).set 5 (decAt l 5)).set 6 (decAt l 6)) rfl (i := 7) (by omega))
    go_upto_region 8 with fail
    clear kf kc
    have M4 := Lib.hid (mode_put M3.out)
    have T5 := Lib.hid (T4.out.far (p := ⟨w.heap.size + 1, 7, none⟩) hne (.int .i64 (decAt l 7)))
    have B4 := Lib.hid (B3.out.setCell (p := ⟨w.heap.size + 1, 7, none⟩) (Nat.le_succ _) (.int .i64 (decAt l 7)))
    generalize Z.setCell ⟨w.heap.size + 1, 7, none⟩ (.int .i64 (decAt l 7)) = U at M4 T5 B4 ⊢
    clear K3
    go_wp2_with fail
    go_loopw [5] (fun k W => ∃ j : Nat, j ≤ 8 ∧ k = .int .i64 j ∧ Blk W (w.heap.size + 1) 31 (mc (fillM l (12 + j * 2))) ∧ Blk W w.heap.size 31 (mc zM) ∧ Below w.heap.size w W) (fun k _ => 8 - (intOf k).toNat)
    case atStart => exact ⟨0, by omega, rfl, M4.out, T5.out, B4.out⟩
    case round =>
      obtain ⟨j, hj, rfl, hm, ht, hbl⟩ := hrel
      rename World => W
      have M5 := Lib.hid hm
      have T6 := Lib.hid ht
      have B5 := Lib.hid hbl
      clear hm ht hbl
      by_cases hlt : j < 8
      · have s1 : IntKind.i64.wrap (8 * (j : Int)) = 8 * (j : Int) := IntWalk.i64_in _ (by omega)
        have s2 : IntKind.i64.wrap (24 + 8 * (j : Int)) = 24 + 8 * (j : Int) := IntWalk.i64_in _ (by omega)
        have s3 : IntKind.i64.wrap (28 + 8 * (j : Int)) = 28 + 8 * (j : Int) := IntWalk.i64_in _ (by omega)
        go_wp2_with fail
        refine (at4_dec (some ⟨b, off, none⟩) 88 cap w.heap.size l _ (12 + j * 2) (24 + 8 * j) (by omega) (by rw [pos_step]; omega) (wid_step _) (by omega) (by omega) _ (HR.out.below B5.out)).mono ?_
        rintro e w9 ⟨rfl, q, rfl⟩
        have B6 := Lib.hid (below_drewN B5.out q)
        go_wp2_with fail
        refine (at4_dec (some ⟨b, off, none⟩) 88 cap w.heap.size l _ (12 + j * 2 + 1) (28 + 8 * j) (by omega) (by rw [show 12 + j * 2 + 1 = 12 + (j * 2 + 1) by omega, pos_step]; omega) (by rw [show 12 + j * 2 + 1 = 12 + (j * 2 + 1) by omega]; exact wid_step _) (by omega) (by omega) _ (HR.out.below B6.out)).mono ?_
        rintro e w9 ⟨rfl, p, rfl⟩
        have M7 := Lib.hid ((M5.out.drewN q).drewN p)
        have T7 := Lib.hid ((T6.out.drewN q).drewN p)
        have B7 := Lib.hid (below_drewN B6.out p)
        generalize (W.drewN q).drewN p = V at M7 T7 B7 ⊢
        go_wp2_with (first
          | (refine wpList_store_mid rfl 28 (.tmp 75) (.tmp 73) rfl (w.heap.size + 1) (12 + j * 2) (ints [decAt l (12 + j * 2), decAt l (12 + j * 2 + 1)]).toArray (by rfl) (by rfl) (fun i hi => ⟨by rw [M7.out.cell, mc_get (fillM_length l _) (by simp at hi; omega)]; rfl, M7.out.frozen _⟩) (HG.out _ _) (ints_oneCell _) ?_
             have M8 := Lib.hid (path_put hlt M7.out)
             have T8 := Lib.hid (Blk.farCells hne [.int .i64 (decAt l (12 + j * 2)), .int .i64 (decAt l (12 + j * 2 + 1))] (12 + j * 2) _ T7.out)
             have B8 := Lib.hid (Below.setCells (Nat.le_succ _) [.int .i64 (decAt l (12 + j * 2)), .int .i64 (decAt l (12 + j * 2 + 1))] (12 + j * 2) _ B7.out)
             change wpList _ _ _ _ _ (V.setCells (w.heap.size + 1) (12 + j * 2) [.int .i64 (decAt l (12 + j * 2)), .int .i64 (decAt l (12 + j * 2 + 1))])
             generalize V.setCells (w.heap.size + 1) (12 + j * 2) [.int .i64 (decAt l (12 + j * 2)), .int .i64 (decAt l (12 + j * 2 + 1))] = V2 at M8 T8 B8 ⊢))
        go_roundw
        case rel => exact ⟨j + 1, by omega, by go_num, M8.out, T8.out, B8.out⟩
        case measure => simp [intOf]; omega
      · obtain rfl : j = 8 := by omega
        have M9 := Lib.hid (show Blk W (w.heap.size + 1) 31 (mc (decM l)) by have := M5.out; rwa [show 12 + 8 * 2 = 28 from rfl, fillM_all] at this)
        go_wp2_with (refine wpList_load_row rfl 31 (.tmp 4) rfl (w.heap.size + 1) rfl 31 (mc (decM l)) (0, 0) _ M9.out Try.underlying31 rfl HD.out ?_)
        refine (refOk_any (decM l) (decM_length l) _).mono ?_
        rintro e w4 ⟨rfl, hb4⟩
        have M10 := Lib.hid (M9.out.here hb4)
        have T10 := Lib.hid (T6.out.here hb4)
        have B10 := Lib.hid (stepB B5.out hb4)
        clear hb4
        cases hm : mayB (decM l)
        · have HAN := Lib.hid (show ansM l = zM by unfold ansM; rw [hm]; rfl)
          have HCN := Lib.hid (show codeM l = 5 by unfold codeM; rw [hm]; rfl)
          clear hm
          go_wp2_with (refine wpList_store_mid rfl 31 (.tmp 2) (.tmp 79) rfl w.heap.size 0 (mc zM) rfl rfl (mc_there zM_length zM_length T10.out) HZ.out (ints_oneCell _) ?_)
          exact bodyPost_ret (v := .tuple #[.agg (mc zM), .int .i64 5]) (results_cell_and rfl rfl rfl (loadM zM_length (mc_put zM_length zM_length T10.out))) rfl ⟨by rw [HAN.out, HCN.out], Below.setCells (Nat.le_refl _) _ _ _ B10.out⟩
        · have HAN := Lib.hid (show ansM l = decM l by unfold ansM; rw [hm]; rfl)
          have HCN := Lib.hid (show codeM l = 0 by unfold codeM; rw [hm]; rfl)
          clear hm
          go_wp2_with (first
            | (refine wpList_load_row rfl 31 (.tmp 4) rfl (w.heap.size + 1) rfl 31 (mc (decM l)) (0, 0) _ M10.out Try.underlying31 rfl HD.out ?_)
            | (refine wpList_store_mid rfl 31 (.tmp 2) (.tmp 80) rfl w.heap.size 0 (mc (decM l)) rfl rfl (mc_there zM_length (decM_length l) T10.out) HD.out (ints_oneCell _) ?_))
          exact bodyPost_ret (v := .tuple #[.agg (mc (decM l)), .int .i64 0]) (results_cell_and rfl rfl rfl (loadM (decM_length l) (mc_put zM_length (decM_length l) T10.out))) rfl ⟨by rw [HAN.out, HCN.out], Below.setCells (Nat.le_refl _) _ _ _ B10.out⟩
end Go.Proofs.Ytmjmplkhngpgnaa
