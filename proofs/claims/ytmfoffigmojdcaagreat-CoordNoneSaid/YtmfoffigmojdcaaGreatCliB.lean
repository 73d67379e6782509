/- The document's clients: a list with another one. -/
import Derived.Test.YtmfoffigmojdcaaGreatCliA
import Derived.Test.YtmfoffigmojdcaaGreatFlats
namespace Go.Proofs.YtmfoffigmojdcaaGreat
open Go.RowKit
set_option linter.unusedVariables false
set_option linter.unusedSimpArgs false

theorem cls_set : ∀ {L : List Cl} {k : Nat} (x : Cl), k < L.length → cls (L.set k x) = (((cls L).set (k * 3) (.int .i64 x.tx)).set (k * 3 + 1) (.bool x.dead)).set (k * 3 + 2) (.int .i64 x.since)
  | [], k, x, h => by simp at h
  | c :: r, 0, x, h => by simp [cls, clv]
  | c :: r, k + 1, x, h => by
    have := cls_set (L := r) (k := k) x (by simpa using h)
    rw [List.set_cons_succ, show cls (c :: r.set k x) = clv c ++ cls (r.set k x) from rfl, this, show cls (c :: r) = clv c ++ cls r from rfl]
    rw [show (k + 1) * 3 = k * 3 + 3 by omega]
    simp [clv]
theorem info_client : (Tryz.prog.info? 132).map (fun i => (i.zero, i.size, i.bytes)) = some (some (.agg #[.int .i64 0, .bool false, .int .i64 0]), 3, 24) := by kernel_rfl
theorem load_cl {w : World} {b o : Nat} {x z : Int} {y : Bool} (h0 : w.cell? ⟨b, o, none⟩ = some (.int .i64 x)) (h1 : w.cell? ⟨b, o + 1, none⟩ = some (.bool y)) (h2 : w.cell? ⟨b, o + 2, none⟩ = some (.int .i64 z)) :
    ∀ j v, ([.int .i64 x, .bool y, .int .i64 z] : List Value)[j]? = some v → w.cell? ((⟨b, o, none⟩ : Addr).add j) = some v := by
  intro j v hv
  match j, hv with
  | 0, hv => simpa [Addr.add] using h0.trans (by simpa using hv)
  | 1, hv => simpa [Addr.add] using h1.trans (by simpa using hv)
  | 2, hv => simpa [Addr.add] using h2.trans (by simpa using hv)
  | j + 3, hv => simp at hv

theorem own_cap {w : World} {base size n n' c : Nat} {e : TypeId} {A : Option Addr} {xs : List Value} (h : w.ownsRow base e size (.slice A n' c) n xs) : n ≤ c := by
  rcases h.2 with ⟨hv, h0⟩ | ⟨g', cap', cur, hv, hb, hh, hnc, _⟩
  · omega
  · injection hv with _ _ e3; omega
/-- A slice is the one that came in, or a new one. -/
abbrev NewOr (w : World) (A A' : Option Addr) : Prop := ∀ ad, A' = some ad → A = some ad ∨ w.heap.size ≤ ad.block
set_option maxRecDepth 100000 in
set_option maxHeartbeats 4000000 in
theorem withR_any (A : Option Addr) (n c B k : Nat) (L : List Cl) (x : Cl) (w : World) (h : Reads w B 3 A n (cls L)) (hB : B ≤ w.heap.size) (hn : n ≤ 1000000) (hk : k < n) :
    Calls Tryz.prog 115 #[.slice A n c, .int .i64 ((k : Int) + 1), .agg #[.int .i64 x.tx, .bool x.dead, .int .i64 x.since]] w fun e w' => ∃ A' c', e = .returned (.slice A' n c') ∧ Reads w' w'.heap.size 3 A' n (cls (L.set k x)) ∧ n ≤ c' ∧ Below w.heap.size w w' ∧ ∀ ad, A' = some ad → w.heap.size ≤ ad.block := by
  obtain ⟨i0, hi0, hz0, hz1, hz2⟩ := info_parts info_client
  have HL := Lib.hid h.c_len
  have hwr : IntKind.i64.wrap ((k : Int) + 1 - 1) = k := by rw [show (k : Int) + 1 - 1 = k by omega]; exact IntWalk.i64_in _ (by omega)
  have X1 := Lib.hid (Blk.new w 132 #[.int .i64 x.tx, .bool x.dead, .int .i64 x.since])
  have R1 := Lib.hid (h.alloc hB (.cells #[.int .i64 x.tx, .bool x.dead, .int .i64 x.since] 132))
  have B1 := Lib.hid (Joins.below_alloc1 w (.cells #[.int .i64 x.tx, .bool x.dead, .int .i64 x.since] 132))
  have HB := Lib.hid hB
  obtain ⟨tx, dead, since⟩ := x
  simp only at X1 R1 B1 ⊢
  clear h hB
  go_enter Tryz.func115, Tryz.ntmps115
  go_upto_region 1 with fail
  generalize hV : w.alloc (.cells #[.int .i64 tx, .bool dead, .int .i64 since] 132) = V at X1 R1 B1 ⊢
  have HSZ := Lib.hid (show V.heap.size = w.heap.size + 1 by rw [← hV]; simp)
  clear hV
  have hb0 : V.heap.size ≤ (V.alloc (.cells #[] 132)).heap.size := by simp
  have OE : (V.alloc (.cells #[] 132)).ownsRow V.heap.size 132 3 (.slice (some ⟨V.heap.size, 0, none⟩) 0 0) 0 (cls []) := own_emptyV V _ (Nat.le_refl _)
  have RE : Reads (V.alloc (.cells #[] 132)) B 3 A n (cls L) := R1.out.alloc (by have := HB.out; have := HSZ.out; omega) _
  have BE : Below V.heap.size V (V.alloc (.cells #[] 132)) := (Below.refl _ _).alloc (Nat.le_refl _) _
  have OE := Lib.hid OE
  have RE := Lib.hid RE
  have BE := Lib.hid BE
  have HB0 := Lib.hid hb0
  clear hb0
  go_upto_region 2 with (at_builtin; refine wpList_append_any _ rfl (.tmp 8) (.tmp 9) _ rfl V.heap.size 132 i0 _ 3 24 Tryz.underlying86 hi0 hz0 hz1 hz2 rfl (by omega) _ 0 (cls []) rfl OE.out B A n c (cls L) rfl RE.out (cls_one L) (by simp only [maxLen]; omega) (by omega) HB0.out ?_; intro v9 w9 hown9 hg9 hv9; have O9 := Lib.hid hown9; have B9 := Lib.hid (below_own BE.out hg9 OE.out (Nat.le_refl _) HB0.out); clear hown9 hg9 hv9)
  have O9 := Lib.hid (show w9.ownsRow V.heap.size 132 3 v9 n (cls L) by simpa [cls] using O9.out)
  obtain ⟨g, c9, hv9, hg1, hg2⟩ := O9.out.form (by omega)
  subst hv9
  have HG := Lib.hid (And.intro hg1 hg2)
  clear hg1 hg2
  have X9 := Lib.hid (X1.out.below B9.out (show w.heap.size < V.heap.size by have := HSZ.out; omega))
  have BW := Lib.hid (stepB B1.out B9.out)
  have hkl : k < L.length := by rw [HL.out]; exact hk
  have j0 : k * 3 < (cls L).length := by rw [cls_length]; omega
  have j1 : k * 3 + 1 < (cls L).length := by rw [cls_length]; omega
  have j2 : k * 3 + 2 < (cls L).length := by rw [cls_length]; omega
  have k0 : w9.cell? ⟨g, k * 3, none⟩ = some _ := own_cell O9.out (List.getElem?_eq_getElem j0)
  have k1 : w9.cell? ⟨g, k * 3 + 1, none⟩ = some _ := own_cell O9.out (List.getElem?_eq_getElem j1)
  have k2 : w9.cell? ⟨g, k * 3 + 2, none⟩ = some _ := own_cell O9.out (List.getElem?_eq_getElem j2)
  have f0 := own_hot O9.out (k * 3)
  have f1 := own_hot O9.out (k * 3 + 1)
  have f2 := own_hot O9.out (k * 3 + 2)
  have W1 := own_setV O9.out (k * 3) (.int .i64 tx)
  have W2 := own_setV W1 (k * 3 + 1) (.bool dead)
  have W3 := own_setV W2 (k * 3 + 2) (.int .i64 since)
  rw [← cls_set ⟨tx, dead, since⟩ hkl] at W3
  have W3 := Lib.hid W3
  have BX := Lib.hid (((BW.out.setCell (p := ⟨g, k * 3, none⟩) (by have := HG.out; have := HSZ.out; simp only; omega) (.int .i64 tx)).setCell (p := ⟨g, k * 3 + 1, none⟩) (by have := HG.out; have := HSZ.out; simp only; omega) (.bool dead)).setCell (p := ⟨g, k * 3 + 2, none⟩) (by have := HG.out; have := HSZ.out; simp only; omega) (.int .i64 since))
  have hc9 : n ≤ c9 := own_cap O9.out
  clear W1 W2
  generalize (cls L)[k * 3] = u0 at k0
  generalize (cls L)[k * 3 + 1] = u1 at k1
  generalize (cls L)[k * 3 + 2] = u2 at k2
  clear j0 j1 j2
  go_wp2_with (refine wpList_load_cells rfl 132 (.tmp 5) rfl ⟨w.heap.size, 0, none⟩ rfl [.int .i64 tx, .bool dead, .int .i64 since] _ (load_cl (X9.out.cell 0) (X9.out.cell 1) (X9.out.cell 2)) Tryz.underlying132 rfl (by kernel_rfl) ?_)
  go_ret
  exact ⟨_, _, rfl, Reads.of_own W3.out, hc9, BX.out, fun ad e => by cases e; have := HG.out; have := HSZ.out; simp only; omega⟩
end Go.Proofs.YtmfoffigmojdcaaGreat
