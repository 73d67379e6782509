/- The contracts of Find and Ahead. -/
import Derived.Test.YtflnjechinfcdaaLineS
namespace Go.Proofs.Ytflnjechinfcdaa
open Go.RowKit
set_option linter.unusedVariables false
set_option linter.unusedSimpArgs false

/-- One that waits, as a block's cells. -/
def wc (q : Wt) : Array Value := #[.int .i64 q.tx, .int .i64 q.sq, .int .i64 q.md, .bool q.up]
theorem wc_eq (q : Wt) : (wv q).toArray = wc q := rfl
theorem wc_zero : wc zW = #[.int .i64 0, .int .i64 0, .int .i64 0, .bool false] := rfl
theorem wc_size (q : Wt) : (wc q).size = 4 := rfl
theorem wc_info (q : Wt) : (Try.prog.info? 33).map (·.size) = some (wc q).size := info_wait4
theorem wc_one (q : Wt) : (wc q).all (·.oneCell') = true := all_oneCell_toArray (cs := wv q) (fun v hv => wvs_one [q] v (by rw [wvs_single]; exact hv))
theorem wc_there {w : World} {g : Nat} {p : Wt} (q : Wt) (h : Blk w g 33 (wc p)) : w.there g 0 (wc q).size := h.there (Nat.le_refl _)
theorem wc_put {w : World} {g : Nat} {p : Wt} (q : Wt) (h : Blk w g 33 (wc p)) : Blk (w.setCells g 0 (wc q).toList) g 33 (wc q) := h.put _ rfl
theorem loadW {w : World} {g : Nat} {q : Wt} (h : Blk w g 33 (wc q)) : (loadVar 33 ⟨g, 0, none⟩).run Try.prog w = .ok (.agg (wc q)) w :=
  run_loadVar_row w g _ 33 (wc q) (0, 0) _ h Try.underlying33 rfl (wc_info q)

/-- What Find answers. -/
def findV (tx : Int) (U D : List Wt) : Value := match idx tx (U ++ D) with
  | some k => .tuple #[.agg (wc ((U ++ D).getD k zW)), .nilIface]
  | none => .tuple #[.agg (wc zW), errno 10]
theorem findV_left {tx : Int} {U D : List Wt} {k : Nat} (h : idx tx U = some k) : findV tx U D = .tuple #[.agg (wc (U[k]'(idx_lt h))), .nilIface] := by
  unfold findV; rw [idx_left h]
  have := idx_lt h
  simp [List.getD, List.getElem?_append_left this, this]
theorem findV_right {tx : Int} {U D : List Wt} {k : Nat} (h : idx tx U = none) (h' : idx tx D = some k) : findV tx U D = .tuple #[.agg (wc (D[k]'(idx_lt h'))), .nilIface] := by
  unfold findV; rw [idx_right h, h']
  have := idx_lt h'
  simp [List.getD, List.getElem?_append_right (show U.length ≤ k + U.length by omega), this]
theorem findV_none {tx : Int} {U D : List Wt} (h : idx tx U = none) (h' : idx tx D = none) : findV tx U D = .tuple #[.agg (wc zW), errno 10] := by
  unfold findV; rw [idx_right h, h']; rfl
section
variable {B g : Nat} {r0 r1 : Option Nat} {lim : Int} {U D : List Wt}
set_option maxRecDepth 100000 in
set_option maxHeartbeats 4000000 in
theorem find_nil (tx : Int) (w : World) : Calls Try.prog 16 #[.pointer none, .int .i64 tx] w fun e w' => e = .returned (.tuple #[.agg (wc zW), errno 1]) ∧ Below w.heap.size w w' := by
  have hn := fun W => run_neq_held_nil (P := Try.prog) W 26 55 (.int .i64 1) Try.underlying26
  have H0 := Lib.hid (Blk.new w 33 (wc zW))
  go_enter Try.func16, Try.ntmps16
  rw [wc_zero] at H0
  go_wp2_with (first
    | (go_at_call 25; refine (seek_nil _ _).mono ?_; rintro e w' ⟨rfl, rfl⟩)
    | (refine wpList_store_mid (by rfl) 33 (.tmp 4) (.tmp 18) (by rfl) w.heap.size 0 (wc zW) (by rfl) (by rfl) (wc_there (p := zW) zW H0.out) (wc_info _) (wc_one _) ?_))
  exact bodyPost_ret (v := .tuple #[.agg (wc zW), errno 1]) (results_cell_and rfl rfl rfl (loadW (wc_put (p := zW) zW H0.out))) rfl ⟨rfl, Below.setCells (Nat.le_refl _) _ _ _ (Joins.below_alloc1 _ _)⟩
set_option maxRecDepth 100000 in
set_option maxHeartbeats 4000000 in
theorem find_none (tx : Int) (w : World) (h : Line w B g r0 r1 lim U D) (hU : idx tx U = none) (hD : idx tx D = none) : Calls Try.prog 16 #[.pointer (some ⟨g, 0, none⟩), .int .i64 tx] w fun e w' => e = .returned (findV tx U D) ∧ Below w.heap.size w w' := by
  have hn := fun W => run_neq_held_nil (P := Try.prog) W 26 55 (.int .i64 10) Try.underlying26
  have HV := Lib.hid (findV_none hU hD)
  have HS := Lib.hid (show seekV tx U D = .tuple #[.int .i64 0, .int .i64 0, errno 10] by unfold seekV; rw [hU]; simp only []; rw [hD])
  have H0 := Lib.hid (Blk.new w 33 (wc zW))
  have H := Lib.hid (h.step (Joins.below_alloc1 w (.cells (wc zW) 33)))
  clear h hU hD
  go_enter Try.func16, Try.ntmps16
  rw [wc_zero] at H0 H
  go_wp2_with fail
  refine (seek_any tx _ H.out).mono ?_
  rintro e w1 ⟨rfl, hb⟩
  rw [HS.out]
  have B1 := Lib.hid (stepB (Joins.below_alloc1 w _) hb)
  have H1 := Lib.hid (H0.out.here hb)
  clear hb
  go_wp2_with (refine wpList_store_mid (by rfl) 33 (.tmp 4) (.tmp 18) (by rfl) w.heap.size 0 (wc zW) (by rfl) (by rfl) (wc_there (p := zW) zW H1.out) (wc_info _) (wc_one _) ?_)
  exact bodyPost_ret (v := .tuple #[.agg (wc zW), errno 10]) (results_cell_and rfl rfl rfl (loadW (wc_put (p := zW) zW H1.out))) rfl ⟨by rw [HV.out], Below.setCells (Nat.le_refl _) _ _ _ B1.out⟩
set_option maxRecDepth 100000 in
set_option maxHeartbeats 4000000 in
theorem find_left (tx : Int) (w : World) {k : Nat} (h : Line w B g r0 r1 lim U D) (hU : idx tx U = some k) : Calls Try.prog 16 #[.pointer (some ⟨g, 0, none⟩), .int .i64 tx] w fun e w' => e = .returned (findV tx U D) ∧ Below w.heap.size w w' := by
  have hn := fun W => run_neq_nil_nil (P := Try.prog) W 26 Try.underlying26
  have hlt : k < U.length := idx_lt hU
  have HV := Lib.hid (show findV tx U D = .tuple #[.agg (wc (U[k]'hlt)), .nilIface] from findV_left (D := D) hU)
  have HS := Lib.hid (show seekV tx U D = .tuple #[.int .i64 0, .int .i64 k, .nilIface] by unfold seekV; rw [hU])
  have H0 := Lib.hid (Blk.new w 33 (wc zW))
  have H := Lib.hid (h.step (Joins.below_alloc1 w (.cells (wc zW) 33)))
  have HL := Lib.hid h
  clear h hU
  go_enter Try.func16, Try.ntmps16
  rw [wc_zero] at H0 H
  go_wp2_with fail
  refine (seek_any tx _ H.out).mono ?_
  rintro e w1 ⟨rfl, hb⟩
  rw [HS.out]
  have B1 := Lib.hid (stepB (Joins.below_alloc1 w _) hb)
  have H1 := Lib.hid (H0.out.here hb)
  obtain ⟨v0, v1, hl, _, _⟩ := HL.out.step B1.out
  obtain ⟨A0, c0, A1, c1, rfl, rfl, hr0, hr1, hc0, hc1, k0, k1, k2⟩ := hl.cells
  have hlen := hl.ok.len
  obtain ⟨b, off, rfl, hbl, hc⟩ := hr0.w_cells hlt
  have HC := Lib.hid (fun j v hv => (congrArg w1.cell? (add_lit b (off + k * 4) j)).trans (hc j v hv))
  have HI4 := Lib.hid info_wait4
  have HV2 := Lib.hid (show findV tx U D = .tuple #[.agg (wc U[k]), .nilIface] from HV.out)
  clear hb hl hr0 hr1 hc hbl HV
  generalize U[k] = q at HC HV2
  go_wp2_with (first
    | (refine wpList_load_cells rfl 33 (.tmp 27) rfl ⟨b, off + k * 4, none⟩ rfl (wv q) _ HC.out Try.underlying33 rfl HI4.out ?_)
    | (refine wpList_store_mid (by rfl) 33 (.tmp 4) (.tmp 28) (by rfl) w.heap.size 0 (wc q) (by rfl) (by rfl) (wc_there (p := zW) q H1.out) (wc_info _) (wc_one _) ?_))
  exact bodyPost_ret (v := .tuple #[.agg (wc q), .nilIface]) (results_cell_and rfl rfl rfl (loadW (wc_put (p := zW) q H1.out))) rfl ⟨by rw [HV2.out], Below.setCells (Nat.le_refl _) _ _ _ B1.out⟩
set_option maxRecDepth 100000 in
set_option maxHeartbeats 4000000 in
theorem find_right (tx : Int) (w : World) {k : Nat} (h : Line w B g r0 r1 lim U D) (hU : idx tx U = none) (hD : idx tx D = some k) : Calls Try.prog 16 #[.pointer (some ⟨g, 0, none⟩), .int .i64 tx] w fun e w' => e = .returned (findV tx U D) ∧ Below w.heap.size w w' := by
  have hn := fun W => run_neq_nil_nil (P := Try.prog) W 26 Try.underlying26
  have hlt : k < D.length := idx_lt hD
  have HV := Lib.hid (show findV tx U D = .tuple #[.agg (wc (D[k]'hlt)), .nilIface] from findV_right hU hD)
  have HS := Lib.hid (show seekV tx U D = .tuple #[.int .i64 1, .int .i64 k, .nilIface] by unfold seekV; rw [hU]; simp only []; rw [hD])
  have H0 := Lib.hid (Blk.new w 33 (wc zW))
  have H := Lib.hid (h.step (Joins.below_alloc1 w (.cells (wc zW) 33)))
  have HL := Lib.hid h
  clear h hU hD
  go_enter Try.func16, Try.ntmps16
  rw [wc_zero] at H0 H
  go_wp2_with fail
  refine (seek_any tx _ H.out).mono ?_
  rintro e w1 ⟨rfl, hb⟩
  rw [HS.out]
  have B1 := Lib.hid (stepB (Joins.below_alloc1 w _) hb)
  have H1 := Lib.hid (H0.out.here hb)
  obtain ⟨v0, v1, hl, _, _⟩ := HL.out.step B1.out
  obtain ⟨A0, c0, A1, c1, rfl, rfl, hr0, hr1, hc0, hc1, k0, k1, k2⟩ := hl.cells
  have hlen := hl.ok.len
  obtain ⟨b, off, rfl, hbl, hc⟩ := hr1.w_cells hlt
  have HC := Lib.hid (fun j v hv => (congrArg w1.cell? (add_lit b (off + k * 4) j)).trans (hc j v hv))
  have HI4 := Lib.hid info_wait4
  have HV2 := Lib.hid (show findV tx U D = .tuple #[.agg (wc D[k]), .nilIface] from HV.out)
  clear hb hl hr0 hr1 hc hbl HV
  generalize D[k] = q at HC HV2
  go_wp2_with (first
    | (refine wpList_load_cells rfl 33 (.tmp 27) rfl ⟨b, off + k * 4, none⟩ rfl (wv q) _ HC.out Try.underlying33 rfl HI4.out ?_)
    | (refine wpList_store_mid (by rfl) 33 (.tmp 4) (.tmp 28) (by rfl) w.heap.size 0 (wc q) (by rfl) (by rfl) (wc_there (p := zW) q H1.out) (wc_info _) (wc_one _) ?_))
  exact bodyPost_ret (v := .tuple #[.agg (wc q), .nilIface]) (results_cell_and rfl rfl rfl (loadW (wc_put (p := zW) q H1.out))) rfl ⟨by rw [HV2.out], Below.setCells (Nat.le_refl _) _ _ _ B1.out⟩
theorem find_any (tx : Int) (w : World) (h : Line w B g r0 r1 lim U D) : Calls Try.prog 16 #[.pointer (some ⟨g, 0, none⟩), .int .i64 tx] w fun e w' => e = .returned (findV tx U D) ∧ Below w.heap.size w w' := by
  cases hU : idx tx U with
  | some k => exact find_left tx w h hU
  | none => cases hD : idx tx D with
    | some k => exact find_right tx w h hU hD
    | none => exact find_none tx w h hU hD
end
end Go.Proofs.Ytflnjechinfcdaa
