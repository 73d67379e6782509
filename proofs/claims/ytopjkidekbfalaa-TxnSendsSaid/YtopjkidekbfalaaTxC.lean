/- Messages to shards, and whether a transaction is decided. -/
import Derived.Test.YtopjkidekbfalaaTxB
import Derived.Test.YtopjkidekbfalaaMsgS
namespace Go.Proofs.Ytopjkidekbfalaa
open Go.RowKit
set_option linter.unusedVariables false
set_option linter.unusedSimpArgs false

theorem sendL_take {m l : List Int} {j : Nat} (h : j < l.length) : sendL m (l.take (j + 1)) = sendL m (l.take j) ++ [m.set 2 (gd l j)] := by
  unfold sendL
  rw [List.take_succ_eq_append_getElem h, List.map_append, gd_get h]; rfl
theorem sendL_len {m l : List Int} : (sendL m l).length = l.length := by simp [sendL]
theorem sendL_all {m l : List Int} (hm : m.length = 28) : ∀ q ∈ sendL m l, q.length = 28 := fun q hq => by
  obtain ⟨n, _, rfl⟩ := List.mem_map.1 hq
  simpa using hm
set_option maxRecDepth 100000 in
set_option maxHeartbeats 8000000 in
theorem send_any {B : Nat} {v : Value} (m l : List Int) (hm : m.length = 28) (w : World) (h : NumR w B v l) (hn : l.length ≤ 1000) :
    Calls Try.prog 23 #[.agg (mc m), v] w fun e w' => ∃ u, e = .returned u ∧ MsgR w' w.heap.size u (sendL m l) ∧ Below w.heap.size w w' := by
  obtain ⟨i0, hi0, hz0, hz1, hz2⟩ := info_parts info_msg
  obtain ⟨A, c, rfl, hr, _, _⟩ := own_rd h
  have HM := Lib.hid hm
  have X1 := Lib.hid (Blk.new w 42 (mc m))
  have B1 := Lib.hid (Joins.below_alloc1 w (.cells (mc m) 42))
  have R0 := Lib.hid hr
  have HIQ := Lib.hid (fun (q : List Int) (hq : q.length = 28) => mc_info hq)
  clear h hm hr
  generalize hN : l.length = N at R0 hn ⊢
  have HN := Lib.hid hN
  clear hN
  go_enter Try.func23, Try.ntmps23
  go_upto_region 1 with fail
  obtain ⟨g, hg⟩ : ∃ g, g = w.heap.size := ⟨_, rfl⟩
  have HG := Lib.hid hg
  rw [← hg] at X1 ⊢
  clear hg
  generalize w.alloc (.cells (mc m) 42) = V at X1 B1 ⊢
  have hgl := X1.out.lt
  have TOK := Lib.hid True.intro
  go_wp2_with fail
  go_loopw [5, 7, 10] (fun s5 s7 s10 wr => ∃ (j : Nat) (z : Int) (q : List Int), s10 = .int .i64 j ∧ j ≤ N ∧ q.length = 28 ∧ (∀ y, q.set 2 y = m.set 2 y) ∧ Blk wr g 42 (mc q) ∧ wr.ownsRow V.heap.size 42 28 s5 j (ints (sendL m (l.take j)).flatten) ∧ Turn (fun k => k = g) V wr) (fun _ _ s10 _ => N - (RowKit.intOf s10).toNat)
  case atStart => exact ⟨0, 0, m, rfl, Nat.zero_le _, HM.out, fun _ => rfl, X1.out, World.ownsRow_nil _ _ _ _, Turn.refl _ _⟩
  case round =>
    obtain ⟨j, z, q, rfl, hj, hq, hqs, hblk, hrow, ht⟩ := hrel
    rename World => X
    have HQ := Lib.hid hq
    have QS := Lib.hid hqs
    have XB := Lib.hid hblk
    have XR := Lib.hid hrow
    have XT := Lib.hid ht
    clear hq hqs hblk hrow ht
    by_cases hlt : j < N
    · have WB := Lib.hid (show Below w.heap.size w X from B1.out.trans (XT.out.below (B := w.heap.size) (fun k hk e => by have := HG.out; omega) B1.out.size))
      obtain ⟨b, off, rfl, hb, hc⟩ := int_cells (R0.out.below WB.out) (by omega)
      have k1 := hc j (by rw [HN.out]; exact hlt)
      have k2 := mc_cell HQ.out XB.out (i := 2) (by omega)
      have f2 := XB.out.frozen 2
      have ST := Lib.hid (sendL_take (m := m) (l := l) (j := j) (by rw [HN.out]; exact hlt))
      clear hc hb
      generalize gd l j = y at k1 ST
      generalize fld q 2 = y0 at k2
      have X2 := Lib.hid (show Blk (X.setCell ⟨g, 2, none⟩ (.int .i64 y)) g 42 (mc (m.set 2 y)) from by have := mc_setCell XB.out 2 y; rwa [QS.out] at this)
      have T2 := Lib.hid (XT.out.setCell (p := ⟨g, 2, none⟩) (fun _ => rfl) (.int .i64 y))
      have Y2 := Lib.hid (own_off XR.out ((Turn.refl (fun k => k = g) X).setCell (p := ⟨g, 2, none⟩) (fun _ => rfl) (.int .i64 y)) (fun k hk _ e => by omega))
      have L2 := Lib.hid (show (m.set 2 y).length = 28 from by simpa using HM.out)
      go_upto_region 6 with fail
      clear k1 k2 f2 XB XR XT WB
      generalize X.setCell ⟨g, 2, none⟩ (.int .i64 y) = W2 at X2 T2 Y2 ⊢
      have S2 := Lib.hid (show ∀ r, (m.set 2 y).set 2 r = m.set 2 r from fun r => by simp)
      generalize m.set 2 y = p at X2 L2 S2 ST
      have FL := Lib.hid (show [p].flatten = p from by simp)
      have RN := Lib.hid (reads_flat (V := W2) 42 p (size := 28) L2.out)
      have TS := Lib.hid T2.out.size
      go_wp2_with (first
        | (have _t := TOK; refine wpList_load_row_g (by rfl) 42 (.tmp 2) rfl g rfl 42 (mc p) (0, 0) _ X2.out Try.underlying42 rfl (HIQ.out _ L2.out) ?_; clear _t TOK)
        | (refine wpList_build_msgs rfl 1 _ rfl [p] (by simpa using L2.out) rfl (by omega) (by rfl) ?_; rw [FL.out])
        | (at_builtin; refine wpList_append_any _ rfl (.tmp 16) (.tmp 18) _ rfl V.heap.size 42 i0 _ 28 224 Try.underlying35 hi0 hz0 hz1 hz2 rfl (by omega) _ j _ rfl (Y2.out.alloc _) _ _ 1 1 (ints p) rfl RN.out (ints_one _) (by simp only [maxLen]; omega) (by omega) (by have := TS.out; simp only [World.alloc, Array.size_push]; omega) ?_; intro v9 w9 hown9 hg9 hv9; have O9 := Lib.hid hown9; have G9 := Lib.hid hg9; clear hown9 hg9 hv9))
      go_roundw
      case rel =>
        refine ⟨j + 1, y, p, by go_num, by omega, L2.out, S2.out, ?_, ?_, ?_⟩
        · exact (X2.out.alloc _).grown G9.out (fun e => by have := (own_ge Y2.out e).1; omega)
        · rw [ST.out, List.flatten_append, FL.out, show ints ((sendL m (l.take j)).flatten ++ p) = ints (sendL m (l.take j)).flatten ++ ints p by simp [ints]]
          exact O9.out
        · exact (T2.out.alloc _).grown G9.out (fun k hk hl => by have := (own_ge Y2.out hk).1; omega)
      case measure => simp [RowKit.intOf]; omega
    · obtain rfl : j = N := by omega
      rw [List.take_of_length_le (by have := HN.out; omega)] at XR
      have WB := Lib.hid (show Below w.heap.size w X from B1.out.trans (XT.out.below (B := w.heap.size) (fun k hk e => by have := HG.out; omega) B1.out.size))
      go_wp2_with fail
      go_ret
      have e : (sendL m l).length = j := by rw [sendL_len, HN.out]
      have hx := own_less XR.out B1.out.size
      rw [← e] at hx
      exact ⟨_, rfl, hx, WB.out⟩

/-! ### the two messages -/
theorem results_msg {w : World} {g : Nat} {m : List Int} (hm : m.length = 28) (h : Blk w g 42 (mc m)) : (loadVar 42 ⟨g, 0, none⟩).run Try.prog w = .ok (.agg (mc m)) w :=
  run_loadVar_row w g _ 42 (mc m) (0, 0) _ h Try.underlying42 rfl (mc_info hm)
abbrev zMs : Array Value := #[.int .i64 0, .int .i64 0, .int .i64 0, .int .i64 0, .int .i64 0, .int .i64 0, .int .i64 0, .int .i64 0, .int .i64 0, .int .i64 0, .int .i64 0, .int .i64 0, .int .i64 0, .int .i64 0, .int .i64 0, .int .i64 0, .int .i64 0, .int .i64 0, .int .i64 0, .int .i64 0, .int .i64 0, .int .i64 0, .int .i64 0, .int .i64 0, .int .i64 0, .int .i64 0, .int .i64 0, .int .i64 0]
set_option maxRecDepth 100000 in
set_option maxHeartbeats 4000000 in
theorem request_any (x : Tr) (s : Sl) (w : World) :
    Calls Try.prog 24 #[.agg (trc x s)] w fun e w' => e = .returned (.agg (mc (lockL x 0))) ∧ Below w.heap.size w w' := by
  have X1 := Lib.hid ((Blk.new w 30 (trc x s)).alloc (.cells zMs 42))
  have Z1 := Lib.hid (show Blk ((w.alloc (.cells (trc x s) 30)).alloc (.cells zMs 42)) (w.heap.size + 1) 42 (mc zM) from Blk.new_at (by simp) _ _)
  have B1 := Lib.hid ((Joins.below_alloc1 w (.cells (trc x s) 30)).alloc (by simp) (.cells zMs 42))
  have HIQ := Lib.hid (mc_info (m := lockL x 0) rfl)
  have BU := Lib.hid (ints_oneCell (lockL x 0))
  go_enter Try.func24, Try.ntmps24
  go_upto_region 1 with fail
  obtain ⟨g, hg⟩ : ∃ g, g = w.heap.size := ⟨_, rfl⟩
  have HG := Lib.hid hg
  rw [← hg] at X1 Z1 ⊢
  clear hg
  generalize (w.alloc (.cells (trc x s) 30)).alloc (.cells zMs 42) = V at X1 Z1 B1 ⊢
  have c0 : V.cell? ⟨g, 0, none⟩ = some (.int .i64 x.tx) := X1.out.cell 0
  have c3 : V.cell? ⟨g, 3, none⟩ = some (.int .i64 x.sq) := X1.out.cell 3
  have c6 : V.cell? ⟨g, 6, none⟩ = some (.int .i64 x.a0) := X1.out.cell 6
  have c7 : V.cell? ⟨g, 7, none⟩ = some (.int .i64 x.a1) := X1.out.cell 7
  have c8 : V.cell? ⟨g, 8, none⟩ = some (.int .i64 x.md) := X1.out.cell 8
  go_wp2_with (first
    | (refine wpList_store_mid (by rfl) 42 (.tmp 2) (.tmp 11) (by rfl) (g + 1) 0 (mc (lockL x 0)) (by rfl) (by rfl) (mc_there zM_length rfl Z1.out) HIQ.out BU.out ?_))
  exact bodyPost_ret (v := .agg (mc (lockL x 0))) (results_one rfl rfl (results_msg rfl (mc_put zM_length rfl Z1.out))) rfl ⟨rfl, Below.setCells (by have := HG.out; omega) _ _ _ B1.out⟩
end Go.Proofs.Ytopjkidekbfalaa
