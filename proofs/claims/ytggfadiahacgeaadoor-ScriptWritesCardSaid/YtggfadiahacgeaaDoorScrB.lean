/- May an entry be (the program's Ok). -/
import Derived.Test.YtggfadiahacgeaaDoorScrA
namespace Go.Proofs.YtggfadiahacgeaaDoor
open Go.RowKit
set_option linter.unusedVariables false
set_option linter.unusedSimpArgs false

theorem cellsOf2 {w : World} {b o : Nat} {u v : Value} (h0 : w.cell? ⟨b, o, none⟩ = some u) (h1 : w.cell? ⟨b, o + 1, none⟩ = some v) : ∀ j x, [u, v][j]? = some x → w.cell? ((⟨b, o, none⟩ : Addr).add j) = some x := by
  intro j x hx
  match j, hx with
  | 0, hx => simp at hx; subst hx; exact h0
  | 1, hx => simp at hx; subst hx; simpa [Addr.add] using h1
theorem info_span2 (u v : Value) : (Tryd.prog.info? 47).map (·.size) = some [u, v].length := by kernel_rfl
theorem info_res2 (u v : Value) : (Tryd.prog.info? 27).map (·.size) = some [u, v].length := by kernel_rfl
set_option maxRecDepth 100000 in
set_option maxHeartbeats 2000000 in
theorem sOk_0 (k c t r m p : Int) (h0 : kdB k = false) (w : World) :
    Calls Tryd.prog 7 #[entV k c t r m p] w fun e w' => e = .returned (.bool false) ∧ Below w.heap.size w w' := by
  have TLa := True.intro
  have TLb := True.intro
  have TLc := True.intro
  have TLd := True.intro
  have TCa := True.intro
  have TCb := True.intro
  have TCc := True.intro
  have HK := Lib.hid h0
  clear h0
  go_enter Tryd.func7, Tryd.ntmps7
  go_upto_region 2 with (go_at_call 14; refine (named_any k _).mono ?_; rintro e w1 ⟨rfl, hb⟩; rw [named_kd]; have B1 := Lib.hid hb; clear hb)
  have BE := Lib.hid ((Blk.new w 30 #[.int .i64 (k), .int .i64 (c), .int .i64 (t), .int .i64 (r), .int .i64 (m), .int .i64 (p)]).here B1.out |>.alloc (.cells #[.bool (kdB k), .bool (lokB k), .int .i64 (cliL k), .int .i64 (cliH k), .int .i64 (modL k), .int .i64 (modH k), .int .i64 (0), .int .i64 (picH k)] 49))
  have BF := Lib.hid (Blk.new w1 49 #[.bool (kdB k), .bool (lokB k), .int .i64 (cliL k), .int .i64 (cliH k), .int .i64 (modL k), .int .i64 (modH k), .int .i64 (0), .int .i64 (picH k)])
  have BV := Lib.hid (stepA (stepB (Joins.below_alloc1 w (.cells #[.int .i64 (k), .int .i64 (c), .int .i64 (t), .int .i64 (r), .int .i64 (m), .int .i64 (p)] 30)) B1.out) (.cells #[.bool (kdB k), .bool (lokB k), .int .i64 (cliL k), .int .i64 (cliH k), .int .i64 (modL k), .int .i64 (modH k), .int .i64 (0), .int .i64 (picH k)] 49))
  generalize w.heap.size = e at BE ⊢
  generalize w1.alloc _ = V at BE BF BV ⊢
  generalize w1.heap.size = f at BF ⊢
  have KP := Lib.hid (show ∀ Y, Below V.heap.size V Y → Y.cell? ⟨f, 0, none⟩ = some (.bool (kdB k)) ∧ Y.cell? ⟨f, 1, none⟩ = some (.bool (lokB k)) ∧ Y.cell? ⟨f, 2, none⟩ = some (.int .i64 (cliL k)) ∧ Y.cell? ⟨f, 3, none⟩ = some (.int .i64 (cliH k)) ∧ Y.cell? ⟨f, 4, none⟩ = some (.int .i64 (modL k)) ∧ Y.cell? ⟨f, 5, none⟩ = some (.int .i64 (modH k)) ∧ Y.cell? ⟨f, 6, none⟩ = some (.int .i64 (0)) ∧ Y.cell? ⟨f, 7, none⟩ = some (.int .i64 (picH k)) ∧ Y.cell? ⟨e, 0, none⟩ = some (.int .i64 (k)) ∧ Y.cell? ⟨e, 1, none⟩ = some (.int .i64 (c)) ∧ Y.cell? ⟨e, 2, none⟩ = some (.int .i64 (t)) ∧ Y.cell? ⟨e, 3, none⟩ = some (.int .i64 (r)) ∧ Y.cell? ⟨e, 4, none⟩ = some (.int .i64 (m)) ∧ Y.cell? ⟨e, 5, none⟩ = some (.int .i64 (p)) from fun Y hy => ⟨(BF.out.here hy).cell 0, (BF.out.here hy).cell 1, (BF.out.here hy).cell 2, (BF.out.here hy).cell 3, (BF.out.here hy).cell 4, (BF.out.here hy).cell 5, (BF.out.here hy).cell 6, (BF.out.here hy).cell 7, (BE.out.here hy).cell 0, (BE.out.here hy).cell 1, (BE.out.here hy).cell 2, (BE.out.here hy).cell 3, (BE.out.here hy).cell 4, (BE.out.here hy).cell 5⟩)
  have BR := Lib.hid (Below.refl V.heap.size V)
  have cf0 := (KP.out _ BR.out).1
  have ce1 := (KP.out _ BR.out).2.2.2.2.2.2.2.2.2.1
  have HK2 := HK.out
  go_wp2_with fail
  go_ret
  exact ⟨rfl, stepB BV.out BR.out⟩
set_option maxRecDepth 100000 in
set_option maxHeartbeats 2000000 in
theorem sOk_1 (k c t r m p : Int) (h0 : kdB k = true) (h1 : insB (cliL k) (cliH k) c = false) (w : World) :
    Calls Tryd.prog 7 #[entV k c t r m p] w fun e w' => e = .returned (.bool false) ∧ Below w.heap.size w w' := by
  have TLa := True.intro
  have TLb := True.intro
  have TLc := True.intro
  have TLd := True.intro
  have TCa := True.intro
  have TCb := True.intro
  have TCc := True.intro
  have HK := Lib.hid h0
  have H1 := Lib.hid h1
  clear h0 h1
  go_enter Tryd.func7, Tryd.ntmps7
  go_upto_region 2 with (go_at_call 14; refine (named_any k _).mono ?_; rintro e w1 ⟨rfl, hb⟩; rw [named_kd]; have B1 := Lib.hid hb; clear hb)
  have BE := Lib.hid ((Blk.new w 30 #[.int .i64 (k), .int .i64 (c), .int .i64 (t), .int .i64 (r), .int .i64 (m), .int .i64 (p)]).here B1.out |>.alloc (.cells #[.bool (kdB k), .bool (lokB k), .int .i64 (cliL k), .int .i64 (cliH k), .int .i64 (modL k), .int .i64 (modH k), .int .i64 (0), .int .i64 (picH k)] 49))
  have BF := Lib.hid (Blk.new w1 49 #[.bool (kdB k), .bool (lokB k), .int .i64 (cliL k), .int .i64 (cliH k), .int .i64 (modL k), .int .i64 (modH k), .int .i64 (0), .int .i64 (picH k)])
  have BV := Lib.hid (stepA (stepB (Joins.below_alloc1 w (.cells #[.int .i64 (k), .int .i64 (c), .int .i64 (t), .int .i64 (r), .int .i64 (m), .int .i64 (p)] 30)) B1.out) (.cells #[.bool (kdB k), .bool (lokB k), .int .i64 (cliL k), .int .i64 (cliH k), .int .i64 (modL k), .int .i64 (modH k), .int .i64 (0), .int .i64 (picH k)] 49))
  generalize w.heap.size = e at BE ⊢
  generalize w1.alloc _ = V at BE BF BV ⊢
  generalize w1.heap.size = f at BF ⊢
  have KP := Lib.hid (show ∀ Y, Below V.heap.size V Y → Y.cell? ⟨f, 0, none⟩ = some (.bool (kdB k)) ∧ Y.cell? ⟨f, 1, none⟩ = some (.bool (lokB k)) ∧ Y.cell? ⟨f, 2, none⟩ = some (.int .i64 (cliL k)) ∧ Y.cell? ⟨f, 3, none⟩ = some (.int .i64 (cliH k)) ∧ Y.cell? ⟨f, 4, none⟩ = some (.int .i64 (modL k)) ∧ Y.cell? ⟨f, 5, none⟩ = some (.int .i64 (modH k)) ∧ Y.cell? ⟨f, 6, none⟩ = some (.int .i64 (0)) ∧ Y.cell? ⟨f, 7, none⟩ = some (.int .i64 (picH k)) ∧ Y.cell? ⟨e, 0, none⟩ = some (.int .i64 (k)) ∧ Y.cell? ⟨e, 1, none⟩ = some (.int .i64 (c)) ∧ Y.cell? ⟨e, 2, none⟩ = some (.int .i64 (t)) ∧ Y.cell? ⟨e, 3, none⟩ = some (.int .i64 (r)) ∧ Y.cell? ⟨e, 4, none⟩ = some (.int .i64 (m)) ∧ Y.cell? ⟨e, 5, none⟩ = some (.int .i64 (p)) from fun Y hy => ⟨(BF.out.here hy).cell 0, (BF.out.here hy).cell 1, (BF.out.here hy).cell 2, (BF.out.here hy).cell 3, (BF.out.here hy).cell 4, (BF.out.here hy).cell 5, (BF.out.here hy).cell 6, (BF.out.here hy).cell 7, (BE.out.here hy).cell 0, (BE.out.here hy).cell 1, (BE.out.here hy).cell 2, (BE.out.here hy).cell 3, (BE.out.here hy).cell 4, (BE.out.here hy).cell 5⟩)
  have BR := Lib.hid (Below.refl V.heap.size V)
  have cf0 := (KP.out _ BR.out).1
  have ce1 := (KP.out _ BR.out).2.2.2.2.2.2.2.2.2.1
  have HK2 := HK.out
  go_wp2_with (first
    | (have _t := TLa; refine wpList_load_cells_g (by rfl) 47 (.tmp 10) rfl ⟨f, 2, none⟩ rfl [.int .i64 (cliL k), .int .i64 (cliH k)] _ (cellsOf2 (KP.out _ BR.out).2.2.1 (KP.out _ BR.out).2.2.2.1) Tryd.underlying47 rfl (info_span2 _ _) ?_; clear _t TLa)
    | (go_at_call 15; have _t := TCa; clear _t TCa; refine (sHas_b (cliL k) (cliH k) c _ H1.out _).mono ?_; rintro e w2 ⟨rfl, hb⟩; have B2 := Lib.hid hb; clear hb; have cf1 := (KP.out _ B2.out).2.1))
  go_ret
  exact ⟨rfl, stepB BV.out B2.out⟩
set_option maxRecDepth 100000 in
set_option maxHeartbeats 2000000 in
theorem sOk_2 (k c t r m p : Int) (h0 : kdB k = true) (h1 : insB (cliL k) (cliH k) c = true) (h2 : placeE (lokB k) t r = false) (w : World) :
    Calls Tryd.prog 7 #[entV k c t r m p] w fun e w' => e = .returned (.bool false) ∧ Below w.heap.size w w' := by
  have TLa := True.intro
  have TLb := True.intro
  have TLc := True.intro
  have TLd := True.intro
  have TCa := True.intro
  have TCb := True.intro
  have TCc := True.intro
  have HK := Lib.hid h0
  have H1 := Lib.hid h1
  have H2 := Lib.hid h2
  clear h0 h1 h2
  go_enter Tryd.func7, Tryd.ntmps7
  go_upto_region 2 with (go_at_call 14; refine (named_any k _).mono ?_; rintro e w1 ⟨rfl, hb⟩; rw [named_kd]; have B1 := Lib.hid hb; clear hb)
  have BE := Lib.hid ((Blk.new w 30 #[.int .i64 (k), .int .i64 (c), .int .i64 (t), .int .i64 (r), .int .i64 (m), .int .i64 (p)]).here B1.out |>.alloc (.cells #[.bool (kdB k), .bool (lokB k), .int .i64 (cliL k), .int .i64 (cliH k), .int .i64 (modL k), .int .i64 (modH k), .int .i64 (0), .int .i64 (picH k)] 49))
  have BF := Lib.hid (Blk.new w1 49 #[.bool (kdB k), .bool (lokB k), .int .i64 (cliL k), .int .i64 (cliH k), .int .i64 (modL k), .int .i64 (modH k), .int .i64 (0), .int .i64 (picH k)])
  have BV := Lib.hid (stepA (stepB (Joins.below_alloc1 w (.cells #[.int .i64 (k), .int .i64 (c), .int .i64 (t), .int .i64 (r), .int .i64 (m), .int .i64 (p)] 30)) B1.out) (.cells #[.bool (kdB k), .bool (lokB k), .int .i64 (cliL k), .int .i64 (cliH k), .int .i64 (modL k), .int .i64 (modH k), .int .i64 (0), .int .i64 (picH k)] 49))
  generalize w.heap.size = e at BE ⊢
  generalize w1.alloc _ = V at BE BF BV ⊢
  generalize w1.heap.size = f at BF ⊢
  have KP := Lib.hid (show ∀ Y, Below V.heap.size V Y → Y.cell? ⟨f, 0, none⟩ = some (.bool (kdB k)) ∧ Y.cell? ⟨f, 1, none⟩ = some (.bool (lokB k)) ∧ Y.cell? ⟨f, 2, none⟩ = some (.int .i64 (cliL k)) ∧ Y.cell? ⟨f, 3, none⟩ = some (.int .i64 (cliH k)) ∧ Y.cell? ⟨f, 4, none⟩ = some (.int .i64 (modL k)) ∧ Y.cell? ⟨f, 5, none⟩ = some (.int .i64 (modH k)) ∧ Y.cell? ⟨f, 6, none⟩ = some (.int .i64 (0)) ∧ Y.cell? ⟨f, 7, none⟩ = some (.int .i64 (picH k)) ∧ Y.cell? ⟨e, 0, none⟩ = some (.int .i64 (k)) ∧ Y.cell? ⟨e, 1, none⟩ = some (.int .i64 (c)) ∧ Y.cell? ⟨e, 2, none⟩ = some (.int .i64 (t)) ∧ Y.cell? ⟨e, 3, none⟩ = some (.int .i64 (r)) ∧ Y.cell? ⟨e, 4, none⟩ = some (.int .i64 (m)) ∧ Y.cell? ⟨e, 5, none⟩ = some (.int .i64 (p)) from fun Y hy => ⟨(BF.out.here hy).cell 0, (BF.out.here hy).cell 1, (BF.out.here hy).cell 2, (BF.out.here hy).cell 3, (BF.out.here hy).cell 4, (BF.out.here hy).cell 5, (BF.out.here hy).cell 6, (BF.out.here hy).cell 7, (BE.out.here hy).cell 0, (BE.out.here hy).cell 1, (BE.out.here hy).cell 2, (BE.out.here hy).cell 3, (BE.out.here hy).cell 4, (BE.out.here hy).cell 5⟩)
  have BR := Lib.hid (Below.refl V.heap.size V)
  have cf0 := (KP.out _ BR.out).1
  have ce1 := (KP.out _ BR.out).2.2.2.2.2.2.2.2.2.1
  have HK2 := HK.out
  go_wp2_with (first
    | (have _t := TLa; refine wpList_load_cells_g (by rfl) 47 (.tmp 10) rfl ⟨f, 2, none⟩ rfl [.int .i64 (cliL k), .int .i64 (cliH k)] _ (cellsOf2 (KP.out _ BR.out).2.2.1 (KP.out _ BR.out).2.2.2.1) Tryd.underlying47 rfl (info_span2 _ _) ?_; clear _t TLa)
    | (go_at_call 15; have _t := TCa; clear _t TCa; refine (sHas_b (cliL k) (cliH k) c _ H1.out _).mono ?_; rintro e w2 ⟨rfl, hb⟩; have B2 := Lib.hid hb; clear hb; have cf1 := (KP.out _ B2.out).2.1)
    | (have _t := TLb; refine wpList_load_cells_g (by rfl) 27 (.tmp 17) rfl ⟨e, 2, none⟩ rfl [.int .i64 (t), .int .i64 (r)] _ (cellsOf2 (KP.out _ B2.out).2.2.2.2.2.2.2.2.2.2.1 (KP.out _ B2.out).2.2.2.2.2.2.2.2.2.2.2.1) Tryd.underlying27 rfl (info_res2 _ _) ?_; clear _t TLb)
    | (go_at_call 16; refine (sPlace_b t r (lokB k) _ H2.out _).mono ?_; rintro e w3 ⟨rfl, hb⟩; have B3 := Lib.hid (stepB B2.out hb); clear hb; have ce4 := (KP.out _ B3.out).2.2.2.2.2.2.2.2.2.2.2.2.1))
  go_ret
  exact ⟨rfl, stepB BV.out B3.out⟩
set_option maxRecDepth 100000 in
set_option maxHeartbeats 2000000 in
theorem sOk_3 (k c t r m p : Int) (h0 : kdB k = true) (h1 : insB (cliL k) (cliH k) c = true) (h2 : placeE (lokB k) t r = true) (h3 : insB (modL k) (modH k) m = false) (w : World) :
    Calls Tryd.prog 7 #[entV k c t r m p] w fun e w' => e = .returned (.bool false) ∧ Below w.heap.size w w' := by
  have TLa := True.intro
  have TLb := True.intro
  have TLc := True.intro
  have TLd := True.intro
  have TCa := True.intro
  have TCb := True.intro
  have TCc := True.intro
  have HK := Lib.hid h0
  have H1 := Lib.hid h1
  have H2 := Lib.hid h2
  have H3 := Lib.hid h3
  clear h0 h1 h2 h3
  go_enter Tryd.func7, Tryd.ntmps7
  go_upto_region 2 with (go_at_call 14; refine (named_any k _).mono ?_; rintro e w1 ⟨rfl, hb⟩; rw [named_kd]; have B1 := Lib.hid hb; clear hb)
  have BE := Lib.hid ((Blk.new w 30 #[.int .i64 (k), .int .i64 (c), .int .i64 (t), .int .i64 (r), .int .i64 (m), .int .i64 (p)]).here B1.out |>.alloc (.cells #[.bool (kdB k), .bool (lokB k), .int .i64 (cliL k), .int .i64 (cliH k), .int .i64 (modL k), .int .i64 (modH k), .int .i64 (0), .int .i64 (picH k)] 49))
  have BF := Lib.hid (Blk.new w1 49 #[.bool (kdB k), .bool (lokB k), .int .i64 (cliL k), .int .i64 (cliH k), .int .i64 (modL k), .int .i64 (modH k), .int .i64 (0), .int .i64 (picH k)])
  have BV := Lib.hid (stepA (stepB (Joins.below_alloc1 w (.cells #[.int .i64 (k), .int .i64 (c), .int .i64 (t), .int .i64 (r), .int .i64 (m), .int .i64 (p)] 30)) B1.out) (.cells #[.bool (kdB k), .bool (lokB k), .int .i64 (cliL k), .int .i64 (cliH k), .int .i64 (modL k), .int .i64 (modH k), .int .i64 (0), .int .i64 (picH k)] 49))
  generalize w.heap.size = e at BE ⊢
  generalize w1.alloc _ = V at BE BF BV ⊢
  generalize w1.heap.size = f at BF ⊢
  have KP := Lib.hid (show ∀ Y, Below V.heap.size V Y → Y.cell? ⟨f, 0, none⟩ = some (.bool (kdB k)) ∧ Y.cell? ⟨f, 1, none⟩ = some (.bool (lokB k)) ∧ Y.cell? ⟨f, 2, none⟩ = some (.int .i64 (cliL k)) ∧ Y.cell? ⟨f, 3, none⟩ = some (.int .i64 (cliH k)) ∧ Y.cell? ⟨f, 4, none⟩ = some (.int .i64 (modL k)) ∧ Y.cell? ⟨f, 5, none⟩ = some (.int .i64 (modH k)) ∧ Y.cell? ⟨f, 6, none⟩ = some (.int .i64 (0)) ∧ Y.cell? ⟨f, 7, none⟩ = some (.int .i64 (picH k)) ∧ Y.cell? ⟨e, 0, none⟩ = some (.int .i64 (k)) ∧ Y.cell? ⟨e, 1, none⟩ = some (.int .i64 (c)) ∧ Y.cell? ⟨e, 2, none⟩ = some (.int .i64 (t)) ∧ Y.cell? ⟨e, 3, none⟩ = some (.int .i64 (r)) ∧ Y.cell? ⟨e, 4, none⟩ = some (.int .i64 (m)) ∧ Y.cell? ⟨e, 5, none⟩ = some (.int .i64 (p)) from fun Y hy => ⟨(BF.out.here hy).cell 0, (BF.out.here hy).cell 1, (BF.out.here hy).cell 2, (BF.out.here hy).cell 3, (BF.out.here hy).cell 4, (BF.out.here hy).cell 5, (BF.out.here hy).cell 6, (BF.out.here hy).cell 7, (BE.out.here hy).cell 0, (BE.out.here hy).cell 1, (BE.out.here hy).cell 2, (BE.out.here hy).cell 3, (BE.out.here hy).cell 4, (BE.out.here hy).cell 5⟩)
  have BR := Lib.hid (Below.refl V.heap.size V)
  have cf0 := (KP.out _ BR.out).1
  have ce1 := (KP.out _ BR.out).2.2.2.2.2.2.2.2.2.1
  have HK2 := HK.out
  go_wp2_with (first
    | (have _t := TLa; refine wpList_load_cells_g (by rfl) 47 (.tmp 10) rfl ⟨f, 2, none⟩ rfl [.int .i64 (cliL k), .int .i64 (cliH k)] _ (cellsOf2 (KP.out _ BR.out).2.2.1 (KP.out _ BR.out).2.2.2.1) Tryd.underlying47 rfl (info_span2 _ _) ?_; clear _t TLa)
    | (go_at_call 15; have _t := TCa; clear _t TCa; refine (sHas_b (cliL k) (cliH k) c _ H1.out _).mono ?_; rintro e w2 ⟨rfl, hb⟩; have B2 := Lib.hid hb; clear hb; have cf1 := (KP.out _ B2.out).2.1)
    | (have _t := TLb; refine wpList_load_cells_g (by rfl) 27 (.tmp 17) rfl ⟨e, 2, none⟩ rfl [.int .i64 (t), .int .i64 (r)] _ (cellsOf2 (KP.out _ B2.out).2.2.2.2.2.2.2.2.2.2.1 (KP.out _ B2.out).2.2.2.2.2.2.2.2.2.2.2.1) Tryd.underlying27 rfl (info_res2 _ _) ?_; clear _t TLb)
    | (go_at_call 16; refine (sPlace_b t r (lokB k) _ H2.out _).mono ?_; rintro e w3 ⟨rfl, hb⟩; have B3 := Lib.hid (stepB B2.out hb); clear hb; have ce4 := (KP.out _ B3.out).2.2.2.2.2.2.2.2.2.2.2.2.1)
    | (have _t := TLc; refine wpList_load_cells_g (by rfl) 47 (.tmp 24) rfl ⟨f, 4, none⟩ rfl [.int .i64 (modL k), .int .i64 (modH k)] _ (cellsOf2 (KP.out _ B3.out).2.2.2.2.1 (KP.out _ B3.out).2.2.2.2.2.1) Tryd.underlying47 rfl (info_span2 _ _) ?_; clear _t TLc)
    | (go_at_call 15; have _t := TCb; clear _t TCb; refine (sHas_b (modL k) (modH k) m _ H3.out _).mono ?_; rintro e w4 ⟨rfl, hb⟩; have B4 := Lib.hid (stepB B3.out hb); clear hb; have ce5 := (KP.out _ B4.out).2.2.2.2.2.2.2.2.2.2.2.2.2))
  go_ret
  exact ⟨rfl, stepB BV.out B4.out⟩
set_option maxRecDepth 100000 in
set_option maxHeartbeats 2000000 in
theorem sOk_4 (k c t r m p : Int) (h0 : kdB k = true) (h1 : insB (cliL k) (cliH k) c = true) (h2 : placeE (lokB k) t r = true) (h3 : insB (modL k) (modH k) m = true) (h4 : insB 0 (picH k) p = false) (w : World) :
    Calls Tryd.prog 7 #[entV k c t r m p] w fun e w' => e = .returned (.bool false) ∧ Below w.heap.size w w' := by
  have TLa := True.intro
  have TLb := True.intro
  have TLc := True.intro
  have TLd := True.intro
  have TCa := True.intro
  have TCb := True.intro
  have TCc := True.intro
  have HK := Lib.hid h0
  have H1 := Lib.hid h1
  have H2 := Lib.hid h2
  have H3 := Lib.hid h3
  have H4 := Lib.hid h4
  clear h0 h1 h2 h3 h4
  go_enter Tryd.func7, Tryd.ntmps7
  go_upto_region 2 with (go_at_call 14; refine (named_any k _).mono ?_; rintro e w1 ⟨rfl, hb⟩; rw [named_kd]; have B1 := Lib.hid hb; clear hb)
  have BE := Lib.hid ((Blk.new w 30 #[.int .i64 (k), .int .i64 (c), .int .i64 (t), .int .i64 (r), .int .i64 (m), .int .i64 (p)]).here B1.out |>.alloc (.cells #[.bool (kdB k), .bool (lokB k), .int .i64 (cliL k), .int .i64 (cliH k), .int .i64 (modL k), .int .i64 (modH k), .int .i64 (0), .int .i64 (picH k)] 49))
  have BF := Lib.hid (Blk.new w1 49 #[.bool (kdB k), .bool (lokB k), .int .i64 (cliL k), .int .i64 (cliH k), .int .i64 (modL k), .int .i64 (modH k), .int .i64 (0), .int .i64 (picH k)])
  have BV := Lib.hid (stepA (stepB (Joins.below_alloc1 w (.cells #[.int .i64 (k), .int .i64 (c), .int .i64 (t), .int .i64 (r), .int .i64 (m), .int .i64 (p)] 30)) B1.out) (.cells #[.bool (kdB k), .bool (lokB k), .int .i64 (cliL k), .int .i64 (cliH k), .int .i64 (modL k), .int .i64 (modH k), .int .i64 (0), .int .i64 (picH k)] 49))
  generalize w.heap.size = e at BE ⊢
  generalize w1.alloc _ = V at BE BF BV ⊢
  generalize w1.heap.size = f at BF ⊢
  have KP := Lib.hid (show ∀ Y, Below V.heap.size V Y → Y.cell? ⟨f, 0, none⟩ = some (.bool (kdB k)) ∧ Y.cell? ⟨f, 1, none⟩ = some (.bool (lokB k)) ∧ Y.cell? ⟨f, 2, none⟩ = some (.int .i64 (cliL k)) ∧ Y.cell? ⟨f, 3, none⟩ = some (.int .i64 (cliH k)) ∧ Y.cell? ⟨f, 4, none⟩ = some (.int .i64 (modL k)) ∧ Y.cell? ⟨f, 5, none⟩ = some (.int .i64 (modH k)) ∧ Y.cell? ⟨f, 6, none⟩ = some (.int .i64 (0)) ∧ Y.cell? ⟨f, 7, none⟩ = some (.int .i64 (picH k)) ∧ Y.cell? ⟨e, 0, none⟩ = some (.int .i64 (k)) ∧ Y.cell? ⟨e, 1, none⟩ = some (.int .i64 (c)) ∧ Y.cell? ⟨e, 2, none⟩ = some (.int .i64 (t)) ∧ Y.cell? ⟨e, 3, none⟩ = some (.int .i64 (r)) ∧ Y.cell? ⟨e, 4, none⟩ = some (.int .i64 (m)) ∧ Y.cell? ⟨e, 5, none⟩ = some (.int .i64 (p)) from fun Y hy => ⟨(BF.out.here hy).cell 0, (BF.out.here hy).cell 1, (BF.out.here hy).cell 2, (BF.out.here hy).cell 3, (BF.out.here hy).cell 4, (BF.out.here hy).cell 5, (BF.out.here hy).cell 6, (BF.out.here hy).cell 7, (BE.out.here hy).cell 0, (BE.out.here hy).cell 1, (BE.out.here hy).cell 2, (BE.out.here hy).cell 3, (BE.out.here hy).cell 4, (BE.out.here hy).cell 5⟩)
  have BR := Lib.hid (Below.refl V.heap.size V)
  have cf0 := (KP.out _ BR.out).1
  have ce1 := (KP.out _ BR.out).2.2.2.2.2.2.2.2.2.1
  have HK2 := HK.out
  go_wp2_with (first
    | (have _t := TLa; refine wpList_load_cells_g (by rfl) 47 (.tmp 10) rfl ⟨f, 2, none⟩ rfl [.int .i64 (cliL k), .int .i64 (cliH k)] _ (cellsOf2 (KP.out _ BR.out).2.2.1 (KP.out _ BR.out).2.2.2.1) Tryd.underlying47 rfl (info_span2 _ _) ?_; clear _t TLa)
    | (go_at_call 15; have _t := TCa; clear _t TCa; refine (sHas_b (cliL k) (cliH k) c _ H1.out _).mono ?_; rintro e w2 ⟨rfl, hb⟩; have B2 := Lib.hid hb; clear hb; have cf1 := (KP.out _ B2.out).2.1)
    | (have _t := TLb; refine wpList_load_cells_g (by rfl) 27 (.tmp 17) rfl ⟨e, 2, none⟩ rfl [.int .i64 (t), .int .i64 (r)] _ (cellsOf2 (KP.out _ B2.out).2.2.2.2.2.2.2.2.2.2.1 (KP.out _ B2.out).2.2.2.2.2.2.2.2.2.2.2.1) Tryd.underlying27 rfl (info_res2 _ _) ?_; clear _t TLb)
    | (go_at_call 16; refine (sPlace_b t r (lokB k) _ H2.out _).mono ?_; rintro e w3 ⟨rfl, hb⟩; have B3 := Lib.hid (stepB B2.out hb); clear hb; have ce4 := (KP.out _ B3.out).2.2.2.2.2.2.2.2.2.2.2.2.1)
    | (have _t := TLc; refine wpList_load_cells_g (by rfl) 47 (.tmp 24) rfl ⟨f, 4, none⟩ rfl [.int .i64 (modL k), .int .i64 (modH k)] _ (cellsOf2 (KP.out _ B3.out).2.2.2.2.1 (KP.out _ B3.out).2.2.2.2.2.1) Tryd.underlying47 rfl (info_span2 _ _) ?_; clear _t TLc)
    | (go_at_call 15; have _t := TCb; clear _t TCb; refine (sHas_b (modL k) (modH k) m _ H3.out _).mono ?_; rintro e w4 ⟨rfl, hb⟩; have B4 := Lib.hid (stepB B3.out hb); clear hb; have ce5 := (KP.out _ B4.out).2.2.2.2.2.2.2.2.2.2.2.2.2)
    | (have _t := TLd; refine wpList_load_cells_g (by rfl) 47 (.tmp 31) rfl ⟨f, 6, none⟩ rfl [.int .i64 (0), .int .i64 (picH k)] _ (cellsOf2 (KP.out _ B4.out).2.2.2.2.2.2.1 (KP.out _ B4.out).2.2.2.2.2.2.2.1) Tryd.underlying47 rfl (info_span2 _ _) ?_; clear _t TLd)
    | (go_at_call 15; have _t := TCc; clear _t TCc; refine (sHas_b 0 (picH k) p _ H4.out _).mono ?_; rintro e w5 ⟨rfl, hb⟩; have B5 := Lib.hid (stepB B4.out hb); clear hb))
  go_ret
  exact ⟨rfl, stepB BV.out B5.out⟩
set_option maxRecDepth 100000 in
set_option maxHeartbeats 2000000 in
theorem sOk_5 (k c t r m p : Int) (h0 : kdB k = true) (h1 : insB (cliL k) (cliH k) c = true) (h2 : placeE (lokB k) t r = true) (h3 : insB (modL k) (modH k) m = true) (h4 : insB 0 (picH k) p = true) (w : World) :
    Calls Tryd.prog 7 #[entV k c t r m p] w fun e w' => e = .returned (.bool true) ∧ Below w.heap.size w w' := by
  have TLa := True.intro
  have TLb := True.intro
  have TLc := True.intro
  have TLd := True.intro
  have TCa := True.intro
  have TCb := True.intro
  have TCc := True.intro
  have HK := Lib.hid h0
  have H1 := Lib.hid h1
  have H2 := Lib.hid h2
  have H3 := Lib.hid h3
  have H4 := Lib.hid h4
  clear h0 h1 h2 h3 h4
  go_enter Tryd.func7, Tryd.ntmps7
  go_upto_region 2 with (go_at_call 14; refine (named_any k _).mono ?_; rintro e w1 ⟨rfl, hb⟩; rw [named_kd]; have B1 := Lib.hid hb; clear hb)
  have BE := Lib.hid ((Blk.new w 30 #[.int .i64 (k), .int .i64 (c), .int .i64 (t), .int .i64 (r), .int .i64 (m), .int .i64 (p)]).here B1.out |>.alloc (.cells #[.bool (kdB k), .bool (lokB k), .int .i64 (cliL k), .int .i64 (cliH k), .int .i64 (modL k), .int .i64 (modH k), .int .i64 (0), .int .i64 (picH k)] 49))
  have BF := Lib.hid (Blk.new w1 49 #[.bool (kdB k), .bool (lokB k), .int .i64 (cliL k), .int .i64 (cliH k), .int .i64 (modL k), .int .i64 (modH k), .int .i64 (0), .int .i64 (picH k)])
  have BV := Lib.hid (stepA (stepB (Joins.below_alloc1 w (.cells #[.int .i64 (k), .int .i64 (c), .int .i64 (t), .int .i64 (r), .int .i64 (m), .int .i64 (p)] 30)) B1.out) (.cells #[.bool (kdB k), .bool (lokB k), .int .i64 (cliL k), .int .i64 (cliH k), .int .i64 (modL k), .int .i64 (modH k), .int .i64 (0), .int .i64 (picH k)] 49))
  generalize w.heap.size = e at BE ⊢
  generalize w1.alloc _ = V at BE BF BV ⊢
  generalize w1.heap.size = f at BF ⊢
  have KP := Lib.hid (show ∀ Y, Below V.heap.size V Y → Y.cell? ⟨f, 0, none⟩ = some (.bool (kdB k)) ∧ Y.cell? ⟨f, 1, none⟩ = some (.bool (lokB k)) ∧ Y.cell? ⟨f, 2, none⟩ = some (.int .i64 (cliL k)) ∧ Y.cell? ⟨f, 3, none⟩ = some (.int .i64 (cliH k)) ∧ Y.cell? ⟨f, 4, none⟩ = some (.int .i64 (modL k)) ∧ Y.cell? ⟨f, 5, none⟩ = some (.int .i64 (modH k)) ∧ Y.cell? ⟨f, 6, none⟩ = some (.int .i64 (0)) ∧ Y.cell? ⟨f, 7, none⟩ = some (.int .i64 (picH k)) ∧ Y.cell? ⟨e, 0, none⟩ = some (.int .i64 (k)) ∧ Y.cell? ⟨e, 1, none⟩ = some (.int .i64 (c)) ∧ Y.cell? ⟨e, 2, none⟩ = some (.int .i64 (t)) ∧ Y.cell? ⟨e, 3, none⟩ = some (.int .i64 (r)) ∧ Y.cell? ⟨e, 4, none⟩ = some (.int .i64 (m)) ∧ Y.cell? ⟨e, 5, none⟩ = some (.int .i64 (p)) from fun Y hy => ⟨(BF.out.here hy).cell 0, (BF.out.here hy).cell 1, (BF.out.here hy).cell 2, (BF.out.here hy).cell 3, (BF.out.here hy).cell 4, (BF.out.here hy).cell 5, (BF.out.here hy).cell 6, (BF.out.here hy).cell 7, (BE.out.here hy).cell 0, (BE.out.here hy).cell 1, (BE.out.here hy).cell 2, (BE.out.here hy).cell 3, (BE.out.here hy).cell 4, (BE.out.here hy).cell 5⟩)
  have BR := Lib.hid (Below.refl V.heap.size V)
  have cf0 := (KP.out _ BR.out).1
  have ce1 := (KP.out _ BR.out).2.2.2.2.2.2.2.2.2.1
  have HK2 := HK.out
  go_wp2_with (first
    | (have _t := TLa; refine wpList_load_cells_g (by rfl) 47 (.tmp 10) rfl ⟨f, 2, none⟩ rfl [.int .i64 (cliL k), .int .i64 (cliH k)] _ (cellsOf2 (KP.out _ BR.out).2.2.1 (KP.out _ BR.out).2.2.2.1) Tryd.underlying47 rfl (info_span2 _ _) ?_; clear _t TLa)
    | (go_at_call 15; have _t := TCa; clear _t TCa; refine (sHas_b (cliL k) (cliH k) c _ H1.out _).mono ?_; rintro e w2 ⟨rfl, hb⟩; have B2 := Lib.hid hb; clear hb; have cf1 := (KP.out _ B2.out).2.1)
    | (have _t := TLb; refine wpList_load_cells_g (by rfl) 27 (.tmp 17) rfl ⟨e, 2, none⟩ rfl [.int .i64 (t), .int .i64 (r)] _ (cellsOf2 (KP.out _ B2.out).2.2.2.2.2.2.2.2.2.2.1 (KP.out _ B2.out).2.2.2.2.2.2.2.2.2.2.2.1) Tryd.underlying27 rfl (info_res2 _ _) ?_; clear _t TLb)
    | (go_at_call 16; refine (sPlace_b t r (lokB k) _ H2.out _).mono ?_; rintro e w3 ⟨rfl, hb⟩; have B3 := Lib.hid (stepB B2.out hb); clear hb; have ce4 := (KP.out _ B3.out).2.2.2.2.2.2.2.2.2.2.2.2.1)
    | (have _t := TLc; refine wpList_load_cells_g (by rfl) 47 (.tmp 24) rfl ⟨f, 4, none⟩ rfl [.int .i64 (modL k), .int .i64 (modH k)] _ (cellsOf2 (KP.out _ B3.out).2.2.2.2.1 (KP.out _ B3.out).2.2.2.2.2.1) Tryd.underlying47 rfl (info_span2 _ _) ?_; clear _t TLc)
    | (go_at_call 15; have _t := TCb; clear _t TCb; refine (sHas_b (modL k) (modH k) m _ H3.out _).mono ?_; rintro e w4 ⟨rfl, hb⟩; have B4 := Lib.hid (stepB B3.out hb); clear hb; have ce5 := (KP.out _ B4.out).2.2.2.2.2.2.2.2.2.2.2.2.2)
    | (have _t := TLd; refine wpList_load_cells_g (by rfl) 47 (.tmp 31) rfl ⟨f, 6, none⟩ rfl [.int .i64 (0), .int .i64 (picH k)] _ (cellsOf2 (KP.out _ B4.out).2.2.2.2.2.2.1 (KP.out _ B4.out).2.2.2.2.2.2.2.1) Tryd.underlying47 rfl (info_span2 _ _) ?_; clear _t TLd)
    | (go_at_call 15; have _t := TCc; clear _t TCc; refine (sHas_b 0 (picH k) p _ H4.out _).mono ?_; rintro e w5 ⟨rfl, hb⟩; have B5 := Lib.hid (stepB B4.out hb); clear hb))
  go_ret
  exact ⟨rfl, stepB BV.out B5.out⟩
theorem sOk_any (k c t r m p : Int) (b : Bool) (hb : okE k c t r m p = b) (w : World) :
    Calls Tryd.prog 7 #[entV k c t r m p] w fun e w' => e = .returned (.bool b) ∧ Below w.heap.size w w' := by
  subst hb
  unfold okE
  cases h0 : kdB k
  · exact sOk_0 k c t r m p h0 w
  cases h1 : insB (cliL k) (cliH k) c
  · exact sOk_1 k c t r m p h0 h1 w
  cases h2 : placeE (lokB k) t r
  · exact sOk_2 k c t r m p h0 h1 h2 w
  cases h3 : insB (modL k) (modH k) m
  · exact sOk_3 k c t r m p h0 h1 h2 h3 w
  cases h4 : insB 0 (picH k) p
  · exact sOk_4 k c t r m p h0 h1 h2 h3 h4 w
  · exact sOk_5 k c t r m p h0 h1 h2 h3 h4 w
end Go.Proofs.YtggfadiahacgeaaDoor
