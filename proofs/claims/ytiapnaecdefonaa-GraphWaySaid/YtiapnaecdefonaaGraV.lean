/- The document's Way. -/
import Derived.Test.YtiapnaecdefonaaGraQ
import Derived.Test.YtiapnaecdefonaaEdgB
import Derived.Deep.LoopGhost
import Derived.Deep.DeepCutAuto
import Derived.Deep.CutRange
namespace Go.Proofs.Ytiapnaecdefonaa
open Go.RowKit
set_option linter.unusedVariables false
set_option linter.unusedSimpArgs false

theorem own_newQ (V : World) {base : Nat} (t : TypeId) (v : Value) (hb : base ≤ V.heap.size) : (V.alloc (.cells #[v] t)).ownsRow base t 1 (.slice (some ⟨V.heap.size, 0, none⟩) 1 1) 1 [v] :=
  ⟨by simp, .inr ⟨_, _, #[v], rfl, hb, Blk.new V t #[v], Nat.le_refl _, by simp only [maxLen]; omega, by simp, by simp⟩⟩
theorem own_noneI (V : World) {base : Nat} (hb : base ≤ V.heap.size) : (V.alloc (.cells #[] 3)).ownsRow base 3 1 (.slice (some ⟨V.heap.size, 0, none⟩) 0 0) 0 (i64s []) :=
  ⟨by simp [i64s], .inr ⟨_, _, #[], rfl, hb, Blk.new V 3 #[], Nat.le_refl _, by simp only [maxLen]; omega, by simp, by simp [i64s]⟩⟩
theorem reads_newVal (V : World) (t : TypeId) (v : Value) : Reads (V.alloc (.cells #[v] t)) (V.heap.size + 1) 1 (some ⟨V.heap.size, 0, none⟩) 1 [v] :=
  ⟨by simp, fun _ => ⟨_, rfl, by simp, fun j u hu => by
    have h1 := (Blk.new V t #[v]).cell j
    have h2 : (⟨V.heap.size, 0, none⟩ : Addr).add j = ⟨V.heap.size, j, none⟩ := by unfold Addr.add; split <;> simp_all
    rw [h2, h1]; simpa using hu⟩⟩
theorem val_cellsQ {w : World} {B n : Nat} {A : Option Addr} {xs : List Value} (h : Reads w B 1 A n xs) (h0 : 0 < n) : ∃ b off, A = some ⟨b, off, none⟩ ∧ b < B ∧ ∀ j u, xs[j]? = some u → w.cell? ⟨b, off + j, none⟩ = some u := by
  obtain ⟨ad, e, hb, hc⟩ := h.2 h0
  have hl : xs.length = n := by have := h.1; omega
  obtain ⟨b, off, sp⟩ := ad
  have hsp : sp = none := World.cell?_spot (hc 0 xs[0] (by rw [List.getElem?_eq_getElem (by omega)]))
  subst hsp
  refine ⟨b, off, e, hb, fun j u hu => ?_⟩
  have := hc j u hu
  rw [← this]
  unfold Addr.add
  split
  · rename_i h; subst h; rfl
  · rfl
theorem reads_drewN {w : World} {B size n : Nat} {A : Option Addr} {xs : List Value} (q : Nat) (h : Reads w B size A n xs) : Reads (w.drewN q) B size A n xs := h
theorem reads_grownN {W W' : World} {B n g : Nat} {row : Option Nat} {xs : List Value} (h : Reads W B 1 (some ⟨g, 0, none⟩) n xs) (hg : W.grownBy W' row) (hne : row ≠ some g) (hl : g < W.heap.size) : Reads W' B 1 (some ⟨g, 0, none⟩) n xs :=
  ⟨h.1, fun h0 => by
    obtain ⟨ad, e, hb, hc⟩ := h.2 h0
    cases e
    exact ⟨_, rfl, hb, fun j u hu => (World.cell?_of_block (by rw [block_of_add]; exact hg.block g hl (fun e => hne e.symm))).trans (hc j u hu)⟩⟩
theorem edge_q {n c B : Nat} {A : Option Addr} {ls : List (List Int)} (x y : Int) (r : Bool) (hr : decide ((x, y) ∈ eds ls) = r) (w : World) (h : EdgM w B A n ls) (hn : n ≤ 1000) :
    Calls Try.prog 26 #[.slice A n c, .int .i64 x, .int .i64 y] w fun e w' => e = .returned (.bool r) ∧ w' = w :=
  (edge_any (c := c) x y w h hn).mono fun e w' ⟨h1, h2⟩ => ⟨by rw [h1, hr], h2.symm⟩
theorem has_q {n c B : Nat} {A : Option Addr} {l : List Int} (x : Int) (r : Bool) (hr : decide (x ∈ l) = r) (w : World) (hn : n ≤ 9223372036854775807) (h : Reads w B 1 A n (i64s l)) :
    Calls Try.prog 27 #[.slice A n c, .int .i64 x] w fun e w' => e = .returned (.bool r) ∧ w' = w :=
  (has_any A n c B l x w hn h).mono fun e w' ⟨h1, h2⟩ => ⟨by rw [h1, hr], h2.symm⟩
theorem info_ints : (Try.prog.info? 25).map (fun i => (i.zero, i.size, i.bytes)) = some (some (.slice none 0 0), 1, 24) := by kernel_rfl
section
variable {w : World} {n : Nat} {A : Option Addr} {ls : List (List Int)} {fr : Int}
set_option maxRecDepth 100000 in
set_option maxHeartbeats 16000000 in
theorem wayR_any {c : Nat} (tt : Int) (w : World) (h : EdgM w w.heap.size A n ls) (hn : n ≤ 200) :
    Calls Try.prog 11 #[.slice A n c, .int .i64 fr, .int .i64 tt] w fun e w' => ∃ v, e = .returned v ∧ (∀ i, (bst (nxt (eds ls)) fr i).row.length ≤ i → w'.ownsRow w.heap.size 3 1 v (wayL (bst (nxt (eds ls)) fr i) tt).length (i64s (wayL (bst (nxt (eds ls)) fr i) tt))) ∧ Below w.heap.size w w' := by
  have hN : (nds (eds ls)).length ≤ 400 := by have := nds_len (eds ls); rw [h.elen] at this; omega
  have HF := Lib.hid (h.fin hn)
  have BL := Lib.hid (fun i => bst_len (F := nxt (eds ls)) (fr := fr) (U := nds (eds ls)) HF.out.sub i)
  have BI := Lib.hid (fun i => binv (nxt (eds ls)) fr i)
  have HH := Lib.hid h
  obtain ⟨i0, hi0, hz0, hz1, hz2⟩ := info_parts info_ints
  clear h
  go_enter Try.func11, Try.ntmps11
  go_wp2_with fail
  refine (nodesR_any (c := c) w HH.out hn).mono ?_
  rintro e w1 ⟨vn, rfl, hrn, hb1⟩
  obtain ⟨An, cn, rfl, hrd, hcn, _⟩ := own_slice hrn
  have RD := Lib.hid hrd
  have B1 := Lib.hid hb1
  have BB := Lib.hid (show Below w1.heap.size w1 ((w1.alloc (.cells #[.int .i64 fr] 3)).alloc (.cells #[.slice (some ⟨w1.heap.size, 0, none⟩) 1 1] 25)) from ((Below.refl _ w1).alloc (Nat.le_refl _) _).alloc (by simp) _)
  have R0 := Lib.hid (own_newQ (w1.alloc (.cells #[.int .i64 fr] 3)) (base := w1.heap.size) 25 (.slice (some ⟨w1.heap.size, 0, none⟩) 1 1) (by simp))
  have R1 := Lib.hid (World.ownsRow.alloc (own_newQ w1 (base := w1.heap.size) 3 (.int .i64 fr) (Nat.le_refl _)) (.cells #[.slice (some ⟨w1.heap.size, 0, none⟩) 1 1] 25))
  clear hrn hb1 hrd
  go_wp2_with fail
  go_loopg [6, 8, 9] 501 (fun gk s6 s8 s9 wr => ∃ (lo : Nat) (ps : List (List Int)) (xs : List Value) (m : List Int), lo + gk = 501 ∧ s6 = .slice none 0 0 ∧ (bst (nxt (eds ls)) fr lo).row = fr :: m ∧ lo + ps.length = (bst (nxt (eds ls)) fr lo).row.length ∧ RowsOk (nxt (eds ls)) fr (bst (nxt (eds ls)) fr lo) lo ps ∧ tt ∉ m ∧
      wr.ownsRow w1.heap.size 25 1 s8 ps.length xs ∧ wr.ownsRow w1.heap.size 3 1 s9 m.length (i64s m) ∧ RowsM wr w1.heap.size (fun q => s9.ownBlock = some q) xs ps ∧ (∀ q, s8.ownBlock = some q → s9.ownBlock ≠ some q) ∧ Below w1.heap.size w1 wr)
  case atStart =>
    refine ⟨0, [[fr]], [.slice (some ⟨w1.heap.size, 0, none⟩) 1 1], [], rfl, rfl, rfl, rfl, RowsOk.start, by simp, ?_, World.ownsRow_nil _ _ _ _, ⟨rfl, fun i hi => ?_⟩, fun q _ hs => by simp [Value.ownBlock] at hs, BB.out⟩
    · have := R0.out; simpa using this
    · have e : i = 0 := by simp at hi; omega
      subst e
      exact ⟨_, rfl, R1.out, fun q hq hs => by simp [Value.ownBlock] at hs⟩
  case round =>
    obtain ⟨lo, ps, xs, m, hlo, rfl, hrow, hlen, hok, hto, hr8, hr9, hrm, hap, hb⟩ := hrel
    rename World => X
    obtain ⟨A8, c8, rfl, hd8, _⟩ := own_slice hr8
    have hlo4 : lo ≤ 401 := by have := BL.out lo; omega
    by_cases hp0 : ps.length = 0
    · have HW := Lib.hid (show ∀ i, (bst (nxt (eds ls)) fr i).row.length ≤ i → wayL (bst (nxt (eds ls)) fr i) tt = [] from fun i hi => by
        have e : bst (nxt (eds ls)) fr i = bst (nxt (eds ls)) fr lo := bst_eq hi (by omega)
        refine way_none ?_
        rw [e]
        have := (BI.out lo).met_iff hrow tt
        cases hx : ((bst (nxt (eds ls)) fr lo).ahead tt).isSome with
        | false => rfl
        | true => exact absurd (this.2 hx) hto)
      have HB := Lib.hid hb
      clear hrow hlen hok hto hr8 hr9 hrm hap hb hd8
      rw [hp0]
      go_wp2_with fail
      go_ret
      exact ⟨nilS, rfl, fun i hi => by rw [HW.out i hi]; exact World.ownsRow_nil _ _ _ _, B1.out.trans (HB.out.mono B1.out.size)⟩
    · have hlp : lo + ps.length ≤ 401 := by have := BL.out lo; omega
      have g0 : decide (0 < ps.length) = true := by simp; omega
      have g0' : decide ((0 : Int) < (ps.length : Int)) = true := by simp; omega
      obtain ⟨A9, c9, rfl, _⟩ := own_slice hr9
      have WP := Lib.hid (show WayP fr tt (bst (nxt (eds ls)) fr lo) (lo + ps.length) m [] from ⟨hrow, by simpa using hlen, MoreOk.nil _ _, hto⟩)
      have WM := Lib.hid (WayM.start hr8 hr9 hrm hap)
      have OK := Lib.hid hok
      have HB := Lib.hid hb
      obtain ⟨G, rfl⟩ : ∃ G, gk = G + 1 := ⟨gk - 1, by omega⟩
      clear hrow hlen hok hto hr8 hr9 hrm hap hb hd8
      go_wp2_with fail
      go_loopw [6, 9, 10, 11] (fun s6 s9 s10 s11 wr => ∃ (i : Nat) (m : List Int) (qs : List (List Int)) (ys : List Value), s6 = .slice none 0 0 ∧ s11 = .int .i64 (i : Nat) ∧ i ≤ ps.length ∧ WayP fr tt (bst (nxt (eds ls)) fr (lo + i)) (lo + ps.length) m qs ∧ WayM wr w1.heap.size (.slice A8 ps.length c8) s9 s10 xs ps m ys qs ∧ Below w1.heap.size w1 wr) (fun _ _ _ s11 _ => 1000 - (RowKit.intOf s11).toNat)
      case atStart => exact ⟨0, m, [], [], rfl, rfl, Nat.zero_le _, WP.out, WM.out, HB.out⟩
      case round =>
        clear WP WM HB
        obtain ⟨i, m, qs, ys, rfl, rfl, hi, hwp, hwm, hb⟩ := hrel
        rename World => Y
        have WP := Lib.hid hwp
        have WM := Lib.hid hwm
        have HB := Lib.hid hb
        clear hwp hwm hb
        by_cases hil : i < ps.length
        · have hg := grew_bst (nxt (eds ls)) fr lo i
          obtain ⟨c0, hc0, hr0⟩ := OK.out i hil
          have hc1 := hg.get hc0
          have hr1 : RowOk (nxt (eds ls)) fr (bst (nxt (eds ls)) fr (lo + i)) c0 ps[i] := hr0.grew hg ((BI.out lo).mem.1 (List.mem_of_getElem? hc0))
          have C1 := Lib.hid hc1
          have OK1 := Lib.hid hr1
          have CM := Lib.hid (List.mem_of_getElem? hc1)
          have WA := Lib.hid (show wk (nxt (eds ls)) (nds (eds ls)) fr c0 (bst (nxt (eds ls)) fr (lo + i)) (nds (eds ls)).length = bst (nxt (eds ls)) fr (lo + (i + 1)) from by
            rw [wk_all (nds_ris _) (srt_sorted _) (fun x hx => HF.out.sub _ _ hx), ← Nat.add_assoc, bst_succ C1.out])
          clear hg hc0 hr0 hc1 hr1
          go_wp2_with fail
          go_loopg [6, 9, 10, 12] 501 (fun gk s6 s9 s10 s12 wr => ∃ (k : Nat) (m : List Int) (qs : List (List Int)) (ys : List Value), k + gk = 501 ∧ s6 = .slice none 0 0 ∧ s12 = .int .i64 (k : Nat) ∧ k ≤ (nds (eds ls)).length ∧ WayP fr tt (wk (nxt (eds ls)) (nds (eds ls)) fr c0 (bst (nxt (eds ls)) fr (lo + i)) k) (lo + ps.length) m qs ∧ WayM wr w1.heap.size (.slice A8 ps.length c8) s9 s10 xs ps m ys qs ∧ Below w1.heap.size w1 wr)
          case atStart => exact ⟨0, m, qs, ys, rfl, rfl, rfl, Nat.zero_le _, by rw [wk_zero]; exact WP.out, WM.out, HB.out⟩
          case round =>
            clear WP WM HB
            obtain ⟨k, m, qs, ys, hkg, rfl, rfl, hk, hwp, hwm, hb⟩ := hrel
            rename World => Z
            have WP := Lib.hid hwp
            have WM := Lib.hid hwm
            have HB := Lib.hid hb
            clear hwp hwm hb
            by_cases hkl : k < (nds (eds ls)).length
            · obtain ⟨G2, rfl⟩ : ∃ G2, gk = G2 + 1 := ⟨gk - 1, by omega⟩
              obtain ⟨bn, on, rfl, hbn, hcn2⟩ := int_cells (RD.out.below HB.out) (by omega)
              have kx := hcn2 k hkl
              have KEEP := Lib.hid (show ∀ Y, Below w1.heap.size Z Y → Y.cell? ⟨bn, on + k, none⟩ = some (.int .i64 (gd (nds (eds ls)) k)) from fun Y hy => (hy.cell (p := ⟨bn, on + k, none⟩) hbn).trans kx)
              obtain ⟨Ar, cr, hxi, hrr, hor⟩ := WM.out.rm.at_ hil
              have hpos := OK1.out.pos
              have hlast := OK1.out.last
              have hshort := Nat.le_trans OK1.out.short (BL.out (lo + i))
              obtain ⟨_, _, e8, hrd8, _⟩ := own_slice WM.out.r8
              cases e8
              obtain ⟨b8, o8, rfl, hb8, hc8⟩ := val_cellsQ hrd8 (by omega)
              have k8 := hc8 i _ hxi
              have OKP := Lib.hid (show RowOk (nxt (eds ls)) fr (wk (nxt (eds ls)) (nds (eds ls)) fr c0 (bst (nxt (eds ls)) fr (lo + i)) k) c0 ps[i] from OK1.out.grew (grew_wk _ _ _ _ _ k) ((BI.out (lo + i)).mem.1 CM.out))
              have hm4 : m.length ≤ 401 := by have := wk_met_len (N := nds (eds ls)) (k := k) (BI.out (lo + i)) CM.out HF.out.sub WP.out.row; omega
              generalize ps[i] = p at hrr hpos hlast hshort k8 OKP
              obtain ⟨br, orr, rfl, hbr, hcr⟩ := int_cells hrr hpos
              obtain ⟨L, hL⟩ : ∃ L, p.length = L + 1 := ⟨p.length - 1, by omega⟩
              have kl := hcr L (by omega)
              rw [hL, show L + 1 - 1 = L by omega] at hlast
              rw [hlast] at kl
              rw [hL] at k8 hrr
              have L4 : L ≤ 401 := by omega
              have HRR := Lib.hid hrr
              have PL := Lib.hid hL
              obtain ⟨Ax, cx, e9, hrd9, _⟩ := own_slice WM.out.r9
              cases e9
              have RX := Lib.hid hrd9
              have EZ := Lib.hid (show EdgM Z Z.heap.size A n ls from ((HH.out.below (B1.out.trans (HB.out.mono B1.out.size))).more (Nat.le_trans B1.out.size HB.out.size)))
              have q1 : IntKind.i64.wrap (((L + 1 : Nat) : Int) - 1) = (L : Int) := by rw [show ((L + 1 : Nat) : Int) - 1 = (L : Int) by omega]; exact IntWalk.i64_in _ (by omega)
              have q2 : IntKind.i64.wrap ((L : Int) + 1 - 1) = (L : Int) := by rw [show (L : Int) + 1 - 1 = (L : Int) by omega]; exact IntWalk.i64_in _ (by omega)
              have q3 : (L : Int) + 1 - 1 = (L : Int) := by omega
              have WY := Lib.hid (fun h => wk_yes (F := nxt (eds ls)) (fr := fr) (c := c0) (s := bst (nxt (eds ls)) fr (lo + i)) hkl h)
              have WN := Lib.hid (fun h => wk_no (F := nxt (eds ls)) (fr := fr) (c := c0) (s := bst (nxt (eds ls)) fr (lo + i)) hkl h)
              have MI := Lib.hid (show ∀ y, y ∈ m ↔ ((wk (nxt (eds ls)) (nds (eds ls)) fr c0 (bst (nxt (eds ls)) fr (lo + i)) k).ahead y).isSome = true from ((BI.out (lo + i)).wk (N := nds (eds ls)) CM.out k).met_iff WP.out.row)
              have hsz := HB.out.size
              clear hcn2 hc8 hcr hxi hrr hor hpos hlast hshort hrd8 hrd9 hL hb8 hbr hbn
              generalize gd (nds (eds ls)) k = x at kx KEEP WY WN
              obtain ⟨r, hr⟩ : ∃ r, decide ((c0, x) ∈ eds ls) = r := ⟨_, rfl⟩
              obtain ⟨r2, hr2⟩ : ∃ r2, decide (x ∈ m) = r2 := ⟨_, rfl⟩
              have HR := Lib.hid hr
              have HR2 := Lib.hid hr2
              clear hr hr2
              cases r with
              | false =>
                have WN2 := WN.out (fun h => by have := nxt_mem.1 h; have h2 := HR.out; simp at h2; exact h2 this)
                rw [← WN2] at WP
                clear WN2
                go_wp2_with fail
                go_quiet (first
                  | (go_at_call 26; exact Calls.quiet_of_same (edge_q (n := n) (c := c) c0 x _ HR.out _ (EdgM.drewN EZ.out _) (by omega)))
                  | (go_at_call 27; exact Calls.quiet_of_same (has_q x _ HR2.out _ (by omega) (reads_drewN _ RX.out))))
                go_wp2_with fail
                go_roundg G2
                case rel => exact ⟨k + 1, m, qs, ys, by omega, rfl, by go_num, hkl, WP.out, WayM.drewN _ WM.out, below_drewN HB.out _⟩
                case measure => omega
              | true =>
                have HIN := Lib.hid (show x ∈ nxt (eds ls) c0 from nxt_mem.2 (by have h2 := HR.out; simpa using h2))
                cases r2 with
                | true =>
                  have WY2 := WY.out HIN.out
                  rw [visit_old ((MI.out x).1 (by have h2 := HR2.out; simpa using h2))] at WY2
                  rw [← WY2] at WP
                  clear WY2
                  go_wp2_with fail
                  go_quiet (first
                    | (go_at_call 26; exact Calls.quiet_of_same (edge_q (n := n) (c := c) c0 x _ HR.out _ (EdgM.drewN EZ.out _) (by omega)))
                    | (go_at_call 27; exact Calls.quiet_of_same (has_q x _ HR2.out _ (by omega) (reads_drewN _ RX.out))))
                  go_wp2_with fail
                  go_roundg G2
                  case rel => exact ⟨k + 1, m, qs, ys, by omega, rfl, by go_num, hkl, WP.out, WayM.drewN _ WM.out, below_drewN HB.out _⟩
                  case measure => omega
                | false =>
                  have NM := Lib.hid (show ((wk (nxt (eds ls)) (nds (eds ls)) fr c0 (bst (nxt (eds ls)) fr (lo + i)) k).ahead x).isSome = false from by
                    cases hx : ((wk (nxt (eds ls)) (nds (eds ls)) fr c0 (bst (nxt (eds ls)) fr (lo + i)) k).ahead x).isSome with
                    | false => rfl
                    | true => have h2 := HR2.out; simp at h2; exact absurd ((MI.out x).2 hx) h2)
                  have WY2 := Lib.hid (WY.out HIN.out)
                  have GW := Lib.hid (show Grew (visit fr c0 (wk (nxt (eds ls)) (nds (eds ls)) fr c0 (bst (nxt (eds ls)) fr (lo + i)) k) x) (bst (nxt (eds ls)) fr (lo + (i + 1))) from by rw [← WY2.out, ← WA.out]; exact grew_wk_all (k + 1))
                  go_wp2_with fail
                  go_quiet (first
                    | (go_at_call 26; exact Calls.quiet_of_same (edge_q (n := n) (c := c) c0 x _ HR.out _ (EdgM.drewN EZ.out _) (by omega)))
                    | (go_at_call 27; exact Calls.quiet_of_same (has_q x _ HR2.out _ (by omega) (reads_drewN _ RX.out))))
                  rename_i nq
                  have WMq := Lib.hid (WayM.drewN nq WM.out)
                  have HBq := Lib.hid (below_drewN HB.out nq)
                  have RRq := Lib.hid (reads_drewN nq HRR.out)
                  have KEEPq := Lib.hid (show ∀ Y, Below w1.heap.size (Z.drewN nq) Y → Y.cell? ⟨bn, on + k, none⟩ = some (.int .i64 x) from fun Y hy => KEEP.out Y ((below_drewN (Below.refl _ _) nq).trans hy))
                  have hszq : w1.heap.size ≤ (Z.drewN nq).heap.size := hsz
                  go_upto_region 14 with fail
                  have zeq : (Z.drewN nq).heap.size = Z.heap.size := rfl
                  rw [← zeq] at RRq
                  clear zeq WM HB HRR KEEP RX EZ kx kl k8 hsz
                  generalize Z.drewN nq = V at WMq HBq RRq KEEPq hszq ⊢
                  go_cut [14] from 29 to 86 (fun v wx => wx.ownsRow V.heap.size 3 1 v (L + 2) (i64s (p ++ [x])) ∧ Below V.heap.size V wx)
                  case first =>
                    have KV := Lib.hid (show ∀ Y, Below V.heap.size V Y → Y.cell? ⟨bn, on + k, none⟩ = some (.int .i64 x) from fun Y hy => KEEPq.out Y (hy.mono hszq))
                    refine wp_region_held_drew (S := fun w' => w'.cell? ⟨bn, on + k, none⟩ = some (.int .i64 x)) (by kernel_rfl) (KV.out _ (Below.refl _ _).drew) (fun hHeld => ?_)
                    refine wpAnyH_take (i := 1) (v := ?_) rfl (by kernel_rfl) (by kernel_rfl) (by kernel_rfl) (fun _ _ _ h => h) (Or.inl ⟨by rfl, ?_⟩) (by assumption) ?_
                    rotate_left
                    · (intro w0 hSw; (try dsimp only at hSw); go_simp; try with_reducible rfl)
                    try simp only [List.getElem_toArray, List.getElem_cons_succ, List.getElem_cons_zero, Act.put, List.setIfInBounds_toArray, List.set_cons_zero, List.set_cons_succ]
                    refine wpAnyH_take (i := 3) (v := ?_) rfl (by kernel_rfl) (by kernel_rfl) (by kernel_rfl) (fun _ _ _ h => h) (Or.inl ⟨by rfl, ?_⟩) (by assumption) ?_
                    rotate_left
                    · (intro w0 hSw; (try dsimp only at hSw); go_simp; try with_reducible rfl)
                    try simp only [List.getElem_toArray, List.getElem_cons_succ, List.getElem_cons_zero, Act.put, List.setIfInBounds_toArray, List.set_cons_zero, List.set_cons_succ]
                    refine wpAnyH_take (i := 4) (v := ?_) rfl (by kernel_rfl) (by kernel_rfl) (by kernel_rfl) (fun _ _ _ h => h) (Or.inl ⟨by rfl, ?_⟩) (by assumption) ?_
                    rotate_left
                    · (intro w0 hSw; (try dsimp only at hSw); go_simp; try with_reducible rfl)
                    try simp only [List.getElem_toArray, List.getElem_cons_succ, List.getElem_cons_zero, Act.put, List.setIfInBounds_toArray, List.set_cons_zero, List.set_cons_succ]
                    refine wpAnyH_take (i := 5) (v := ?_) rfl (by kernel_rfl) (by kernel_rfl) (by kernel_rfl) (fun _ _ _ h => h) (Or.inl ⟨by rfl, ?_⟩) (by assumption) ?_
                    rotate_left
                    · (intro w0 hSw; (try dsimp only at hSw); go_simp; try with_reducible rfl)
                    try simp only [List.getElem_toArray, List.getElem_cons_succ, List.getElem_cons_zero, Act.put, List.setIfInBounds_toArray, List.set_cons_zero, List.set_cons_succ]
                    refine wpAnyH_take (i := 6) (v := ?_) rfl (by kernel_rfl) (by kernel_rfl) (by kernel_rfl) (fun _ _ _ h => h) (Or.inl ⟨by rfl, ?_⟩) (by assumption) ?_
                    rotate_left
                    · (intro w0 hSw; (try dsimp only at hSw); go_simp; try with_reducible rfl)
                    try simp only [List.getElem_toArray, List.getElem_cons_succ, List.getElem_cons_zero, Act.put, List.setIfInBounds_toArray, List.set_cons_zero, List.set_cons_succ]
                    refine wpAnyH_ready (rs := [0, 7]) (by kernel_rfl) (by simp) ?_
                    refine AllReadyH.cons rfl (fun K hK => ?_) (AllReadyH.cons rfl (fun K hK => ?_) AllReadyH.nil)
                    · go_simp
                      have Ba := Lib.hid (show Below V.heap.size V ((V.alloc (.cells #[] 3)).drew) from Below.drew (Below.alloc (Below.refl _ _) (Nat.le_refl _) _))
                      have Za := Lib.hid (show ((V.alloc (.cells #[] 3)).drew).heap.size = V.heap.size + 1 from (by simp : (V.alloc (.cells #[] 3)).heap.size = V.heap.size + 1))
                      have Oa := Lib.hid (show ((V.alloc (.cells #[] 3)).drew).ownsRow V.heap.size 3 1 (.slice (some ⟨V.heap.size, 0, none⟩) 0 0) 0 (i64s []) from World.ownsRow.drew (own_noneI V (Nat.le_refl _)))
                      refine hK.out _ _ (KV.out _ Ba.out) (fun hHeld => ?_)
                      clear hK K
                      generalize (V.alloc (.cells #[] 3)).drew = Wa at Ba Za Oa hHeld ⊢
                      refine wpAnyH_ready (rs := [2, 7]) (by kernel_rfl) (by simp) ?_
                      refine AllReadyH.cons rfl (fun K hK => ?_) (AllReadyH.cons rfl (fun K hK => ?_) AllReadyH.nil)
                      · refine step_app_reads _ rfl (.tmp 60) (.tmp 61) _ rfl Try.underlying25 V.heap.size _ 0 [] rfl Oa.out V.heap.size _ (L + 1) cr p rfl (RRq.out.below Ba.out) (by omega) Ba.out.size ?_
                        intro vb Wb hown hg
                        have Bb := Lib.hid (show Below V.heap.size V Wb from Ba.out.grown hg Ba.out.size (fun q hq => ownBlock_ge Oa.out q hq))
                        have Ob := Lib.hid (show Wb.ownsRow V.heap.size 3 1 vb (L + 1) (i64s p) from by simpa using hown)
                        clear hown hg
                        refine hK.out _ _ (KV.out _ Bb.out) (fun hHeld => ?_)
                        clear hK K
                        refine wpAnyH_ready (rs := [7]) (by kernel_rfl) (by simp) ?_
                        refine AllReadyH.cons rfl (fun K hK => ?_) AllReadyH.nil
                        go_simp
                        have Bc := Lib.hid (show Below V.heap.size V (Wb.alloc (.cells #[.int .i64 x] 3)) from Below.alloc Bb.out Bb.out.size _)
                        have Zc := Lib.hid (show (Wb.alloc (.cells #[.int .i64 x] 3)).heap.size = Wb.heap.size + 1 from by simp)
                        have Oc := Lib.hid (show (Wb.alloc (.cells #[.int .i64 x] 3)).ownsRow V.heap.size 3 1 vb (L + 1) (i64s p) from World.ownsRow.alloc Ob.out _)
                        have Nc := Lib.hid (show Reads (Wb.alloc (.cells #[.int .i64 x] 3)) (Wb.heap.size + 1) 1 (some ⟨Wb.heap.size, 0, none⟩) 1 (i64s [x]) from reads_newInts Wb 3 [x])
                        refine hK.out _ _ (KV.out _ Bc.out) (fun hHeld => ?_)
                        clear hK K
                        generalize Wb.alloc (.cells #[.int .i64 x] 3) = Wc at Bc Zc Oc Nc hHeld ⊢
                        refine wpAnyH_ready (rs := [8]) (by kernel_rfl) (by simp) ?_
                        refine AllReadyH.cons rfl (fun K hK => ?_) AllReadyH.nil
                        refine step_app_reads _ rfl (.tmp 62) (.tmp 67) _ rfl Try.underlying25 V.heap.size _ (L + 1) p rfl Oc.out _ _ 1 1 [x] rfl Nc.out (by omega) Bc.out.size ?_
                        intro v9 W9 hown hg
                        have B9 := Lib.hid (show Below V.heap.size V W9 from Bc.out.grown hg Bc.out.size (fun q hq => ownBlock_ge Oc.out q hq))
                        have O9 := Lib.hid (show W9.ownsRow V.heap.size 3 1 v9 (L + 2) (i64s (p ++ [x])) from hown)
                        clear hown hg
                        refine hK.out _ _ (KV.out _ B9.out) (fun hHeld => ?_)
                        clear hK K
                        refine wpAnyH_take (i := 9) (v := ?_) rfl (by kernel_rfl) (by kernel_rfl) (by kernel_rfl) (fun _ _ _ h => h) (Or.inl ⟨by rfl, ?_⟩) (by assumption) ?_
                        rotate_left
                        · (intro w0 hSw; (try dsimp only at hSw); go_simp; try with_reducible rfl)
                        try simp only [List.getElem_toArray, List.getElem_cons_succ, List.getElem_cons_zero, Act.put, List.setIfInBounds_toArray, List.set_cons_zero, List.set_cons_succ]
                        refine wpAnyH_done (by kernel_rfl) ?_ _
                        go_wp2_with fail
                        go_meet
                        exact ⟨O9.out, B9.out⟩
                      · go_simp
                        have Bb := Lib.hid (show Below V.heap.size V (Wa.alloc (.cells #[.int .i64 x] 3)) from Below.alloc Ba.out Ba.out.size _)
                        have Zb := Lib.hid (show (Wa.alloc (.cells #[.int .i64 x] 3)).heap.size = Wa.heap.size + 1 from by simp)
                        have Ob := Lib.hid (show (Wa.alloc (.cells #[.int .i64 x] 3)).ownsRow V.heap.size 3 1 (.slice (some ⟨V.heap.size, 0, none⟩) 0 0) 0 (i64s []) from World.ownsRow.alloc Oa.out _)
                        have Nb := Lib.hid (show Reads (Wa.alloc (.cells #[.int .i64 x] 3)) (Wa.heap.size + 1) 1 (some ⟨Wa.heap.size, 0, none⟩) 1 (i64s [x]) from reads_newInts Wa 3 [x])
                        refine hK.out _ _ (KV.out _ Bb.out) (fun hHeld => ?_)
                        clear hK K
                        generalize Wa.alloc (.cells #[.int .i64 x] 3) = Wb at Bb Zb Ob Nb hHeld ⊢
                        refine wpAnyH_ready (rs := [2]) (by kernel_rfl) (by simp) ?_
                        refine AllReadyH.cons rfl (fun K hK => ?_) AllReadyH.nil
                        refine step_app_reads _ rfl (.tmp 60) (.tmp 61) _ rfl Try.underlying25 V.heap.size _ 0 [] rfl Ob.out V.heap.size _ (L + 1) cr p rfl (RRq.out.below Bb.out) (by omega) Bb.out.size ?_
                        intro vc Wc hown hg
                        have Bc := Lib.hid (show Below V.heap.size V Wc from Bb.out.grown hg Bb.out.size (fun q hq => ownBlock_ge Ob.out q hq))
                        have Oc := Lib.hid (show Wc.ownsRow V.heap.size 3 1 vc (L + 1) (i64s p) from by simpa using hown)
                        have Nc := Lib.hid (reads_grownN Nb.out hg (fun e => by have e2 : some V.heap.size = some Wa.heap.size := e; injection e2 with e2; have := Za.out; omega) (by have := Zb.out; omega))
                        clear hown hg
                        refine hK.out _ _ (KV.out _ Bc.out) (fun hHeld => ?_)
                        clear hK K
                        refine wpAnyH_ready (rs := [8]) (by kernel_rfl) (by simp) ?_
                        refine AllReadyH.cons rfl (fun K hK => ?_) AllReadyH.nil
                        refine step_app_reads _ rfl (.tmp 62) (.tmp 67) _ rfl Try.underlying25 V.heap.size _ (L + 1) p rfl Oc.out _ _ 1 1 [x] rfl Nc.out (by omega) Bc.out.size ?_
                        intro v9 W9 hown hg
                        have B9 := Lib.hid (show Below V.heap.size V W9 from Bc.out.grown hg Bc.out.size (fun q hq => ownBlock_ge Oc.out q hq))
                        have O9 := Lib.hid (show W9.ownsRow V.heap.size 3 1 v9 (L + 2) (i64s (p ++ [x])) from hown)
                        clear hown hg
                        refine hK.out _ _ (KV.out _ B9.out) (fun hHeld => ?_)
                        clear hK K
                        refine wpAnyH_take (i := 9) (v := ?_) rfl (by kernel_rfl) (by kernel_rfl) (by kernel_rfl) (fun _ _ _ h => h) (Or.inl ⟨by rfl, ?_⟩) (by assumption) ?_
                        rotate_left
                        · (intro w0 hSw; (try dsimp only at hSw); go_simp; try with_reducible rfl)
                        try simp only [List.getElem_toArray, List.getElem_cons_succ, List.getElem_cons_zero, Act.put, List.setIfInBounds_toArray, List.set_cons_zero, List.set_cons_succ]
                        refine wpAnyH_done (by kernel_rfl) ?_ _
                        go_wp2_with fail
                        go_meet
                        exact ⟨O9.out, B9.out⟩
                    · go_simp
                      have Ba := Lib.hid (show Below V.heap.size V ((V.alloc (.cells #[.int .i64 x] 3)).drew) from Below.drew (Below.alloc (Below.refl _ _) (Nat.le_refl _) _))
                      have Za := Lib.hid (show ((V.alloc (.cells #[.int .i64 x] 3)).drew).heap.size = V.heap.size + 1 from (by simp : (V.alloc (.cells #[.int .i64 x] 3)).heap.size = V.heap.size + 1))
                      have Na := Lib.hid (show Reads ((V.alloc (.cells #[.int .i64 x] 3)).drew) (V.heap.size + 1) 1 (some ⟨V.heap.size, 0, none⟩) 1 (i64s [x]) from reads_newInts V 3 [x])
                      refine hK.out _ _ (KV.out _ Ba.out) (fun hHeld => ?_)
                      clear hK K
                      generalize (V.alloc (.cells #[.int .i64 x] 3)).drew = Wa at Ba Za Na hHeld ⊢
                      refine wpAnyH_ready (rs := [0]) (by kernel_rfl) (by simp) ?_
                      refine AllReadyH.cons rfl (fun K hK => ?_) AllReadyH.nil
                      go_simp
                      have Bb := Lib.hid (show Below V.heap.size V (Wa.alloc (.cells #[] 3)) from Below.alloc Ba.out Ba.out.size _)
                      have Zb := Lib.hid (show (Wa.alloc (.cells #[] 3)).heap.size = Wa.heap.size + 1 from by simp)
                      have Ob := Lib.hid (show (Wa.alloc (.cells #[] 3)).ownsRow V.heap.size 3 1 (.slice (some ⟨Wa.heap.size, 0, none⟩) 0 0) 0 (i64s []) from own_noneI Wa Ba.out.size)
                      have Nb := Lib.hid (show Reads (Wa.alloc (.cells #[] 3)) (V.heap.size + 1) 1 (some ⟨V.heap.size, 0, none⟩) 1 (i64s [x]) from Na.out.below (Below.alloc (Below.refl _ _) (by have := Za.out; omega) _))
                      refine hK.out _ _ (KV.out _ Bb.out) (fun hHeld => ?_)
                      clear hK K
                      generalize Wa.alloc (.cells #[] 3) = Wb at Bb Zb Ob Nb hHeld ⊢
                      refine wpAnyH_ready (rs := [2]) (by kernel_rfl) (by simp) ?_
                      refine AllReadyH.cons rfl (fun K hK => ?_) AllReadyH.nil
                      refine step_app_reads _ rfl (.tmp 60) (.tmp 61) _ rfl Try.underlying25 V.heap.size _ 0 [] rfl Ob.out V.heap.size _ (L + 1) cr p rfl (RRq.out.below Bb.out) (by omega) Bb.out.size ?_
                      intro vc Wc hown hg
                      have Bc := Lib.hid (show Below V.heap.size V Wc from Bb.out.grown hg Bb.out.size (fun q hq => ownBlock_ge Ob.out q hq))
                      have Oc := Lib.hid (show Wc.ownsRow V.heap.size 3 1 vc (L + 1) (i64s p) from by simpa using hown)
                      have Nc := Lib.hid (reads_grownN Nb.out hg (fun e => by have e2 : some Wa.heap.size = some V.heap.size := e; injection e2 with e2; have := Za.out; omega) (by have := Zb.out; have := Za.out; omega))
                      clear hown hg
                      refine hK.out _ _ (KV.out _ Bc.out) (fun hHeld => ?_)
                      clear hK K
                      refine wpAnyH_ready (rs := [8]) (by kernel_rfl) (by simp) ?_
                      refine AllReadyH.cons rfl (fun K hK => ?_) AllReadyH.nil
                      refine step_app_reads _ rfl (.tmp 62) (.tmp 67) _ rfl Try.underlying25 V.heap.size _ (L + 1) p rfl Oc.out _ _ 1 1 [x] rfl Nc.out (by omega) Bc.out.size ?_
                      intro v9 W9 hown hg
                      have B9 := Lib.hid (show Below V.heap.size V W9 from Bc.out.grown hg Bc.out.size (fun q hq => ownBlock_ge Oc.out q hq))
                      have O9 := Lib.hid (show W9.ownsRow V.heap.size 3 1 v9 (L + 2) (i64s (p ++ [x])) from hown)
                      clear hown hg
                      refine hK.out _ _ (KV.out _ B9.out) (fun hHeld => ?_)
                      clear hK K
                      refine wpAnyH_take (i := 9) (v := ?_) rfl (by kernel_rfl) (by kernel_rfl) (by kernel_rfl) (fun _ _ _ h => h) (Or.inl ⟨by rfl, ?_⟩) (by assumption) ?_
                      rotate_left
                      · (intro w0 hSw; (try dsimp only at hSw); go_simp; try with_reducible rfl)
                      try simp only [List.getElem_toArray, List.getElem_cons_succ, List.getElem_cons_zero, Act.put, List.setIfInBounds_toArray, List.set_cons_zero, List.set_cons_succ]
                      refine wpAnyH_done (by kernel_rfl) ?_ _
                      go_wp2_with fail
                      go_meet
                      exact ⟨O9.out, B9.out⟩
                  case rest =>
                    obtain ⟨hv, hb2⟩ := hcut
                    obtain ⟨Av, cv, rfl, hrv, _⟩ := own_slice hv
                    have HV := Lib.hid hv
                    have HB2 := Lib.hid hb2
                    have kx := KEEPq.out wc (hb2.mono hszq)
                    have PX := Lib.hid (show (p ++ [x]).length = L + 2 from by rw [List.length_append, PL.out]; rfl)
                    have hs2 := hb2.size
                    clear hv hb2 hrv
                    by_cases htx : x = tt
                    · have g1 : (x == tt) = true := by simpa using htx
                      have LG := Lib.hid (show ∀ j, (bst (nxt (eds ls)) fr j).row.length ≤ j → wayL (bst (nxt (eds ls)) fr j) tt = p ++ [x] from fun j hj => by
                        rw [← htx]
                        exact way_found hj (visit_some fr c0 _ x) (OKP.out.longer HIN.out NM.out) GW.out)
                      clear htx
                      go_wp2_with fail
                      go_ret
                      refine ⟨_, rfl, fun j hj => ?_, B1.out.trans ((HBq.out.trans (HB2.out.mono hszq)).mono B1.out.size)⟩
                      rw [LG.out j hj, PX.out]
                      exact own_less HV.out (by have := B1.out.size; omega)
                    · have g1 : (x == tt) = false := by simpa using htx
                      have WP2 := Lib.hid (WP.out.visit OKP.out HIN.out NM.out htx)
                      rw [← WY2.out] at WP2
                      have R92 := Lib.hid (own_turn WMq.out.r9 (Turn.of_below HB2.out (S := fun _ => False)) (fun _ _ => id))
                      have R102 := Lib.hid (own_turn WMq.out.r10 (Turn.of_below HB2.out (S := fun _ => False)) (fun _ _ => id))
                      have TOK := Lib.hid True.intro
                      have hq4 : qs.length ≤ 401 := by have h1 := WP.out.len; have h2 := ((BI.out (lo + i)).wk (N := nds (eds ls)) CM.out k).row; have h3 := WP.out.row; rw [h3] at h1; simp at h1; omega
                      clear htx WP WY2 OKP
                      go_wp2_with (first
                        | (at_builtin; have _t := TOK
                           refine wpList_app_new _ rfl (.tmp 76) (.tmp 81) _ rfl Try.underlying25 w1.heap.size _ m.length m rfl (R92.out.alloc _) [x] 1 1 _ _ rfl _ rfl (by first | rfl | simp) rfl (by omega) (by simp; omega) ?_
                           intro v9 w9 hown9 hg9 hv9
                           have O9 := Lib.hid hown9
                           have G9 := Lib.hid hg9
                           have V9 := Lib.hid hv9
                           have R103 := Lib.hid (own_turn (own_turn R102.out (Turn.of_below (S := fun _ => False) (Joins.below_alloc1 _ (.cells #[.int .i64 x] 3))) (fun _ _ => id)) ((Turn.refl (fun q => (Value.slice Ax m.length cx).ownBlock = some q) _).grown hg9 (fun q hq _ => hq)) (fun q hq hs => WMq.out.ap q hq hs))
                           have hs9 := hg9.size
                           clear hown9 hg9 hv9 TOK)
                        | (at_builtin
                           refine wpList_append_any _ rfl (.tmp 83) (.tmp 85) _ rfl w1.heap.size 25 i0 _ 1 24 Try.underlying53 hi0 hz0 hz1 hz2 rfl (by omega) _ qs.length ys rfl (R103.out.alloc _) (w9.heap.size + 1) (some ⟨w9.heap.size, 0, none⟩) 1 1 [.slice Av (L + 2) cv] rfl (reads_newVal w9 25 (.slice Av (L + 2) cv)) (by simp [Value.oneCell']) (by simp only [maxLen]; omega) (by omega) (by simp at hs9 ⊢; omega) ?_
                           intro v8 w8 hown8 hg8 hv8
                           have O8 := Lib.hid hown8
                           have G8 := Lib.hid hg8
                           have V8 := Lib.hid hv8
                           clear hown8 hg8 hv8))
                      go_roundg G2
                      case rel =>
                        refine ⟨k + 1, m ++ [x], qs ++ [p ++ [x]], ys ++ [.slice Av (L + 2) cv], by omega, rfl, by go_num, hkl, WP2.out, WayM.step WMq.out hszq HB2.out (by rw [PX.out]; exact HV.out) G9.out (by rw [List.length_append]; exact O9.out) V9.out G8.out (by rw [List.length_append]; exact O8.out) V8.out, ?_⟩
                        exact ((HBq.out.trans (HB2.out.mono hszq)).alloc (by omega) _ |>.grown G9.out (by simp; omega) (fun q hq => ownBlock_ge WMq.out.r9 q hq)) |>.alloc (by simp at hs9; omega) _ |>.grown G8.out (by simp at hs9 ⊢; omega) (fun q hq => ownBlock_ge WMq.out.r10 q hq)
                      case measure => omega
            · obtain rfl : k = (nds (eds ls)).length := by omega
              rw [WA.out] at WP
              go_wp2_with fail
              go_roundw
              case rel => exact ⟨i + 1, m, qs, ys, rfl, by go_num, hil, WP.out, WM.out, HB.out⟩
              case measure => simp [RowKit.intOf]; omega
        · obtain rfl : i = ps.length := by omega
          obtain ⟨A0, c0, rfl, _⟩ := own_slice WM.out.r10
          go_wp2_with fail
          go_roundg (501 - (lo + ps.length))
          case rel => exact ⟨lo + ps.length, qs, ys, m, by omega, rfl, WP.out.row, WP.out.len, WP.out.more.rows (by omega), WP.out.to_, WM.out.r10, WM.out.r9, WM.out.rm2.to (fun q _ hs => .inl hs), WM.out.ap, HB.out⟩
          case measure => omega
end
end Go.Proofs.Ytiapnaecdefonaa
