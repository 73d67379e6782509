/- The contract of Lost. -/
import Derived.Test.YtadnlannbafjpaaGreatQCliQ
import Derived.Test.YtadnlannbafjpaaGreatQCliC
import Derived.Test.YtadnlannbafjpaaGreatQFlats
import Derived.Test.YtadnlannbafjpaaGreatQTxM
namespace Go.Proofs.YtadnlannbafjpaaGreat
open Go.RowKit
set_option linter.unusedVariables false
set_option linter.unusedSimpArgs false
theorem info_nine : (Tryz.prog.info? 112).map (·.size) = some 27 := by kernel_rfl
theorem info_one : (Tryz.prog.info? 111).map (·.size) = some 3 := by kernel_rfl
theorem index_cl {G : List Cl} (hG : G.length = 9) {k : Nat} (hk : k < 9) (W : World) : (Instr.index 112 (.agg (cls G).toArray) (.int .i64 (k : Int))).run Tryz.prog W = .ok (.agg #[.int .i64 (clAt G k).tx, .bool (clAt G k).dead, .int .i64 (clAt G k).since]) W := by
 have hse : (sizeOf 111).run Tryz.prog W = .ok 3 W := by
   obtain ⟨i, hi, he⟩ := Option.map_eq_some_iff.1 info_one
   simp [sizeOf, typeInfo, hi, he]
 have hkl : k < G.length := by omega
 have hx : ((cls G).toArray).extract (k * 3) (k * 3 + 3) = #[.int .i64 (clAt G k).tx, .bool (clAt G k).dead, .int .i64 (clAt G k).since] := by
   have h0 := fm_get clv_length (L := G) (i := k) (k := 0) hkl (by omega)
   have h1 := fm_get clv_length (L := G) (i := k) (k := 1) hkl (by omega)
   have h2 := fm_get clv_length (L := G) (i := k) (k := 2) hkl (by omega)
   rw [← clAt_get hkl] at h0 h1 h2
   apply Array.ext_getElem?
   intro i
   have hl : (cls G).length = 27 := by rw [cls_length, hG]
   rw [Array.getElem?_extract]
   by_cases hi : i < 3
   · rw [if_pos (by simp [hl]; omega), List.getElem?_toArray]
     match i, hi with
     | 0, _ => exact h0
     | 1, _ => exact h1
     | 2, _ => exact h2
   · rw [if_neg (by simp [hl]; omega), Array.getElem?_eq_none (by simp; omega)]
 unfold Instr.index
 simp only [asIntOf, Sem.run_bind, Sem.run_pure, Result.andThen_ok, run_underlying Tryz.underlying112]
 rw [if_pos (by omega)]
 simp only [Sem.run_bind, hse, Result.andThen_ok, Int.toNat_natCast]
 have hx2 := congrArg Array.toList hx
 simp at hx2
 simp [part, isAgg, run_underlying Tryz.underlying111, hse, hx2]
theorem lostL_full {now span : Int} {L : List Cl} : lostL now span (full L) = lostL now span L := by
 have h0 : isLost now span noCl = false := by simp [isLost, noCl]
 unfold lostL full
 rw [List.filter_cons, h0, List.filter_append, List.filter_replicate, h0]
 simp
def lostR (now span : Int) (L : List Cl) : List Int := srt (lostIds now span L)
theorem lostR_len {now span : Int} {L : List Cl} : (lostR now span L).length ≤ L.length := by
 unfold lostR
 rw [srt_len]
 unfold lostIds
 split
 · exact lostL_length _ _ _
 · simp
section
variable {p n : Nat} {L : List Cl}
set_option maxRecDepth 100000 in
set_option maxHeartbeats 1000000 in
theorem cLost_none (now span : Int) (w : World) (hg : ¬ (isT now = true ∧ 0 ≤ span)) : Calls Tryz.prog 63 #[.pointer (some ⟨p, 0, none⟩), .int .i64 now, .int .i64 span] w fun e w' => e = .returned (.slice none 0 0) ∧ w = w' := by
 cases ht : isT now with
 | false =>
   have HT := Lib.hid ht
   clear ht hg
   go_enter Tryz.func63, Tryz.ntmps63
   go_wp2_with (go_at_call 97; refine (cTime_any _ _).mono ?_; rintro e w' ⟨rfl, rfl⟩; rw [HT.out])
   go_ret
   exact ⟨rfl, rfl⟩
 | true =>
   have HT := Lib.hid ht
   have d0 : decide (span < 0) = true := decide_eq_true (by have h9 : ¬ 0 ≤ span := fun h => hg ⟨ht, h⟩; omega)
   clear ht hg
   go_enter Tryz.func63, Tryz.ntmps63
   go_wp2_with (go_at_call 97; refine (cTime_any _ _).mono ?_; rintro e w' ⟨rfl, rfl⟩; rw [HT.out])
   go_ret
   exact ⟨rfl, rfl⟩
set_option maxRecDepth 100000 in
set_option maxHeartbeats 4000000 in
theorem cLost_some (now span : Int) (w : World) (h : Cli w p n L) (ht : isT now = true) (hs : 0 ≤ span) : Calls Tryz.prog 63 #[.pointer (some ⟨p, 0, none⟩), .int .i64 now, .int .i64 span] w fun e w' => ∃ v,
   e = .returned v ∧ w'.ownsRow w.heap.size 3 1 v (lostR now span L).length (i64s (lostR now span L)) ∧ Below w.heap.size w w' := by
 have hR : lostR now span L = srt (lostL now span (full L)) := by unfold lostR lostIds; rw [if_pos ⟨ht, hs⟩, lostL_full]
 rw [hR]
 have hG := full_length h.len8
 have hcell : ∀ j v, (cls (full L))[j]? = some v → w.cell? ((⟨p, 1, none⟩ : Addr).add j) = some v := by
   have h1 := h.box.cells_at (l := .int .i64 (n : Int) :: cls (full L)) 1 27 (by simp [cls_length, hG])
   rw [List.drop_succ_cons, List.drop_zero, List.take_of_length_le (by rw [cls_length, hG]; omega)] at h1
   exact h1
 have hok : ∀ k, k < 9 → 0 ≤ (clAt (full L) k).tx ∧ ((clAt (full L) k).dead = true → isT (clAt (full L) k).since = true) := by
   have hz : 0 ≤ noCl.tx ∧ (noCl.dead = true → isT noCl.since = true) := ⟨Int.le_refl _, fun hd => by cases hd⟩
   intro k hk
   match k, hk with
   | 0, _ => exact hz
   | i + 1, hi =>
     rw [full_at h.len8 (by omega)]
     by_cases hl : i < L.length
     · exact ⟨(h.ok.tx _ (clAt_mem hl)).1, h.ok.since _ (clAt_mem hl)⟩
     · have e : clAt L i = noCl := by unfold clAt; rw [List.getD, List.getElem?_eq_none (by omega)]; rfl
       rw [e]; exact hz
 have hsz : (Tryz.prog.info? 112).map (·.size) = some (cls (full L)).length := by rw [cls_length, hG]; exact info_nine
 have hT := isT_iff.1 ht
 have TI := Lib.hid ht
 have d0 : decide (span < 0) = false := decide_eq_false (by omega)
 generalize full L = G at hG hcell hok hsz ⊢
 have HC := Lib.hid hcell
 have HG := Lib.hid hG
 have HO := Lib.hid hok
 have HZ := Lib.hid hsz
 have HI := Lib.hid (fun (k : Nat) (hk : k < 9) W => index_cl hG hk W)
 clear h hR hcell hG hok hsz ht hs
 go_enter Tryz.func63, Tryz.ntmps63
 go_wp2_with (first
   | (go_at_call 97; refine (cTime_any _ _).mono ?_; rintro e w' ⟨rfl, rfl⟩; rw [TI.out])
   | (refine wpList_load_cells rfl 112 (.tmp 23) rfl ⟨p, 1, none⟩ rfl (cls G) _ HC.out Tryz.underlying112 rfl HZ.out ?_))
 go_loopw [7, 25] (fun v i W => ∃ k : Nat, k ≤ 9 ∧ i = .int .i64 (k : Int) ∧ W.ownsRow w.heap.size 3 1 v (lostL now span (G.take k)).length (i64s (lostL now span (G.take k))) ∧ Below w.heap.size w W) (fun _ i _ => 9 - (RowKit.intOf i).toNat)
 case atStart => exact ⟨0, Nat.zero_le _, rfl, World.ownsRow_nil _ _ _ _, Below.refl _ _⟩
 case round =>
   obtain ⟨k, hk, rfl, hrow, hbel⟩ := hrel
   have HR := Lib.hid hrow
   have HX := Lib.hid hbel
   clear hrow hbel
   rename World => W
   by_cases hlt : k < 9
   · have d1 : decide ((k : Int) < 9) = true := decide_eq_true (by omega)
     have hkl : k < G.length := by rw [HG.out]; exact hlt
     have HT := Lib.hid (lostL_succ now span hkl)
     rw [← clAt_get hkl] at HT
     have HD := Lib.hid (show (lostL now span (G.take k)).length ≤ 9 from Nat.le_trans (lostL_length _ _ _) (by rw [List.length_take]; omega))
     obtain ⟨hx0, hx1⟩ := HO.out k hlt
     have hix := HI.out k hlt
     have hsz := HX.out.size
     generalize clAt G k = x at hx0 hx1 HT hix
     obtain ⟨xt, xd, xs⟩ := x
     simp only at hx0 hx1 HT hix
     generalize lostL now span (G.take k) = M at HR HD HT
     have X1 := Lib.hid (Blk.new W 111 #[.int .i64 xt, .bool xd, .int .i64 xs])
     have R1 := Lib.hid (HR.out.alloc (.cells #[.int .i64 xt, .bool xd, .int .i64 xs] 111))
     have B1 := Lib.hid (HX.out.alloc HX.out.size (.cells #[.int .i64 xt, .bool xd, .int .i64 xs] 111))
     by_cases hp : xt = 0
     · subst hp
       have HT2 := Lib.hid (HT.out.trans (by rw [if_neg (by simp [isLost]), List.append_nil]))
       clear HT hx1
       go_wp2_with fail
       go_roundw
       case rel => exact ⟨k + 1, by omega, by go_num, by rw [HT2.out]; exact R1.out, B1.out⟩
       case measure => simp [RowKit.intOf]; omega
     · have e1 : (xt != 0) = true := by simpa using hp
       have hp0 : 0 < xt := by omega
       cases xd with
       | false =>
         have HT2 := Lib.hid (HT.out.trans (by rw [if_neg (by simp [isLost]), List.append_nil]))
         clear HT hx1
         go_wp2_with fail
         go_roundw
         case rel => exact ⟨k + 1, by omega, by go_num, by rw [HT2.out]; exact R1.out, B1.out⟩
         case measure => simp [RowKit.intOf]; omega
       | true =>
         have hx2 := isT_iff.1 (hx1 rfl)
         have hwr : IntKind.i64.wrap (now - xs) = now - xs := IntWalk.i64_in _ (by omega)
         by_cases hd : span ≤ now - xs
         · have d3 : decide (span ≤ now - xs) = true := decide_eq_true hd
           have HT2 := Lib.hid (HT.out.trans (by rw [if_pos (by simp [isLost, hp0, hd])]))
           clear HT hx1
           go_wp2_with (at_builtin
                        refine wpList_app_new _ rfl (.tmp 43) (.tmp 46) _ rfl Tryz.underlying59 w.heap.size _ M.length M rfl (R1.out.alloc _) [xt] 1 1 _ _ rfl _ rfl (by simp) rfl (by have := HD.out; omega) (by simp; omega) ?_
                        intro v9 w9 hown9 hg9 _
                        have O9 := Lib.hid hown9
                        have B9 := Lib.hid (below_own (B1.out.alloc B1.out.size _) hg9 (R1.out.alloc _) (Nat.le_refl _) (by simp; omega))
                        clear hown9 hg9)
           go_roundw
           case rel => exact ⟨k + 1, by omega, by go_num, by rw [HT2.out, List.length_append]; exact O9.out, B9.out⟩
           case measure => simp [RowKit.intOf]; omega
         · have d3 : decide (span ≤ now - xs) = false := decide_eq_false hd
           have HT2 := Lib.hid (HT.out.trans (by rw [if_neg (by simp [isLost]; omega), List.append_nil]))
           clear HT hx1
           go_wp2_with fail
           go_roundw
           case rel => exact ⟨k + 1, by omega, by go_num, by rw [HT2.out]; exact R1.out, B1.out⟩
           case measure => simp [RowKit.intOf]; omega
   · obtain rfl : k = 9 := by omega
     rw [List.take_of_length_le (by rw [HG.out]; exact Nat.le_refl _)] at HR
     have HD := Lib.hid (show (lostL now span G).length ≤ 9 from Nat.le_trans (lostL_length _ _ _) (by rw [HG.out]; exact Nat.le_refl _))
     go_wp2_with (go_at_call 107; refine (sort_own _ HR.out (by have := HD.out; omega)).mono ?_; rintro e w' ⟨rfl, ho, htn⟩; have O9 := Lib.hid ho; have T9 := Lib.hid htn; clear ho htn)
     go_ret
     refine ⟨_, rfl, by rw [srt_len]; exact O9.out, HX.out.trans (T9.out.below (fun k hk e => ?_) HX.out.size)⟩
     obtain ⟨cur, hh, hb⟩ := own_heap HR.out k e
     omega
theorem cLost_any (now span : Int) (w : World) (h : Cli w p n L) : Calls Tryz.prog 63 #[.pointer (some ⟨p, 0, none⟩), .int .i64 now, .int .i64 span] w fun e w' => ∃ v,
   e = .returned v ∧ w'.ownsRow w.heap.size 3 1 v (lostR now span L).length (i64s (lostR now span L)) ∧ Below w.heap.size w w' := by
 by_cases hg : isT now = true ∧ 0 ≤ span
 · exact cLost_some now span w h hg.1 hg.2
 · refine (cLost_none now span w hg).mono ?_
   rintro e w' ⟨rfl, rfl⟩
   have e0 : lostR now span L = [] := by unfold lostR lostIds; rw [if_neg hg]; simp [srt]
   rw [e0]
   exact ⟨_, rfl, World.ownsRow_nil _ _ _ _, Below.refl _ _⟩
end
structure Cfg where
 sh : Int
 pb : Bool
 le : Int
 re : Int
 sl : Int
 qu : Int
 fl : Int
structure Co where
 cf : Cfg
 cl : List Cl
 tm : Int
 txs : List Tr
 lf : List Int
 ev : List (List Int)
structure Pt where
 p : Nat
 vt : Value
 vl : Value
 ve : Value
 L : List (Tr × Sl)
def coc (c : Co) (n : Nat) (P : Pt) : Array Value := #[.int .i64 c.cf.sh, .bool c.cf.pb, .int .i64 c.cf.le, .int .i64 c.cf.re, .int .i64 c.cf.sl, .int .i64 c.cf.qu, .int .i64 c.cf.fl, .pointer (some ⟨P.p, 0, none⟩), .int .i64 (n : Int), .int .i64 c.tm, P.vt, P.vl, P.ve]
def trv (q : Tr × Sl) : List Value := (trc q.1 q.2).toList
theorem trv_len (q : Tr × Sl) : (trv q).length = 13 := rfl
def rowT (L : List (Tr × Sl)) : List Value := L.flatMap trv
theorem rowT_len (L : List (Tr × Sl)) : (rowT L).length = L.length * 13 := fm_length trv_len L
def SlB (s : Sl) (k : Nat) : Prop := s.t.ownBlock = some k ∨ s.v.ownBlock = some k ∨ s.k.ownBlock = some k ∨ s.g.ownBlock = some k
def Pt.tur (P : Pt) (g : Nat) (k : Nat) : Prop := k = g ∨ k = P.p ∨ P.vt.ownBlock = some k ∨ P.vl.ownBlock = some k ∨ P.ve.ownBlock = some k
def Pt.own (P : Pt) (g : Nat) (k : Nat) : Prop := P.tur g k ∨ ∃ q ∈ P.L, SlB q.2 k
abbrev TxR (w : World) (v : Value) (L : List (Tr × Sl)) : Prop := w.ownsRow 0 62 13 v L.length (rowT L)
abbrev EvR (w : World) (v : Value) (l : List (List Int)) : Prop := w.ownsRow 0 65 7 v l.length (ints l.flatten)
structure CoR (w : World) (n : Nat) (c : Co) (P : Pt) : Prop where
 cli : Cli w P.p n c.cl
 txr : TxR w P.vt P.L
 txs : P.L.map Prod.fst = c.txs
 sls : ∀ q ∈ P.L, Tm w 0 q.1 q.2
 lfr : NumR w 0 P.vl c.lf
 evr : EvR w P.ve c.ev
 ap : ∀ q ∈ P.L, ∀ k, P.vl.ownBlock = some k → ¬ SlB q.2 k
structure CoM (w : World) (g n : Nat) (c : Co) (P : Pt) : Prop where
 box : Blk w g 79 (coc c n P)
 r : CoR w n c P
theorem SlB.mem {s : Sl} {w : World} {B : Nat} {x : Tr} (h : Tm w B x s) {k : Nat} (hk : SlB s k) : ∃ cur t, w.heap[k]? = some (.cells cur t (0, 0)) ∧ (t = 3 ∨ t = 149) := by
 rcases hk with hk | hk | hk | hk
 · obtain ⟨cur, hh, _⟩ := own_heap h.t k hk; exact ⟨_, _, hh, .inl rfl⟩
 · obtain ⟨cur, hh, _⟩ := own_heap h.v k hk; exact ⟨_, _, hh, .inl rfl⟩
 · obtain ⟨cur, hh, _⟩ := own_heap h.k k hk; exact ⟨_, _, hh, .inl rfl⟩
 · obtain ⟨cur, hh, _⟩ := own_heap h.g k hk; exact ⟨_, _, hh, .inr rfl⟩
theorem SlB.lt {s : Sl} {w : World} {B : Nat} {x : Tr} (h : Tm w B x s) {k : Nat} (hk : SlB s k) : B ≤ k ∧ k < w.heap.size := by
 rcases hk with hk | hk | hk | hk
 · exact own_ge h.t hk
 · exact own_ge h.v hk
 · exact own_ge h.k hk
 · exact own_ge h.g hk
theorem Tm.offS {S : Nat → Prop} {w w' : World} {B : Nat} {x : Tr} {s : Sl} (h : Tm w B x s) (ht : Turn S w w') (hn : ∀ k, SlB s k → ¬ S k) : Tm w' B x s :=
 ⟨own_turn h.t ht fun k hk => hn k (.inl hk), own_turn h.v ht fun k hk => hn k (.inr (.inl hk)), own_turn h.k ht fun k hk => hn k (.inr (.inr (.inl hk))), own_turn h.g ht fun k hk => hn k (.inr (.inr (.inr hk)))⟩
theorem SlB.ne {s : Sl} {w : World} {B : Nat} {x : Tr} (h : Tm w B x s) {b : Nat} {t : TypeId} {cs : Array Value} {f : Nat × Nat} (hb : w.heap[b]? = some (.cells cs t f)) (h1 : t ≠ 3) (h2 : t ≠ 149) {k : Nat} (hk : SlB s k) : k ≠ b := by
 obtain ⟨cur, t', hh, e⟩ := SlB.mem h hk
 refine heap_ne hh hb ?_
 rcases e with rfl | rfl
 · exact fun e => h1 e.symm
 · exact fun e => h2 e.symm
theorem row_ne {w : World} {B n size b : Nat} {e t : TypeId} {v : Value} {xs : List Value} {cs : Array Value} {f : Nat × Nat} (h : w.ownsRow B e size v n xs) (hb : w.heap[b]? = some (.cells cs t f)) (he : e ≠ t) {k : Nat} (hk : v.ownBlock = some k) : k ≠ b := by
 obtain ⟨cur, hh, _⟩ := own_heap h k hk
 exact heap_ne hh hb he
section
variable {w w' : World} {g n : Nat} {c : Co} {P : Pt}
theorem CoR.lt (h : CoR w n c P) {k : Nat} (hk : k = P.p ∨ P.vt.ownBlock = some k ∨ P.vl.ownBlock = some k ∨ P.ve.ownBlock = some k ∨ ∃ q ∈ P.L, SlB q.2 k) : k < w.heap.size := by
 rcases hk with rfl | hk | hk | hk | ⟨q, hq, hk⟩
 · exact h.cli.lt
 · exact (own_ge h.txr hk).2
 · exact (own_ge h.lfr hk).2
 · exact (own_ge h.evr hk).2
 · exact (hk.lt (h.sls q hq)).2
theorem CoM.lt (h : CoM w g n c P) {k : Nat} (hk : P.own g k) : k < w.heap.size := by
 rcases hk with (rfl | hk | hk | hk | hk) | hk
 · exact h.box.lt
 · exact h.r.lt (.inl hk)
 · exact h.r.lt (.inr (.inl hk))
 · exact h.r.lt (.inr (.inr (.inl hk)))
 · exact h.r.lt (.inr (.inr (.inr (.inl hk))))
 · exact h.r.lt (.inr (.inr (.inr (.inr hk))))
theorem CoR.turn {S : Nat → Prop} (h : CoR w n c P) (ht : Turn S w w') (hn : ∀ k, (k = P.p ∨ P.vt.ownBlock = some k ∨ P.vl.ownBlock = some k ∨ P.ve.ownBlock = some k ∨ ∃ q ∈ P.L, SlB q.2 k) → ¬ S k) : CoR w' n c P :=
 { cli := h.cli.turn ht (hn _ (.inl rfl))
   txr := own_turn h.txr ht fun k hk => hn k (.inr (.inl hk))
   txs := h.txs
   sls := fun q hq => (h.sls q hq).offS ht fun k hk => hn k (.inr (.inr (.inr (.inr ⟨q, hq, hk⟩))))
   lfr := own_turn h.lfr ht fun k hk => hn k (.inr (.inr (.inl hk)))
   evr := own_turn h.evr ht fun k hk => hn k (.inr (.inr (.inr (.inl hk))))
   ap := h.ap }
theorem CoM.turn {S : Nat → Prop} (h : CoM w g n c P) (ht : Turn S w w') (hn : ∀ k, P.own g k → ¬ S k) : CoM w' g n c P :=
 ⟨h.box.turn ht (hn _ (.inl (.inl rfl))), h.r.turn ht fun k hk => hn k (by
   rcases hk with hk | hk | hk | hk | hk
   · exact .inl (.inr (.inl hk))
   · exact .inl (.inr (.inr (.inl hk)))
   · exact .inl (.inr (.inr (.inr (.inl hk))))
   · exact .inl (.inr (.inr (.inr (.inr hk))))
   · exact .inr hk)⟩
theorem CoR.step (h : CoR w n c P) (hb : Below w.heap.size w w') : CoR w' n c P := h.turn (Turn.of_below hb (S := fun _ => False)) (fun _ _ => id)
theorem CoM.step (h : CoM w g n c P) (hb : Below w.heap.size w w') : CoM w' g n c P := ⟨h.box.here hb, h.r.step hb⟩
theorem CoR.offB (h : CoR w n c P) {b : Nat} {t : TypeId} {cs : Array Value} {f : Nat × Nat} (hb : w.heap[b]? = some (.cells cs t f)) (h1 : t ≠ 114) (h2 : t ≠ 62) (h3 : t ≠ 3) (h4 : t ≠ 65) (h5 : t ≠ 149)
   {k : Nat} (hk : k = P.p ∨ P.vt.ownBlock = some k ∨ P.vl.ownBlock = some k ∨ P.ve.ownBlock = some k ∨ ∃ q ∈ P.L, SlB q.2 k) : k ≠ b := by
 rcases hk with rfl | hk | hk | hk | ⟨q, hq, hk⟩
 · exact heap_ne h.cli.box hb (fun e => h1 e.symm)
 · exact row_ne h.txr hb (fun e => h2 e.symm) hk
 · exact row_ne h.lfr hb (fun e => h3 e.symm) hk
 · exact row_ne h.evr hb (fun e => h4 e.symm) hk
 · exact hk.ne (h.sls q hq) hb h3 h5
theorem CoR.chE (h : CoR w n c P) {ve' : Value} {ev' : List (List Int)} (ht : Turn (fun k => P.ve.ownBlock = some k) w w') (hr : EvR w' ve' ev') : CoR w' n { c with ev := ev' } { P with ve := ve' } := by
 have key : ∀ k, P.ve.ownBlock = some k → ∃ cur, w.heap[k]? = some (.cells cur 65 (0, 0)) := fun k hk => by obtain ⟨cur, hh, _⟩ := own_heap h.evr k hk; exact ⟨cur, hh⟩
 exact { cli := h.cli.turn ht (fun e => by obtain ⟨cur, hh⟩ := key _ e; exact heap_ne h.cli.box hh (by decide) rfl)
         txr := own_turn h.txr ht fun k hk e => by obtain ⟨cur, hh⟩ := key _ e; exact row_ne h.txr hh (by decide) hk rfl
         txs := h.txs
         sls := fun q hq => (h.sls q hq).offS ht fun k hk e => by obtain ⟨cur, hh⟩ := key _ e; exact hk.ne (h.sls q hq) hh (by decide) (by decide) rfl
         lfr := own_turn h.lfr ht fun k hk e => by obtain ⟨cur, hh⟩ := key _ e; exact row_ne h.lfr hh (by decide) hk rfl
         evr := hr
         ap := h.ap }
theorem CoR.chT (h : CoR w n c P) {vt' : Value} {L' : List (Tr × Sl)} (ht : Turn (fun k => P.vt.ownBlock = some k) w w') (hr : TxR w' vt' L') (hs : ∀ q ∈ L', q ∈ P.L ∨ (Tm w 0 q.1 q.2 ∧ ∀ k, P.vl.ownBlock = some k → ¬ SlB q.2 k)) : CoR w' n { c with txs := L'.map Prod.fst } { P with vt := vt', L := L' } := by
 have key : ∀ k, P.vt.ownBlock = some k → ∃ cur, w.heap[k]? = some (.cells cur 62 (0, 0)) := fun k hk => by obtain ⟨cur, hh, _⟩ := own_heap h.txr k hk; exact ⟨cur, hh⟩
 have hT : ∀ q ∈ L', Tm w 0 q.1 q.2 := fun q hq => (hs q hq).elim (fun e => h.sls q e) (fun e => e.1)
 exact { cli := h.cli.turn ht (fun e => by obtain ⟨cur, hh⟩ := key _ e; exact heap_ne h.cli.box hh (by decide) rfl)
         txr := hr
         txs := rfl
         sls := fun q hq => (hT q hq).offS ht fun k hk e => by obtain ⟨cur, hh⟩ := key _ e; exact hk.ne (hT q hq) hh (by decide) (by decide) rfl
         lfr := own_turn h.lfr ht fun k hk e => by obtain ⟨cur, hh⟩ := key _ e; exact row_ne h.lfr hh (by decide) hk rfl
         evr := own_turn h.evr ht fun k hk e => by obtain ⟨cur, hh⟩ := key _ e; exact row_ne h.evr hh (by decide) hk rfl
         ap := fun q hq k hk => (hs q hq).elim (fun e => h.ap q e k hk) (fun e => e.2 k hk) }
theorem CoR.chC (h : CoR w n c P) {cl' : List Cl} (ht : Turn (fun k => k = P.p) w w') (hr : Cli w' P.p n cl') : CoR w' n { c with cl := cl' } P := by
 have hp := h.cli.box
 exact { cli := hr
         txr := own_turn h.txr ht fun k hk => row_ne h.txr hp (by decide) hk
         txs := h.txs
         sls := fun q hq => (h.sls q hq).offS ht fun k hk => hk.ne (h.sls q hq) hp (by decide) (by decide)
         lfr := own_turn h.lfr ht fun k hk => row_ne h.lfr hp (by decide) hk
         evr := own_turn h.evr ht fun k hk => row_ne h.evr hp (by decide) hk
         ap := h.ap }
theorem CoR.chL (h : CoR w n c P) {vl' : Value} {lf' : List Int} (ht : Turn (fun k => P.vl.ownBlock = some k) w w') (hr : NumR w' 0 vl' lf') (ha : ∀ q ∈ P.L, ∀ k, vl'.ownBlock = some k → ¬ SlB q.2 k) : CoR w' n { c with lf := lf' } { P with vl := vl' } := by
 have key : ∀ k, P.vl.ownBlock = some k → ∃ cur, w.heap[k]? = some (.cells cur 3 (0, 0)) := fun k hk => by obtain ⟨cur, hh, _⟩ := own_heap h.lfr k hk; exact ⟨cur, hh⟩
 exact { cli := h.cli.turn ht (fun e => by obtain ⟨cur, hh⟩ := key _ e; exact heap_ne h.cli.box hh (by decide) rfl)
         txr := own_turn h.txr ht fun k hk e => by obtain ⟨cur, hh⟩ := key _ e; exact row_ne h.txr hh (by decide) hk rfl
         txs := h.txs
         sls := fun q hq => (h.sls q hq).offS ht fun k hk e => h.ap q hq k e hk
         lfr := hr
         evr := own_turn h.evr ht fun k hk e => by obtain ⟨cur, hh⟩ := key _ e; exact row_ne h.evr hh (by decide) hk rfl
         ap := ha }
end
structure CoS (w w' : World) (g n : Nat) (P : Pt) (N : Nat → Prop) (c' : Co) (P' : Pt) : Prop where
 m : CoM w' g n c' P'
 turn : Turn (P.tur g) w w'
 tur : ∀ k, P'.tur g k → P.tur g k ∨ w.heap.size ≤ k
 own : ∀ k, P'.own g k → P.own g k ∨ w.heap.size ≤ k ∨ N k
theorem CoS.below {w w' : World} {g n : Nat} {c : Co} {P : Pt} {N : Nat → Prop} (h : CoM w g n c P) (hb : Below w.heap.size w w') : CoS w w' g n P N c P :=
 ⟨h.step hb, Turn.of_below hb, fun _ h => .inl h, fun _ h => .inl h⟩
theorem CoS.trans {w w' w'' : World} {g n : Nat} {P P' P'' : Pt} {N N' : Nat → Prop} {c' c'' : Co} (h : CoS w w' g n P N c' P') (h' : CoS w' w'' g n P' N' c'' P'') : CoS w w'' g n P (fun k => N k ∨ N' k) c'' P'' :=
 { m := h'.m
   turn := h.turn.trans h'.turn fun k hk hm => (h.tur k hm).resolve_right (by omega)
   tur := fun k hk => (h'.tur k hk).elim (fun e => h.tur k e) (fun e => .inr (Nat.le_trans h.turn.size e))
   own := fun k hk => by
     rcases h'.own k hk with e | e | e
     · rcases h.own k e with e | e | e
       · exact .inl e
       · exact .inr (.inl e)
       · exact .inr (.inr (.inl e))
     · exact .inr (.inl (Nat.le_trans h.turn.size e))
     · exact .inr (.inr (.inr e)) }
theorem CoS.fresh {w w' : World} {g n : Nat} {P P' : Pt} {N N' : Nat → Prop} {c' : Co} (h : CoS w w' g n P N c' P') (hN : ∀ k, N k → P.own g k ∨ w.heap.size ≤ k ∨ N' k) : CoS w w' g n P N' c' P' :=
 ⟨h.m, h.turn, h.tur, fun k hk => by
   rcases h.own k hk with e | e | e
   · exact .inl e
   · exact .inr (.inl e)
   · exact hN k e⟩
theorem own_offM {w w' : World} {g n : Nat} {c : Co} {P : Pt} {B m size : Nat} {e : TypeId} {v : Value} {xs : List Value} (h : w.ownsRow B e size v m xs) (hc : CoM w g n c P) (ht : Turn (P.tur g) w w')
   (h0 : e ≠ 79) (h1 : e ≠ 114) (h2 : e ≠ 62) (h3 : e ≠ 3) (h4 : e ≠ 65) : w'.ownsRow B e size v m xs :=
 own_turn h ht fun k hk hm => by
   rcases hm with rfl | rfl | hm | hm | hm
   · exact row_ne h hc.box h0 hk rfl
   · exact row_ne h hc.r.cli.box h1 hk rfl
   · obtain ⟨cur, hh, _⟩ := own_heap hc.r.txr k hm; exact row_ne h hh h2 hk rfl
   · obtain ⟨cur, hh, _⟩ := own_heap hc.r.lfr k hm; exact row_ne h hh h3 hk rfl
   · obtain ⟨cur, hh, _⟩ := own_heap hc.r.evr k hm; exact row_ne h hh h4 hk rfl
/-! ### whole elements stored into rows -/
def lsp : List Value → Nat → List Value → List Value
 | xs, _, [] => xs
 | xs, o, v :: r => lsp (xs.set o v) (o + 1) r
theorem own_setCells {B r n m c size : Nat} {t : TypeId} : ∀ (vs : List Value) (o : Nat) {w : World} {xs : List Value}, w.ownsRow B t size (.slice (some ⟨r, 0, none⟩) n c) m xs → (w.setCells r o vs).ownsRow B t size (.slice (some ⟨r, 0, none⟩) n c) m (lsp xs o vs)
 | [], _, _, _, h => h
 | v :: vs, o, w, xs, h => own_setCells vs (o + 1) (own_setV h o v)
theorem lsp_right : ∀ (vs xs ys : List Value) (o : Nat), lsp (xs ++ ys) (xs.length + o) vs = xs ++ lsp ys o vs
 | [], _, _, _ => rfl
 | v :: vs, xs, ys, o => by
   rw [lsp, lsp, List.set_append_right _ _ (by omega), show xs.length + o - xs.length = o by omega, show xs.length + o + 1 = xs.length + (o + 1) by omega, lsp_right vs xs _ (o + 1)]
theorem lsp_left : ∀ (vs pre xs ys : List Value), xs.length = vs.length → lsp (pre ++ (xs ++ ys)) pre.length vs = pre ++ (vs ++ ys)
 | [], pre, xs, ys, h => by rw [List.length_eq_zero_iff.1 h]; rfl
 | v :: vs, pre, [], ys, h => by simp at h
 | v :: vs, pre, x :: xs, ys, h => by
   have := lsp_left vs (pre ++ [v]) xs ys (by simpa using h)
   rw [lsp, List.set_append_right _ _ (Nat.le_refl _), Nat.sub_self]
   simp at this ⊢
   exact this
theorem lsp_fm {α : Type} {enc : α → List Value} {n : Nat} (hn : ∀ a, (enc a).length = n) : ∀ (L : List α) (i : Nat) (a : α), i < L.length → lsp (L.flatMap enc) (i * n) (enc a) = (L.set i a).flatMap enc
 | [], i, a, h => by simp at h
 | b :: r, 0, a, _ => by
   have := lsp_left (enc a) [] (enc b) (r.flatMap enc) (by rw [hn, hn])
   rw [List.flatMap_cons, Nat.zero_mul, List.set_cons_zero, List.flatMap_cons]
   simpa using this
 | b :: r, i + 1, a, h => by
   rw [List.flatMap_cons, List.set_cons_succ, List.flatMap_cons, show (i + 1) * n = (enc b).length + i * n by rw [hn, Nat.succ_mul]; omega, lsp_right, lsp_fm hn r i a (by simpa using h)]
theorem TxR.put {w : World} {b i cap : Nat} {L : List (Tr × Sl)} (h : TxR w (.slice (some ⟨b, 0, none⟩) L.length cap) L) (hi : i < L.length) (q : Tr × Sl) : TxR (w.setCells b (i * 13) (trv q)) (.slice (some ⟨b, 0, none⟩) L.length cap) (L.set i q) := by
 have := own_setCells (trv q) (i * 13) h
 rw [show lsp (rowT L) (i * 13) (trv q) = rowT (L.set i q) from lsp_fm trv_len L i q hi] at this
 unfold TxR
 rw [List.length_set]
 exact this
theorem TxR.open {w : World} {v : Value} {L : List (Tr × Sl)} (h : TxR w v L) {i : Nat} (hi : i < L.length) : ∃ b cap, v = .slice (some ⟨b, 0, none⟩) L.length cap ∧ (∀ j u, (trv L[i])[j]? = some u → w.cell? ⟨b, i * 13 + j, none⟩ = some u) ∧ (∀ j, w.frozen? ⟨b, j, none⟩ = false) ∧ b < w.heap.size := by
 rcases h.2 with ⟨_, h0⟩ | ⟨b, cap, cur, rfl, _, hh, _⟩
 · omega
 · refine ⟨b, cap, rfl, fun j u hu => ?_, fun j => own_hot h j, own_lt hh⟩
   have hj : j < 13 := by have := (List.getElem?_eq_some_iff.1 hu).1; rwa [trv_len] at this
   refine own_cell h ?_
   rw [show (rowT L)[i * 13 + j]? = (trv L[i])[j]? from fm_get trv_len hi hj]
   exact hu
theorem TxR.there {w : World} {b cap i : Nat} {L : List (Tr × Sl)} (h : TxR w (.slice (some ⟨b, 0, none⟩) L.length cap) L) (hi : i < L.length) : w.there b (i * 13) 13 := fun j hj => by
 have e : (rowT L)[i * 13 + j]? = (trv L[i])[j]? := fm_get trv_len hi hj
 exact ⟨by rw [own_cell h (by rw [e, List.getElem?_eq_getElem (by rw [trv_len]; exact hj)])]; rfl, own_hot h _⟩
theorem rowT_one {w : World} {L : List (Tr × Sl)} (h : ∀ q ∈ L, Tm w 0 q.1 q.2) : ∀ v ∈ rowT L, v.oneCell' = true := by
 intro v hv
 obtain ⟨q, hq, hv⟩ := List.mem_flatMap.1 hv
 have := (h q hq).one
 rw [Array.all_eq_true'] at this
 exact this v (by simpa [trv] using hv)
end Go.Proofs.YtadnlannbafjpaaGreat
