/- A coordinator: whatever comes of a transaction. -/
import Derived.Test.YtadnlannbafjpaaGreatQCoZc
import Derived.Lib.SliceRun
namespace Go.Proofs.YtadnlannbafjpaaGreat
open Go.RowKit
set_option linter.unusedVariables false
set_option linter.unusedSimpArgs false
def abtC (c : Co) (x : Tr) (i : Nat) (r : Int) : Co × List (List Int) := if (abtL x r).2.2 = 0 then ((becL c (abtL x r).1 i).1, (abtL x r).2.1) else (c, [])
def comesL (c : Co) (x : Tr) (m : List Int) (i : Nat) : Co × List (List Int) :=
 if fld m 0 = 2 then (if (ansL x m).2.2 = 0 then ({ c with txs := c.txs.set i (ansL x m).1, ev := c.ev ++ [[3, 0, x.tx, x.a0, x.a1, fld m 7, fld m 8]] }, []) else (c, [])) else
 if fld m 0 = 3 then (if (ansL x m).2.2 = 0 then ({ c with txs := c.txs.set i (ansL x m).1, ev := c.ev ++ [[4, 0, x.tx, x.a0, x.a1, 0, fld m 8]] }, []) else (c, [])) else
 if fld m 0 = 5 then (if (votL x m).2.2 = 0 then ((becL c (votL x m).1 i).1, (votL x m).2.1) else (c, [])) else
 if fld m 0 = 7 then (if (ackL x m).2.2 = 0 then ({ c with txs := c.txs.set i (ackL x m).1 }, []) else (c, [])) else
 if fld m 0 = 9 then abtC c x i 5 else
 if fld m 0 = 10 then (if c.cf.pb = true ∨ x.st ≠ 1 ∨ ((eL c.txs (fld m 9)).st ≠ 1 ∧ (eL c.txs (fld m 9)).st ≠ 2) then (c, []) else abtC c x i 3) else (c, [])
section
variable {g n : Nat} {c : Co} {P : Pt}
def OkP (w : World) (g n : Nat) (P : Pt) (r : Co × List (List Int)) (e : Ending) (w' : World) : Prop := ∃ u, e = .returned u ∧ MsgR w' w.heap.size u r.2 ∧ ∃ P', CoS w w' g n P (fun _ => False) r.1 P'
theorem OkP.nil {w : World} (h : CoM w g n c P) {e : Ending} {w' : World} (h2 : e = .returned (.slice none 0 0) ∧ Below w.heap.size w w') : OkP w g n P (c, []) e w' :=
 ⟨_, h2.1, World.ownsRow_nil _ _ _ _, _, CoS.below h h2.2⟩
theorem OkP.nils {w : World} {e : Ending} {w' : World} {c' : Co} (h2 : e = .returned (.slice none 0 0) ∧ ∃ P', CoS w w' g n P (fun _ => False) c' P') : OkP w g n P (c', []) e w' :=
 ⟨_, h2.1, World.ownsRow_nil _ _ _ _, h2.2⟩
theorem res3 {r : Res3} (h : r.2.2 = 0) : r = (r.1, r.2.1, 0) := by obtain ⟨a, b, d⟩ := r; simp only at h; subst h; rfl
theorem abtL3 {x : Tr} (h : x.st = 1) {r : Int} (h1 : 1 ≤ r) (h5 : r ≤ 5) : (abtL x r).2.2 = 0 := by
 unfold abtL
 rw [if_neg (by omega), if_neg (by unfold decided; simp; omega)]
theorem comes_any (x : Tr) (s : Sl) (m : List Int) (i : Nat) (w : World) (h : CoM w g n c P) (hi : i < P.L.length) (hl : P.L.length ≤ 1000) (hev : c.ev.length ≤ 90000) (hT : Tm w 0 x s) (hS : Short x) (hm : m.length = 28) (hx : x.tx = (i : Int) + 1) (ht : Shs x.tch) (hv : Shs x.vts) (ha : Shs x.acks) (hk : 1 ≤ fld m 0 ∧ fld m 0 ≤ 10) :
   Calls Tryz.prog 61 #[.pointer (some ⟨g, 0, none⟩), .agg (trc x s), .agg (mc m)] w (OkP w g n P (comesL c x m i)) := by
 unfold comesL
 by_cases h2 : fld m 0 = 2
 · rw [if_pos h2]
   by_cases hc : (ansL x m).2.2 = 0
   · rw [if_pos hc]; exact (comes_gra_ok x s m i w h hi hl hev hT hS hm hx h2 _ _ (res3 hc) _ rfl).mono fun e w' q => OkP.nils q
   · rw [if_neg hc]; exact (comes_gra_err x s m i w h hi hl hev hT hS hm hx h2 _ _ _ hc rfl).mono fun e w' q => OkP.nil h q
 rw [if_neg h2]
 by_cases h3 : fld m 0 = 3
 · rw [if_pos h3]
   by_cases hc : (ansL x m).2.2 = 0
   · rw [if_pos hc]; exact (comes_ref_ok x s m i w h hi hl hev hT hS hm hx h3 _ _ (res3 hc) _ rfl).mono fun e w' q => OkP.nils q
   · rw [if_neg hc]; exact (comes_ref_err x s m i w h hi hl hev hT hS hm hx h3 _ _ _ hc rfl).mono fun e w' q => OkP.nil h q
 rw [if_neg h3]
 by_cases h5 : fld m 0 = 5
 · rw [if_pos h5]
   by_cases hc : (votL x m).2.2 = 0
   · rw [if_pos hc]; exact (comes_vote_ok x s m i w h hi hl hev hT hS hm hx h5 ht hv _ _ (res3 hc) _ _ rfl).mono fun e w' q => q
   · rw [if_neg hc]; exact (comes_vote_err x s m i w h hi hl hev hT hS hm hx h5 ht hv _ _ _ hc rfl).mono fun e w' q => OkP.nil h q
 rw [if_neg h5]
 by_cases h7 : fld m 0 = 7
 · rw [if_pos h7]
   by_cases hc : (ackL x m).2.2 = 0
   · rw [if_pos hc]; exact (comes_ack_ok x s m i w h hi hl hev hT hS hm hx h7 ha _ _ (res3 hc) _ rfl).mono fun e w' q => OkP.nils q
   · rw [if_neg hc]; exact (comes_ack_err x s m i w h hi hl hev hT hS hm hx h7 ha _ _ _ hc rfl).mono fun e w' q => OkP.nil h q
 rw [if_neg h7]
 by_cases h9 : fld m 0 = 9
 · rw [if_pos h9]
   unfold abtC
   by_cases hc : (abtL x 5).2.2 = 0
   · rw [if_pos hc]; exact (comes_exp_ok x s m i w h hi hl hev hT hS hm hx h9 _ _ (res3 hc) _ _ rfl).mono fun e w' q => q
   · rw [if_neg hc]; exact (comes_exp_err x s m i w h hi hl hev hT hS hm hx h9 _ _ _ hc rfl).mono fun e w' q => OkP.nil h q
 rw [if_neg h9]
 by_cases h10 : fld m 0 = 10
 · rw [if_pos h10]
   by_cases hpb : c.cf.pb = true
   · rw [if_pos (.inl hpb)]; exact (comes_wnd_pb x s m i w h hi hl hev hT hS hm hx h10 _ rfl hpb).mono fun e w' q => OkP.nil h q
   have hpb' : c.cf.pb = false := by simpa using hpb
   by_cases hx1 : x.st = 1
   · by_cases hz1 : (eL c.txs (fld m 9)).st = 1
     · rw [if_neg (by rintro (q | q | q); exact hpb q; exact q hx1; exact q.1 hz1)]
       unfold abtC
       rw [if_pos (abtL3 hx1 (by omega) (by omega))]
       exact (comes_wnd_ok1 x s m i w h hi hl hev hT hS hm hx h10 _ rfl hpb' hx1 hz1 _ _ (res3 (abtL3 hx1 (by omega) (by omega))) _ _ rfl).mono fun e w' q => q
     · by_cases hz2 : (eL c.txs (fld m 9)).st = 2
       · rw [if_neg (by rintro (q | q | q); exact hpb q; exact q hx1; exact q.2 hz2)]
         unfold abtC
         rw [if_pos (abtL3 hx1 (by omega) (by omega))]
         exact (comes_wnd_ok2 x s m i w h hi hl hev hT hS hm hx h10 _ rfl hpb' hx1 hz2 _ _ (res3 (abtL3 hx1 (by omega) (by omega))) _ _ rfl).mono fun e w' q => q
       · rw [if_pos (.inr (.inr ⟨hz1, hz2⟩))]; exact (comes_wnd_z x s m i w h hi hl hev hT hS hm hx h10 _ rfl hpb' hx1 hz1 hz2).mono fun e w' q => OkP.nil h q
   · rw [if_pos (.inr (.inl hx1))]; exact (comes_wnd_x x s m i w h hi hl hev hT hS hm hx h10 _ rfl hpb' hx1).mono fun e w' q => OkP.nil h q
 rw [if_neg h10]
 exact (comes_other x s m i w h hi hl hev hT hS hm hx (by omega)).mono fun e w' q => OkP.nil h q
end
theorem ints_one' (l : List Int) : ∀ v ∈ ints l, v.oneCell' = true := fun v hv => by obtain ⟨c, _, rfl⟩ := List.mem_map.1 hv; rfl
set_option maxRecDepth 100000 in
set_option maxHeartbeats 900000 in
theorem tickSend_any (p B B' : Nat) (v u : Value) (ms0 ms : List (List Int)) (w : World) (hp : Blk w p 35 #[v]) (hv : MsgR w B v ms0) (hB : B ≤ w.heap.size) (hu : MsgR w B' u ms) (h0 : ms0.length ≤ 100000) (h1 : ms.length ≤ 100000) :
   Calls Tryz.prog 62 #[u, .pointer (some ⟨p, 0, none⟩)] w fun e w' => e = .returned (.tuple #[]) ∧ ∃ v', Blk w' p 35 #[v'] ∧ MsgR w' B v' (ms0 ++ ms) ∧ Turn (fun k => k = p ∨ v.ownBlock = some k) w w' ∧ (v'.ownBlock = v.ownBlock ∨ v'.ownBlock = some w.heap.size) := by
 obtain ⟨i0, hi0, hz0, hz1, hz2⟩ := info_parts info_msg
 obtain ⟨A1, c1, rfl⟩ := own_len hv
 obtain ⟨A2, c2, rfl, rd, _, _⟩ := own_rd hu
 have HP := Lib.hid hp
 have HV := Lib.hid hv
 have RD := Lib.hid rd
 have HB := Lib.hid hB
 have H0 := Lib.hid h0
 have H1 := Lib.hid h1
 have hne := Lib.hid (show ¬ ((Value.slice A1 ms0.length c1).ownBlock = some p) from fun e => by
   obtain ⟨cur, hh, _⟩ := own_heap hv p e
   exact heap_ne hp hh (by decide) rfl)
 have cp : w.cell? ⟨p, 0, none⟩ = some (.slice A1 ms0.length c1) := hp.cell 0
 have MS := Lib.hid (show (ms0 ++ ms).length = ms0.length + ms.length ∧ ints (ms0 ++ ms).flatten = ints ms0.flatten ++ ints ms.flatten from ⟨by simp, by simp [ints]⟩)
 clear hp hv rd hu hB h0 h1
 obtain ⟨n1, hn1⟩ : ∃ n1, ms0.length = n1 := ⟨_, rfl⟩
 obtain ⟨n2, hn2⟩ : ∃ n2, ms.length = n2 := ⟨_, rfl⟩
 obtain ⟨xs, hxs⟩ : ∃ xs, ints ms.flatten = xs := ⟨_, rfl⟩
 have O1 := Lib.hid (show ∀ v ∈ xs, v.oneCell' = true from by rw [← hxs]; exact ints_one' _)
 unfold MsgR at HV ⊢
 rw [hn1] at HP HV hne cp H0
 rw [hn2, hxs] at RD
 rw [hn2] at H1
 rw [hn1, hn2] at MS
 rw [hxs] at MS
 rw [hn1, hn2, MS.out.1, MS.out.2]
 clear hn1 hn2 hxs
 go_enter Tryz.func62, Tryz.ntmps62
 go_wp2_with (at_builtin
              refine wpList_append_any _ rfl (.tmp 3) (.tmp 4) _ rfl B 45 i0 _ 28 224 Tryz.underlying35 hi0 hz0 hz1 hz2 (mc_size zM_length) (by omega) _ n1 _ rfl HV.out _ _ n2 c2 xs rfl RD.out O1.out (by have := H0.out; have := H1.out; simp only [maxLen]; omega) (by have := H0.out; have := H1.out; omega) HB.out ?_
              intro v9 w9 hown9 hg9 hv9
              obtain ⟨A9, c9, rfl⟩ : ∃ A c, v9 = .slice A (n1 + n2) c := by obtain ⟨A, c, e, _, _⟩ := own_rd hown9; exact ⟨A, c, e⟩
              have O9 := Lib.hid hown9
              have V9 := Lib.hid hv9
              have T9 := Lib.hid (show Turn (fun k => k = p ∨ (Value.slice A1 n1 c1).ownBlock = some k) w w9 from (Turn.refl _ _).grown hg9 (fun k hk _ => .inr hk))
              have X9 := Lib.hid (HP.out.turn (show Turn (fun k => (Value.slice A1 n1 c1).ownBlock = some k) w w9 from (Turn.refl _ _).grown hg9 (fun k hk _ => hk)) (fun e => hne.out e))
              have k9 : w9.cell? ⟨p, 0, none⟩ = some (.slice A1 n1 c1) := X9.out.cell 0
              have f9 := X9.out.frozen 0
              clear hown9 hg9 hv9)
 first | go_end0 | refine bodyPost_ret (results_none rfl _ _ _) rfl ?_
 have T10 := T9.out.setCell (p := ⟨p, 0, none⟩) (fun _ => .inl rfl) (.slice A9 (n1 + n2) c9)
 have hne9 : ¬ ((Value.slice A9 (n1 + n2) c9).ownBlock = some p) := fun e => by
   rcases V9.out with e1 | e1
   · exact hne.out (e1 ▸ e)
   · rw [e1] at e; injection e with e; have := HP.out.lt; omega
 exact ⟨rfl, _, X9.out.set_ 0 _, own_turn O9.out ((Turn.refl (fun k => k = p) w9).setCell (p := ⟨p, 0, none⟩) (fun _ => rfl) (.slice A9 (n1 + n2) c9)) (fun k hk e => hne9 (by rw [hk, e])), T10, V9.out⟩
section
variable {g n : Nat} {c : Co} {P : Pt}
end
theorem lsp_take : ∀ (vs xs : List Value) (o : Nat), (lsp xs o vs).take o = xs.take o
 | [], _, _ => rfl
 | v :: r, xs, o => by
   rw [lsp]
   have h := congrArg (List.take o) (lsp_take r (xs.set o v) (o + 1))
   rw [List.take_take, List.take_take, Nat.min_eq_left (by omega)] at h
   rw [h, List.take_set_of_le (Nat.le_refl o)]
theorem own_takeI {w : World} {B g n c m k : Nat} {t : TypeId} {l : List Value} (h : w.ownsRow B t 1 (.slice (some ⟨g, 0, none⟩) n c) m l) (hk : k ≤ n) : w.ownsRow B t 1 (.slice (some ⟨g, 0, none⟩) k c) k (l.take k) := by
 rcases h with ⟨h0, ⟨h1, _⟩ | ⟨g', cap, cur, hv, hg, hh, hn, hm, hs, ht⟩⟩
 · cases h1
 · injection hv with e1 e2 e3
   injection e1 with e1
   injection e1 with e1
   subst e1; subst e2; subst e3
   refine ⟨?_, .inr ⟨_, _, cur, rfl, hg, hh, by omega, hm, hs, ?_⟩⟩
   · rw [List.length_take, h0]; omega
   · rw [← ht, List.take_take]; congr 1; omega
def Pred (w : World) (q r : Nat) (f : Int → Bool) (l : List Int) : Prop := ∀ W, Turn (fun k => k = r) w W → ∀ x ∈ l, Calls Tryz.prog 109 #[.int .i64 x, .pointer (some ⟨q, 0, none⟩)] W fun e W' => e = .returned (.bool (f x)) ∧ Below W.heap.size W W'
set_option maxRecDepth 100000 in
set_option maxHeartbeats 4000000 in
theorem idxF_any (r n c q : Nat) (l : List Int) (f : Int → Bool) (w : World) (h : w.ownsRow 0 3 1 (.slice (some ⟨r, 0, none⟩) n c) n (i64s l)) (hn : n ≤ 1000) (hp : Pred w q r f l) :
   Calls Tryz.prog 147 #[.slice (some ⟨r, 0, none⟩) n c, .func (.func 109) #[] #[.pointer (some ⟨q, 0, none⟩)]] w fun e w' => Below w.heap.size w w' ∧
     ((∃ i : Nat, i < n ∧ e = .returned (.int .i64 i) ∧ f (gd l i) = true ∧ ∀ j, j < i → f (gd l j) = false) ∨ (e = .returned (.int .i64 (-1)) ∧ ∀ j, j < n → f (gd l j) = false)) := by
 have hl : l.length = n := by have := h.1; rw [i64s_length] at this; omega
 have H := Lib.hid h
 have HL := Lib.hid hl
 have HN := Lib.hid hn
 have HP := Lib.hid hp
 clear h hl hn hp
 go_enter Tryz.func147, Tryz.ntmps147
 go_wp2_with fail
 go_loopw [8] (fun s8 wr => ∃ i : Nat, s8 = .int .i64 i ∧ i ≤ n ∧ (∀ j, j < i → f (gd l j) = false) ∧ Below w.heap.size w wr) (fun s8 _ => n - (RowKit.intOf s8).toNat)
 case atStart => exact ⟨0, rfl, Nat.zero_le _, fun j hj => absurd hj (by omega), Below.refl _ _⟩
 case round =>
   obtain ⟨k, rfl, hk, hno, hbl⟩ := hrel
   rename World => W
   have NO := Lib.hid hno
   have BL := Lib.hid hbl
   clear hno hbl
   have hkb : k ≤ 1000 := by have := HN.out; omega
   by_cases hkl : k < n
   · have OW := Lib.hid (own_turn H.out (Turn.of_below BL.out (S := fun _ => False)) (fun _ _ => id))
     have hkl' : k < l.length := by rw [HL.out]; exact hkl
     have kc : W.cell? ⟨r, k, none⟩ = some (.int .i64 (gd l k)) := own_gd OW.out hkl'
     have CP := Lib.hid (HP.out W (Turn.of_below BL.out) (gd l k) (by rw [gd_get hkl']; exact List.getElem_mem hkl'))
     have d3 : decide ((k : Int) < (n : Int)) = true := by simp; omega
     have w0 : IntKind.i64.wrap (k : Int) = (k : Int) := IntWalk.i64_in _ (by have := HN.out; omega)
     clear hkl'
     obtain ⟨b, hb⟩ : ∃ b, f (gd l k) = b := ⟨_, rfl⟩
     rw [hb] at CP
     have HBB := Lib.hid hb
     clear hb
     generalize gd l k = x at kc CP
     cases b with
     | true =>
       go_wp2_with (go_at_call 109; refine CP.out.mono ?_; rintro e W2 ⟨rfl, hb⟩; have B2 := Lib.hid (stepB BL.out hb); clear hb)
       go_ret
       exact ⟨B2.out, .inl ⟨k, hkl, rfl, HBB.out, NO.out⟩⟩
     | false =>
       go_wp2_with (go_at_call 109; refine CP.out.mono ?_; rintro e W2 ⟨rfl, hb⟩; have B2 := Lib.hid (stepB BL.out hb); clear hb)
       go_roundw
       case rel => exact ⟨k + 1, by go_num, by omega, fun j hj => (by
         by_cases e : j = k
         · rw [e]; exact HBB.out
         · exact NO.out j (by omega)), B2.out⟩
       case measure => simp [RowKit.intOf]; omega
   · obtain rfl : k = n := by omega
     have d3 : decide ((k : Int) < (k : Int)) = false := by simp
     go_wp2_with fail
     go_ret
     exact ⟨BL.out, .inr ⟨rfl, NO.out⟩⟩
structure DelI (l cur : List Int) (f : Int → Bool) (i j : Nat) : Prop where
 len : cur.length = l.length
 lt : i < j
 keep : cur.take i = (l.take j).filter fun x => !f x
 rest : cur.drop j = l.drop j
theorem DelI.at_ {l cur : List Int} {f : Int → Bool} {i j : Nat} (h : DelI l cur f i j) (hj : j < l.length) : gd cur j = gd l j := by
 have h1 : (cur.drop j)[0]? = (l.drop j)[0]? := by rw [h.rest]
 rw [List.getElem?_drop, List.getElem?_drop, Nat.add_zero] at h1
 unfold gd
 rw [List.getD_eq_getElem?_getD, List.getD_eq_getElem?_getD, h1]
theorem DelI.first {l : List Int} {f : Int → Bool} {i : Nat} (hi : i < l.length) (hf : f (gd l i) = true) (hn : ∀ j, j < i → f (gd l j) = false) : DelI l l f i (i + 1) where
 len := rfl
 lt := Nat.lt_succ_self i
 keep := by
   rw [List.take_add_one, List.getElem?_eq_getElem hi, List.filter_append]
   have e1 : (l.take i).filter (fun x => !f x) = l.take i := by
     rw [List.filter_eq_self]
     intro x hx
     obtain ⟨j, hj, rfl⟩ := List.getElem_of_mem hx
     have hj' : j < i := by rw [List.length_take] at hj; omega
     have := hn j hj'
     rw [gd_get (by omega)] at this
     rw [List.getElem_take, this]; rfl
   rw [gd_get hi] at hf
   rw [e1]
   simp [hf]
 rest := rfl
theorem DelI.skip {l cur : List Int} {f : Int → Bool} {i j : Nat} (h : DelI l cur f i j) (hj : j < l.length) (hf : f (gd l j) = true) : DelI l cur f i (j + 1) where
 len := h.len
 lt := by have := h.lt; omega
 keep := by
   rw [gd_get hj] at hf
   rw [List.take_add_one, List.getElem?_eq_getElem hj, List.filter_append, h.keep]
   simp [hf]
 rest := by rw [← List.drop_drop, h.rest, List.drop_drop]
theorem DelI.put {l cur : List Int} {f : Int → Bool} {i j : Nat} (h : DelI l cur f i j) (hj : j < l.length) (hf : f (gd l j) = false) : DelI l (cur.set i (gd l j)) f (i + 1) (j + 1) where
 len := by rw [List.length_set]; exact h.len
 lt := by have := h.lt; omega
 keep := by
   have hil : i < cur.length := by have := h.lt; have := h.len; omega
   have e2 : (cur.set i (gd l j)).take (i + 1) = cur.take i ++ [gd l j] := by
     rw [List.take_add_one, List.take_set_of_le (Nat.le_refl i), List.getElem?_set_self hil]; rfl
   rw [e2, List.take_add_one, List.getElem?_eq_getElem hj, List.filter_append, h.keep]
   rw [gd_get hj] at hf ⊢
   simp [hf]
 rest := by
   rw [List.drop_set_of_lt (by have := h.lt; omega), ← List.drop_drop, h.rest, List.drop_drop]
theorem DelI.ends {l cur : List Int} {f : Int → Bool} {i : Nat} (h : DelI l cur f i l.length) : cur.take i = l.filter fun x => !f x := by
 rw [h.keep, List.take_length]
theorem own_setI {w : World} {B g n c : Nat} {l : List Int} (h : w.ownsRow B 3 1 (.slice (some ⟨g, 0, none⟩) n c) n (i64s l)) (i : Nat) (x : Int) : (w.setCell ⟨g, i, none⟩ (.int .i64 x)).ownsRow B 3 1 (.slice (some ⟨g, 0, none⟩) n c) n (i64s (l.set i x)) := by
 have := own_setV h i (.int .i64 x)
 rwa [show (i64s l).set i (.int .i64 x) = i64s (l.set i x) from by simp [i64s, List.map_set]] at this
theorem zeroIntW (W : World) : (zeroValue 3).run Tryz.prog W = .ok (.int .i64 0) W := Tryz.zeroValue3 W
theorem clear_tail {w : World} {r n c i : Nat} {l : List Int} (h : w.ownsRow 0 3 1 (.slice (some ⟨r, 0, none⟩) n c) n (i64s l)) (hi : i < n) (ty : TypeId) (c' : Nat) :
   (Builtin.clear_ #[59] ty #[.slice (some ⟨r, i, none⟩) (n - i) c']).run Tryz.prog w = .ok (.tuple #[]) (w.setCells r i (List.replicate (n - i) (.int .i64 0))) := by
 have hl : l.length = n := by have := h.1; rw [i64s_length] at this; omega
 refine Lib.run_clear_slice w 59 3 ty (.int .i64 0) Tryz.underlying59 zeroIntW rfl rfl r i (n - i) c' (by omega) (fun j hj => ?_) (fun j hj => ?_)
 · rw [own_gd h (by omega)]; rfl
 · exact own_hot h _
theorem own_cleared {w : World} {r n c i : Nat} {l : List Int} (h : w.ownsRow 0 3 1 (.slice (some ⟨r, 0, none⟩) n c) n (i64s l)) (hi : i ≤ n) : (w.setCells r i (List.replicate (n - i) (.int .i64 0))).ownsRow 0 3 1 (.slice (some ⟨r, 0, none⟩) i c) i (i64s (l.take i)) := by
 have h1 := own_setCells (List.replicate (n - i) (.int .i64 0)) i h
 have h2 := own_takeI h1 hi
 rw [lsp_take] at h2
 rwa [show (i64s l).take i = i64s (l.take i) from by simp [i64s, List.map_take]] at h2
set_option maxRecDepth 100000 in
set_option maxHeartbeats 4000000 in
theorem delF_any (r n c q : Nat) (l : List Int) (f : Int → Bool) (w : World) (h : w.ownsRow 0 3 1 (.slice (some ⟨r, 0, none⟩) n c) n (i64s l)) (hn : n ≤ 1000) (hp : Pred w q r f l) :
   Calls Tryz.prog 108 #[.slice (some ⟨r, 0, none⟩) n c, .func (.func 109) #[] #[.pointer (some ⟨q, 0, none⟩)]] w fun e w' => ∃ v', e = .returned v' ∧ NumR w' 0 v' (l.filter fun x => !f x) ∧ Turn (fun k => k = r) w w' ∧ v'.ownBlock = some r := by
 have hl : l.length = n := by have := h.1; rw [i64s_length] at this; omega
 have hnc : n ≤ c := by
   rcases h.2 with ⟨e, _⟩ | ⟨_, _, _, e, _, _, hnc, _⟩
   · cases e
   · injection e with _ _ e; omega
 have H := Lib.hid h
 have HL := Lib.hid hl
 have HN := Lib.hid hn
 have HP := Lib.hid hp
 have HNC := Lib.hid hnc
 clear h hl hn hp hnc
 go_enter Tryz.func108, Tryz.ntmps108
 go_wp2_with fail
 refine (idxF_any r n c q l f _ H.out HN.out HP.out).mono ?_
 rintro e w1 ⟨hb1, ⟨i, hi, rfl, hfi, hbef⟩ | ⟨rfl, hno⟩⟩
 · have T1 := Lib.hid (show Turn (fun k => k = r) w w1 from Turn.of_below hb1)
   have O1 := Lib.hid (own_turn H.out (Turn.of_below hb1 (S := fun _ => False)) (fun _ _ => id))
   have D1 := Lib.hid (DelI.first (by rw [HL.out]; exact hi) hfi hbef)
   have hib : i ≤ 1000 := by have := HN.out; omega
   have m1 : ((i : Int) == -1) = false := beq_eq_false_iff_ne.2 (by omega)
   clear hb1 hfi hbef
   go_wp2_with fail
   go_loopw [5, 6, 7] (fun s5 s6 s7 W => ∃ (i j : Nat) (cur : List Int), s5 = .int .i64 i ∧ s6 = .int .i64 j ∧ j ≤ n ∧ DelI l cur f i j ∧ W.ownsRow 0 3 1 (.slice (some ⟨r, 0, none⟩) n c) n (i64s cur) ∧ Turn (fun k => k = r) w W) (fun _ s6 _ _ => n - (RowKit.intOf s6).toNat)
   case atStart => exact ⟨i, i + 1, l, rfl, by first | rfl | (congr 1; omega), by omega, D1.out, O1.out, T1.out⟩
   case round =>
     obtain ⟨a, j, cur, rfl, rfl, hj, hd, ho, ht⟩ := hrel
     rename World => W
     have D := Lib.hid hd
     have O := Lib.hid ho
     have T := Lib.hid ht
     clear hd ho ht
     have hjb : j ≤ 1000 := by have := HN.out; omega
     have hab : a ≤ 1000 := by have := D.out.lt; omega
     by_cases hlt : j < n
     · have hjl : j < l.length := by rw [HL.out]; exact hlt
       have kc : W.cell? ⟨r, j, none⟩ = some (.int .i64 (gd l j)) := by rw [← D.out.at_ hjl]; exact own_gd O.out (by rw [D.out.len]; exact hjl)
       have CP := Lib.hid (HP.out W T.out (gd l j) (by rw [gd_get hjl]; exact List.getElem_mem hjl))
       have d3 : decide ((j : Int) < (n : Int)) = true := by simp; omega
       obtain ⟨b, hb⟩ : ∃ b, f (gd l j) = b := ⟨_, rfl⟩
       rw [hb] at CP
       cases b with
       | true =>
         have D2 := Lib.hid (D.out.skip hjl hb)
         clear hb hjl
         generalize gd l j = x at kc CP
         go_wp2_with (go_at_call 109; refine CP.out.mono ?_; rintro e W2 ⟨rfl, hb⟩; have T2 := Lib.hid (T.out.step hb); have O2 := Lib.hid (own_turn O.out (Turn.of_below hb (S := fun _ => False)) (fun _ _ => id)); clear hb)
         go_roundw
         case rel => exact ⟨a, j + 1, cur, rfl, by go_num, by omega, D2.out, O2.out, T2.out⟩
         case measure => simp [RowKit.intOf]; omega
       | false =>
         have D2 := Lib.hid (D.out.put hjl hb)
         have ha : a < n := by have := D.out.lt; omega
         have d4 : (a : Int) < (n : Int) := by omega
         clear hb hjl
         generalize gd l j = x at kc CP D2
         go_wp2_with (go_at_call 109; refine CP.out.mono ?_; rintro e W2 ⟨rfl, hb⟩; have T2 := Lib.hid (T.out.step hb); have O2 := Lib.hid (own_turn O.out (Turn.of_below hb (S := fun _ => False)) (fun _ _ => id)); have ka : W2.cell? ⟨r, a, none⟩ = some (.int .i64 (gd cur a)) := own_gd O2.out (by rw [D.out.len, HL.out]; omega); have fa : W2.frozen? ⟨r, a, none⟩ = false := own_hot O2.out _; clear hb)
         go_roundw
         case rel => exact ⟨a + 1, j + 1, cur.set a x, by go_num, by go_num, by omega, D2.out, own_setI O2.out a x, T2.out.setCell (p := ⟨r, a, none⟩) (fun _ => rfl) _⟩
         case measure => simp [RowKit.intOf]; omega
     · obtain rfl : j = n := by omega
       have d3 : decide ((j : Int) < (j : Int)) = false := by simp
       have ha : a < j := D.out.lt
       have d4 : (a : Int) ≤ (j : Int) := by omega
       have d5 : a ≤ c := by have := HNC.out; omega
       have d6 : (c = a) = False := by have := HNC.out; simp; omega
       have CL := fun ty c' => clear_tail O.out ha ty c'
       have OC := Lib.hid (own_cleared O.out (Nat.le_of_lt ha))
       have ED := Lib.hid (show cur.take a = l.filter fun x => !f x from by have := D.out; rw [← HL.out] at this; exact this.ends)
       have TC := Lib.hid (Turn.setCells (b := r) (S := fun k => k = r) (fun _ => rfl) (List.replicate (j - a) (.int .i64 0)) a W T.out)
       go_wp2_with fail
       go_ret
       refine ⟨_, rfl, ?_, TC.out, rfl⟩
       have h9 := OC.out
       rw [ED.out] at h9
       have e9 : (l.filter fun x => !f x).length = a := by have := h9.1; rw [i64s_length] at this; omega
       unfold NumR
       rw [e9]
       exact h9
 · have O1 := Lib.hid (own_turn H.out (Turn.of_below hb1 (S := fun _ => False)) (fun _ _ => id))
   have T1 := Lib.hid (show Turn (fun k => k = r) w w1 from Turn.of_below hb1)
   have EF := Lib.hid (show (l.filter fun x => !f x) = l from by
     rw [List.filter_eq_self]
     intro x hx
     obtain ⟨j, hj, rfl⟩ := List.getElem_of_mem hx
     have := hno j (by rw [← HL.out]; exact hj)
     rw [gd_get hj] at this
     rw [this]; rfl)
   clear hb1 hno
   go_wp2_with fail
   go_ret
   refine ⟨_, rfl, ?_, T1.out, rfl⟩
   rw [EF.out]
   unfold NumR
   rw [HL.out]
   exact O1.out
end Go.Proofs.YtadnlannbafjpaaGreat
