/- The walk of WordBack. -/
import Derived.Test.YthgckcbfchigfaaDoorLaw3T
namespace Go.Proofs.YthgckcbfchigfaaDoor
open Go.RowKit
set_option linter.unusedVariables false
set_option linter.unusedSimpArgs false

/-- The numbers of bytes, so many in each. -/
def chunks (wd : Nat) (bs : List UInt8) (c : Nat) : List Int := (List.range c).map fun i => (decN ((bs.drop (wd * i)).take wd) : Int)
theorem chunks_length (wd : Nat) (bs : List UInt8) (c : Nat) : (chunks wd bs c).length = c := by simp [chunks]
theorem chunks_succ (wd : Nat) (bs : List UInt8) (c : Nat) : chunks wd bs (c + 1) = chunks wd bs c ++ [(decN ((bs.drop (wd * c)).take wd) : Int)] := by simp [chunks, List.range_succ]
theorem chunk_len {wd c : Nat} {bs : List UInt8} (h : wd * c + wd ≤ bs.length) : ((bs.drop (wd * c)).take wd).length = wd := by simp; omega
theorem encL_chunks (wd : Nat) (bs : List UInt8) : ∀ c, wd * c ≤ bs.length → encL wd (chunks wd bs c) = bs.take (wd * c)
  | 0, _ => by simp [chunks, encL]
  | c + 1, h => by
    rw [Nat.mul_succ] at h
    rw [chunks_succ, encL_snoc, encL_chunks wd bs c (by omega), Int.toNat_natCast, Nat.mul_succ, List.take_add]
    congr 1
    have hl := chunk_len h
    have := encN_decN ((bs.drop (wd * c)).take wd)
    rwa [hl] at this
theorem chunks_fit (wd : Nat) (bs : List UInt8) : ∀ c, wd * c ≤ bs.length → AllFit wd (chunks wd bs c)
  | 0, _ => by intro x hx; simp [chunks] at hx
  | c + 1, h => by
    rw [Nat.mul_succ] at h
    intro x hx
    rw [chunks_succ] at hx
    rcases List.mem_append.1 hx with hx | hx
    · exact chunks_fit wd bs c (by omega) x hx
    · rw [List.mem_singleton] at hx
      subst hx
      rw [fitsB_iff]
      have h2 := decN_lt ((bs.drop (wd * c)).take wd)
      rw [chunk_len h] at h2
      omega
theorem encL_chunk (wd : Nat) : ∀ (is : List Int) (j : Nat) (hj : j < is.length), ((encL wd is).drop (wd * j)).take wd = encN wd (is[j]).toNat
  | [], j, hj => absurd hj (by simp)
  | x :: is, 0, _ => by
    simp only [Nat.mul_zero, List.drop_zero, List.getElem_cons_zero]
    show ((encN wd x.toNat) ++ encL wd is).take wd = _
    rw [List.take_append_of_le_length (by simp [encN_length]), List.take_of_length_le (by simp [encN_length])]
  | x :: is, j + 1, hj => by
    have ih := encL_chunk wd is j (by simpa using hj)
    rw [List.getElem_cons_succ, ← ih]
    show (((encN wd x.toNat) ++ encL wd is).drop (wd * (j + 1))).take wd = _
    rw [Nat.mul_succ, Nat.add_comm, ← List.drop_drop]
    congr 2
    exact List.drop_left' (by simp [encN_length])
/-- What is taken at a place of what was put. -/
theorem taken_put {wd : Nat} {is : List Int} (hf : AllFit wd is) {j : Nat} (hj : j < is.length) : ((decN (((encL wd is).drop (wd * j)).take wd) : Nat) : Int) = is[j] := by
  have h := fitsB_iff.1 (hf _ (List.getElem_mem hj))
  rw [encL_chunk wd is j hj, decN_encN (by omega)]
  omega

theorem take_val {r n cap k wd : Nat} {A : Option Addr} {l : List UInt8} {y : Int} (hy : ((decN ((l.drop k).take wd) : Nat) : Int) = y) (h1 : 1 ≤ wd) (h4 : wd ≤ 4) (hk : k + wd ≤ n) (hn : n ≤ 140737488355328) (w : World) (h : RdAt w r A n cap k) (hr : Reads w w.heap.size 1 A n (u8s l)) :
    Calls Tryd.prog 14 #[.pointer (some ⟨r, 0, none⟩), .int .i64 wd] w fun e w' => e = .returned (.tuple #[.int .i64 y, .nilIface]) ∧ ∃ q, w' = (w.drewN q).setCell ⟨r, 1, none⟩ (.int .i64 ((k + wd : Nat) : Int)) :=
  (take_ok r n cap k wd A l h1 h4 hk hn w h hr).mono fun _ _ ⟨he, hw⟩ => ⟨by rw [he, hy], hw⟩

theorem own_keep {w w' : World} {base size n : Nat} {t : TypeId} {v : Value} {xs : List Value} (h : w.ownsRow base t size v n xs) (hk : ∀ g, base ≤ g → w'.heap[g]? = w.heap[g]?) : w'.ownsRow base t size v n xs := by
  rcases h with ⟨h0, h1 | ⟨g, cap, cur, hv, hb, hh, h2⟩⟩
  · exact ⟨h0, .inl h1⟩
  · exact ⟨h0, .inr ⟨g, cap, cur, hv, hb, (hk g hb).trans hh, h2⟩⟩

theorem Reads.take {w : World} {B n k : Nat} {A : Option Addr} {l : List UInt8} (h : Reads w B 1 A n (u8s l)) (hk : k ≤ n) : Reads w B 1 A k (u8s (l.take k)) := by
  have hl := h.u8_len
  refine ⟨by simp [u8s_length]; omega, fun h0 => ?_⟩
  obtain ⟨ad, e, hb, hc⟩ := h.2 (by omega)
  refine ⟨ad, e, hb, fun j u hu => hc j u ?_⟩
  have hj : j < k := by have := (List.getElem?_eq_some_iff.1 hu).1; simp [u8s_length] at this; omega
  rw [← hu]
  simp [u8s, List.getElem?_take, hj]

/-- What holds between two numbers that are taken, one behind the other, into a row of the call's own. -/
structure BackRel (w : World) (B r n cp wd : Nat) (A : Option Addr) (bs : List UInt8) (c k : Nat) (v : Value) (W : World) : Prop where
  at_ : k = wd * c
  tk : TakeRel w r n cp A bs k W
  own : W.ownsRow B 3 1 v c (i64s (chunks wd bs c))
  size : B ≤ W.heap.size

theorem TakeRel.grown {w : World} {r n c B : Nat} {A : Option Addr} {bs : List UInt8} {k : Nat} {W W' : World} {row : Option Nat} (h : TakeRel w r n c A bs k W) (hg : W.grownBy W' row) (hrow : ∀ g, row = some g → B ≤ g) (hB : r < B) (hr : w.heap.size ≤ r) : TakeRel w r n c A bs k W' :=
  ⟨h.le, h.bel.grown hg (by have := h.bel.size; omega) (fun g e => by have := hrow g e; omega),
    (hg.block r h.rd.lt (fun e => by have := hrow r e.symm; omega)).trans h.rd,
    h.clone.keep fun p hp => World.cell?_of_block (hg.block p.block (by have := h.rd.lt; omega) (fun e => by have := hrow _ e.symm; omega))⟩

set_option maxRecDepth 100000 in
set_option maxHeartbeats 8000000 in
/-- The walk's second half: bytes that are taken are put again of the numbers. -/
theorem wordBack_walk (a : Int) (A A' : Option Addr) (n cap m cap' : Nat) (bs : List UInt8) (is : List Int) (ha : 0 ≤ a) (ha2 : a ≤ 255) (hn : n ≤ 1048576) (hm : m ≤ 1048576) (hcap : n ≤ cap) (w : World) (hg : EType w)
    (hb : Reads w w.heap.size 1 A n (u8s bs)) (hl : Reads w w.heap.size 1 A' m (i64s is)) :
    Calls Tryd.prog 5 #[.int .u8 a, .slice A' m cap', .slice A n cap] w fun e w' => e = .returned (.bool true) ∧ Below w.heap.size w w' := by
  have HG := Lib.hid hg
  have HB := Lib.hid hb
  have HL := Lib.hid hl
  have HLN := Lib.hid hl.int_len
  have HBN := Lib.hid hb.u8_len
  obtain ⟨i0, hi0, hz0, hz1, hz2⟩ := info_parts info_int
  clear hg hb hl
  obtain ⟨wd, hwd⟩ : ∃ wd : Nat, (wd : Int) = 1 + a % 4 := ⟨(1 + a % 4).toNat, by omega⟩
  have h1 : 1 ≤ wd := by omega
  have h4 : wd ≤ 4 := by omega
  have HWD := Lib.hid hwd
  clear hwd
  go_enter Tryd.func5, Tryd.ntmps5
  go_wp2_with fail
  refine (wordAlive _ HG.out).mono ?_
  rintro e w1 ⟨rfl, hb1⟩
  have B1 := Lib.hid hb1
  have HL1 := Lib.hid (HL.out.step hb1)
  clear hb1
  go_wp2_with fail
  rw [← HWD.out]
  clear HWD
  have hwm : wd * m ≤ 4 * m := Nat.mul_le_mul_right m h4
  rcases fit_or wd is with hf | ⟨k0, hf⟩
  · have HF := Lib.hid hf
    clear hf
    refine (put_ok HF.out none A' 0 0 m cap' [] h1 h4 (by omega) _ Reads.none_ HL1.out).mono ?_
    rintro e w2 ⟨v2, rfl, hown2, hb2⟩
    rw [Nat.zero_add, List.nil_append] at hown2
    obtain ⟨A2, c2, rfl, hR2, hA2⟩ := own_slice hown2
    have B2 := Lib.hid (stepB B1.out hb2)
    have R2 := Lib.hid hR2
    clear hown2 hb2 hR2 hA2
    go_wp2_with fail
    refine (new_any A2 (wd * m) c2 (encL wd is) (by omega) _ R2.out).mono ?_
    rintro e w3 ⟨r1, A3, c3, rfl, hr3, hR3, hA3, hlr3, hb3⟩
    have hlr1 : w.heap.size ≤ r1 := Nat.le_trans B2.out.size hlr3
    have T3 := Lib.hid (show TakeRel w r1 (wd * m) c3 A3 (encL wd is) 0 w3 from ⟨Nat.zero_le _, stepB B2.out hb3, hr3, hR3⟩)
    clear hr3 hR3 hA3 hlr3 hb3
    go_wp2_with fail
    go_loopw [11] (fun i W => ∃ j k : Nat, j ≤ m ∧ i = .int .i64 j ∧ k = wd * j ∧ TakeRel w r1 (wd * m) c3 A3 (encL wd is) k W) (fun i _ => m - (intOf i).toNat)
    case atStart => exact ⟨0, 0, Nat.zero_le _, rfl, rfl, T3.out⟩
    case round =>
      obtain ⟨j, k, hj, rfl, hat, htk⟩ := hrel
      rename World => V
      have T := Lib.hid htk
      have AT := Lib.hid hat
      clear hat htk
      by_cases hlt : j < m
      · have hjl : j < is.length := by rw [HLN.out]; exact hlt
        obtain ⟨ad, rfl, _, _⟩ := HL.out.int_at hjl
        have HCELL := Lib.hid (fun (U : World) (hU : Below w.heap.size w U) => by
          obtain ⟨a', e', _, h'⟩ := (HL.out.below hU).int_at hjl
          cases e'
          exact h')
        have HV := Lib.hid (show ((decN (((encL wd is).drop k).take wd) : Nat) : Int) = is[j] by rw [AT.out]; exact taken_put HF.out hjl)
        generalize is[j] = x at HCELL HV
        have hs : k + wd ≤ wd * m := by rw [AT.out, ← Nat.mul_succ]; exact Nat.mul_le_mul_left wd hlt
        go_wp2_with fail
        refine (take_val HV.out h1 h4 hs (by omega) _ T.out.rd (T.out.clone.more (Nat.le_of_lt T.out.rd.lt))).mono ?_
        rintro e w4 ⟨rfl, q, rfl⟩
        have T4 := Lib.hid ((T.out.drewN q).take hlr1 hs)
        have c4 := HCELL.out _ T4.out.bel
        generalize (V.drewN q).setCell ⟨r1, 1, none⟩ (.int .i64 ((k + wd : Nat) : Int)) = V4 at T4 c4 ⊢
        go_wp2_with fail
        go_roundw
        case rel => exact ⟨j + 1, k + wd, by omega, by go_num, by rw [Nat.mul_succ, ← AT.out], T4.out⟩
        case measure => simp [intOf]; omega
      · obtain rfl : j = m := by omega
        have hkk : k ≤ wd * j := T.out.le
        have T2 := Lib.hid (show TakeRel w r1 (wd * j) c3 A3 (encL wd is) (wd * j) V by have := T.out; rwa [AT.out] at this)
        go_wp2_with fail
        refine (left_gen r1 (wd * j) c3 ((wd * j : Nat) : Int) A3 (by omega) (by omega) (by omega) _ T2.out.rd).mono ?_
        rintro e w6 ⟨rfl, q6, rfl⟩
        have B6 := Lib.hid (below_drewN T2.out.bel q6)
        have HB6 := Lib.hid (HB.out.step B6.out)
        go_wp2_with fail
        refine (new_any A n cap bs (by omega) _ HB6.out).mono ?_
        rintro e w7 ⟨r, A7, c7, rfl, hr7, hR7, hA7, hlr, hb7⟩
        have hlr0 : w.heap.size ≤ r := Nat.le_trans B6.out.size hlr
        have hrlt : r < w7.heap.size := hr7.lt
        have T7 := Lib.hid (show TakeRel w r n c7 A7 bs 0 w7 from ⟨Nat.zero_le _, stepB B6.out hb7, hr7, hR7⟩)
        clear hr7 hR7 hA7 hlr hb7 HB6
        go_wp2_with fail
        go_loopw [15, 16] (fun v i W => ∃ c k : Nat, i = .int .i64 k ∧ BackRel w w7.heap.size r n c7 wd A7 bs c k v W) (fun _ i _ => n - (intOf i).toNat)
        case atStart => exact ⟨0, 0, rfl, rfl, T7.out, World.ownsRow_nil _ _ _ _, Nat.le_refl _⟩
        case round =>
          obtain ⟨c, k, rfl, hat, htk, hown, hsz⟩ := hrel
          rename World => V
          have T := Lib.hid htk
          have O := Lib.hid hown
          have AT := Lib.hid hat
          have hkn := htk.le
          have hck : c ≤ k := by rw [hat]; exact Nat.le_mul_of_pos_left c (by omega)
          clear hat htk hown
          by_cases hs : k + wd ≤ n
          · go_wp2_with fail
            refine (take_ok r n c7 k wd A7 bs h1 h4 hs (by omega) _ T.out.rd (T.out.clone.more (Nat.le_of_lt T.out.rd.lt))).mono ?_
            rintro e w8 ⟨rfl, q, rfl⟩
            have T8 := Lib.hid ((T.out.drewN q).take hlr0 hs)
            have O8 := Lib.hid (own_keep (w' := (V.drewN q).setCell ⟨r, 1, none⟩ (.int .i64 ((k + wd : Nat) : Int))) O.out (fun g hg => Below.heap_setCell (V.drewN q) ⟨r, 1, none⟩ _ g (by simp; omega)))
            have hsz8 : w7.heap.size ≤ ((V.drewN q).setCell ⟨r, 1, none⟩ (.int .i64 ((k + wd : Nat) : Int))).heap.size := by simpa using hsz
            have HC := Lib.hid (show chunks wd bs (c + 1) = chunks wd bs c ++ [(decN ((bs.drop k).take wd) : Int)] by rw [AT.out]; exact chunks_succ wd bs c)
            generalize (V.drewN q).setCell ⟨r, 1, none⟩ (.int .i64 ((k + wd : Nat) : Int)) = V8 at T8 O8 hsz8 ⊢
            generalize (decN ((bs.drop k).take wd) : Int) = y at HC ⊢
            go_wp2_with (at_builtin
                         refine wpList_append_wide _ rfl (.tmp 85) (.tmp 87) _ rfl w7.heap.size 3 i0 _ 1 8 Tryd.underlying23 hi0 hz0 hz1 hz2 rfl (by omega) u15 c (i64s (chunks wd bs c)) rfl
                           (O8.out.alloc _) _ (some ⟨V8.heap.size, 0, none⟩) 1 1 (i64s [y]) rfl (reads_newInt V8 _ y) (i64s_one _) (by simp only [maxLen]; omega) (by omega) (by simp; omega) ?_
                         intro v9 w9 hown9 hg9
                         have O9 := Lib.hid hown9
                         have T9 := Lib.hid (TakeRel.grown (T8.out.step (Joins.below_alloc1 V8 (.cells #[.int .i64 y] 3))) hg9 (ownBlock_ge (O8.out.alloc (.cells #[.int .i64 y] 3))) hrlt hlr0)
                         have hsz9 : w7.heap.size ≤ w9.heap.size := by have := hg9.size; simp at this; omega
                         clear hown9 hg9)
            go_roundw
            case rel => exact ⟨c + 1, k + wd, by go_num, by rw [Nat.mul_succ, ← AT.out], T9.out, by rw [HC.out, show i64s (chunks wd bs c ++ [y]) = i64s (chunks wd bs c) ++ i64s [y] by simp [i64s]]; exact O9.out, hsz9⟩
            case measure => simp [intOf]; omega
          · obtain ⟨A9, c9, rfl, hR9, hA9⟩ := own_slice O.out
            have R9 := Lib.hid hR9
            have HF9 := Lib.hid (chunks_fit wd bs c (by rw [HBN.out, ← AT.out]; exact hkn))
            have hwc : wd * c ≤ 1048576 := by rw [← AT.out]; omega
            clear hR9 hA9
            go_wp2_with fail
            refine (put_ok HF9.out none A9 0 0 c c9 [] h1 h4 (by omega) _ Reads.none_ R9.out).mono ?_
            rintro e w10 ⟨v10, rfl, hown10, hb10⟩
            rw [Nat.zero_add, List.nil_append, encL_chunks wd bs c (by rw [HBN.out, ← AT.out]; exact hkn), ← AT.out] at hown10
            obtain ⟨A10, c10, rfl, hR10, hA10⟩ := own_slice hown10
            have R10 := Lib.hid hR10
            have T10 := Lib.hid (T.out.step hb10)
            clear hown10 hR10 hA10 hb10 hwc
            have hkc : k ≤ cap := by omega
            go_wp2_with fail
            refine (left_gen r n c7 k A7 (by omega) (by omega) (by omega) _ T10.out.rd).mono ?_
            rintro e w11 ⟨rfl, q, rfl⟩
            go_wp2_with fail
            rw [show n - (n - k) = k by omega]
            refine (same_yes A10 A k c10 cap _ _ (bs.take k) _ R10.out.u8_len (by omega) (R10.out.drewN q) (((HB.out.below T10.out.bel).take hkn).drewN q)).mono ?_
            rintro e w12 ⟨rfl, q2, rfl⟩
            go_wp2_with fail
            go_ret
            exact ⟨rfl, below_drewN T10.out.bel _⟩
  · have HF := Lib.hid hf
    clear hf
    refine (put_bad HF.out none A' 0 0 m cap' [] h1 h4 (by omega) _ Reads.none_ HL1.out).mono ?_
    rintro e w6 ⟨b6, rfl, hF6, hb6⟩
    have B6 := Lib.hid (stepB B1.out hb6)
    have hn6 := run_eql_held_nil (P := Tryd.prog) w6 26 49 (.pointer (some ⟨b6, 0, none⟩)) Tryd.underlying26
    clear hF6 hb6
    have HB6 := Lib.hid (HB.out.step B6.out)
    go_wp2_with fail
    refine (new_any A n cap bs (by omega) _ HB6.out).mono ?_
    rintro e w7 ⟨r, A7, c7, rfl, hr7, hR7, hA7, hlr, hb7⟩
    have hlr0 : w.heap.size ≤ r := Nat.le_trans B6.out.size hlr
    have hrlt : r < w7.heap.size := hr7.lt
    have T7 := Lib.hid (show TakeRel w r n c7 A7 bs 0 w7 from ⟨Nat.zero_le _, stepB B6.out hb7, hr7, hR7⟩)
    clear hr7 hR7 hA7 hlr hb7 HB6
    go_wp2_with fail
    go_loopw [15, 16] (fun v i W => ∃ c k : Nat, i = .int .i64 k ∧ BackRel w w7.heap.size r n c7 wd A7 bs c k v W) (fun _ i _ => n - (intOf i).toNat)
    case atStart => exact ⟨0, 0, rfl, rfl, T7.out, World.ownsRow_nil _ _ _ _, Nat.le_refl _⟩
    case round =>
      obtain ⟨c, k, rfl, hat, htk, hown, hsz⟩ := hrel
      rename World => V
      have T := Lib.hid htk
      have O := Lib.hid hown
      have AT := Lib.hid hat
      have hkn := htk.le
      have hck : c ≤ k := by rw [hat]; exact Nat.le_mul_of_pos_left c (by omega)
      clear hat htk hown
      by_cases hs : k + wd ≤ n
      · go_wp2_with fail
        refine (take_ok r n c7 k wd A7 bs h1 h4 hs (by omega) _ T.out.rd (T.out.clone.more (Nat.le_of_lt T.out.rd.lt))).mono ?_
        rintro e w8 ⟨rfl, q, rfl⟩
        have T8 := Lib.hid ((T.out.drewN q).take hlr0 hs)
        have O8 := Lib.hid (own_keep (w' := (V.drewN q).setCell ⟨r, 1, none⟩ (.int .i64 ((k + wd : Nat) : Int))) O.out (fun g hg => Below.heap_setCell (V.drewN q) ⟨r, 1, none⟩ _ g (by simp; omega)))
        have hsz8 : w7.heap.size ≤ ((V.drewN q).setCell ⟨r, 1, none⟩ (.int .i64 ((k + wd : Nat) : Int))).heap.size := by simpa using hsz
        have HC := Lib.hid (show chunks wd bs (c + 1) = chunks wd bs c ++ [(decN ((bs.drop k).take wd) : Int)] by rw [AT.out]; exact chunks_succ wd bs c)
        generalize (V.drewN q).setCell ⟨r, 1, none⟩ (.int .i64 ((k + wd : Nat) : Int)) = V8 at T8 O8 hsz8 ⊢
        generalize (decN ((bs.drop k).take wd) : Int) = y at HC ⊢
        go_wp2_with (at_builtin
                     refine wpList_append_wide _ rfl (.tmp 85) (.tmp 87) _ rfl w7.heap.size 3 i0 _ 1 8 Tryd.underlying23 hi0 hz0 hz1 hz2 rfl (by omega) u15 c (i64s (chunks wd bs c)) rfl
                       (O8.out.alloc _) _ (some ⟨V8.heap.size, 0, none⟩) 1 1 (i64s [y]) rfl (reads_newInt V8 _ y) (i64s_one _) (by simp only [maxLen]; omega) (by omega) (by simp; omega) ?_
                     intro v9 w9 hown9 hg9
                     have O9 := Lib.hid hown9
                     have T9 := Lib.hid (TakeRel.grown (T8.out.step (Joins.below_alloc1 V8 (.cells #[.int .i64 y] 3))) hg9 (ownBlock_ge (O8.out.alloc (.cells #[.int .i64 y] 3))) hrlt hlr0)
                     have hsz9 : w7.heap.size ≤ w9.heap.size := by have := hg9.size; simp at this; omega
                     clear hown9 hg9)
        go_roundw
        case rel => exact ⟨c + 1, k + wd, by go_num, by rw [Nat.mul_succ, ← AT.out], T9.out, by rw [HC.out, show i64s (chunks wd bs c ++ [y]) = i64s (chunks wd bs c) ++ i64s [y] by simp [i64s]]; exact O9.out, hsz9⟩
        case measure => simp [intOf]; omega
      · obtain ⟨A9, c9, rfl, hR9, hA9⟩ := own_slice O.out
        have R9 := Lib.hid hR9
        have HF9 := Lib.hid (chunks_fit wd bs c (by rw [HBN.out, ← AT.out]; exact hkn))
        have hwc : wd * c ≤ 1048576 := by rw [← AT.out]; omega
        clear hR9 hA9
        go_wp2_with fail
        refine (put_ok HF9.out none A9 0 0 c c9 [] h1 h4 (by omega) _ Reads.none_ R9.out).mono ?_
        rintro e w10 ⟨v10, rfl, hown10, hb10⟩
        rw [Nat.zero_add, List.nil_append, encL_chunks wd bs c (by rw [HBN.out, ← AT.out]; exact hkn), ← AT.out] at hown10
        obtain ⟨A10, c10, rfl, hR10, hA10⟩ := own_slice hown10
        have R10 := Lib.hid hR10
        have T10 := Lib.hid (T.out.step hb10)
        clear hown10 hR10 hA10 hb10 hwc
        have hkc : k ≤ cap := by omega
        go_wp2_with fail
        refine (left_gen r n c7 k A7 (by omega) (by omega) (by omega) _ T10.out.rd).mono ?_
        rintro e w11 ⟨rfl, q, rfl⟩
        go_wp2_with fail
        rw [show n - (n - k) = k by omega]
        refine (same_yes A10 A k c10 cap _ _ (bs.take k) _ R10.out.u8_len (by omega) (R10.out.drewN q) (((HB.out.below T10.out.bel).take hkn).drewN q)).mono ?_
        rintro e w12 ⟨rfl, q2, rfl⟩
        go_wp2_with fail
        go_ret
        exact ⟨rfl, below_drewN T10.out.bel _⟩
end Go.Proofs.YthgckcbfchigfaaDoor
