/- The walk of WordTakes. -/
import Derived.Test.YthgckcbfchigfaaDoorLaw3
namespace Go.Proofs.YthgckcbfchigfaaDoor
open Go.RowKit
set_option linter.unusedVariables false
set_option linter.unusedSimpArgs false

set_option maxRecDepth 100000 in
set_option maxHeartbeats 1000000 in
theorem left_gen (r n cap : Nat) (a : Int) (A : Option Addr) (h0 : 0 ≤ a) (h1 : a ≤ n) (hn : n ≤ 140737488351232) (w : World) (h : RdAt w r A n cap a) :
    Calls Tryd.prog 17 #[.pointer (some ⟨r, 0, none⟩)] w fun e w' => e = .returned (.int .i64 ((n : Int) - a)) ∧ ∃ q, w' = w.drewN q := by
  have hk : a = ((a.toNat : Nat) : Int) := by omega
  have h2 : RdAt w r A n cap ((a.toNat : Nat) : Int) := by rw [← hk]; exact h
  refine (left_any r n cap a.toNat A (by omega) (by omega) w h2).mono ?_
  rintro e w' ⟨rfl, h⟩
  refine ⟨?_, h⟩
  rw [show ((n - a.toNat : Nat) : Int) = (n : Int) - a by omega]

theorem Reads.far {w : World} {B size n : Nat} {A : Option Addr} {xs : List Value} (h : Reads w B size A n xs) {p : Addr} (hp : ∀ ad, A = some ad → ad.block ≠ p.block) (u : Value) : Reads (w.setCell p u) B size A n xs :=
  ⟨h.1, fun hn => by
    obtain ⟨ad, e, hb, hc⟩ := h.2 hn
    refine ⟨ad, e, hb, fun j u' hu => ?_⟩
    rw [World.cell?_setCell_other w p (ad.add j) u (fun e' => hp ad e (by rw [← block_of_add ad j, e']))]
    exact hc j u' hu⟩

/-- What holds while the argument's copy is cleared. -/
structure ZeroRel (w : World) (r n c : Nat) (A : Option Addr) (A2 : Option Addr) (bs : List UInt8) (W : World) : Prop where
  bel : Below w.heap.size w W
  rd : RdAt W r A n c 0
  clone : Reads W r 1 A n (u8s bs)
  own : ∀ ad, A2 = some ad → ∀ j, j < n → (∃ u, W.cell? (ad.add j) = some u) ∧ W.frozen? (ad.add j) = false
theorem ZeroRel.store {w : World} {r n c : Nat} {A : Option Addr} {ad : Addr} {bs : List UInt8} {W : World} (h : ZeroRel w r n c A (some ad) bs W) (h1 : w.heap.size ≤ ad.block) (h2 : ad.block ≠ r) (h3 : ∀ a, A = some a → a.block ≠ ad.block) {j : Nat} (hj : j < n) (u : Value) :
    ZeroRel w r n c A (some ad) bs (W.setCell (ad.add j) u) where
  bel := h.bel.setCell (by rw [block_of_add]; exact h1) u
  rd := h.rd.far (by rw [block_of_add]; exact fun e => h2 e.symm) u
  clone := h.clone.far (fun a ha => by rw [block_of_add]; exact h3 a ha) u
  own := fun a ha i hi => by
    cases ha
    obtain ⟨⟨u0, hu0⟩, hf⟩ := h.own ad rfl i hi
    refine ⟨?_, ?_⟩
    · by_cases e : ad.add j = ad.add i
      · rw [e]; exact ⟨u, World.cell?_setCell_same _ _ _ hu0⟩
      · exact ⟨u0, (World.cell?_setCell_other W (ad.add j) (ad.add i) u (fun e' => e e')).trans hu0⟩
    · rw [World.frozen?_setCell]; exact hf

theorem own_cells {w : World} {base n cap : Nat} {t : TypeId} {A : Option Addr} {xs : List Value} (h : w.ownsRow base t 1 (.slice A n cap) n xs) : ∀ ad, A = some ad → ∀ j, j < n → (∃ u, w.cell? (ad.add j) = some u) ∧ w.frozen? (ad.add j) = false := by
  intro ad ha j hj
  subst ha
  have hl : xs.length = n := by have := h.1; simpa using this
  rcases h.2 with ⟨h0, _⟩ | ⟨g, c, cur, hv, _, hh, _⟩
  · cases h0
  · injection hv with hv _ _
    injection hv with hv
    subst hv
    exact ⟨⟨xs[j], h.cells (g := g) rfl j _ (List.getElem?_eq_getElem (by omega))⟩, by simp [World.frozen?, block_of_add, hh]⟩

/-- What holds between two numbers that are taken. -/
structure TakeRel (w : World) (r n c : Nat) (A : Option Addr) (bs : List UInt8) (k : Nat) (W : World) : Prop where
  le : k ≤ n
  bel : Below w.heap.size w W
  rd : RdAt W r A n c k
  clone : Reads W r 1 A n (u8s bs)
theorem TakeRel.drewN {w : World} {r n c : Nat} {A : Option Addr} {bs : List UInt8} {k : Nat} {W : World} (h : TakeRel w r n c A bs k W) (q : Nat) : TakeRel w r n c A bs k (W.drewN q) := ⟨h.le, below_drewN h.bel q, h.rd.drewN q, h.clone.drewN q⟩
theorem TakeRel.step {w : World} {r n c : Nat} {A : Option Addr} {bs : List UInt8} {k : Nat} {W W' : World} (h : TakeRel w r n c A bs k W) (hb : Below W.heap.size W W') : TakeRel w r n c A bs k W' :=
  ⟨h.le, h.bel.trans (hb.mono h.bel.size), h.rd.here hb, h.clone.keep fun p hp => hb.cell (p := p) (by have := h.rd.lt; omega)⟩
theorem TakeRel.take {w : World} {r n c : Nat} {A : Option Addr} {bs : List UInt8} {k wd : Nat} {W : World} (h : TakeRel w r n c A bs k W) (hr : w.heap.size ≤ r) (hk : k + wd ≤ n) : TakeRel w r n c A bs (k + wd) (W.setCell ⟨r, 1, none⟩ (.int .i64 ((k + wd : Nat) : Int))) :=
  ⟨hk, h.bel.setCell hr _, h.rd.set_ 1 _, h.clone.setCell (Nat.le_refl _) _⟩

set_option maxRecDepth 100000 in
set_option maxHeartbeats 8000000 in
theorem wordTakes_walk (A A' : Option Addr) (n cap m cap' : Nat) (bs : List UInt8) (is : List Int) (hn : n ≤ 140737488351232) (hm : m * 8 ≤ 140737488351232) (w : World) (hg : EType w)
    (hb : Reads w w.heap.size 1 A n (u8s bs)) (hl : Reads w w.heap.size 1 A' m (i64s is)) :
    Calls Tryd.prog 4 #[.slice A n cap, .slice A' m cap'] w fun e w' => e = .returned (.bool true) ∧ Below w.heap.size w w' := by
  have HG := Lib.hid hg
  have HB := Lib.hid hb
  have HL := Lib.hid hl
  have HLN := Lib.hid hl.int_len
  obtain ⟨i0, hi0, hz0, hz1, hz2⟩ := info_parts info_u8
  clear hg hb hl
  go_enter Tryd.func4, Tryd.ntmps4
  go_wp2_with fail
  refine (wordAlive _ HG.out).mono ?_
  rintro e w1 ⟨rfl, hb1⟩
  have B1 := Lib.hid hb1
  clear hb1
  go_wp2_with (at_builtin
               refine wpList_append_wide _ rfl (.tmp 16) (.tmp 17) _ rfl w1.heap.size 5 i0 _ 1 1 Tryd.underlying22 hi0 hz0 hz1 hz2 rfl (by omega) (.slice (some ⟨w1.heap.size, 0, none⟩) 0 0) 0 [] rfl
                 (World.ownsRow_made w1 #[] 0 (Nat.le_refl _) (Nat.zero_le _) (by simp)) _ A n cap (u8s bs) rfl ((HB.out.step B1.out).stepA _) (u8s_one bs) (by simp only [maxLen]; omega) (by omega) (by simp) ?_
               intro v2 w2 hown2 hg2
               rw [Nat.zero_add, List.nil_append] at hown2
               obtain ⟨A2, cap2, rfl, hR2, hA2⟩ := own_slice hown2
               have B2 := Lib.hid (((stepA B1.out (.cells #[] 5)).grown hg2 (by have := B1.out.size; simp; omega) (by intro k hk; simp [Value.ownBlock] at hk; have := B1.out.size; omega)))
               have R2 := Lib.hid hR2
               have C2 := Lib.hid (own_cells hown2)
               have LA2 := Lib.hid (fun ad ha => Nat.le_trans B1.out.size (hA2 ad ha))
               clear hown2 hg2 hR2 hA2)
  refine (new_any A2 n cap2 bs (by omega) _ R2.out).mono ?_
  rintro e w3 ⟨r, A3, c3, rfl, hr3, hR3, hA3, hlr, hb3⟩
  have hlr0 : w.heap.size ≤ r := Nat.le_trans B2.out.size hlr
  have Z3 := Lib.hid (show ZeroRel w r n c3 A3 A2 bs w3 from ⟨stepB B2.out hb3, hr3, hR3, fun ad ha j hj => by
    obtain ⟨⟨u, hu⟩, hf⟩ := C2.out ad ha j hj
    have hlt := World.block_lt_of_cell? _ _ hu
    exact ⟨⟨u, (hb3.cell hlt).trans hu⟩, (hb3.frozen hlt).trans hf⟩⟩)
  have LA3 := Lib.hid hA3
  have R2B := Lib.hid (fun (hn0 : 0 < n) => (R2.out.2 hn0))
  clear hr3 hR3 hA3 hb3 C2
  go_wp2_with fail
  go_loopw [7] (fun i W => ∃ j : Nat, j ≤ n ∧ i = .int .i64 j ∧ ZeroRel w r n c3 A3 A2 bs W) (fun i _ => n - (intOf i).toNat)
  case atStart => exact ⟨0, Nat.zero_le _, rfl, Z3.out⟩
  case round =>
    obtain ⟨j, hj, rfl, hz⟩ := hrel
    rename World => W
    have Z := Lib.hid hz
    clear hz
    by_cases hlt : j < n
    · obtain ⟨ad, rfl, hbA, _⟩ := R2B.out (by omega)
      obtain ⟨⟨u, hu⟩, hf⟩ := Z.out.own ad rfl j hlt
      have ZN := Lib.hid (fun x => Z.out.store (LA2.out ad rfl) (by omega) (fun a ha => by have := LA3.out a ha; omega) hlt x)
      go_wp2_with fail
      go_roundw
      case rel => exact ⟨j + 1, by omega, by go_num, ZN.out _⟩
      case measure => simp [intOf]; omega
    · go_wp2_with fail
      go_loopw [8, 9] (fun a i W => ∃ k j : Nat, j ≤ m ∧ a = .int .i64 k ∧ i = .int .i64 j ∧ TakeRel w r n c3 A3 bs k W) (fun _ i _ => m - (intOf i).toNat)
      case atStart => exact ⟨0, 0, Nat.zero_le _, rfl, rfl, Nat.zero_le _, Z.out.bel, Z.out.rd, Z.out.clone⟩
      case round =>
        obtain ⟨k, j, hj, rfl, rfl, ht⟩ := hrel
        rename World => V
        have T := Lib.hid ht
        have hkn := ht.le
        clear ht
        by_cases hlt : j < m
        · have hjl : j < is.length := by rw [HLN.out]; exact hlt
          obtain ⟨ad, rfl, _, _⟩ := HL.out.int_at hjl
          have HCELL := Lib.hid (fun (U : World) (hU : Below w.heap.size w U) => by
            obtain ⟨a', e', _, h'⟩ := (HL.out.below hU).int_at hjl
            cases e'
            exact h')
          generalize is[j] = x at HCELL
          have c0 := HCELL.out V T.out.bel
          cases hx : mayW x with
          | false =>
            have HX := Lib.hid hx
            clear hx
            go_wp2_with fail
            refine (take_arg r x HX.out _).mono ?_
            rintro e w4 ⟨rfl, rfl⟩
            go_wp2_with fail
            refine (takeR_arg _ _ x HX.out _).mono ?_
            rintro e w4 ⟨rfl, rfl⟩
            go_wp2_with fail
            refine (code_errno 1 (by decide) _).mono ?_
            rintro e w4 ⟨rfl, rfl⟩
            go_wp2_with fail
            refine (rdAt_any r n c3 k A3 _ T.out.rd).mono ?_
            rintro e w4 ⟨rfl, rfl⟩
            go_wp2_with fail
            refine (left_gen r n c3 k A3 (by omega) (by omega) (by omega) _ T.out.rd).mono ?_
            rintro e w4 ⟨rfl, q, rfl⟩
            go_wp2_with fail
            go_roundw
            case rel => exact ⟨k, j + 1, by omega, rfl, by go_num, T.out.drewN q⟩
            case measure => simp [intOf]; omega
          | true =>
            obtain ⟨hx1, hx4⟩ := mayW_iff.1 hx
            obtain ⟨wd, rfl⟩ : ∃ wd : Nat, x = wd := ⟨x.toNat, by omega⟩
            clear hx
            have h1 : 1 ≤ wd := by omega
            have h4 : wd ≤ 4 := by omega
            clear hx1 hx4
            by_cases hs : k + wd ≤ n
            · go_wp2_with fail
              refine (take_ok r n c3 k wd A3 bs h1 h4 hs (by omega) _ T.out.rd (T.out.clone.more (Nat.le_of_lt T.out.rd.lt))).mono ?_
              rintro e w4 ⟨rfl, q, rfl⟩
              have T4 := Lib.hid ((T.out.drewN q).take hlr0 hs)
              have c4 := HCELL.out _ T4.out.bel
              have RD4 := Lib.hid T4.out.rd
              generalize (V.drewN q).setCell ⟨r, 1, none⟩ (.int .i64 ((k + wd : Nat) : Int)) = V4 at T4 c4 RD4 ⊢
              clear c0
              go_wp2_with fail
              refine (takeR_ok A n cap k wd w.heap.size bs h1 h4 hs (by omega) _ (HB.out.below T4.out.bel)).mono ?_
              rintro e w5 ⟨rfl, rfl⟩
              go_wp2_with fail
              refine (code_nil _).mono ?_
              rintro e w5 ⟨rfl, rfl⟩
              go_wp2_with fail
              rw [Int.natCast_add] at RD4
              refine (rdAt_any r n c3 _ A3 _ RD4.out).mono ?_
              rintro e w5 ⟨rfl, rfl⟩
              go_wp2_with fail
              refine (left_gen r n c3 _ A3 (by omega) (by omega) (by omega) _ RD4.out).mono ?_
              rintro e w5 ⟨rfl, q2, rfl⟩
              go_wp2_with fail
              go_roundw
              case rel => exact ⟨k + wd, j + 1, by omega, by go_num, by go_num, T4.out.drewN q2⟩
              case measure => simp [intOf]; omega
            · go_wp2_with fail
              refine (take_short r n c3 k wd A3 h1 h4 hkn (by omega) (by omega) _ T.out.rd).mono ?_
              rintro e w4 ⟨b, rfl, hb4, hlb, hF4⟩
              have T4 := Lib.hid (T.out.step hb4)
              have F4 := Lib.hid hF4
              have c4 := HCELL.out _ T4.out.bel
              clear hb4 hlb hF4 c0
              go_wp2_with fail
              refine (takeR_short A n cap k wd h1 h4 (by omega) (by omega) hkn _).mono ?_
              rintro e w5 ⟨rfl, rfl⟩
              go_wp2_with fail
              refine (code_fault b n 3 (by decide) _ F4.out).mono ?_
              rintro e w5 ⟨rfl, rfl⟩
              go_wp2_with fail
              refine (at_fault b n 3 _ ?_ F4.out).mono ?_
              · exact HG.out.below T4.out.bel
              rintro e w5 ⟨rfl, hb5⟩
              have T5 := Lib.hid (T4.out.step hb5)
              clear hb5
              go_wp2_with fail
              refine (rdAt_any r n c3 k A3 _ T5.out.rd).mono ?_
              rintro e w6 ⟨rfl, rfl⟩
              go_wp2_with fail
              refine (left_gen r n c3 k A3 (by omega) (by omega) (by omega) _ T5.out.rd).mono ?_
              rintro e w6 ⟨rfl, q, rfl⟩
              go_wp2_with fail
              go_roundw
              case rel => exact ⟨k, j + 1, by omega, rfl, by go_num, T5.out.drewN q⟩
              case measure => simp [intOf]; omega
        · go_wp2_with fail
          go_ret
          exact ⟨rfl, T.out.bel⟩
end Go.Proofs.YthgckcbfchigfaaDoor
