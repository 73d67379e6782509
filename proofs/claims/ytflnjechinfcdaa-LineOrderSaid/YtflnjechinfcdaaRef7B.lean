/- The document's line: Push and Leave, whatever comes. -/
import Derived.Test.YtflnjechinfcdaaRef7P
import Derived.Test.YtflnjechinfcdaaRef7Y
import Derived.Test.YtflnjechinfcdaaRef7Z
import Derived.Test.YtflnjechinfcdaaRef7L
namespace Go.Proofs.Ytflnjechinfcdaa
open Go.RowKit
set_option linter.unusedVariables false
set_option linter.unusedSimpArgs false

set_option maxRecDepth 100000 in
set_option maxHeartbeats 4000000 in
theorem refPush_bad (A : Option Addr) (n cc : Nat) (lim : Int) (q : Wt) (w : World) (hm : mayW q = false) : Calls Try.prog 11 #[.slice A n cc, .int .i64 lim, .agg (wc q)] w fun e w' => e = .returned (.tuple #[.slice A n cc, .int .i64 1]) ∧ Below w.heap.size w w' := by
  have HM := Lib.hid hm
  clear hm
  obtain ⟨a, b, c, d⟩ := q
  show Calls _ _ #[_, _, .agg #[.int .i64 a, .int .i64 b, .int .i64 c, .bool d]] _ _
  go_enter Try.func11, Try.ntmps11
  go_wp2_with (go_at_call 21; refine (may_any ⟨a, b, c, d⟩ _).mono ?_; rintro e w1 ⟨rfl, hb⟩; rw [HM.out]; have HB := Lib.hid (stepB (Joins.below_alloc1 w _) hb); clear hb)
  go_ret2
  exact ⟨rfl, HB.out⟩
set_option maxRecDepth 100000 in
set_option maxHeartbeats 4000000 in
theorem refPush_busy (A : Option Addr) (n cc B : Nat) (lim : Int) (q : Wt) (L : List Wt) (w : World) (h : Reads w B 4 A n (wvs L)) (hB : B ≤ w.heap.size) (hn : n ≤ 1000) (hm : mayW q = true) {k : Nat} (hx : idx q.tx L = some k) :
    Calls Try.prog 11 #[.slice A n cc, .int .i64 lim, .agg (wc q)] w fun e w' => e = .returned (.tuple #[.slice A n cc, .int .i64 8]) ∧ Below w.heap.size w w' := by
  have HM := Lib.hid hm
  have H := Lib.hid h
  have HB := Lib.hid hB
  obtain ⟨a, b, c, d⟩ := q
  have HF := Lib.hid (show refF a L = (k : Int) by unfold refF; rw [hx])
  have d1 : decide (0 ≤ (k : Int)) = true := by simp
  clear hm h hx hB
  have H0 := Lib.hid (show Blk (w.alloc (.cells #[.int .i64 a, .int .i64 b, .int .i64 c, .bool d] 33)) w.heap.size 33 (wc ⟨a, b, c, d⟩) from Blk.new _ _ _)
  show Calls _ _ #[_, _, .agg #[.int .i64 a, .int .i64 b, .int .i64 c, .bool d]] _ _
  go_enter Try.func11, Try.ntmps11
  go_wp2_with (go_at_call 21; refine (may_any ⟨a, b, c, d⟩ _).mono ?_; rintro e w1 ⟨rfl, hb⟩; rw [HM.out]; have B1 := Lib.hid (stepB (Joins.below_alloc1 w _) hb); have X1 := Lib.hid (H0.out.here hb); have k0 : w1.cell? ⟨w.heap.size, 0, none⟩ = some (.int .i64 a) := X1.out.cell 0; have R1 := Lib.hid (((H.out.more HB.out).below B1.out).more B1.out.size); clear hb)
  refine (refFind_any A n cc w1.heap.size _ a w1 (by omega) R1.out).mono ?_
  rintro e w' ⟨rfl, rfl⟩
  rw [HF.out]
  go_wp2_with fail
  go_ret2
  exact ⟨rfl, B1.out⟩
set_option maxRecDepth 100000 in
set_option maxHeartbeats 4000000 in
theorem refPush_long (A : Option Addr) (n cc B : Nat) (lim : Int) (q : Wt) (L : List Wt) (w : World) (h : Reads w B 4 A n (wvs L)) (hB : B ≤ w.heap.size) (hn : n ≤ 1000) (hm : mayW q = true) (hx : idx q.tx L = none) (hl : lim ≤ (n : Int)) :
    Calls Try.prog 11 #[.slice A n cc, .int .i64 lim, .agg (wc q)] w fun e w' => e = .returned (.tuple #[.slice A n cc, .int .i64 7]) ∧ Below w.heap.size w w' := by
  have HM := Lib.hid hm
  have H := Lib.hid h
  have HB := Lib.hid hB
  obtain ⟨a, b, c, d⟩ := q
  have HF := Lib.hid (show refF a L = -1 by unfold refF; rw [hx])
  have d1 : decide (lim ≤ (n : Int)) = true := by simpa using hl
  clear hm h hx hB hl
  have H0 := Lib.hid (show Blk (w.alloc (.cells #[.int .i64 a, .int .i64 b, .int .i64 c, .bool d] 33)) w.heap.size 33 (wc ⟨a, b, c, d⟩) from Blk.new _ _ _)
  show Calls _ _ #[_, _, .agg #[.int .i64 a, .int .i64 b, .int .i64 c, .bool d]] _ _
  go_enter Try.func11, Try.ntmps11
  go_wp2_with (go_at_call 21; refine (may_any ⟨a, b, c, d⟩ _).mono ?_; rintro e w1 ⟨rfl, hb⟩; rw [HM.out]; have B1 := Lib.hid (stepB (Joins.below_alloc1 w _) hb); have X1 := Lib.hid (H0.out.here hb); have k0 : w1.cell? ⟨w.heap.size, 0, none⟩ = some (.int .i64 a) := X1.out.cell 0; have R1 := Lib.hid (((H.out.more HB.out).below B1.out).more B1.out.size); clear hb)
  refine (refFind_any A n cc w1.heap.size _ a w1 (by omega) R1.out).mono ?_
  rintro e w' ⟨rfl, rfl⟩
  rw [HF.out]
  go_wp2_with fail
  go_ret2
  exact ⟨rfl, B1.out⟩

/-- What the document's calls hand back: a slice that reads so. -/
structure Back (w w' : World) (A A' : Option Addr) (n' c' : Nat) (L : List Wt) : Prop where
  reads : Reads w' w'.heap.size 4 A' n' (wvs L)
  bel : Below w.heap.size w w'
  cap : n' ≤ c'
  kin : Kin w w' A A'
theorem refPush_any (A : Option Addr) (n cc B : Nat) (lim : Int) (q : Wt) (U D : List Wt) (w : World) (hok : LinOk lim U D) (h : Reads w B 4 A n (wvs (U ++ D))) (hB : B ≤ w.heap.size) (hcc : n ≤ cc) :
    Calls Try.prog 11 #[.slice A n cc, .int .i64 lim, .agg (wc q)] w fun e w' => ∃ A' n' c', e = .returned (.tuple #[.slice A' n' c', .int .i64 (pushC lim q U D)]) ∧ Back w w' A A' n' c' (putU lim q U D ++ putD lim q U D) := by
  have hlen := hok.len
  have hn : n = U.length + D.length := by have := h.w_len; rw [List.length_append] at this; omega
  have same : ∀ c : Int, c ≠ 0 → pushC lim q U D = c → ∀ (e : Ending) (w' : World), e = .returned (.tuple #[.slice A n cc, .int .i64 c]) ∧ Below w.heap.size w w' → ∃ A' n' c', e = .returned (.tuple #[.slice A' n' c', .int .i64 (pushC lim q U D)]) ∧ Back w w' A A' n' c' (putU lim q U D ++ putD lim q U D) := by
    rintro c hc he e w' ⟨rfl, hb⟩
    refine ⟨A, n, cc, by rw [he], ?_, hb, hcc, .inl rfl⟩
    unfold putU putD
    rw [he, if_neg hc, if_neg hc]
    exact ((h.more hB).below hb).more hb.size
  cases hm : mayW q with
  | false => exact (refPush_bad A n cc lim q w hm).mono (same 1 (by decide) (by unfold pushC; rw [if_pos hm]))
  | true =>
    cases hx : idx q.tx (U ++ D) with
    | some k => exact (refPush_busy A n cc B lim q _ w h hB (by omega) hm hx).mono (same 8 (by decide) (by unfold pushC; rw [if_neg (by rw [hm]; decide), if_pos (by rw [hx]; rfl)]))
    | none =>
      by_cases hl : lim ≤ ((U.length + D.length : Nat) : Int)
      · exact (refPush_long A n cc B lim q _ w h hB (by omega) hm hx (by rw [hn]; exact hl)).mono (same 7 (by decide) (by unfold pushC; rw [if_neg (by rw [hm]; decide), if_neg (by rw [hx]; decide), if_pos hl]))
      · have he : pushC lim q U D = 0 := by unfold pushC; rw [if_neg (by rw [hm]; decide), if_neg (by rw [hx]; decide), if_neg hl]
        have e2 : putU lim q U D = pushU q U := by unfold putU; rw [if_pos he]
        have e3 : putD lim q U D = pushD q D := by unfold putD; rw [if_pos he]
        rw [he, e2, e3]
        obtain ⟨a, b, c, d⟩ := q
        have fin : ∀ (R : List Wt), R = pushU ⟨a, b, c, d⟩ U ++ pushD ⟨a, b, c, d⟩ D → ∀ (e : Ending) (w' : World), (∃ A' c', e = .returned (.tuple #[.slice A' (n + 1) c', .int .i64 0]) ∧ Reads w' w'.heap.size 4 A' (n + 1) (wvs R) ∧ Below w.heap.size w w' ∧ n + 1 ≤ c' ∧ Kin w w' A A') →
            ∃ A' n' c', e = .returned (.tuple #[.slice A' n' c', .int .i64 0]) ∧ Back w w' A A' n' c' (pushU ⟨a, b, c, d⟩ U ++ pushD ⟨a, b, c, d⟩ D) := by
          rintro R rfl e w' ⟨A', c', rfl, h1, h2, h3, h4⟩
          exact ⟨A', n + 1, c', rfl, h1, h2, h3, h4⟩
        cases d with
        | false => exact (refPush_down A n cc B lim a b c U D w hok.ups hok.dns h hB hcc (by omega) hm hx (by omega)).mono (fin _ rfl)
        | true =>
          rcases Nat.eq_zero_or_pos U.length with h0 | h0
          · exact (refPush_up0 A n cc B lim a b c U D w hok.ups hok.dns (List.eq_nil_of_length_eq_zero h0) h hB hcc (by omega) hm hx (by omega)).mono (fin _ rfl)
          · exact (refPush_up1 A n cc B lim a b c U D w hok.ups hok.dns h0 h hB hcc (by omega) hm hx (by omega)).mono (fin _ rfl)
theorem refLeave_any (A : Option Addr) (n cc B : Nat) (lim tx : Int) (U D : List Wt) (w : World) (hok : LinOk lim U D) (h : Reads w B 4 A n (wvs (U ++ D))) (hB : B ≤ w.heap.size) (hcc : n ≤ cc) :
    Calls Try.prog 12 #[.slice A n cc, .int .i64 tx] w fun e w' => ∃ A' n' c', e = .returned (.tuple #[.slice A' n' c', .agg (wc (levW tx U D)), .int .i64 (levC tx U D)]) ∧ Back w w' A A' n' c' (levU tx U ++ levD tx U D) := by
  have hlen := hok.len
  have hn : n = U.length + D.length := by have := h.w_len; rw [List.length_append] at this; omega
  rw [lev_append]
  unfold levW levC
  cases hx : idx tx (U ++ D) with
  | none =>
    refine (refLeave_none A n cc B _ tx w h hB (by omega) hx).mono ?_
    rintro e w' ⟨rfl, hb⟩
    exact ⟨A, n, cc, rfl, ((h.more hB).below hb).more hb.size, hb, hcc, .inl rfl⟩
  | some k =>
    have hk := idx_lt hx
    refine (refLeave_some A n cc B _ tx w h hB hcc (by omega) hx hk).mono ?_
    rintro e w' ⟨A', c', rfl, h1, h2, h3, h4⟩
    refine ⟨A', n - 1, c', ?_, h1, h2, h3, h4⟩
    simp [List.getD, List.getElem?_eq_getElem hk]
end Go.Proofs.Ytflnjechinfcdaa
