/- The document's with: numbers, rising, and one more. -/
import Derived.Test.YthfhhapefjideaaGreatTxRa
import Derived.Test.YthfhhapefjideaaGreatGraJ
namespace Go.Proofs.YthfhhapefjideaaGreat
open Go.RowKit
set_option linter.unusedVariables false
set_option linter.unusedSimpArgs false

set_option maxRecDepth 100000 in
set_option maxHeartbeats 8000000 in
theorem refWith_any {B : Nat} {v : Value} {l : List Int} (n : Int) (w : World) (h : NumR w B v l) (hl : Ris l) (hn : l.length ≤ 900) :
    Calls Tryz.prog 50 #[v, .int .i64 n] w fun e w' => ∃ u, e = .returned u ∧ NumR w' w.heap.size u (ins n l) ∧ Below w.heap.size w w' := by
  obtain ⟨A, c, rfl, rd, _, _⟩ := own_rd h
  have E1 := Lib.hid (own_empty (base := w.heap.size) w 3 (Nat.le_refl _))
  have R1 := Lib.hid (rd.alloc (Nat.le_refl _) (.cells #[] 3))
  have B1 := Lib.hid (Joins.below_alloc1 w (.cells #[] 3))
  have HL := Lib.hid hl
  have HN := Lib.hid hn
  clear h rd hl hn
  go_enter Tryz.func50, Tryz.ntmps50
  go_upto_region 1 with fail
  go_wp2_with (first
    | (at_builtin
       refine wpList_app_reads _ rfl (.tmp 5) (.tmp 6) _ rfl Tryz.underlying27 w.heap.size (.slice (some ⟨w.heap.size, 0, none⟩) 0 0) 0 [] rfl E1.out w.heap.size A l.length c l rfl R1.out (by have := HN.out; omega) B1.out.size ?_
       intro v7 W7 hown hgr _
       have O7 := Lib.hid (show W7.ownsRow w.heap.size 3 1 v7 l.length (i64s l) from by rw [Nat.zero_add] at hown; exact hown)
       have B7 := Lib.hid (show Below w.heap.size w W7 from B1.out.trans (((Turn.refl (fun k => w.heap.size ≤ k) _).grown hgr (fun k hk _ => (own_ge E1.out hk).1)).below (B := w.heap.size) (fun k hk e => by omega) B1.out.size))
       clear hown hgr E1 R1 B1)
    | (at_builtin
       refine wpList_app_new _ rfl (.tmp 7) (.tmp 9) _ rfl Tryz.underlying27 w.heap.size _ l.length l rfl (World.ownsRow.alloc O7.out _) [n] 1 1 W7 _ rfl W7.heap.size rfl rfl rfl (by have := HN.out; omega) (by have := B7.out.size; simp only [World.alloc, Array.size_push]; omega) ?_
       intro v9 W9 hown hgr _
       have O9 := Lib.hid (show W9.ownsRow w.heap.size 3 1 v9 (l.length + 1) (i64s (l ++ [n])) from hown)
       have B9 := Lib.hid (show Below w.heap.size w W9 from (B7.out.alloc B7.out.size _).trans (((Turn.refl (fun k => w.heap.size ≤ k) _).grown hgr (fun k hk _ => (own_ge O7.out hk).1)).below (B := w.heap.size) (fun k hk e => by omega) (B7.out.alloc B7.out.size _).size))
       clear hown hgr O7 B7
       obtain ⟨A9, c9, rfl, rd9, _, _⟩ := own_rd O9.out
       have R9 := Lib.hid rd9
       clear rd9)
    | (go_at_call 60
       refine (rising_any W9 R9.out (Nat.le_refl _) (by have := HN.out; omega)).mono ?_
       rintro e W10 ⟨v10, r, rfl, hris, hmem, _, ho, hb⟩
       obtain rfl : r = ins n l := ris_ext hris (ris_ins' HL.out) fun y => by
         rw [hmem, mem_ins, List.mem_append, List.mem_singleton]
         constructor
         · rintro (h | h); exact .inr h; exact .inl h
         · rintro (h | h); exact .inr h; exact .inl h
       have O10 := Lib.hid (own_less ho B9.out.size)
       have B10 := Lib.hid (stepB B9.out hb)
       clear hris hmem ho hb))
  go_ret
  exact ⟨_, rfl, O10.out, B10.out⟩
end Go.Proofs.YthfhhapefjideaaGreat
