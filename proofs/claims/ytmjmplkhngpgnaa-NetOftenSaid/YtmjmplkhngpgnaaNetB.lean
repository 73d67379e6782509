/- The contracts of package net's Send, of slices.Delete at pointers, of the closures of Deliver and Twice. -/
import Derived.Test.YtmjmplkhngpgnaaNetA
import Derived.Test.YtmjmplkhngpgnaaShelf5
namespace Go.Proofs.Ytmjmplkhngpgnaa
open Go.RowKit
set_option linter.unusedVariables false
set_option linter.unusedSimpArgs false

def sendMs (lim : Int) (ms : List (List Int)) (m : List Int) : List (List Int) := if mayB m then addMs lim ms m else ms
def sendE (lim : Int) (ms : List (List Int)) (m : List Int) : Value := if mayB m then addE lim ms else errno 5
set_option maxRecDepth 100000 in
set_option maxHeartbeats 1000000 in
theorem send_nil (m : List Int) (w : World) : Calls Try.prog 21 #[.pointer none, .agg (mc m)] w fun e w' => e = .returned (errno 1) ∧ Below w.heap.size w w' := by
  go_enter Try.func21, Try.ntmps21
  go_wp2_with fail
  go_ret
  exact ⟨rfl, Joins.below_alloc1 _ _⟩
set_option maxRecDepth 100000 in
set_option maxHeartbeats 4000000 in
theorem send_any {B g : Nat} {r : Option Nat} {lim : Int} {ms : List (List Int)} {m : List Int} (w : World) (h : Net w B g r lim ms) (hl : m.length = 28) :
    Calls Try.prog 21 #[.pointer (some ⟨g, 0, none⟩), .agg (mc m)] w fun e w' => e = .returned (sendE lim ms m) ∧ ∃ r', Net w' B g r' lim (sendMs lim ms m) ∧ Turn (NS g r) w w' ∧ Next w r r' := by
  have HN := Lib.hid h
  have HL := Lib.hid hl
  have HI := Lib.hid (mc_info hl)
  have M0 := Lib.hid (Blk.new w 31 (mc m))
  have hn0 := fun W => run_eql_nil_nil (P := Try.prog) W 33 Try.underlying33
  have hn1 := fun W k => run_eql_held_nil (P := Try.prog) W 33 69 (.int .i64 k) Try.underlying33
  clear h hl
  cases hm : mayB m
  · have HE := Lib.hid (show sendE lim ms m = errno 5 by unfold sendE; rw [hm]; rfl)
    have HS := Lib.hid (show sendMs lim ms m = ms by unfold sendMs; rw [hm]; rfl)
    have HM := Lib.hid hm
    clear hm
    go_enter Try.func21, Try.ntmps21
    go_wp2_with (refine wpList_load_row rfl 31 (.tmp 3) rfl w.heap.size rfl 31 (mc m) (0, 0) _ M0.out Try.underlying31 rfl HI.out ?_)
    refine (ok_any m HL.out _).mono ?_
    rintro e w1 ⟨rfl, hb1⟩
    rw [HM.out, if_neg (by decide)]
    have B1 := Lib.hid (stepB (stepA (Below.refl w.heap.size w) _) hb1)
    clear hb1
    go_wp2_with fail
    go_ret
    exact ⟨by rw [HE.out]; rfl, r, by rw [HS.out]; exact HN.out.step B1.out, Turn.of_below B1.out, Next.refl _ _⟩
  · have HE := Lib.hid (show sendE lim ms m = addE lim ms by unfold sendE; rw [hm]; rfl)
    have HS := Lib.hid (show sendMs lim ms m = addMs lim ms m by unfold sendMs; rw [hm]; rfl)
    have HM := Lib.hid hm
    clear hm
    go_enter Try.func21, Try.ntmps21
    go_wp2_with (refine wpList_load_row rfl 31 (.tmp 3) rfl w.heap.size rfl 31 (mc m) (0, 0) _ M0.out Try.underlying31 rfl HI.out ?_)
    refine (ok_any m HL.out _).mono ?_
    rintro e w1 ⟨rfl, hb1⟩
    rw [HM.out, if_pos rfl]
    have B1 := Lib.hid (stepB (stepA (Below.refl w.heap.size w) _) hb1)
    have M1 := Lib.hid (M0.out.here hb1)
    clear hb1
    go_wp2_with fail
    refine (add_any _ (HN.out.step B1.out) M1.out HL.out).mono ?_
    rintro e w2 ⟨rfl, r2, hn2, ht2, hx2⟩
    have N2 := Lib.hid hn2
    have T2 := Lib.hid ht2
    have X2 := Lib.hid hx2
    clear hn2 ht2 hx2
    go_wp2_with fail
    go_ret
    exact ⟨by rw [HE.out]; rfl, r2, by rw [HS.out]; exact N2.out, (Turn.of_below B1.out).trans T2.out (fun _ _ h => h), (Next.refl _ _).trans X2.out B1.out.size⟩

/-! ### slices.Delete of one element, at pointers -/
theorem ptr_get {ps : List Nat} {j : Nat} (h : j < ps.length) : (ps.map ptr)[j]? = some (ptr ps[j]) := by simp [h]
set_option maxRecDepth 100000 in
theorem delete_any {B n c i : Nat} {A : Option Addr} {ps : List Nat} (w : World) (h : w.ownsRow B 80 1 (.slice A n c) n (ps.map ptr)) (hi : i < n) :
    Calls Try.prog 40 #[.slice A n c, .int .i64 i, .int .i64 ((i : Int) + 1)] w fun e w' => e = .returned (.slice A (n - 1) c) ∧
      w'.ownsRow B 80 1 (.slice A (n - 1) c) (n - 1) ((ps.eraseIdx i).map ptr) ∧ Turn (fun k => (Value.slice A n c).ownBlock = some k) w w' := by
  have hlen : ps.length = n := by have := h.1; simpa using this
  rcases h.2 with ⟨e, h0⟩ | ⟨rb, cap, cur, hv, hB, hh, hnc, hcm, hcs, htk⟩
  · omega
  · injection hv with e1 e2 e3
    subst e1 e3
    obtain ⟨i0, hi0, hz0, hz1, hz2⟩ := info_parts info_ptr
    rw [Nat.mul_one] at htk
    have hd : (ps.map fun p => some (⟨p, 0, none⟩ : Addr)).toArray.size = n := by simp [hlen]
    have hcur : ∀ j, j < n → cur[j]? = some (ptr (ps.getD j 0)) := by
      intro j hj
      have h1 : (cur.toList.take n)[j]? = (ps.map ptr)[j]? := by rw [htk]
      rw [List.getElem?_take, if_pos hj, ptr_get (by omega)] at h1
      simpa [List.getD, hlen, hj] using h1
    have hH : Go.Sort.Holds (fun o : Option Addr => Value.pointer o) w rb 0 (ps.map fun p => some (⟨p, 0, none⟩ : Addr)).toArray := by
      intro j hj
      rw [hd] at hj
      rw [Nat.zero_add]
      refine ⟨?_, Blk.frozen (t := 80) (cs := cur) hh j⟩
      rw [Blk.cell (t := 80) (cs := cur) hh j, hcur j hj, getElem!_pos _ _ (by rw [hd]; exact hj)]
      simp [ptr, List.getD, hlen, hj]
    have hcon := AnyE.slices_Delete (P := Try.prog) Try.laysDel (fun o : Option Addr => Value.pointer o) (fun _ => rfl) none (fun w => Try.zeroValue80 w) i0 hi0 hz1 rb 0 c i (i + 1) (ps.map fun p => some (⟨p, 0, none⟩ : Addr)).toArray w hH (by rw [hd]; exact hnc) hcm (by omega) (by rw [hd]; omega)
    rw [hd, show i + 1 - i = 1 by omega] at hcon
    refine Calls.mono (show Calls Try.prog 40 #[.slice (some ⟨rb, 0, none⟩) n c, .int .i64 i, .int .i64 ((i : Int) + 1)] w _ from hcon) ?_
    rintro e w' ⟨rfl, q, rfl⟩
    refine ⟨rfl, ?_, ?_⟩
    · have he : (ps.map fun p => some (⟨p, 0, none⟩ : Addr)).toArray.toList.take i ++ (ps.map fun p => some (⟨p, 0, none⟩ : Addr)).toArray.toList.drop (i + 1) ++ List.replicate 1 none = (ps.eraseIdx i).map (fun p => some (⟨p, 0, none⟩ : Addr)) ++ [none] := by
        rw [List.eraseIdx_eq_take_drop_succ]
        simp [List.map_take, List.map_drop]
      rw [he]
      have hel : (ps.eraseIdx i).length = n - 1 := by rw [List.length_eraseIdx, if_pos (by omega), hlen]
      have hh' : (Go.Sort.putRow (fun o : Option Addr => Value.pointer o) (Go.Sort.ahead w q) rb 0 ((ps.eraseIdx i).map (fun p => some (⟨p, 0, none⟩ : Addr)) ++ [none]).toArray).heap[rb]? = some (.cells (Go.Sort.putCells (fun o : Option Addr => Value.pointer o) 0 ((ps.eraseIdx i).map (fun p => some (⟨p, 0, none⟩ : Addr)) ++ [none]).toArray cur) 80 (0, 0)) := by
        simp only [Go.Sort.putRow, Go.Sort.mapBlock, Go.Sort.ahead, Array.getElem?_modify, hh, if_true, Option.map_some, Go.Sort.onCells]
      refine ⟨by simp [hel], .inr ⟨rb, c, _, rfl, hB, hh', by omega, hcm, by simpa [Go.Sort.putCells] using hcs, ?_⟩⟩
      apply List.ext_getElem?
      intro j
      rw [Nat.mul_one, List.getElem?_take]
      by_cases hj : j < n - 1
      · rw [if_pos hj, Array.getElem?_toList, Go.Sort.putCells, Array.getElem?_mapIdx, hcur j (by omega), Option.map_some, if_pos (by simp [hel]; omega), Nat.sub_zero, getElem!_pos _ _ (by simp [hel]; omega)]
        rw [List.getElem_toArray, List.getElem_append_left (by simp [hel]; omega)]
        simp [ptr, hel, hj]
      · rw [if_neg hj, List.getElem?_eq_none (by simp [hel]; omega)]
    · refine ⟨rfl, rfl, rfl, by simp [Go.Sort.putRow, Go.Sort.mapBlock, Go.Sort.ahead], fun k hk hn => ?_⟩
      have hne : rb ≠ k := fun e => hn (by subst e; rfl)
      simp only [Go.Sort.putRow, Go.Sort.mapBlock, Go.Sort.ahead, Array.getElem?_modify, if_neg hne]

/-! ### the closures -/
section
variable {W w3 : World} {B g : Nat} {lim : Int} {ms : List (List Int)} {v v3 : Value} {ps : List Nat} {i : Nat}
theorem NetW.deleted (h : NetW W B g lim ms v ps) (hi : i < ms.length) (ht : Turn (fun k => v.ownBlock = some k) W w3) (hown : w3.ownsRow B 80 1 v3 (ms.length - 1) ((ps.eraseIdx i).map ptr)) (hv : v3.ownBlock = v.ownBlock) :
    Blk w3 g 78 #[.int .i64 lim, v] ∧ NetW (w3.setCell ⟨g, 1, none⟩ v3) B g lim (ms.eraseIdx i) v3 (ps.eraseIdx i) ∧ Turn (NS g v.ownBlock) W (w3.setCell ⟨g, 1, none⟩ v3) := by
  have hb : Blk w3 g 78 #[.int .i64 lim, v] := h.box.turn ht h.apart
  have keep : ∀ k cs, Blk W k 31 cs → Blk (w3.setCell ⟨g, 1, none⟩ v3) k 31 cs := fun k cs hk => (hk.turn ht (h.apart_msg hk).2).far (p := ⟨g, 1, none⟩) (h.apart_msg hk).1 v3
  have hel : (ms.eraseIdx i).length = ms.length - 1 := by rw [List.length_eraseIdx, if_pos hi]
  refine ⟨hb, ⟨?_, ?_, ?_, ?_, h.geB, ?_, h.top⟩, ?_⟩
  · exact hb.set_ 1 v3
  · have := own_turn (S := fun k => k = g) hown ((Turn.refl (fun k => k = g) w3).setCell (p := ⟨g, 1, none⟩) (fun _ => rfl) v3) (fun k hk e => by
      obtain ⟨cur, hh, _⟩ := own_heap hown k hk
      exact heap_ne hb hh (by decide) e.symm)
    rw [hel]; exact this
  · intro j q m' hq hm'
    rw [List.getElem?_eraseIdx] at hq hm'
    split at hq
    · rename_i hj
      rw [if_pos hj] at hm'
      exact keep _ _ (h.pts j q m' hq hm')
    · rename_i hj
      rw [if_neg hj] at hm'
      exact keep _ _ (h.pts (j + 1) q m' hq hm')
  · exact fun m' hm' => h.all m' (List.mem_of_mem_eraseIdx hm')
  · have := h.cnt; rw [hel]; omega
  · exact (ht.mono (S' := NS g v.ownBlock) fun k _ hk => .inr hk).setCell (p := ⟨g, 1, none⟩) (fun _ => .inl rfl) v3
end
end Go.Proofs.Ytmjmplkhngpgnaa
