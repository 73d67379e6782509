/- slices.Delete of one element, at structs of four cells. -/
import Derived.Test.YtflnjechinfcdaaLineA
import Derived.Shelf.RegionOpenPlain
import Derived.WalkKit
import Derived.Deep.LoopGhost
import Derived.Deep.RegionLaw
import Derived.Lib.Walk
import Derived.Lib.SliceRun
namespace Go.Proofs.Ytflnjechinfcdaa
open Go.RowKit Go.Lib
set_option linter.unusedVariables false
set_option linter.unusedSimpArgs false

theorem run_clear_one {P : Program} (w : World) (t e ty : TypeId) (z : Value) (zs : List Value) (ht : P.underlying t = some (.slice e)) (hv : ∀ w, (zeroValue e).run P w = .ok z w) (hz : z.cells = zs.toArray) (hl : 0 < zs.length) (h1 : ∀ v ∈ zs, v.oneCell' = true) (b o c : Nat)
    (hc : ∀ j, j < zs.length → (w.cell? ⟨b, o + j, none⟩).isSome = true) (hf : ∀ j, j < zs.length → w.frozen? ⟨b, o + j, none⟩ = false) :
    (Builtin.clear_ #[t] ty #[.slice (some ⟨b, o, none⟩) 1 c]).run P w = .ok (.tuple #[]) (w.setCells b o zs) := by
  have hzc : (Builtin.zeroCells z.cells 1).toList = zs := by
    rw [hz]
    apply List.ext_getElem
    · simp [Builtin.zeroCells]
    · intro i h1 h2
      simp only [Builtin.zeroCells, Array.toList_map, Array.toList_range, List.getElem_map, List.getElem_range, List.size_toArray]
      rw [Nat.mod_eq_of_lt h2, getElem!_pos _ _ (by simpa using h2)]
      simp
  have hst := run_storeCells_cells (P := P) b o zs 0 w (by simpa using hc) (by simpa using hf) h1
  simp only [Nat.add_zero] at hst
  simp [Builtin.clear_, run_underlying ht, hv, hzc, hst]

theorem setCells_cur {w : World} {b : Nat} {t : TypeId} {c : Array Value} (h : Blk w b t c) (o : Nat) (vs : List Value) : Blk (w.setCells b o vs) b t (splice c o vs) := h.setCells vs o w
theorem splice_size : ∀ (vs : List Value) (o : Nat) (c : Array Value), (splice c o vs).size = c.size
  | [], _, _ => rfl
  | v :: r, o, c => by rw [splice, splice_size r]; simp

set_option maxRecDepth 1000000 in
set_option maxHeartbeats 4000000 in
theorem delete_w {B n c i j : Nat} {A : Option Addr} {L : List Wt} (w : World) (h : w.ownsRow B 33 4 (.slice A n c) n (wvs L)) (hi : i < n) (hj : j = i + 1) :
    Calls Try.prog 26 #[.slice A n c, .int .i64 i, .int .i64 j] w fun e w' => e = .returned (.slice A (n - 1) c) ∧
      w'.ownsRow B 33 4 (.slice A (n - 1) c) (n - 1) (wvs (L.eraseIdx i)) ∧ Turn (fun k => (Value.slice A n c).ownBlock = some k) w w' := by
  have hlen : L.length = n := by have := h.1; rw [wvs_length] at this; omega
  rcases h.2 with ⟨e, h0⟩ | ⟨rb, cap, cur, hv, hB, hh, hnc, hcm, hcs, htk⟩
  · omega
  · injection hv with e1 e2 e3
    subst e1 e3
    obtain ⟨i0, hi0, hz0, hz1, hz2⟩ := info_parts info_wait
    have hblk : Blk w rb 33 cur := hh
    have hcur : ∀ (t : Nat) (u : Value), (wvs L)[t]? = some u → cur[t]? = some u := by
      intro t u hu
      rw [← htk, List.getElem?_take] at hu
      split at hu
      · simpa using hu
      · cases hu
    -- the cells that are moved to the left
    obtain ⟨news, hnews⟩ : ∃ news, news = wvs (L.drop j) := ⟨_, rfl⟩
    have hnl : news.length = (n - j) * 4 := by rw [hnews, wvs_length, List.length_drop, hlen]
    obtain ⟨A, hA, hsrc⟩ : ∃ A : Addr, (if c = j then some (⟨rb, 0, none⟩ : Addr) else some ⟨rb, j * 4, none⟩) = some A ∧ Hid (∀ (t : Nat) (u : Value), news[t]? = some u → w.drew.cell? (A.add t) = some u) := by
      by_cases h : c = j
      · refine ⟨⟨rb, 0, none⟩, by simp [h], fun t u hu => ?_⟩
        have h0 : news.length = 0 := by rw [hnl]; omega
        rw [List.length_eq_zero_iff.1 h0] at hu
        simp at hu
      · refine ⟨⟨rb, j * 4, none⟩, by simp [h], fun t u hu => ?_⟩
        rw [add_lit]
        refine (hblk.cell _).trans (hcur _ _ ?_)
        rw [hnews, ← wvs_drop, List.getElem?_drop] at hu
        exact hu
    have s1 : Hid (news.length = (n - j) * 4) := hnl
    have s2 : Hid (∀ u ∈ news, u.oneCell' = true) := by rw [hnews]; exact wvs_one _
    have hszc : cur.size = c * 4 := hcs
    have s3 : Hid (∀ t : Nat, t < news.length → (w.drew.cell? ⟨rb, 0 + i * 4 + t, none⟩).isSome = true ∧ w.drew.frozen? ⟨rb, 0 + i * 4 + t, none⟩ = false) := by
      intro t ht
      rw [hnl] at ht
      refine ⟨?_, hblk.frozen _⟩
      show (w.cell? _).isSome = true
      rw [hblk.cell, Array.getElem?_eq_getElem (by omega)]; rfl
    obtain ⟨W1, hW1⟩ : ∃ W1, W1 = w.drew.setCells rb (0 + i * 4) news := ⟨_, rfl⟩
    have hb1 : Blk W1 rb 33 (splice cur (i * 4) news) := by rw [hW1, Nat.zero_add]; exact setCells_cur hblk.drew _ _
    have hs1 : (splice cur (i * 4) news).size = c * 4 := by rw [splice_size, hszc]
    have hcl : Hid (∀ ty, (Builtin.clear_ #[30] ty #[.slice (some ⟨rb, (i + (n - j)) * 4, none⟩) 1 (c - (i + (n - j)))]).run Try.prog W1 = .ok (.tuple #[]) (W1.setCells rb ((i + (n - j)) * 4) (wv zW))) :=
      fun ty => run_clear_one W1 _ 33 ty _ (wv zW) Try.underlying30 (fun w => Try.zeroValue33 w) rfl (by decide) (by intro v hv; simp [wv] at hv; rcases hv with rfl | rfl | rfl | rfl <;> rfl) rb _ _
        (fun t ht => by rw [hb1.cell, Array.getElem?_eq_getElem (by rw [hs1]; simp [wv] at ht; omega)]; rfl) (fun t ht => hb1.frozen _)
    have X : Aside (Blk W1 rb 33 (splice cur (i * 4) news)) := hb1
    have TT : Hid (Turn (fun k => rb = k) w W1) := by rw [hW1]; exact Turn.setCells (fun _ => rfl) _ _ _ (Turn.refl _ w).drew
    have hW : Hid (W1 = w.drew.setCells rb (0 + i * 4) news) := hW1
    have hic : i ≤ c := by omega
    have hjc : j ≤ c := by omega
    have hjn : j ≤ n := by omega
    have hij : i ≤ j := by omega
    have hlt : i < j := by omega
    have hn1 : n - (i + (n - j)) = 1 := by omega
    have hnn : n - 1 = i + (n - j) := by omega
    rw [hnn]
    have F1 : Hid (L.length = n) := hlen
    have F2 : Hid (∀ (t : Nat) (u : Value), (wvs L)[t]? = some u → cur[t]? = some u) := hcur
    have F3 : Hid (news = wvs (L.drop j)) := hnews
    have F4 : Hid (cur.size = c * 4) := hszc
    have F5 : Hid (n ≤ c ∧ c ≤ maxLen) := ⟨hnc, hcm⟩
    have F6 : Hid (j = i + 1) := hj
    have hcm' : c ≤ 9223372036854775807 := by unfold maxLen at hcm; omega
    clear hW1 hb1 hs1 hcur hnews hnl hblk hh htk h hcs hszc hlen hj hnn hcm
    go_enter Try.func26, Try.ntmps26
    go_wp2_with fail
    go_region_law (refine step_append_room rfl (.tmp 22) (.tmp 25) 30 rfl 33 i0 4 Try.underlying30 hi0 hz1 rb 0 i c (by simp [Act.eval, Act.put]) A (n - j) (c - j) news (by simp [Act.eval, Act.put]) s1.out hsrc.out s2.out (by omega) s3.out ?_; rw [← hW.out])
    go_wp2_with (rw [hcl.out])
    go_ret
    refine ⟨rfl, ?_, ?_⟩
    · have hb := setCells_cur X ((i + (n - j)) * 4) (wv zW)
      have hel : (L.eraseIdx i).length = i + (n - j) := by rw [List.length_eraseIdx, F1.out, if_pos (by omega)]; omega
      refine ⟨by rw [wvs_length, hel], .inr ⟨rb, c, _, rfl, hB, hb, by have := F5.out; omega, F5.out.2, by rw [splice_size, splice_size, F4.out], ?_⟩⟩
      apply List.ext_getElem?
      intro t
      rw [List.getElem?_take]
      by_cases ht : t < (i + (n - j)) * 4
      · rw [if_pos ht, Array.getElem?_toList, splice_get, if_neg (by omega), splice_get, s1.out, List.eraseIdx_eq_take_drop_succ, wvs_append]
        have h1 : (wvs (L.take i)).length = i * 4 := by rw [wvs_length, List.length_take, F1.out]; congr 1; omega
        by_cases hti : t < i * 4
        · rw [if_neg (by omega), List.getElem?_append_left (by rw [h1]; exact hti), ← wvs_take, List.getElem?_take, if_pos hti]
          have hl : t < (wvs L).length := by rw [wvs_length, F1.out]; omega
          rw [List.getElem?_eq_getElem hl]
          exact F2.out t _ (List.getElem?_eq_getElem hl)
        · rw [if_pos (by rw [F4.out]; have := F5.out; omega), List.getElem?_append_right (by rw [h1]; omega), h1, F3.out, F6.out]
      · rw [if_neg ht, List.getElem?_eq_none (by rw [wvs_length, hel]; omega)]
    · exact (Turn.setCells (S := fun k => rb = k) (fun _ => rfl) (wv zW) _ _ TT.out).mono fun k _ e => by cases e; rfl
end Go.Proofs.Ytflnjechinfcdaa
