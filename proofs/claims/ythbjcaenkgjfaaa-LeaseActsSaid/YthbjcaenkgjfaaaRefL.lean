/- The document's leases: Time, Renew, End, Due; Ints. -/
import Derived.Test.YthbjcaenkgjfaaaLeaseA
import Derived.Test.YthbjcaenkgjfaaaWord
import Derived.Test.YthbjcaenkgjfaaaFlats
import Derived.Deep.DeepCutAuto
namespace Go.Proofs.Ythbjcaenkgjfaaa
open Go.RowKit
set_option linter.unusedVariables false
set_option linter.unusedSimpArgs false

/-! ### pairs in memory -/
def pls (L : List IP) : List (List Int) := L.map fun p => [p.1, p.2]
def prs (L : List IP) : List Value := ints (pls L).flatten
theorem pls_all (L : List IP) : ∀ l ∈ pls L, l.length = 2 := by
  intro l hl; obtain ⟨p, _, rfl⟩ := List.mem_map.1 hl; rfl
theorem pls_length (L : List IP) : (pls L).length = L.length := by simp [pls]
theorem prs_append (L M : List IP) : prs (L ++ M) = prs L ++ prs M := by simp [prs, pls, ints]
theorem prs_one (L : List IP) : ∀ u ∈ prs L, u.oneCell' = true := by
  intro u hu; obtain ⟨c, _, rfl⟩ := List.mem_map.1 hu; rfl
theorem prs_length (L : List IP) : (prs L).length = L.length * 2 := by unfold prs; rw [ints_length, flat_length (pls_all L), pls_length]
theorem Reads.prs_len {w : World} {B n : Nat} {A : Option Addr} {L : List IP} (h : Reads w B 2 A n (prs L)) : L.length = n := by
  have := h.1; rw [prs_length] at this; omega
theorem Reads.pair_at {w : World} {B n : Nat} {A : Option Addr} {L : List IP} (h : Reads w B 2 A n (prs L)) {i : Nat} (hi : i < L.length) :
    ∃ b off, A = some ⟨b, off, none⟩ ∧ b < B ∧ w.cell? ⟨b, off + i * 2, none⟩ = some (.int .i64 L[i].1) ∧ w.cell? ⟨b, off + i * 2 + 1, none⟩ = some (.int .i64 L[i].2) := by
  have hl := h.prs_len
  obtain ⟨b, off, e, hb, hc, _⟩ := h.flat_at (pls_all L) (by rw [pls_length, hl]) (by omega) (show i < n by omega)
  have hg : (pls L).getD i [] = [L[i].1, L[i].2] := by simp [pls, List.getD, hi]
  rw [hg] at hc
  exact ⟨b, off, e, hb, hc 0 (by omega), hc 1 (by omega)⟩
theorem reads_newPair (V : World) (t : TypeId) (x y : Int) : Reads (V.alloc (.cells #[.int .i64 x, .int .i64 y] t)) (V.heap.size + 1) 2 (some ⟨V.heap.size, 0, none⟩) 1 (prs [(x, y)]) :=
  ⟨rfl, fun _ => ⟨_, rfl, by simp, fun j u hu => by
    have hb : Blk (V.alloc (.cells #[.int .i64 x, .int .i64 y] t)) V.heap.size t #[.int .i64 x, .int .i64 y] := Blk.new V t _
    have h2 : (⟨V.heap.size, 0, none⟩ : Addr).add j = ⟨V.heap.size, j, none⟩ := by unfold Addr.add; split <;> simp_all
    rw [h2, hb.cell j]
    simpa [prs, pls, ints] using hu⟩⟩
theorem info_lease : (Try.prog.info? 33).map (fun i => (i.zero, i.size, i.bytes)) = some (some (.agg #[.int .i64 0, .int .i64 0]), 2, 16) := by kernel_rfl
theorem own_pairs {w : World} {base n : Nat} {t : TypeId} {v : Value} {L : List IP} (h : w.ownsRow base t 2 v n (prs L)) : ∃ A cap, v = .slice A n cap ∧ Reads w w.heap.size 2 A n (prs L) := by
  have e : ∃ A c, v = .slice A n c := by
    rcases h.2 with ⟨rfl, h0⟩ | ⟨g', cap', cur, rfl, _⟩
    · subst h0; exact ⟨_, _, rfl⟩
    · exact ⟨_, _, rfl⟩
  obtain ⟨A, c, rfl⟩ := e
  exact ⟨A, c, rfl, Reads.of_own h⟩
/-- What reads is no map's block. -/
theorem Reads.off_map {w w' : World} {B n size b m : Nat} {A : Option Addr} {xs : List Value} {L : List IP} (h : Reads w B size A n xs) (hs : 0 < size) (hB : B ≤ w.heap.size) (hm : MapI w b m L) (ht : Turn (fun k => k = b) w w') : Reads w' B size A n xs :=
  ⟨h.1, fun h0 => by
    obtain ⟨ad, e, hb, hc⟩ := h.2 h0
    have hl : 0 < xs.length := by rw [h.1]; exact Nat.mul_pos h0 hs
    have hne : ad.block ≠ b := fun e2 => by
      obtain ⟨es, clock, h1, _⟩ := hm
      have h2 := hc 0 _ (List.getElem?_eq_getElem hl)
      have h3 : (ad.add 0).block = b := by rw [block_of_add]; exact e2
      generalize ad.add 0 = a0 at h2 h3
      subst h3
      unfold World.cell? at h2
      rw [h1] at h2
      simp at h2
    exact ⟨ad, e, hb, fun j u hu => (World.cell?_of_block (by rw [block_of_add]; exact ht.block ad.block (by omega) hne)).trans (hc j u hu)⟩⟩

/-! ### the document's Renew, as a fold -/
def stepR (k now : Int) (a : List IP × Bool) (p : IP) : List IP × Bool :=
  if p.1 = k then (a.1 ++ [if now < p.2 then p else (k, now)], true)
  else if k < p.1 ∧ a.2 = false then (a.1 ++ [(k, now)] ++ [p], true) else (a.1 ++ [p], a.2)
def foldR (k now : Int) (L : List IP) : List IP × Bool := L.foldl (stepR k now) ([], false)
theorem foldR_succ (k now : Int) {L : List IP} {i : Nat} (h : i < L.length) : foldR k now (L.take (i + 1)) = stepR k now (foldR k now (L.take i)) L[i] := by
  unfold foldR
  rw [List.take_add_one, List.getElem?_eq_getElem h, Option.toList_some, List.foldl_append]
  rfl
theorem stepR_length (k now : Int) (a : List IP × Bool) (p : IP) : (stepR k now a p).1.length ≤ a.1.length + 2 := by
  unfold stepR
  split
  · simp
  · split <;> simp
theorem foldR_length (k now : Int) : ∀ (L : List IP) (a : List IP × Bool), (L.foldl (stepR k now) a).1.length ≤ a.1.length + 2 * L.length
  | [], a => by simp
  | p :: r, a => by
    have h1 := foldR_length k now r (stepR k now a p)
    have h2 := stepR_length k now a p
    rw [List.foldl_cons, List.length_cons]
    omega
theorem foldR_len (k now : Int) (L : List IP) : (foldR k now L).1.length ≤ 2 * L.length := by have := foldR_length k now L ([], false); simpa [foldR] using this
theorem foldR_true (k now : Int) : ∀ (L : List IP) (a : List IP), (∀ p ∈ L, k < p.1) → L.foldl (stepR k now) (a, true) = (a ++ L, true)
  | [], a, _ => by simp
  | p :: r, a, h => by
    have hp := h p (by simp)
    rw [List.foldl_cons]
    have : stepR k now (a, true) p = (a ++ [p], true) := by unfold stepR; rw [if_neg (by omega), if_neg (by simp)]
    rw [this, foldR_true k now r _ fun q hq => h q (by simp [hq])]
    simp
theorem ren_cons (k now : Int) (hn : 0 ≤ now) {p : IP} {r : List IP} (h : Rising (p :: r)) : renL k now (p :: r) = if k < p.1 then (k, now) :: p :: r else if p.1 = k then (k, max p.2 now) :: r else p :: renL k now r := by
  unfold renL
  by_cases h1 : k < p.1
  · rw [if_pos h1, at_low h h1]
    unfold putL
    rw [if_pos h1]
    simp only [Option.getD_none]
    rw [show max 0 now = now by omega]
  · by_cases h2 : p.1 = k
    · rw [if_neg h1, if_pos h2]
      rw [show atL k (p :: r) = some p.2 from if_pos h2]
      unfold putL
      rw [if_neg h1, if_pos h2]
      rfl
    · rw [if_neg h1, if_neg h2]
      rw [show atL k (p :: r) = atL k r from if_neg h2]
      conv => lhs; unfold putL
      rw [if_neg h1, if_neg h2]
theorem foldR_false (k now : Int) (hn : 0 ≤ now) : ∀ (L : List IP) (a : List IP), Rising L → (let z := L.foldl (stepR k now) (a, false); if z.2 then z.1 else z.1 ++ [(k, now)]) = a ++ renL k now L
  | [], a, _ => by simp [renL, putL, atL]; omega
  | p :: r, a, h => by
    obtain ⟨h1, h2⟩ := rising_cons.1 h
    rw [ren_cons k now hn h, List.foldl_cons]
    by_cases hk : k < p.1
    · have e : stepR k now (a, false) p = (a ++ [(k, now)] ++ [p], true) := by unfold stepR; rw [if_neg (by omega), if_pos ⟨hk, rfl⟩]
      rw [e, foldR_true k now r _ fun q hq => by have := h1 q hq; omega, if_pos hk]
      simp
    · by_cases he : p.1 = k
      · have e : stepR k now (a, false) p = (a ++ [if now < p.2 then p else (k, now)], true) := by unfold stepR; rw [if_pos he]
        rw [e, foldR_true k now r _ fun q hq => by have := h1 q hq; omega, if_neg hk, if_pos he]
        have e2 : (if now < p.2 then p else (k, now)) = (k, max p.2 now) := by
          split
          · rw [← he, show max p.2 now = p.2 by omega]
          · rw [show max p.2 now = now by omega]
        rw [e2]
        simp
      · have e : stepR k now (a, false) p = (a ++ [p], false) := by unfold stepR; rw [if_neg he, if_neg (by omega)]
        rw [e, if_neg hk, if_neg he]
        have := foldR_false k now hn r (a ++ [p]) h2
        simp only at this ⊢
        rw [this]
        simp
theorem foldR_end (k now : Int) (hn : 0 ≤ now) {L : List IP} (h : Rising L) : (if (foldR k now L).2 then (foldR k now L).1 else (foldR k now L).1 ++ [(k, now)]) = renL k now L := by
  have := foldR_false k now hn L [] h
  simp only [List.nil_append] at this
  exact this

/-! ### the contracts -/
set_option maxRecDepth 100000 in
set_option maxHeartbeats 1000000 in
theorem refTime_any (x : Int) (w : World) : Calls Try.prog 24 #[.int .i64 x] w fun e w' => e = .returned (.bool (isT x)) ∧ w = w' := by
  by_cases h1 : 0 ≤ x
  · have d1 : decide (0 ≤ x) = true := by simpa using h1
    have e : isT x = decide (x ≤ 1099511627776) := by unfold isT; simp [h1]
    go_enter Try.func24, Try.ntmps24
    go_wp2_with fail
    go_ret
    exact ⟨by first | rfl | (rw [e]; rfl), rfl⟩
  · have d1 : decide (0 ≤ x) = false := by simpa using h1
    have e : isT x = false := by unfold isT; simp [h1]
    go_enter Try.func24, Try.ntmps24
    go_wp2_with fail
    go_ret
    exact ⟨by first | rfl | (rw [e]; rfl), rfl⟩

set_option maxRecDepth 100000 in
set_option maxHeartbeats 4000000 in
/-- Slices of integers that read as one list are the same. -/
theorem ints_same (A A' : Option Addr) (n c c' B B' : Nat) (l : List Int) (w : World) (hn : n ≤ 9223372036854775807) (h : Reads w B 1 A n (i64s l)) (h' : Reads w B' 1 A' n (i64s l)) :
    Calls Try.prog 11 #[.slice A n c, .slice A' n c'] w fun e w' => e = .returned (.bool true) ∧ ∃ q, w' = w.drewN q := by
  have H := Lib.hid h
  have H' := Lib.hid h'
  have HL := Lib.hid h.int_len
  clear h h'
  go_enter Try.func11, Try.ntmps11
  go_wp2_with fail
  go_loopw [5] (fun i W => ∃ k q : Nat, k ≤ n ∧ i = .int .i64 k ∧ W = w.drewN q) (fun i _ => n - (RowKit.intOf i).toNat)
  case atStart => exact ⟨0, 0, Nat.zero_le _, rfl, rfl⟩
  case round =>
    obtain ⟨k, q, hk, rfl, rfl⟩ := hrel
    by_cases hlt : k < n
    · obtain ⟨ad, rfl, hb, hc⟩ := H.out.int_at (k := k) (by rw [HL.out]; exact hlt)
      obtain ⟨ad', rfl, hb', hc'⟩ := H'.out.int_at (k := k) (by rw [HL.out]; exact hlt)
      have k1 : w.cell? (ad.add k) = some (.int .i64 (l[k]'(by rw [HL.out]; exact hlt))) := hc
      have k2 : w.cell? (ad'.add k) = some (.int .i64 (l[k]'(by rw [HL.out]; exact hlt))) := hc'
      clear hc hc' hb hb'
      generalize (l[k]'(by rw [HL.out]; exact hlt)) = x at k1 k2
      go_wp2_with fail
      go_quiet (fail)
      go_wp2_with fail
      go_roundw
      case rel => exact ⟨k + 1, _, by omega, by go_num, rfl⟩
      case measure => simp [RowKit.intOf]; omega
    · go_wp2_with fail
      go_ret
      exact ⟨rfl, q, rfl⟩

set_option maxRecDepth 100000 in
set_option maxHeartbeats 4000000 in
theorem refDue_any {span : Int} {L : List IP} (hok : LsOk span L) (hL : L.length ≤ 1000000) (A : Option Addr) (n c B : Nat) (now : Int) (w : World) (h : Reads w B 2 A n (prs L)) (hB : B ≤ w.heap.size) :
    Calls Try.prog 14 #[.slice A n c, .int .i64 span, .int .i64 now] w fun e w' => ∃ v, e = .returned v ∧ w'.ownsRow w.heap.size 3 1 v (dueIds span now L).length (i64s (dueIds span now L)) ∧ Below w.heap.size w w' := by
  have hl := h.prs_len
  have HO := Lib.hid hok
  have H := Lib.hid h
  have HL := Lib.hid hl
  have hsp := hok.span
  have hn : n ≤ 1000000 := by omega
  obtain ⟨i0, hi0, hz0, hz1, hz2⟩ := info_parts info_int
  clear hok h hl hL
  cases ht : isT now
  · have e0 : dueIds span now L = [] := by unfold dueIds; rw [ht]; rfl
    rw [e0]
    have HN := Lib.hid ht
    clear ht e0
    go_enter Try.func14, Try.ntmps14
    go_wp2_with fail
    refine wp_loop_rounds 1 ?_
    rw [rounds_succ]
    by_cases h0 : 0 < n
    · go_wp2_with (go_at_call 24; refine (refTime_any _ _).mono ?_; rintro e w' ⟨rfl, rfl⟩; rw [HN.out])
      go_ret
      exact ⟨_, rfl, World.ownsRow_nil _ _ _ _, Below.refl _ _⟩
    · obtain rfl : n = 0 := by omega
      go_wp2_with (go_at_call 24; refine (refTime_any _ _).mono ?_; rintro e w' ⟨rfl, rfl⟩; rw [HN.out])
      go_ret
      exact ⟨_, rfl, World.ownsRow_nil _ _ _ _, Below.refl _ _⟩
  · have e0 : dueIds span now L = (dueL span now L).map (·.1) := by unfold dueIds; rw [ht]; rfl
    rw [e0]
    have hT := isT_iff.1 ht
    have HN := Lib.hid ht
    clear ht e0
    go_enter Try.func14, Try.ntmps14
    go_wp2_with fail
    go_loopw [7, 8] (fun v i wr => ∃ k : Nat, k ≤ n ∧ i = .int .i64 k ∧ wr.ownsRow w.heap.size 3 1 v (dueL span now (L.take k)).length (i64s ((dueL span now (L.take k)).map (·.1))) ∧ Below w.heap.size w wr) (fun _ i _ => n - (RowKit.intOf i).toNat)
    case atStart => exact ⟨0, Nat.zero_le _, rfl, World.ownsRow_nil _ _ _ _, Below.refl _ _⟩
    case round =>
      obtain ⟨k, hk, rfl, hrow, hbel⟩ := hrel
      have HR := Lib.hid hrow
      have HX := Lib.hid hbel
      clear hrow hbel
      by_cases hlt : k < n
      · have hkl : k < L.length := by rw [HL.out]; exact hlt
        obtain ⟨b, off, rfl, hb, hc1, hc2⟩ := ((H.out.more hB).below HX.out).pair_at hkl
        have htm := HO.out.tms _ (List.getElem_mem hkl)
        have hid := HO.out.ids _ (List.getElem_mem hkl)
        have HT := Lib.hid (show dueL span now (L.take (k + 1)) = dueL span now (L.take k) ++ (if span ≤ now - L[k].2 then [L[k]] else []) by
          unfold dueL
          rw [List.take_add_one, List.getElem?_eq_getElem hkl, Option.toList_some, List.filter_append, List.filter_cons]
          by_cases hd : span ≤ now - L[k].2 <;> simp [hd])
        have HD := Lib.hid (show (dueL span now (L.take k)).length ≤ 1000000 from Nat.le_trans (List.length_filter_le _ _) (by rw [List.length_take]; omega))
        generalize L[k] = p at hc1 hc2 htm hid HT
        obtain ⟨x, s⟩ := p
        have hwr : IntKind.i64.wrap (now - s) = now - s := IntWalk.i64_in _ (by simp only at htm; omega)
        have d0 : decide ((k : Int) < (n : Int)) = true := by simp; omega
        simp only at hc1 hc2 htm HT
        by_cases hd : span ≤ now - s
        · have d1 : decide (span ≤ now - s) = true := by simpa using hd
          have d2 : decide (s ≤ now) = true := by simp; omega
          have HT2 := Lib.hid (HT.out.trans (by rw [if_pos hd]))
          have HDD := HD.out
          clear HT hd
          generalize dueL span now (L.take k) = M at HR HT2 HDD
          go_wp2_with (first
            | (go_at_call 24; refine (refTime_any _ _).mono ?_; rintro e w' ⟨rfl, rfl⟩; rw [HN.out])
            | (at_builtin
               refine wpList_append_wide _ rfl (.tmp 37) (.tmp 43) _ rfl w.heap.size 3 i0 _ 1 8 Try.underlying31 hi0 hz0 hz1 hz2 rfl (by omega) _ M.length (i64s (M.map (·.1))) rfl
                           (HR.out.alloc _) _ (some ⟨_, 0, none⟩) 1 1 (i64s [x]) rfl (reads_newInt _ _ x) (i64s_one _) (by simp only [maxLen]; omega) (by omega) (by have := HX.out.size; simp; omega) ?_
               intro v9 w9 hown9 hg9
               have O9 := Lib.hid hown9
               have G9 := Lib.hid hg9
               clear hown9 hg9))
          go_roundw
          case rel =>
            refine ⟨k + 1, by omega, by go_num, ?_, below_own (HX.out.alloc HX.out.size _) G9.out (HR.out.alloc _) (Nat.le_refl _) (by have := HX.out.size; simp; omega)⟩
            rw [HT2.out, List.length_append, List.map_append, show i64s (M.map (·.1) ++ List.map (·.1) [(x, s)]) = i64s (M.map (·.1)) ++ i64s [x] by simp [i64s]]
            exact O9.out
          case measure => simp [RowKit.intOf]; omega
        · have d1 : decide (span ≤ now - s) = false := by simpa using hd
          have HT2 := Lib.hid (HT.out.trans (by rw [if_neg hd, List.append_nil]))
          clear HT hd
          by_cases h2 : s ≤ now
          · have d2 : decide (s ≤ now) = true := by simpa using h2
            go_wp2_with (go_at_call 24; refine (refTime_any _ _).mono ?_; rintro e w' ⟨rfl, rfl⟩; rw [HN.out])
            go_roundw
            case rel => exact ⟨k + 1, by omega, by go_num, by rw [HT2.out]; exact HR.out, HX.out⟩
            case measure => simp [RowKit.intOf]; omega
          · have d2 : decide (s ≤ now) = false := by simpa using h2
            go_wp2_with (go_at_call 24; refine (refTime_any _ _).mono ?_; rintro e w' ⟨rfl, rfl⟩; rw [HN.out])
            go_roundw
            case rel => exact ⟨k + 1, by omega, by go_num, by rw [HT2.out]; exact HR.out, HX.out⟩
            case measure => simp [RowKit.intOf]; omega
      · obtain rfl : k = n := by omega
        go_wp2_with fail
        go_ret
        refine ⟨_, rfl, ?_, HX.out⟩
        have := HR.out
        rw [List.take_of_length_le (by rw [HL.out]; omega)] at this
        rw [List.length_map]
        exact this
end Go.Proofs.Ythbjcaenkgjfaaa
