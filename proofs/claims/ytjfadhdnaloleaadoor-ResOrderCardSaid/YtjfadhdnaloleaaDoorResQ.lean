/- The contracts of package res's behind and Parse. -/
import Derived.Test.YtjfadhdnaloleaaDoorResP
import Derived.RegionTactic
import Derived.ChangeAlike
import Derived.Outline
namespace Go.Proofs.YtjfadhdnaloleaaDoor
open Go.RowKit

/-- A new fault is there. -/
def NewFault (w : World) (n : Int) (e : Ending) (w' : World) : Prop := ∃ b, e = .returned (faultV b) ∧ Below w.heap.size w w' ∧ w.heap.size ≤ b ∧ FaultAt w' b n 5

set_option maxRecDepth 100000 in
set_option maxHeartbeats 4000000 in
theorem behind_any (b : Nat) (a p : Int) (h1 : 0 ≤ a) (h2 : a ≤ 9223372036854775807) (h3 : 0 ≤ p) (h4 : p + a ≤ 9223372036854775807) (w : World) (hg : EType w) (hb : FaultAt w b a 5) :
    Calls Tryd.prog 28 #[.int .i64 p, faultV b] w (NewFault w (p + a)) := by
  have hlt : 0 < w.heap.size := World.block_lt_of_cell? _ _ hg
  have hgA : EType (w.alloc (.cells #[.pointer none] 56)) := by
    unfold EType; rw [World.cell?_alloc_lt _ _ ⟨0, 0, none⟩ hlt]; exact hg
  have htA : (w.alloc (.cells #[.pointer none] 56)).cell? ⟨w.heap.size, 0, none⟩ = some (.pointer none) := by simp
  have hfA : (w.alloc (.cells #[.pointer none] 56)).frozen? ⟨w.heap.size, 0, none⟩ = false := by simp
  have hbA := hb.alloc (.cells #[.pointer none] 56)
  have hlb := hb.lt
  have HB := Lib.hid hbA
  have HG := Lib.hid hgA
  have HL := Lib.hid hlb
  clear hbA hgA hlb hb hg hlt
  go_enter Tryd.func28, Tryd.ntmps28
  go_wp2_with fail
  go_at_call 30
  refine (as_hit _ _ (.pointer none) _ HG.out htA hfA).mono ?_
  rintro e w' ⟨rfl, w1, hb1, rfl⟩
  have hlb := HL.out
  have hz : w.heap.size + 1 ≤ w1.heap.size := by have := hb1.size; simpa using this
  have hk : w1.cell? ⟨w.heap.size, 0, none⟩ = some (.pointer none) := ((bcell hb1).1 _ _ (by simp)).trans htA
  have hc0 : (w1.setCell ⟨w.heap.size, 0, none⟩ (.pointer (some ⟨b, 0, none⟩))).cell? ⟨w.heap.size, 0, none⟩ = some (.pointer (some ⟨b, 0, none⟩)) := World.cell?_setCell_same _ _ _ hk
  have hB2 : FaultAt (w1.setCell ⟨w.heap.size, 0, none⟩ (.pointer (some ⟨b, 0, none⟩))) b a 5 := (HB.out.here hb1).far (p := ⟨w.heap.size, 0, none⟩) (by simp; omega) _
  have HE : Below w.heap.size w (w1.setCell ⟨w.heap.size, 0, none⟩ (.pointer (some ⟨b, 0, none⟩))) :=
    (((Below.refl _ _).alloc (Nat.le_refl _) _).trans (hb1.mono (by simp))).setCell (by simp) _
  generalize w1.setCell ⟨w.heap.size, 0, none⟩ (.pointer (some ⟨b, 0, none⟩)) = w2 at hc0 hB2 HE ⊢
  have hc1 : w2.cell? ⟨b, 0, none⟩ = some (.int .i64 a) := hB2.cell 0
  have hc2 : w2.cell? ⟨b, 1, none⟩ = some (.iface 49 (.int .i64 5)) := hB2.cell 1
  have hz2 := HE.size
  have HEH := Lib.hid HE
  have HZ := Lib.hid hz2
  have hw : IntKind.i64.wrap (p + a) = p + a := IntWalk.i64_in _ (by omega)
  clear HE hB2 hk hb1 hz hlb htA hfA hz2 HB HG HL
  go_wp2_with fail
  go_region
  all_goals
    go_wp2_with fail
    go_ret
    exact ⟨_, rfl, HEH.out.drew.alloc HZ.out _, HZ.out, Blk.new _ _ _⟩

theorem number_250 (s : ByteArray) (w : World) (hs : s.size ≤ maxLen) :
    Calls Tryd.prog 26 #[.string s, .int .i64 250] w (numPost (numGo 250 s.data.toList 0 0) w) := number_any s 250 w hs (Nat.le_refl _)
theorem number_ok {s : ByteArray} {n z : Nat} {A : Nat × Nat × Option Nat} (h : numGo 250 s.data.toList 0 0 = A) (hA : A = (n, z, none)) (w : World) (hs : s.size ≤ maxLen) :
    Calls Tryd.prog 26 #[.string s, .int .i64 250] w fun e w' => e = .returned (.tuple #[.int .i64 n, .int .i64 z, .nilIface]) ∧ w = w' :=
  (number_250 s w hs).mono fun e w' hp => by rw [h, hA] at hp; exact ⟨hp.1, hp.2.symm⟩
theorem number_bad {s : ByteArray} {n z p : Nat} {A : Nat × Nat × Option Nat} (h : numGo 250 s.data.toList 0 0 = A) (hA : A = (n, z, some p)) (w : World) (hs : s.size ≤ maxLen) :
    Calls Tryd.prog 26 #[.string s, .int .i64 250] w fun e w' => e = .returned (.tuple #[.int .i64 0, .int .i64 0, faultV w.heap.size]) ∧ w' = w.alloc (.cells #[.int .i64 p, errno 5] 60) :=
  (number_250 s w hs).mono fun e w' hp => by rw [h, hA] at hp; exact hp

/-- What Parse answers, as values. -/
def parsePost (a : Ans) (w : World) (e : Ending) (w' : World) : Prop :=
  match a with
  | (some (t, r), _) => e = .returned (.tuple #[resV t r, .nilIface]) ∧ Below w.heap.size w w'
  | (none, p) => ∃ b, e = .returned (.tuple #[resV 0 0, faultV b]) ∧ Below w.heap.size w w' ∧ w.heap.size ≤ b ∧ FaultAt w' b p 5
theorem parse_ok {a : Ans} {t r k : Nat} {w : World} {e : Ending} {w' : World} (ha : a = (some (t, r), k)) (h1 : e = .returned (.tuple #[resV t r, .nilIface])) (h2 : Below w.heap.size w w') : parsePost a w e w' := by
  rw [ha]; exact ⟨h1, h2⟩
theorem parse_bad {a : Ans} {p : Nat} {w : World} {e : Ending} {w' : World} (ha : a = (none, p)) {b : Nat} (h1 : e = .returned (.tuple #[resV 0 0, faultV b])) (h2 : Below w.heap.size w w') (h3 : w.heap.size ≤ b) (h4 : FaultAt w' b p 5) : parsePost a w e w' := by
  rw [ha]; exact ⟨b, h1, h2, h3, h4⟩

theorem num_facts {l : List UInt8} {n z : Nat} (h : numGo 250 l 0 0 = (n, z, none)) : 1 ≤ n ∧ n ≤ 250 ∧ z ≤ l.length := by
  have := numGo_ok 250 l 0 0 [] (.inl ⟨rfl, rfl⟩) rfl
  rw [List.nil_append, h] at this
  obtain ⟨a, b, v, e, e', _⟩ := this
  exact ⟨a, b, by rw [e, e']; simp⟩
theorem num_place {l : List UInt8} {n z p : Nat} (h : numGo 250 l 0 0 = (n, z, some p)) : p ≤ l.length := by
  have := numGo_ok 250 l 0 0 [] (.inl ⟨rfl, rfl⟩) rfl
  rw [List.nil_append, h] at this
  obtain ⟨_, _, ⟨_, rfl⟩ | ⟨u, c, v, e, e', _⟩⟩ := this
  · omega
  · rw [e, e']; simp

theorem parseP_1 {l : List UInt8} {n z p : Nat} (h : numGo 250 l 0 0 = (n, z, some p)) : parseP l = (none, p) := by unfold parseP; rw [h]
theorem parseP_2 {l : List UInt8} {t d : Nat} (h : numGo 250 l 0 0 = (t, d, none)) (hd : d = l.length) : parseP l = (some (t, 0), 0) := by unfold parseP; rw [h]; exact if_pos hd
theorem parseP_3 {l : List UInt8} {t d : Nat} (h : numGo 250 l 0 0 = (t, d, none)) (hd : ¬ d = l.length) (hc : l[d]? ≠ some 46) : parseP l = (none, d) := by unfold parseP; rw [h]; dsimp only; rw [if_neg hd, if_pos hc]
theorem parseP_4 {l : List UInt8} {t d n z p : Nat} (h : numGo 250 l 0 0 = (t, d, none)) (hd : ¬ d = l.length) (hc : l[d]? = some 46) (h2 : numGo 250 (l.drop (d + 1)) 0 0 = (n, z, some p)) : parseP l = (none, d + 1 + p) := by
  unfold parseP; rw [h]; dsimp only; rw [if_neg hd, if_neg (by simpa using hc), h2]
theorem parseP_5 {l : List UInt8} {t d r z : Nat} (h : numGo 250 l 0 0 = (t, d, none)) (hd : ¬ d = l.length) (hc : l[d]? = some 46) (h2 : numGo 250 (l.drop (d + 1)) 0 0 = (r, z, none)) (hl : d + 1 + z < l.length) : parseP l = (none, d + 1 + z) := by
  unfold parseP; rw [h]; dsimp only; rw [if_neg hd, if_neg (by simpa using hc), h2]; exact if_pos hl
theorem parseP_6 {l : List UInt8} {t d r z : Nat} (h : numGo 250 l 0 0 = (t, d, none)) (hd : ¬ d = l.length) (hc : l[d]? = some 46) (h2 : numGo 250 (l.drop (d + 1)) 0 0 = (r, z, none)) (hl : ¬ d + 1 + z < l.length) : parseP l = (some (t, r), 0) := by
  unfold parseP; rw [h]; dsimp only; rw [if_neg hd, if_neg (by simpa using hc), h2]; exact if_neg hl

set_option maxRecDepth 100000 in
set_option maxHeartbeats 4000000 in
theorem parse_1 (s : ByteArray) (hs : s.size ≤ maxLen) (w : World) (n z p : Nat) (h : numGo 250 s.data.toList 0 0 = (n, z, some p)) :
    Calls Tryd.prog 17 #[.string s] w (parsePost (parseP s.data.toList) w) := by
  have HP := Lib.hid (parseP_1 h)
  have H := Lib.hid h
  clear h
  go_enter Tryd.func17, Tryd.ntmps17
  go_wp2_with (go_at_call 26; refine (number_bad H.out rfl _ hs).mono ?_; rintro e w' ⟨rfl, rfl⟩)
  refine bodyPost_ret (v := .tuple #[resV 0 0, faultV (w.heap.size + 1)]) (by simp [results, Tryd.results17, go_sem]) rfl ?_
  refine parse_bad HP.out rfl ?_ (by omega) ?_
  · repeat (first | exact Below.refl _ _ | refine Below.setCell ?_ (by simp) _ | refine Below.alloc ?_ (by simp <;> omega) _)
  · repeat (first | exact Blk.new_at (by simp) _ _ | refine Blk.far ?_ (by simp <;> omega) _ | refine Blk.alloc ?_ _)

set_option maxRecDepth 100000 in
set_option maxHeartbeats 4000000 in
theorem parse_2 (s : ByteArray) (hs : s.size ≤ maxLen) (w : World) (t : Nat) (h : numGo 250 s.data.toList 0 0 = (t, s.size, none)) :
    Calls Tryd.prog 17 #[.string s] w (parsePost (parseP s.data.toList) w) := by
  have HP := Lib.hid (parseP_2 h (by simp))
  have H := Lib.hid h
  clear h
  go_enter Tryd.func17, Tryd.ntmps17
  go_wp2_with (go_at_call 26; refine (number_ok H.out rfl _ hs).mono ?_; rintro e w' ⟨rfl, rfl⟩)
  refine bodyPost_ret (v := .tuple #[resV t 0, .nilIface]) (by simp [results, Tryd.results17, go_sem]) rfl ?_
  refine parse_ok HP.out rfl ?_
  repeat (first | exact Below.refl _ _ | refine Below.setCell ?_ (by simp <;> omega) _ | refine Below.alloc ?_ (by simp <;> omega) _)

set_option maxRecDepth 100000 in
set_option maxHeartbeats 4000000 in
theorem parse_3 (s : ByteArray) (hs : s.size ≤ maxLen) (w : World) (t d : Nat) (h : numGo 250 s.data.toList 0 0 = (t, d, none)) (hd : d < s.size) (hc : s[d] ≠ 46) :
    Calls Tryd.prog 17 #[.string s] w (parsePost (parseP s.data.toList) w) := by
  have HP := Lib.hid (parseP_3 h (by simp; omega) (by
    have : s.data.toList[d]? = some s[d] := List.getElem?_eq_getElem (by simpa using hd)
    rw [this]; simpa using hc))
  have H := Lib.hid h
  have c1 : ((s[d].toNat : Int) == 46) = false := by
    simp; intro e; apply hc; apply UInt8.toNat_inj.1; show s[d].toNat = 46; omega
  have c2 : ((s[d].toNat : Int) != 46) = true := by simp [bne, c1]
  have d0 : ((d : Int) == (s.size : Int)) = false := by simp; omega
  clear h hc
  go_enter Tryd.func17, Tryd.ntmps17
  go_wp2_with (first | (go_at_call 26; refine (number_ok H.out rfl _ hs).mono ?_; rintro e w' ⟨rfl, rfl⟩) | (go_at_call 27; refine (fault_any _ _).mono ?_; rintro e w' ⟨rfl, rfl⟩))
  refine bodyPost_ret (v := .tuple #[resV 0 0, faultV (w.heap.size + 1)]) (by simp [results, Tryd.results17, go_sem]) rfl ?_
  refine parse_bad HP.out rfl ?_ (by omega) ?_
  · repeat (first | exact Below.refl _ _ | refine Below.setCell ?_ (by simp <;> omega) _ | refine Below.alloc ?_ (by simp <;> omega) _)
  · repeat (first | exact Blk.new_at (by simp) _ _ | refine Blk.far ?_ (by simp <;> omega) _ | refine Blk.alloc ?_ _)

/-- Behind the dot. -/
theorem tail_facts (s : ByteArray) (d : Nat) : (s.extract (d + 1) s.size).size = s.size - (d + 1) ∧ (s.extract (d + 1) s.size).data.toList = s.data.toList.drop (d + 1) :=
  ⟨by simp [ByteArray.size_extract], by rw [Lib.extract_data]; apply List.take_of_length_le; simp⟩

set_option maxRecDepth 100000 in
set_option maxHeartbeats 4000000 in
theorem parse_4 (s : ByteArray) (hs : s.size ≤ maxLen) (w : World) (hg : EType w) (t d n z p : Nat) (h : numGo 250 s.data.toList 0 0 = (t, d, none)) (hd : d < s.size) (hc : s[d] = 46)
    (h2 : numGo 250 (s.data.toList.drop (d + 1)) 0 0 = (n, z, some p)) :
    Calls Tryd.prog 17 #[.string s] w (parsePost (parseP s.data.toList) w) := by
  have hl : s.data.toList[d]? = some 46 := by rw [← hc]; exact List.getElem?_eq_getElem (by simpa using hd)
  have HP := Lib.hid (parseP_4 h (by simp; omega) hl h2)
  have hp := num_place h2
  obtain ⟨ts, tl⟩ := tail_facts s d
  have hp2 : d + 1 + p ≤ s.size := by simp at hp; omega
  have hs2 : (s.extract (d + 1) s.size).size ≤ maxLen := by rw [ts]; omega
  have H2 := Lib.hid (show numGo 250 (s.extract (d + 1) s.size).data.toList 0 0 = (n, z, some p) by rw [tl]; exact h2)
  have H := Lib.hid h
  have HS2 := Lib.hid hs2
  have HS := Lib.hid hs
  have c1 : ((s[d].toNat : Int) == 46) = true := by rw [hc]; rfl
  have c2 : ((s[d].toNat : Int) != 46) = false := by simp [bne, c1]
  have d0 : ((d : Int) == (s.size : Int)) = false := by simp; omega
  have HG := Lib.hid hg
  have HC := Lib.hid hc
  unfold maxLen at hs
  clear h h2 hl hc hp ts tl hs2 hg
  go_enter Tryd.func17, Tryd.ntmps17
  go_wp2_with fail
  go_at_call 26
  refine (number_ok H.out rfl _ HS.out).mono ?_
  rintro e w' ⟨rfl, rfl⟩
  go_wp2_with fail
  go_at_call 26
  refine (number_bad H2.out rfl _ HS2.out).mono ?_
  rintro e w' ⟨rfl, rfl⟩
  go_wp2_with fail
  go_at_call 28
  have hlt : 0 < w.heap.size := World.block_lt_of_cell? _ _ HG.out
  refine (behind_any (w.heap.size + 1) p (d + 1) (by omega) (by omega) (by omega) (by omega) _ ?_ (Blk.new_at (by simp) _ _)).mono ?_
  · unfold EType; rw [World.cell?_alloc_lt _ _ ⟨0, 0, none⟩ (by simp <;> omega), World.cell?_alloc_lt _ _ ⟨0, 0, none⟩ hlt]; exact HG.out
  rintro e w2 ⟨b, rfl, hbel, hle, hF⟩
  have k0 : w2.cell? ⟨w.heap.size, 0, none⟩ = some (.int .i64 0) := by rw [(bcell hbel).1 _ _ (by simp <;> omega)]; simp
  have k1 : w2.cell? ⟨w.heap.size, 1, none⟩ = some (.int .i64 0) := by rw [(bcell hbel).1 _ _ (by simp <;> omega)]; simp
  have k2 : w2.frozen? ⟨w.heap.size, 0, none⟩ = false := by rw [(bcell hbel).2 _ _ (by simp <;> omega)]; simp
  have k3 : w2.frozen? ⟨w.heap.size, 1, none⟩ = false := by rw [(bcell hbel).2 _ _ (by simp <;> omega)]; simp
  have HBEL := Lib.hid hbel
  have HF := Lib.hid hF
  simp at hle
  clear hbel hF
  go_wp2_with fail
  refine bodyPost_ret (v := .tuple #[resV 0 0, faultV b]) (by simp [results, Tryd.results17, go_sem, k0, k1]) rfl ?_
  have hw : Below w.heap.size w w2 := (((Below.refl _ _).alloc (Nat.le_refl _) _).alloc (by simp) _).trans (HBEL.out.mono (by simp <;> omega))
  refine parse_bad HP.out rfl ?_ (by omega) ?_
  · repeat (first | exact hw | refine Below.setCell ?_ (by simp <;> omega) _)
  · have hF := HF.out
    have e : ((d + 1 + p : Nat) : Int) = (d : Int) + 1 + (p : Int) := by omega
    rw [e]
    repeat (first | exact hF | refine Blk.far ?_ (by simp <;> omega) _)

set_option maxRecDepth 100000 in
set_option maxHeartbeats 4000000 in
theorem parse_5 (s : ByteArray) (hs : s.size ≤ maxLen) (w : World) (t d r z : Nat) (h : numGo 250 s.data.toList 0 0 = (t, d, none)) (hd : d < s.size) (hc : s[d] = 46)
    (h2 : numGo 250 (s.data.toList.drop (d + 1)) 0 0 = (r, z, none)) (hlt : d + 1 + z < s.size) :
    Calls Tryd.prog 17 #[.string s] w (parsePost (parseP s.data.toList) w) := by
  have hl : s.data.toList[d]? = some 46 := by rw [← hc]; exact List.getElem?_eq_getElem (by simpa using hd)
  have HP := Lib.hid (parseP_5 h (by simp; omega) hl h2 (by simpa using hlt))
  obtain ⟨ts, tl⟩ := tail_facts s d
  have hs2 : (s.extract (d + 1) s.size).size ≤ maxLen := by rw [ts]; omega
  have H2 := Lib.hid (show numGo 250 (s.extract (d + 1) s.size).data.toList 0 0 = (r, z, none) by rw [tl]; exact h2)
  have H := Lib.hid h
  have HS2 := Lib.hid hs2
  have HS := Lib.hid hs
  have c1 : ((s[d].toNat : Int) == 46) = true := by rw [hc]; rfl
  have c2 : ((s[d].toNat : Int) != 46) = false := by simp [bne, c1]
  have d0 : ((d : Int) == (s.size : Int)) = false := by simp; omega
  have d1 : decide ((d : Int) + 1 + (z : Int) < (s.size : Int)) = true := by simp; omega
  have HC := Lib.hid hc
  unfold maxLen at hs
  clear h h2 hl hc ts tl hs2
  go_enter Tryd.func17, Tryd.ntmps17
  go_wp2_with fail
  go_at_call 26
  refine (number_ok H.out rfl _ HS.out).mono ?_
  rintro e w' ⟨rfl, rfl⟩
  go_wp2_with fail
  go_at_call 26
  refine (number_ok H2.out rfl _ HS2.out).mono ?_
  rintro e w' ⟨rfl, rfl⟩
  go_wp2_with fail
  go_at_call 27
  refine (fault_any _ _).mono ?_
  rintro e w' ⟨rfl, rfl⟩
  go_wp2_with fail
  refine bodyPost_ret (v := .tuple #[resV 0 0, faultV (w.heap.size + 1)]) (by simp [results, Tryd.results17, go_sem]) rfl ?_
  refine parse_bad HP.out rfl ?_ (by omega) ?_
  · repeat (first | exact Below.refl _ _ | refine Below.setCell ?_ (by simp <;> omega) _ | refine Below.alloc ?_ (by simp <;> omega) _)
  · have e : ((d + 1 + z : Nat) : Int) = (d : Int) + 1 + (z : Int) := by omega
    rw [e]
    repeat (first | exact Blk.new_at (by simp) _ _ | refine Blk.far ?_ (by simp <;> omega) _ | refine Blk.alloc ?_ _)

set_option maxRecDepth 100000 in
set_option maxHeartbeats 4000000 in
theorem parse_6 (s : ByteArray) (hs : s.size ≤ maxLen) (w : World) (t d r z : Nat) (h : numGo 250 s.data.toList 0 0 = (t, d, none)) (hd : d < s.size) (hc : s[d] = 46)
    (h2 : numGo 250 (s.data.toList.drop (d + 1)) 0 0 = (r, z, none)) (hlt : ¬ d + 1 + z < s.size) :
    Calls Tryd.prog 17 #[.string s] w (parsePost (parseP s.data.toList) w) := by
  have hl : s.data.toList[d]? = some 46 := by rw [← hc]; exact List.getElem?_eq_getElem (by simpa using hd)
  have HP := Lib.hid (parseP_6 h (by simp; omega) hl h2 (by simpa using hlt))
  obtain ⟨ts, tl⟩ := tail_facts s d
  obtain ⟨_, _, hz⟩ := num_facts h2
  have hz : d + 1 + z ≤ s.size := by simp at hz; omega
  have hs2 : (s.extract (d + 1) s.size).size ≤ maxLen := by rw [ts]; omega
  have H2 := Lib.hid (show numGo 250 (s.extract (d + 1) s.size).data.toList 0 0 = (r, z, none) by rw [tl]; exact h2)
  have H := Lib.hid h
  have HS2 := Lib.hid hs2
  have HS := Lib.hid hs
  have c1 : ((s[d].toNat : Int) == 46) = true := by rw [hc]; rfl
  have c2 : ((s[d].toNat : Int) != 46) = false := by simp [bne, c1]
  have d0 : ((d : Int) == (s.size : Int)) = false := by simp; omega
  have d1 : decide ((d : Int) + 1 + (z : Int) < (s.size : Int)) = false := by simp; omega
  have HC := Lib.hid hc
  unfold maxLen at hs
  clear h h2 hl hc ts tl hs2
  go_enter Tryd.func17, Tryd.ntmps17
  go_wp2_with fail
  go_at_call 26
  refine (number_ok H.out rfl _ HS.out).mono ?_
  rintro e w' ⟨rfl, rfl⟩
  go_wp2_with fail
  go_at_call 26
  refine (number_ok H2.out rfl _ HS2.out).mono ?_
  rintro e w' ⟨rfl, rfl⟩
  go_wp2_with fail
  refine bodyPost_ret (v := .tuple #[resV t r, .nilIface]) (by simp [results, Tryd.results17, go_sem]) rfl ?_
  refine parse_ok HP.out rfl ?_
  repeat (first | exact Below.refl _ _ | refine Below.setCell ?_ (by simp <;> omega) _ | refine Below.alloc ?_ (by simp <;> omega) _)

theorem parse_any (s : ByteArray) (hs : s.size ≤ maxLen) (w : World) (hg : EType w) :
    Calls Tryd.prog 17 #[.string s] w (parsePost (parseP s.data.toList) w) := by
  match h : numGo 250 s.data.toList 0 0 with
  | (n, z, some p) => exact parse_1 s hs w n z p h
  | (t, d, none) =>
    by_cases hd : d = s.size
    · subst hd; exact parse_2 s hs w t h
    · obtain ⟨_, _, hz⟩ := num_facts h
      have hlt : d < s.size := by simp at hz; omega
      by_cases hc : s[d] = 46
      · match h2 : numGo 250 (s.data.toList.drop (d + 1)) 0 0 with
        | (n, z, some p) => exact parse_4 s hs w hg t d n z p h hlt hc h2
        | (r, z, none) =>
          by_cases hl : d + 1 + z < s.size
          · exact parse_5 s hs w t d r z h hlt hc h2 hl
          · exact parse_6 s hs w t d r z h hlt hc h2 hl
      · exact parse_3 s hs w t d h hlt hc
end Go.Proofs.YtjfadhdnaloleaaDoor
