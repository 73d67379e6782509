/- Entries of scripts as lists of six numbers: what may be, what bytes are read to, to which bytes they are written. -/
import Derived.Test.YtggfadiahacgeaaDoorWord
namespace Go.Proofs.YtggfadiahacgeaaDoor
open Go.RowKit
set_option linter.unusedVariables false
set_option linter.unusedSimpArgs false

/-- In a span? -/
def insB (lo hi x : Int) : Bool := decide (lo ≤ x) && decide (x ≤ hi)
def kdB (k : Int) : Bool := decide (0 ≤ k ∧ k ≤ 9)
def cliB (k : Int) : Bool := decide (2 ≤ k ∧ k ≤ 6)
def lokB (k : Int) : Bool := decide (k = 3)
def picB (k : Int) : Bool := decide (7 ≤ k ∧ k ≤ 9)
def cliL (k : Int) : Int := if cliB k then 1 else 0
def cliH (k : Int) : Int := if cliB k then 8 else 0
def modL (k : Int) : Int := if lokB k then 1 else 0
def modH (k : Int) : Int := if lokB k then 4 else 0
def picH (k : Int) : Int := if picB k then 16777215 else 0
def rowB (t r : Int) : Bool := decide (1 ≤ t ∧ t ≤ 250 ∧ 0 ≤ r ∧ r ≤ 250)
def placeE (n : Bool) (t r : Int) : Bool := if n then rowB t r else decide (t = 0 ∧ r = 0)
/-- May an entry be? -/
def okE (k c t r m p : Int) : Bool := kdB k && (insB (cliL k) (cliH k) c && (placeE (lokB k) t r && (insB (modL k) (modH k) m && insB 0 (picH k) p)))
def okL (x : List Int) : Bool := okE (fld x 0) (fld x 1) (fld x 2) (fld x 3) (fld x 4) (fld x 5)
/-- The entry that is nothing. -/
def zE : List Int := [0, 0, 0, 0, 0, 0]
theorem six {x : List Int} (h : x.length = 6) : x = [fld x 0, fld x 1, fld x 2, fld x 3, fld x 4, fld x 5] := by
  match x, h with
  | [a, b, c, d, e, f], _ => rfl
theorem okE_iff (k c t r m p : Int) : okE k c t r m p = true ↔
    (0 ≤ k ∧ k ≤ 9) ∧ (if 2 ≤ k ∧ k ≤ 6 then 1 ≤ c ∧ c ≤ 8 else c = 0) ∧ (if k = 3 then (1 ≤ t ∧ t ≤ 250 ∧ 0 ≤ r ∧ r ≤ 250) ∧ 1 ≤ m ∧ m ≤ 4 else t = 0 ∧ r = 0 ∧ m = 0) ∧ (if 7 ≤ k ∧ k ≤ 9 then 0 ≤ p ∧ p ≤ 16777215 else p = 0) := by
  unfold okE insB placeE cliL cliH modL modH picH kdB cliB lokB picB rowB
  by_cases h1 : 2 ≤ k ∧ k ≤ 6 <;> by_cases h2 : k = 3 <;> by_cases h3 : 7 ≤ k ∧ k ≤ 9 <;> simp [h1, h2, h3] <;> omega
/-- The entry of five bytes, as the program reads it. -/
def rawE (a b c d e : Int) : List Int := if picB a then [a, 0, 0, 0, e, b * 65536 + c * 256 + d] else [a, b, c, d, e, 0]
def rdE (a b c d e : Int) : List Int := if okL (rawE a b c d e) then rawE a b c d e else zE
theorem rdE_pic {a b c d e : Int} (h : picB a = true) : rdE a b c d e = if okE a 0 0 0 e (b * 65536 + c * 256 + d) then [a, 0, 0, 0, e, b * 65536 + c * 256 + d] else zE := by
  unfold rdE okL rawE; simp only [h, if_true]; rfl
theorem rdE_not {a b c d e : Int} (h : picB a = false) : rdE a b c d e = if okE a b c d e 0 then [a, b, c, d, e, 0] else zE := by
  unfold rdE okL rawE; simp only [h]; rfl
/-- The same, as the document says it. -/
def oneE (a b c d e : Int) : List Int :=
  if a = 1 ∧ b + c + d + e = 0 then [1, 0, 0, 0, 0, 0]
  else if ((a = 2 ∨ a = 4 ∨ a = 5 ∨ a = 6) ∧ (1 ≤ b ∧ b ≤ 8)) ∧ c + d + e = 0 then [a, b, 0, 0, 0, 0]
  else if ((a = 3 ∧ (1 ≤ b ∧ b ≤ 8)) ∧ rowB c d = true) ∧ (1 ≤ e ∧ e ≤ 4) then [3, b, c, d, e, 0]
  else if (7 ≤ a ∧ a ≤ 9) ∧ e = 0 then [a, 0, 0, 0, 0, 65536 * b + 256 * c + d]
  else zE
theorem rd_one {a b c d e : Int} (ha : 0 ≤ a) (hb : 0 ≤ b ∧ b ≤ 255) (hc : 0 ≤ c ∧ c ≤ 255) (hd : 0 ≤ d ∧ d ≤ 255) (he : 0 ≤ e ∧ e ≤ 255) : rdE a b c d e = oneE a b c d e := by
  unfold oneE
  cases hp : picB a
  · rw [rdE_not hp]
    have h7 : ¬ (7 ≤ a ∧ a ≤ 9) := by unfold picB at hp; simpa using hp
    by_cases ho : okE a b c d e 0 = true
    · rw [if_pos ho]
      rw [okE_iff] at ho
      obtain ⟨h1, h2, h3, h4⟩ := ho
      by_cases k3 : a = 3
      · subst k3
        rw [if_pos (by omega)] at h2
        rw [if_pos rfl] at h3
        rw [if_neg (by omega), if_neg (by omega), if_pos ⟨⟨⟨rfl, h2⟩, by unfold rowB; simpa using h3.1⟩, h3.2⟩]
      · rw [if_neg k3] at h3
        obtain ⟨rfl, rfl, rfl⟩ := h3
        by_cases k2 : 2 ≤ a ∧ a ≤ 6
        · rw [if_pos k2] at h2
          rw [if_neg (by omega), if_pos (by omega)]
        · rw [if_neg k2] at h2
          subst h2
          by_cases k1 : a = 1
          · subst k1; rw [if_pos (by omega)]
          · obtain rfl : a = 0 := by omega
            rw [if_neg (by omega), if_neg (by omega), if_neg (by omega), if_neg (by omega)]; rfl
    · rw [if_neg ho]
      rw [okE_iff] at ho
      by_cases k1 : a = 1 ∧ b + c + d + e = 0
      · exact absurd ⟨by omega, by rw [if_neg (by omega)]; omega, by rw [if_neg (by omega)]; omega, by rw [if_neg (by omega)]⟩ ho
      rw [if_neg k1]
      by_cases k2 : ((a = 2 ∨ a = 4 ∨ a = 5 ∨ a = 6) ∧ (1 ≤ b ∧ b ≤ 8)) ∧ c + d + e = 0
      · exact absurd ⟨by omega, by rw [if_pos (by omega)]; omega, by rw [if_neg (by omega)]; omega, by rw [if_neg (by omega)]⟩ ho
      rw [if_neg k2]
      by_cases k3 : ((a = 3 ∧ (1 ≤ b ∧ b ≤ 8)) ∧ rowB c d = true) ∧ (1 ≤ e ∧ e ≤ 4)
      · obtain ⟨⟨⟨rfl, hb2⟩, hr⟩, he2⟩ := k3
        unfold rowB at hr
        exact absurd ⟨by omega, by rw [if_pos (by omega)]; omega, by rw [if_pos rfl]; exact ⟨by simpa using hr, he2⟩, by rw [if_neg (by omega)]⟩ ho
      rw [if_neg k3, if_neg (by omega)]
  · have h7 : 7 ≤ a ∧ a ≤ 9 := by unfold picB at hp; simpa using hp
    rw [if_neg (show ¬ (a = 1 ∧ b + c + d + e = 0) by omega), if_neg (show ¬ (((a = 2 ∨ a = 4 ∨ a = 5 ∨ a = 6) ∧ (1 ≤ b ∧ b ≤ 8)) ∧ c + d + e = 0) by omega), if_neg (show ¬ (((a = 3 ∧ (1 ≤ b ∧ b ≤ 8)) ∧ rowB c d = true) ∧ (1 ≤ e ∧ e ≤ 4)) by omega), rdE_pic hp]
    by_cases he0 : e = 0
    · subst he0
      have hk : okE a 0 0 0 0 (b * 65536 + c * 256 + d) = true := by
        rw [okE_iff]
        exact ⟨by omega, by rw [if_neg (by omega)], by rw [if_neg (by omega)]; omega, by rw [if_pos h7]; omega⟩
      rw [if_pos hk, if_pos ⟨h7, rfl⟩, show b * 65536 + c * 256 + d = 65536 * b + 256 * c + d by omega]
    · have hk : ¬ okE a 0 0 0 e (b * 65536 + c * 256 + d) = true := by
        intro ho
        rw [okE_iff] at ho
        obtain ⟨_, _, h3, _⟩ := ho
        rw [if_neg (by omega)] at h3
        omega
      rw [if_neg hk, if_neg (fun h => he0 h.2)]
theorem ok_zE : okL zE = true := by decide
theorem ok_rd (a b c d e : Int) : okL (rdE a b c d e) = true := by
  unfold rdE
  by_cases h : okL (rawE a b c d e) = true
  · rw [if_pos h]; exact h
  · rw [if_neg h]; exact ok_zE
theorem raw_length (a b c d e : Int) : (rawE a b c d e).length = 6 := by unfold rawE; split <;> rfl
theorem rd_length (a b c d e : Int) : (rdE a b c d e).length = 6 := by
  unfold rdE
  split
  · exact raw_length _ _ _ _ _
  · rfl
/-- A byte of a list. -/
def byt (l : List UInt8) (i : Nat) : Int := ((l.getD i 0).toNat : Int)
theorem byt_bound (l : List UInt8) (i : Nat) : 0 ≤ byt l i ∧ byt l i ≤ 255 := by
  have h2 : (l.getD i 0).toNat < 256 := (l.getD i 0).toNat_lt
  unfold byt; omega
theorem byt_get {l : List UInt8} {i : Nat} (h : i < l.length) : (u8s l)[i]? = some (.int .u8 (byt l i)) := by
  rw [u8s_get h]; unfold byt; simp [List.getD, h]
/-- The entry at a place, and all. -/
def entAt (l : List UInt8) (i : Nat) : List Int := if 5 * i + 5 ≤ l.length then rdE (byt l (5 * i)) (byt l (5 * i + 1)) (byt l (5 * i + 2)) (byt l (5 * i + 3)) (byt l (5 * i + 4)) else zE
def entN (l : List UInt8) (n : Nat) : List (List Int) := (List.range n).map (entAt l)
def entsL (l : List UInt8) : List (List Int) := entN l ((l.length + 4) / 5)
theorem entAt_one {l : List UInt8} {i : Nat} (h : 5 * i + 5 ≤ l.length) : entAt l i = oneE (byt l (5 * i)) (byt l (5 * i + 1)) (byt l (5 * i + 2)) (byt l (5 * i + 3)) (byt l (5 * i + 4)) := by
  unfold entAt; rw [if_pos h]; exact rd_one (byt_bound _ _).1 (byt_bound _ _) (byt_bound _ _) (byt_bound _ _) (byt_bound _ _)
theorem entAt_end {l : List UInt8} {i : Nat} (h : ¬ 5 * i + 5 ≤ l.length) : entAt l i = zE := by unfold entAt; rw [if_neg h]
theorem entAt_length (l : List UInt8) (i : Nat) : (entAt l i).length = 6 := by
  unfold entAt
  split
  · exact rd_length _ _ _ _ _
  · rfl
theorem entAt_ok (l : List UInt8) (i : Nat) : okL (entAt l i) = true := by
  unfold entAt
  split
  · exact ok_rd _ _ _ _ _
  · exact ok_zE
theorem entN_length (l : List UInt8) (n : Nat) : (entN l n).length = n := by simp [entN]
theorem entN_succ (l : List UInt8) (n : Nat) : entN l (n + 1) = entN l n ++ [entAt l n] := by simp [entN, List.range_succ]
theorem entN_all (l : List UInt8) (n : Nat) : ∀ e ∈ entN l n, e.length = 6 := by
  intro e he; unfold entN at he; obtain ⟨i, _, rfl⟩ := List.mem_map.1 he; exact entAt_length _ _
theorem entN_ok (l : List UInt8) (n : Nat) : ∀ e ∈ entN l n, okL e = true := by
  intro e he; unfold entN at he; obtain ⟨i, _, rfl⟩ := List.mem_map.1 he; exact entAt_ok _ _
theorem entN_get {l : List UInt8} {n i : Nat} (h : i < n) : (entN l n)[i]? = some (entAt l i) := by simp [entN, h]
theorem entsL_get {l : List UInt8} {i : Nat} (h : i < (l.length + 4) / 5) : (entsL l)[i]? = some (entAt l i) := entN_get h
theorem entsL_length (l : List UInt8) : (entsL l).length = (l.length + 4) / 5 := entN_length _ _

/-- A number as a byte. -/
def u8i (z : Int) : UInt8 := UInt8.ofNat (z % 256).toNat
theorem u8i_val (z : Int) : ((u8i z).toNat : Int) = z % 256 := by
  unfold u8i
  have h0 := Int.emod_nonneg z (show (256 : Int) ≠ 0 by omega)
  have h1 := Int.emod_lt_of_pos z (show (0 : Int) < 256 by omega)
  rw [u8_ofNat_toNat]
  omega
/-- The bytes of an entry. -/
def wrE (x : List Int) : List UInt8 := if picB (fld x 0) then [u8i (fld x 0), u8i (fld x 5 / 65536), u8i (fld x 5 / 256), u8i (fld x 5), u8i (fld x 4)] else [u8i (fld x 0), u8i (fld x 1), u8i (fld x 2), u8i (fld x 3), u8i (fld x 4)]
theorem wrE_length (x : List Int) : (wrE x).length = 5 := by unfold wrE; split <;> rfl
def wrL (l : List (List Int)) : List UInt8 := l.flatMap wrE
theorem wrL_length : ∀ l : List (List Int), (wrL l).length = l.length * 5
  | [] => rfl
  | x :: l => by
    have := wrL_length l
    unfold wrL at this ⊢
    rw [List.flatMap_cons, List.length_append, wrE_length, this, List.length_cons]; omega
theorem wrL_snoc (l : List (List Int)) (x : List Int) : wrL (l ++ [x]) = wrL l ++ wrE x := by simp [wrL]
theorem wrL_byt : ∀ (l : List (List Int)) (i j : Nat) (hi : i < l.length), j < 5 → byt (wrL l) (5 * i + j) = byt (wrE l[i]) j
  | [], i, j, hi, _ => by simp at hi
  | x :: l, 0, j, hi, hj => by
    unfold byt wrL
    rw [List.flatMap_cons]
    have : j < (wrE x).length := by rw [wrE_length]; exact hj
    simp [List.getD, List.getElem?_append_left this]
  | x :: l, i + 1, j, hi, hj => by
    have h := wrL_byt l i j (by simpa using hi) hj
    unfold byt wrL at h ⊢
    rw [List.flatMap_cons]
    rw [List.getElem_cons_succ, ← h]
    simp only [List.getD]
    rw [List.getElem?_append_right (by rw [wrE_length]; omega), wrE_length, show 5 * (i + 1) + j - 5 = 5 * i + j by omega]
theorem rd_wr {x : List Int} (hl : x.length = 6) (h : okL x = true) : rdE (byt (wrE x) 0) (byt (wrE x) 1) (byt (wrE x) 2) (byt (wrE x) 3) (byt (wrE x) 4) = x := by
  rw [six hl]
  unfold okL at h
  generalize fld x 0 = k at h
  generalize fld x 1 = c at h
  generalize fld x 2 = t at h
  generalize fld x 3 = r at h
  generalize fld x 4 = m at h
  generalize fld x 5 = p at h
  have hf : okE k c t r m p = true := h
  rw [okE_iff] at h
  obtain ⟨h1, h2, h3, h4⟩ := h
  by_cases h7 : 7 ≤ k ∧ k ≤ 9
  · have hp : picB k = true := by unfold picB; simpa using h7
    rw [if_pos h7] at h4
    rw [if_neg (by omega)] at h2 h3
    obtain ⟨rfl, rfl, rfl⟩ := h3
    subst h2
    have e : wrE [k, 0, 0, 0, 0, p] = [u8i k, u8i (p / 65536), u8i (p / 256), u8i p, u8i 0] := by unfold wrE; rw [show fld [k, 0, 0, 0, 0, p] 0 = k from rfl, hp, if_pos rfl]; rfl
    rw [e]
    simp only [byt, List.getD_cons_zero, List.getD_cons_succ, u8i_val]
    rw [show k % 256 = k by omega, rdE_pic hp, show (0 : Int) % 256 = 0 from rfl, show p / 65536 % 256 * 65536 + p / 256 % 256 * 256 + p % 256 = p by omega, if_pos hf]
  · have hp : picB k = false := by unfold picB; simpa using h7
    rw [if_neg h7] at h4
    subst h4
    have hc : 0 ≤ c ∧ c ≤ 255 := by split at h2 <;> omega
    have ht : (0 ≤ t ∧ t ≤ 255) ∧ (0 ≤ r ∧ r ≤ 255) ∧ (0 ≤ m ∧ m ≤ 255) := by split at h3 <;> omega
    have e : wrE [k, c, t, r, m, 0] = [u8i k, u8i c, u8i t, u8i r, u8i m] := by unfold wrE; rw [show fld [k, c, t, r, m, 0] 0 = k from rfl, hp]; rfl
    rw [e]
    simp only [byt, List.getD_cons_zero, List.getD_cons_succ, u8i_val]
    rw [show k % 256 = k by omega, show c % 256 = c by omega, show t % 256 = t by omega, show r % 256 = r by omega, show m % 256 = m by omega, rdE_not hp, if_pos hf]
/-- What was written is read. -/
theorem ents_wr {l : List (List Int)} (hl : ∀ x ∈ l, x.length = 6) (ho : ∀ x ∈ l, okL x = true) : entsL (wrL l) = l := by
  have hn : (entsL (wrL l)).length = l.length := by rw [entsL_length, wrL_length]; omega
  apply List.ext_getElem hn
  intro i h1 h2
  have h3 : (entsL (wrL l))[i]? = some (entAt (wrL l) i) := entsL_get (by rw [entsL_length] at h1; exact h1)
  rw [List.getElem?_eq_getElem h1] at h3
  injection h3 with h3
  rw [h3]
  unfold entAt
  rw [if_pos (by rw [wrL_length]; omega)]
  have b0 := wrL_byt l i 0 h2 (by omega)
  rw [Nat.add_zero] at b0
  rw [b0, wrL_byt l i 1 h2 (by omega), wrL_byt l i 2 h2 (by omega), wrL_byt l i 3 h2 (by omega), wrL_byt l i 4 h2 (by omega)]
  exact rd_wr (hl _ (List.getElem_mem h2)) (ho _ (List.getElem_mem h2))
/-- Whole entries, and others behind them. -/
theorem ents_app {a b : List UInt8} (h : a.length % 5 = 0) : entsL (a ++ b) = entsL a ++ entsL b := by
  have hn : (entsL (a ++ b)).length = (entsL a ++ entsL b).length := by rw [List.length_append, entsL_length, entsL_length, entsL_length, List.length_append]; omega
  apply List.ext_getElem hn
  intro i h1 h2
  have e1 : (entsL (a ++ b))[i]? = some (entAt (a ++ b) i) := entsL_get (by rw [entsL_length] at h1; exact h1)
  rw [List.getElem?_eq_getElem h1] at e1
  injection e1 with e1
  rw [e1]
  by_cases hi : i < (entsL a).length
  · rw [List.getElem_append_left hi]
    have e2 : (entsL a)[i]? = some (entAt a i) := entsL_get (by rw [entsL_length] at hi; exact hi)
    rw [List.getElem?_eq_getElem hi] at e2
    injection e2 with e2
    rw [e2]
    rw [entsL_length] at hi
    have hk : 5 * i + 5 ≤ a.length := by omega
    have hb : ∀ j, j < a.length → byt (a ++ b) j = byt a j := fun j hj => by unfold byt; simp [List.getD, List.getElem?_append_left hj]
    unfold entAt
    rw [if_pos hk, if_pos (by rw [List.length_append]; omega), hb _ (by omega), hb _ (by omega), hb _ (by omega), hb _ (by omega), hb _ (by omega)]
  · rw [List.getElem_append_right (by omega)]
    have hlt : i - (entsL a).length < (entsL b).length := by rw [List.length_append] at h2; omega
    have e2 : (entsL b)[i - (entsL a).length]? = some (entAt b (i - (entsL a).length)) := entsL_get (by rw [← entsL_length b]; exact hlt)
    rw [List.getElem?_eq_getElem hlt] at e2
    injection e2 with e2
    rw [e2]
    rw [entsL_length] at hi hlt ⊢
    try rw [entsL_length] at hlt
    have hb : ∀ j, byt (a ++ b) (a.length + j) = byt b j := fun j => by unfold byt; simp [List.getD, List.getElem?_append_right]
    have h5 : 5 * i = a.length + 5 * (i - (a.length + 4) / 5) := by omega
    unfold entAt
    by_cases hk : 5 * (i - (a.length + 4) / 5) + 5 ≤ b.length
    · rw [if_pos hk, if_pos (by rw [List.length_append]; omega), h5, hb, Nat.add_assoc, hb, Nat.add_assoc, hb, Nat.add_assoc, hb, Nat.add_assoc, hb]
    · rw [if_neg hk, if_neg (by rw [List.length_append]; omega)]
end Go.Proofs.YtggfadiahacgeaaDoor
