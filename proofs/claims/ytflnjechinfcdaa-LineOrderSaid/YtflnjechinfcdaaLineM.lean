/- Who waits, as plain lists: two lots; what pushing and leaving make of them. -/
import Derived.Test.YtflnjechinfcdaaBase
namespace Go.Proofs.Ytflnjechinfcdaa
open Go.RowKit
set_option linter.unusedVariables false
set_option linter.unusedSimpArgs false

/-- One that waits. -/
structure Wt where
  tx : Int
  sq : Int
  md : Int
  up : Bool
  deriving DecidableEq

def zW : Wt := ⟨0, 0, 0, false⟩
instance : Inhabited Wt := ⟨zW⟩
/-- Its cells. -/
def wv (q : Wt) : List Value := [.int .i64 q.tx, .int .i64 q.sq, .int .i64 q.md, .bool q.up]
def wvs (L : List Wt) : List Value := L.flatMap wv
theorem wv_length (q : Wt) : (wv q).length = 4 := rfl
@[simp] theorem wvs_nil : wvs [] = [] := rfl
theorem wvs_append (L M : List Wt) : wvs (L ++ M) = wvs L ++ wvs M := by simp [wvs]
theorem wvs_single (q : Wt) : wvs [q] = wv q := by simp [wvs]
theorem wvs_length : ∀ L : List Wt, (wvs L).length = L.length * 4
  | [] => rfl
  | q :: r => by
    show (wv q ++ wvs r).length = _
    rw [List.length_append, wvs_length r, wv_length, List.length_cons]; omega
theorem wvs_one (L : List Wt) : ∀ u ∈ wvs L, u.oneCell' = true := by
  intro u hu
  obtain ⟨q, _, hq⟩ := List.mem_flatMap.1 hu
  simp [wv] at hq
  rcases hq with rfl | rfl | rfl | rfl <;> rfl
theorem wvs_get : ∀ {L : List Wt} {i j : Nat} (hi : i < L.length), j < 4 → (wvs L)[i * 4 + j]? = (wv L[i])[j]?
  | [], i, j, hi, _ => by simp at hi
  | q :: r, 0, j, hi, hj => by
    show (wv q ++ wvs r)[0 * 4 + j]? = _
    rw [Nat.zero_mul, Nat.zero_add, List.getElem?_append_left (by rw [wv_length]; exact hj)]; rfl
  | q :: r, i + 1, j, hi, hj => by
    show (wv q ++ wvs r)[(i + 1) * 4 + j]? = _
    rw [List.getElem?_append_right (by rw [wv_length]; omega), wv_length, show (i + 1) * 4 + j - 4 = i * 4 + j by omega, wvs_get (by simpa using hi) hj]
    rfl
theorem wvs_take : ∀ (L : List Wt) (k : Nat), (wvs L).take (k * 4) = wvs (L.take k)
  | [], k => by simp
  | q :: r, 0 => by simp
  | q :: r, k + 1 => by
    show (wv q ++ wvs r).take _ = _
    rw [List.take_append, wv_length, show (k + 1) * 4 - 4 = k * 4 by omega, wvs_take r k, List.take_of_length_le (by rw [wv_length]; omega)]
    rfl
theorem wvs_drop : ∀ (L : List Wt) (k : Nat), (wvs L).drop (k * 4) = wvs (L.drop k)
  | [], k => by simp
  | q :: r, 0 => by simp
  | q :: r, k + 1 => by
    show (wv q ++ wvs r).drop _ = _
    rw [List.drop_append, wv_length, show (k + 1) * 4 - 4 = k * 4 by omega, wvs_drop r k, List.drop_of_length_le (by rw [wv_length]; omega)]
    rfl

/-- May it be? -/
def mayW (q : Wt) : Bool := decide (1 ≤ q.tx ∧ q.tx ≤ 1048576 ∧ 1 ≤ q.sq ∧ q.sq ≤ 1048576 ∧ 1 ≤ q.md ∧ q.md ≤ 4)
theorem mayW_iff {q : Wt} : mayW q = true ↔ 1 ≤ q.tx ∧ q.tx ≤ 1048576 ∧ 1 ≤ q.sq ∧ q.sq ≤ 1048576 ∧ 1 ≤ q.md ∧ q.md ≤ 4 := by unfold mayW; simp

/-- The place of a transaction's. -/
def idx (tx : Int) : List Wt → Option Nat
  | [] => none
  | q :: r => if q.tx = tx then some 0 else (idx tx r).map (· + 1)
theorem idx_hit {tx : Int} : ∀ {L : List Wt} {k : Nat} (h : k < L.length), (∀ q ∈ L.take k, q.tx ≠ tx) → L[k].tx = tx → idx tx L = some k
  | [], k, h, _, _ => by simp at h
  | q :: r, 0, h, _, he => if_pos he
  | q :: r, k + 1, h, ha, he => by
    have h1 : q.tx ≠ tx := ha q (by simp)
    rw [idx, if_neg h1, idx_hit (L := r) (k := k) (by simpa using h) (fun x hx => ha x (by simp [hx])) he]
    rfl
theorem idx_miss {tx : Int} : ∀ {L : List Wt}, (∀ q ∈ L, q.tx ≠ tx) → idx tx L = none
  | [], _ => rfl
  | q :: r, h => by
    rw [idx, if_neg (h q (by simp)), idx_miss fun x hx => h x (by simp [hx])]; rfl
theorem idx_some {tx : Int} : ∀ {L : List Wt} {k : Nat}, idx tx L = some k → ∃ h : k < L.length, L[k].tx = tx
  | [], k, h => by simp [idx] at h
  | q :: r, k, h => by
    rw [idx] at h
    split at h
    · cases h; rename_i he; exact ⟨by simp, he⟩
    · obtain ⟨j, hj, rfl⟩ := Option.map_eq_some_iff.1 h
      obtain ⟨h1, h2⟩ := idx_some hj
      exact ⟨by simpa using h1, h2⟩
theorem idx_lt {tx : Int} {L : List Wt} {k : Nat} (h : idx tx L = some k) : k < L.length := (idx_some h).1
theorem idx_none {tx : Int} : ∀ {L : List Wt}, idx tx L = none → ∀ q ∈ L, q.tx ≠ tx
  | [], _, q, hq => by simp at hq
  | p :: r, h, q, hq => by
    rw [idx] at h
    split at h
    · cases h
    · rename_i hn
      rcases List.mem_cons.1 hq with rfl | hq
      · exact hn
      · exact idx_none (by simpa using h) q hq
theorem idx_append (tx : Int) : ∀ (U D : List Wt), idx tx (U ++ D) = match idx tx U with | some k => some k | none => (idx tx D).map (· + U.length)
  | [], D => by simp [idx]
  | q :: r, D => by
    rw [List.cons_append, idx, idx]
    split
    · rfl
    · rw [idx_append tx r D]
      cases idx tx r with
      | some k => rfl
      | none =>
        cases idx tx D with
        | none => rfl
        | some k => simp; omega
theorem idx_left {tx : Int} {U : List Wt} {k : Nat} (h : idx tx U = some k) (D : List Wt) : idx tx (U ++ D) = some k := by rw [idx_append, h]
theorem idx_right {tx : Int} {U : List Wt} (h : idx tx U = none) (D : List Wt) : idx tx (U ++ D) = (idx tx D).map (· + U.length) := by rw [idx_append, h]
/-- No transaction waits twice. -/
def Once (L : List Wt) : Prop := ∀ (i j : Nat) (hi : i < L.length) (hj : j < L.length), L[i].tx = L[j].tx → i = j
theorem idx_once {L : List Wt} (h : Once L) {k : Nat} (hk : k < L.length) : idx L[k].tx L = some k := by
  cases hx : idx L[k].tx L with
  | none => exact absurd rfl (idx_none hx _ (List.getElem_mem hk))
  | some j =>
    obtain ⟨h1, h2⟩ := idx_some hx
    rw [h j k h1 hk h2]

/-! ### what is done -/
def pushU (q : Wt) (U : List Wt) : List Wt := if q.up then U ++ [q] else U
def pushD (q : Wt) (D : List Wt) : List Wt := if q.up then D else D ++ [q]
/-- Push's code. -/
def pushC (lim : Int) (q : Wt) (U D : List Wt) : Int := if mayW q = false then 1 else if (idx q.tx (U ++ D)).isSome then 8 else if lim ≤ ((U.length + D.length : Nat) : Int) then 7 else 0
def putU (lim : Int) (q : Wt) (U D : List Wt) : List Wt := if pushC lim q U D = 0 then pushU q U else U
def putD (lim : Int) (q : Wt) (U D : List Wt) : List Wt := if pushC lim q U D = 0 then pushD q D else D
/-- Leave. -/
def levU (tx : Int) (U : List Wt) : List Wt := match idx tx U with | some k => U.eraseIdx k | none => U
def levD (tx : Int) (U D : List Wt) : List Wt := match idx tx U with | some _ => D | none => match idx tx D with | some k => D.eraseIdx k | none => D
def levW (tx : Int) (U D : List Wt) : Wt := match idx tx (U ++ D) with | some k => (U ++ D).getD k zW | none => zW
def levC (tx : Int) (U D : List Wt) : Int := match idx tx (U ++ D) with | some _ => 0 | none => 10
/-- Who is first: the transaction that Pop takes. -/
def fstT (U D : List Wt) : Int := ((U ++ D).getD 0 zW).tx

structure LinOk (lim : Int) (U D : List Wt) : Prop where
  ups : ∀ q ∈ U, q.up = true
  dns : ∀ q ∈ D, q.up = false
  once : Once (U ++ D)
  may : ∀ q ∈ U ++ D, mayW q = true
  cnt : ((U.length + D.length : Nat) : Int) ≤ lim
  lim : 1 ≤ lim ∧ lim ≤ 64
theorem LinOk.start {lim : Int} (h : 1 ≤ lim ∧ lim ≤ 64) : LinOk lim [] [] := ⟨by simp, by simp, fun i j hi => by simp at hi, by simp, by simp; omega, h⟩
theorem Once.nodup {L : List Wt} : Once L ↔ (L.map (·.tx)).Nodup := by
  constructor
  · intro h
    rw [List.nodup_iff_pairwise_ne, List.pairwise_iff_getElem]
    intro i j hi hj hij e
    simp only [List.getElem_map] at e
    have := h i j (by simpa using hi) (by simpa using hj) e
    omega
  · intro h i j hi hj e
    rw [List.nodup_iff_pairwise_ne, List.pairwise_iff_getElem] at h
    have h1 : i < (L.map (·.tx)).length := by simpa using hi
    have h2 : j < (L.map (·.tx)).length := by simpa using hj
    have h3 : (L.map (·.tx))[i] = (L.map (·.tx))[j] := by simpa using e
    rcases Nat.lt_trichotomy i j with hl | hl | hl
    · exact absurd h3 (h i j h1 h2 hl)
    · exact hl
    · exact absurd h3.symm (h j i h2 h1 hl)
theorem Once.erase {L : List Wt} (h : Once L) (k : Nat) : Once (L.eraseIdx k) := by
  rw [Once.nodup] at h ⊢
  exact h.sublist ((List.eraseIdx_sublist L k).map _)
theorem lev_append (tx : Int) (U D : List Wt) : levU tx U ++ levD tx U D = match idx tx (U ++ D) with | some k => (U ++ D).eraseIdx k | none => U ++ D := by
  unfold levU levD
  rw [idx_append]
  cases hU : idx tx U with
  | some k => simp only; rw [List.eraseIdx_append_of_lt_length (idx_lt hU)]
  | none =>
    cases hD : idx tx D with
    | none => rfl
    | some k => simp only [Option.map_some]; rw [List.eraseIdx_append_of_length_le (by omega)]; simp
theorem erase_mem {L : List Wt} {k : Nat} {q : Wt} (h : q ∈ L.eraseIdx k) : q ∈ L := List.mem_of_mem_eraseIdx h
theorem levU_mem {tx : Int} {U : List Wt} {q : Wt} (h : q ∈ levU tx U) : q ∈ U := by
  unfold levU at h; split at h
  · exact erase_mem h
  · exact h
theorem levD_mem {tx : Int} {U D : List Wt} {q : Wt} (h : q ∈ levD tx U D) : q ∈ D := by
  unfold levD at h; split at h
  · exact h
  · split at h
    · exact erase_mem h
    · exact h
theorem lev_length (tx : Int) (U D : List Wt) : (levU tx U).length + (levD tx U D).length ≤ U.length + D.length := by
  have := congrArg List.length (lev_append tx U D)
  rw [List.length_append] at this
  rw [this]
  split
  · rw [List.length_eraseIdx]; split <;> simp <;> omega
  · simp
theorem LinOk.leave {lim : Int} {U D : List Wt} (h : LinOk lim U D) (tx : Int) : LinOk lim (levU tx U) (levD tx U D) := by
  refine ⟨fun q hq => h.ups q (levU_mem hq), fun q hq => h.dns q (levD_mem hq), ?_, ?_, ?_, h.lim⟩
  · rw [lev_append]; split
    · exact h.once.erase _
    · exact h.once
  · intro q hq
    rcases List.mem_append.1 hq with hq | hq
    · exact h.may q (List.mem_append_left _ (levU_mem hq))
    · exact h.may q (List.mem_append_right _ (levD_mem hq))
  · have := lev_length tx U D; have := h.cnt; omega
theorem push_perm (q : Wt) (U D : List Wt) : (pushU q U ++ pushD q D).Perm (q :: (U ++ D)) := by
  unfold pushU pushD
  split
  · simp only [List.append_assoc, List.singleton_append]; exact List.perm_middle
  · rw [← List.append_assoc]; exact List.perm_append_singleton _ _
theorem LinOk.push {lim : Int} {U D : List Wt} (h : LinOk lim U D) {q : Wt} (hm : mayW q = true) (hx : idx q.tx (U ++ D) = none) (hl : ((U.length + D.length : Nat) : Int) < lim) : LinOk lim (pushU q U) (pushD q D) := by
  have hp := push_perm q U D
  refine ⟨?_, ?_, ?_, ?_, ?_, h.lim⟩
  · unfold pushU; intro x hx; split at hx
    · rcases List.mem_append.1 hx with hx | hx
      · exact h.ups x hx
      · simp at hx; subst hx; assumption
    · exact h.ups x hx
  · unfold pushD; intro x hx; split at hx
    · exact h.dns x hx
    · rcases List.mem_append.1 hx with hx | hx
      · exact h.dns x hx
      · simp at hx; subst hx; simpa using ‹¬ x.up = true›
  · rw [Once.nodup, (hp.map _).nodup_iff, List.map_cons, List.nodup_cons]
    refine ⟨fun hm => ?_, Once.nodup.1 h.once⟩
    obtain ⟨x, hx', he⟩ := List.mem_map.1 hm
    exact idx_none hx x hx' he
  · intro x hx'
    rcases List.mem_cons.1 (hp.mem_iff.1 hx') with rfl | hx'
    · exact hm
    · exact h.may x hx'
  · have := hp.length_eq; rw [List.length_append, List.length_cons, List.length_append] at this; omega
theorem pushC_zero {lim : Int} {q : Wt} {U D : List Wt} (h : pushC lim q U D = 0) : mayW q = true ∧ idx q.tx (U ++ D) = none ∧ ((U.length + D.length : Nat) : Int) < lim := by
  unfold pushC at h
  split at h
  · cases h
  · split at h
    · cases h
    · split at h
      · cases h
      · rename_i h1 h2 h3
        exact ⟨by simpa using h1, by simpa using h2, by omega⟩
theorem LinOk.put {lim : Int} {U D : List Wt} (h : LinOk lim U D) (q : Wt) : LinOk lim (putU lim q U D) (putD lim q U D) := by
  unfold putU putD
  split
  · rename_i hc
    obtain ⟨h1, h2, h3⟩ := pushC_zero hc
    exact h.push h1 h2 h3
  · exact h
end Go.Proofs.Ytflnjechinfcdaa
