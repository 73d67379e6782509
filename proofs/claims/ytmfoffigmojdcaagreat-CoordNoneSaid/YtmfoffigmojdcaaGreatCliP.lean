/- Clients in memory: what they are, and stores into them. -/
import Derived.Test.YtmfoffigmojdcaaGreatCliD
import Derived.Test.YtmfoffigmojdcaaGreatErr
namespace Go.Proofs.YtmfoffigmojdcaaGreat
open Go.RowKit
set_option linter.unusedVariables false
set_option linter.unusedSimpArgs false

/-- All nine, by their numbers: nobody, those that there are, and no more. -/
def full (L : List Cl) : List Cl := noCl :: (L ++ List.replicate (8 - L.length) noCl)
theorem full_length {L : List Cl} (h : L.length ≤ 8) : (full L).length = 9 := by simp [full]; omega
theorem full_get {L : List Cl} (h : L.length ≤ 8) {j : Nat} (hj : j < 8) : (full L)[j + 1]? = some (clAt L j) := by
  unfold full clAt
  rw [List.getElem?_cons_succ]
  by_cases hl : j < L.length
  · rw [List.getElem?_append_left hl]; simp [List.getD, hl]
  · rw [List.getElem?_append_right (by omega), List.getElem?_replicate, if_pos (by omega)]
    simp [List.getD, List.getElem?_eq_none (show L.length ≤ j by omega)]
theorem full_at {L : List Cl} (h : L.length ≤ 8) {j : Nat} (hj : j < 8) : clAt (full L) (j + 1) = clAt L j := by
  show (full L).getD (j + 1) noCl = _
  rw [List.getD, full_get h hj]; rfl
theorem full_set {L : List Cl} {k : Nat} (h : k < L.length) (x : Cl) : full (L.set k x) = (full L).set (k + 1) x := by
  unfold full; rw [List.length_set, List.set_cons_succ, List.set_append_left _ _ h]
theorem clAt_set {L : List Cl} {k i : Nat} (h : k < L.length) (x : Cl) : clAt (L.set k x) i = if k = i then x else clAt L i := by
  unfold clAt
  rw [List.getD, List.getElem?_set]
  by_cases e : k = i
  · subst e; simp [h]
  · rw [if_neg e, if_neg e, List.getD]
theorem clAt_mem {L : List Cl} {i : Nat} (h : i < L.length) : clAt L i ∈ L := by rw [clAt_get h]; exact List.getElem_mem h
theorem mem_clAt {L : List Cl} {c : Cl} (h : c ∈ L) : ∃ i, i < L.length ∧ clAt L i = c := by
  obtain ⟨i, hi, e⟩ := List.mem_iff_getElem.1 h
  exact ⟨i, hi, (clAt_get hi).trans e⟩
theorem cls_setA : ∀ {G : List Cl} {j : Nat} (t : Int), j < G.length → (cls G).set (j * 3) (.int .i64 t) = cls (G.set j { clAt G j with tx := t })
  | [], j, t, h => by simp at h
  | c :: r, 0, t, h => by simp [cls, clv, clAt]
  | c :: r, j + 1, t, h => by
    have := cls_setA (G := r) (j := j) t (by simpa using h)
    rw [List.set_cons_succ, show clAt (c :: r) (j + 1) = clAt r j from rfl, show cls (c :: r.set j { clAt r j with tx := t }) = clv c ++ cls (r.set j { clAt r j with tx := t }) from rfl, ← this, show cls (c :: r) = clv c ++ cls r from rfl, show (j + 1) * 3 = j * 3 + 3 by omega]
    simp [clv]
theorem cls_setB : ∀ {G : List Cl} {j : Nat} (d : Bool), j < G.length → (cls G).set (j * 3 + 1) (.bool d) = cls (G.set j { clAt G j with dead := d })
  | [], j, t, h => by simp at h
  | c :: r, 0, t, h => by simp [cls, clv, clAt]
  | c :: r, j + 1, t, h => by
    have := cls_setB (G := r) (j := j) t (by simpa using h)
    rw [List.set_cons_succ, show clAt (c :: r) (j + 1) = clAt r j from rfl, show cls (c :: r.set j { clAt r j with dead := t }) = clv c ++ cls (r.set j { clAt r j with dead := t }) from rfl, ← this, show cls (c :: r) = clv c ++ cls r from rfl, show (j + 1) * 3 + 1 = j * 3 + 1 + 3 by omega]
    simp [clv]
theorem cls_setC : ∀ {G : List Cl} {j : Nat} (t : Int), j < G.length → (cls G).set (j * 3 + 2) (.int .i64 t) = cls (G.set j { clAt G j with since := t })
  | [], j, t, h => by simp at h
  | c :: r, 0, t, h => by simp [cls, clv, clAt]
  | c :: r, j + 1, t, h => by
    have := cls_setC (G := r) (j := j) t (by simpa using h)
    rw [List.set_cons_succ, show clAt (c :: r) (j + 1) = clAt r j from rfl, show cls (c :: r.set j { clAt r j with since := t }) = clv c ++ cls (r.set j { clAt r j with since := t }) from rfl, ← this, show cls (c :: r) = clv c ++ cls r from rfl, show (j + 1) * 3 + 2 = j * 3 + 2 + 3 by omega]
    simp [clv]

/-- The cells of clients. -/
def clB (n : Nat) (L : List Cl) : Array Value := (Value.int .i64 (n : Int) :: cls (full L)).toArray
section
variable {n : Nat} {L : List Cl} {k : Nat}
theorem clB_size (h : L.length ≤ 8) : (clB n L).size = 28 := by simp [clB, cls_length, full_length h]
theorem clB_many : (clB n L)[0]? = some (.int .i64 (n : Int)) := by simp [clB]
theorem clB_get (h : L.length ≤ 8) (hk : k < 8) : (clB n L)[1 + (k + 1) * 3]? = some (.int .i64 (clAt L k).tx) ∧ (clB n L)[1 + (k + 1) * 3 + 1]? = some (.bool (clAt L k).dead) ∧ (clB n L)[1 + (k + 1) * 3 + 2]? = some (.int .i64 (clAt L k).since) := by
  have hl := full_length h
  have hg := full_get h hk
  have he : (full L)[k + 1]'(by omega) = clAt L k := by
    have := List.getElem?_eq_getElem (show k + 1 < (full L).length by omega)
    rw [hg] at this; injection this with this; exact this.symm
  have h0 := fm_get clv_length (L := full L) (i := k + 1) (k := 0) (by omega) (by omega)
  have h1 := fm_get clv_length (L := full L) (i := k + 1) (k := 1) (by omega) (by omega)
  have h2 := fm_get clv_length (L := full L) (i := k + 1) (k := 2) (by omega) (by omega)
  rw [he] at h0 h1 h2
  unfold clB
  refine ⟨?_, ?_, ?_⟩
  · rw [List.getElem?_toArray, show 1 + (k + 1) * 3 = (k + 1) * 3 + 0 + 1 by omega, List.getElem?_cons_succ]; exact h0
  · rw [List.getElem?_toArray, show 1 + (k + 1) * 3 + 1 = (k + 1) * 3 + 1 + 1 by omega, List.getElem?_cons_succ]; exact h1
  · rw [List.getElem?_toArray, show 1 + (k + 1) * 3 + 2 = (k + 1) * 3 + 2 + 1 by omega, List.getElem?_cons_succ]; exact h2
theorem clB_tx (h : L.length ≤ 8) (hk : k < L.length) (t : Int) : (clB n L).setIfInBounds (1 + (k + 1) * 3) (.int .i64 t) = clB n (L.set k { clAt L k with tx := t }) := by
  unfold clB
  rw [List.setIfInBounds_toArray, show 1 + (k + 1) * 3 = (k + 1) * 3 + 1 by omega, List.set_cons_succ, cls_setA t (by rw [full_length h]; omega), full_at h (by omega), full_set hk]
theorem clB_dead (h : L.length ≤ 8) (hk : k < L.length) (d : Bool) : (clB n L).setIfInBounds (1 + (k + 1) * 3 + 1) (.bool d) = clB n (L.set k { clAt L k with dead := d }) := by
  unfold clB
  rw [List.setIfInBounds_toArray, show 1 + (k + 1) * 3 + 1 = (k + 1) * 3 + 1 + 1 by omega, List.set_cons_succ, cls_setB d (by rw [full_length h]; omega), full_at h (by omega), full_set hk]
theorem clB_since (h : L.length ≤ 8) (hk : k < L.length) (t : Int) : (clB n L).setIfInBounds (1 + (k + 1) * 3 + 2) (.int .i64 t) = clB n (L.set k { clAt L k with since := t }) := by
  unfold clB
  rw [List.setIfInBounds_toArray, show 1 + (k + 1) * 3 + 2 = (k + 1) * 3 + 2 + 1 by omega, List.set_cons_succ, cls_setC t (by rw [full_length h]; omega), full_at h (by omega), full_set hk]
end

/-- What holds of clients all along: numbers of transactions, times, no transaction twice. -/
structure ClOk (L : List Cl) : Prop where
  tx : ∀ c ∈ L, 0 ≤ c.tx ∧ c.tx ≤ 1048576
  since : ∀ c ∈ L, c.dead = true → isT c.since = true
  one : ∀ i j, i < L.length → j < L.length → (clAt L i).tx = (clAt L j).tx → 0 < (clAt L i).tx → i = j
theorem ClOk.new (n : Nat) : ClOk (List.replicate n noCl) := by
  have hm : ∀ c ∈ List.replicate n noCl, c = noCl := fun c hc => (List.mem_replicate.1 hc).2
  refine ⟨fun c hc => ?_, fun c hc hd => ?_, fun i j hi hj e h0 => ?_⟩
  · rw [hm c hc]; simp [noCl]
  · rw [hm c hc] at hd; simp [noCl] at hd
  · rw [hm _ (clAt_mem hi)] at h0; simp [noCl] at h0
theorem ClOk.setTx {L : List Cl} (h : ClOk L) {k : Nat} (hk : k < L.length) {t : Int} (ht : 0 ≤ t ∧ t ≤ 1048576) (hn : 0 < t → ofL t L = 0) : ClOk (L.set k { clAt L k with tx := t }) := by
  have hmem : ∀ c ∈ L.set k { clAt L k with tx := t }, c ∈ L ∨ c = { clAt L k with tx := t } := fun c hc => List.mem_or_eq_of_mem_set hc
  have hno : 0 < t → ∀ i, i < L.length → (clAt L i).tx ≠ t := by
    intro h0 i hi e
    have : ∀ {M : List Cl}, ofL t M = 0 → ∀ c ∈ M, c.tx ≠ t := by
      intro M
      induction M with
      | nil => intro _ c hc; cases hc
      | cons a r ih =>
        intro hz c hc hct
        unfold ofL at hz
        split at hz
        · cases hz
        · rename_i hne
          split at hz
          · rename_i hz2
            rcases List.mem_cons.1 hc with rfl | hc
            · exact hne ⟨h0, hct⟩
            · exact ih hz2 c hc hct
          · have := ofL_nonneg t r; omega
    exact this (hn h0) _ (clAt_mem hi) e
  refine ⟨fun c hc => ?_, fun c hc hd => ?_, fun i j hi hj e h0 => ?_⟩
  · rcases hmem c hc with h1 | rfl
    · exact h.tx c h1
    · exact ht
  · rcases hmem c hc with h1 | rfl
    · exact h.since c h1 hd
    · exact h.since (clAt L k) (clAt_mem hk) hd
  · rw [List.length_set] at hi hj
    rw [clAt_set hk, clAt_set hk] at e
    rw [clAt_set hk] at h0
    by_cases ei : k = i
    · by_cases ej : k = j
      · omega
      · rw [if_pos ei, if_neg ej] at e
        rw [if_pos ei] at h0
        exact absurd e.symm (hno h0 j hj)
    · rw [if_neg ei] at e h0
      by_cases ej : k = j
      · rw [if_pos ej] at e
        simp only at e
        exact absurd e (hno (e ▸ h0) i hi)
      · rw [if_neg ej] at e
        exact h.one i j hi hj e h0
theorem ClOk.setDead {L : List Cl} (h : ClOk L) {k : Nat} (hk : k < L.length) {t : Int} (ht : isT t = true) : ClOk (L.set k { clAt L k with dead := true, since := t }) := by
  have hmem : ∀ c ∈ L.set k { clAt L k with dead := true, since := t }, c ∈ L ∨ c = { clAt L k with dead := true, since := t } := fun c hc => List.mem_or_eq_of_mem_set hc
  have htx : ∀ i, (clAt (L.set k { clAt L k with dead := true, since := t }) i).tx = (clAt L i).tx := by
    intro i
    rw [clAt_set hk]
    split
    · rename_i e; subst e; rfl
    · rfl
  refine ⟨fun c hc => ?_, fun c hc hd => ?_, fun i j hi hj e h0 => ?_⟩
  · rcases hmem c hc with h1 | rfl
    · exact h.tx c h1
    · exact h.tx (clAt L k) (clAt_mem hk)
  · rcases hmem c hc with h1 | rfl
    · exact h.since c h1 hd
    · exact ht
  · rw [List.length_set] at hi hj
    rw [htx, htx] at e
    rw [htx] at h0
    exact h.one i j hi hj e h0
theorem ClOk.begin_ {L : List Cl} (h : ClOk L) (id tx : Int) : ClOk (beginL L id tx).1 := by
  unfold beginL
  split
  · exact h
  · rename_i h1
    split
    · exact h
    · rename_i h2
      split
      · exact h
      · split
        · exact h
        · split
          · exact h
          · rename_i h3
            exact h.setTx (by omega) (by omega) (fun _ => by have := ofL_nonneg tx L; omega)
theorem ClOk.end_ {L : List Cl} (h : ClOk L) (tx : Int) : ClOk (endL L tx).1 := by
  unfold endL
  split
  · exact h
  · rename_i h1
    obtain ⟨h2, _⟩ := ofL_get h1
    exact h.setTx h2 (by omega) (fun h0 => absurd h0 (by omega))
theorem ClOk.crash {L : List Cl} (h : ClOk L) (id now : Int) : ClOk (crashL L id now).1 := by
  unfold crashL
  split
  · exact h
  · rename_i h1
    split
    · exact h
    · rename_i h2
      split
      · exact h
      · exact h.setDead (by omega) (by cases hh : isT now; exact absurd hh h2; rfl)

/-- Block p is so many clients. -/
structure Cli (w : World) (p n : Nat) (L : List Cl) : Prop where
  box : Blk w p 123 (clB n L)
  len : L.length = n
  lo : 1 ≤ n
  hi : n ≤ 8
  ok : ClOk L
section
variable {w w' : World} {p n : Nat} {L : List Cl}
theorem Cli.len8 (h : Cli w p n L) : L.length ≤ 8 := by rw [h.len]; exact h.hi
theorem Cli.turn {S : Nat → Prop} (h : Cli w p n L) (ht : Turn S w w') (hp : ¬ S p) : Cli w' p n L := ⟨h.box.turn ht hp, h.len, h.lo, h.hi, h.ok⟩
theorem Cli.step (h : Cli w p n L) (hb : Below w.heap.size w w') : Cli w' p n L := ⟨h.box.here hb, h.len, h.lo, h.hi, h.ok⟩
theorem Cli.lt (h : Cli w p n L) : p < w.heap.size := h.box.lt
theorem Cli.many (h : Cli w p n L) : w.cell? ⟨p, 0, none⟩ = some (.int .i64 (n : Int)) := (h.box.cell 0).trans clB_many
theorem Cli.cells (h : Cli w p n L) {j : Nat} (h1 : 1 ≤ j) (h8 : j ≤ 8) : w.cell? ⟨p, 1 + j * 3, none⟩ = some (.int .i64 (clAt L (j - 1)).tx) ∧ w.cell? ⟨p, 1 + j * 3 + 1, none⟩ = some (.bool (clAt L (j - 1)).dead) ∧ w.cell? ⟨p, 1 + j * 3 + 2, none⟩ = some (.int .i64 (clAt L (j - 1)).since) := by
  obtain ⟨i, rfl⟩ : ∃ i, j = i + 1 := ⟨j - 1, by omega⟩
  obtain ⟨a, b, c⟩ := clB_get (n := n) h.len8 (show i < 8 by omega)
  exact ⟨(h.box.cell _).trans a, (h.box.cell _).trans b, (h.box.cell _).trans c⟩
theorem Cli.setTx (h : Cli w p n L) {j : Nat} (h1 : 1 ≤ j) (hn : j ≤ n) {t : Int} (ht : 0 ≤ t ∧ t ≤ 1048576) (hno : 0 < t → ofL t L = 0) :
    Cli (w.setCell ⟨p, 1 + j * 3, none⟩ (.int .i64 t)) p n (L.set (j - 1) { clAt L (j - 1) with tx := t }) := by
  have hl := h.len
  have hb := h.box.set_ (1 + j * 3) (.int .i64 t)
  obtain ⟨i, rfl⟩ : ∃ i, j = i + 1 := ⟨j - 1, by omega⟩
  rw [clB_tx h.len8 (show i < L.length by omega)] at hb
  exact ⟨hb, by rw [List.length_set]; exact h.len, h.lo, h.hi, h.ok.setTx (by omega) ht hno⟩
theorem Cli.setDead (h : Cli w p n L) {j : Nat} (h1 : 1 ≤ j) (hn : j ≤ n) {t : Int} (ht : isT t = true) :
    Cli ((w.setCell ⟨p, 1 + j * 3 + 1, none⟩ (.bool true)).setCell ⟨p, 1 + j * 3 + 2, none⟩ (.int .i64 t)) p n (L.set (j - 1) { clAt L (j - 1) with dead := true, since := t }) := by
  have hl := h.len
  have hb := (h.box.set_ (1 + j * 3 + 1) (.bool true)).set_ (1 + j * 3 + 2) (.int .i64 t)
  obtain ⟨i, rfl⟩ : ∃ i, j = i + 1 := ⟨j - 1, by omega⟩
  have hi : i < L.length := by omega
  rw [clB_dead h.len8 hi, clB_since (by rw [List.length_set]; exact h.len8) (by rw [List.length_set]; exact hi), clAt_set hi, if_pos rfl, List.set_set] at hb
  exact ⟨hb, by rw [List.length_set]; exact h.len, h.lo, h.hi, h.ok.setDead hi ht⟩
end
end Go.Proofs.YtmfoffigmojdcaaGreat
