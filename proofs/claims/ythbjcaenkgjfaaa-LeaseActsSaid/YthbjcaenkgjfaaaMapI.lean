/- A map from int to int as a list of pairs, rising. -/
import Derived.Test.YthbjcaenkgjfaaaBase
import Derived.Maps.RangeWalk
import Derived.Maps.OwnSet
import Derived.Maps.OwnOps
import Derived.Lib.SlKeysI
namespace Go.Proofs.Ythbjcaenkgjfaaa
open Go.RowKit
set_option linter.unusedVariables false
set_option linter.unusedSimpArgs false

abbrev IP := Int × Int
def putL (k x : Int) : List IP → List IP
  | [] => [(k, x)]
  | p :: r => if k < p.1 then (k, x) :: p :: r else if p.1 = k then (k, x) :: r else p :: putL k x r
def delL (k : Int) (L : List IP) : List IP := L.filter fun p => decide (p.1 ≠ k)
def atL (k : Int) : List IP → Option Int
  | [] => none
  | p :: r => if p.1 = k then some p.2 else atL k r
def Rising (L : List IP) : Prop := L.Pairwise fun p q => p.1 < q.1
def pairF (p : IP) : Lit × DataW Unit := (.int .i64 p.1, .lit (.int .i64 p.2))
def DL (L : List IP) : DataW Unit := .map (L.map pairF)

theorem rising_cons {p : IP} {L : List IP} : Rising (p :: L) ↔ (∀ q ∈ L, p.1 < q.1) ∧ Rising L := List.pairwise_cons
theorem rising_nil : Rising [] := List.Pairwise.nil
theorem rising_filter {L : List IP} (h : Rising L) (f : IP → Bool) : Rising (L.filter f) := List.Pairwise.filter f h
theorem rising_del {L : List IP} (h : Rising L) (k : Int) : Rising (delL k L) := rising_filter h _
theorem put_mem {k x : Int} : ∀ {L : List IP} {q : IP}, q ∈ putL k x L → q = (k, x) ∨ q ∈ L
  | [], q, h => by simp [putL] at h; exact .inl h
  | p :: r, q, h => by
    unfold putL at h
    split at h
    · rcases List.mem_cons.1 h with h | h
      · exact .inl h
      · exact .inr h
    · split at h
      · rcases List.mem_cons.1 h with h | h
        · exact .inl h
        · exact .inr (List.mem_cons_of_mem _ h)
      · rcases List.mem_cons.1 h with h | h
        · exact .inr (by simp [h])
        · rcases put_mem h with h | h
          · exact .inl h
          · exact .inr (List.mem_cons_of_mem _ h)
theorem rising_put {k x : Int} : ∀ {L : List IP}, Rising L → Rising (putL k x L)
  | [], _ => by simp [putL, Rising]
  | p :: r, h => by
    obtain ⟨h1, h2⟩ := rising_cons.1 h
    unfold putL
    split
    · rename_i hk
      exact rising_cons.2 ⟨fun q hq => by
        rcases List.mem_cons.1 hq with rfl | hq
        · exact hk
        · have := h1 q hq; show k < q.1; omega, h⟩
    · split
      · rename_i hk
        exact rising_cons.2 ⟨fun q hq => by have := h1 q hq; show k < q.1; omega, h2⟩
      · refine rising_cons.2 ⟨fun q hq => ?_, rising_put h2⟩
        rcases put_mem hq with rfl | hq
        · show p.1 < k; omega
        · exact h1 q hq
theorem at_none {k : Int} : ∀ {L : List IP}, (∀ q ∈ L, q.1 ≠ k) → atL k L = none
  | [], _ => rfl
  | p :: r, h => by
    unfold atL
    rw [if_neg (h p (by simp))]
    exact at_none fun q hq => h q (by simp [hq])
theorem at_low {k : Int} {p : IP} {r : List IP} (h : Rising (p :: r)) (hk : k < p.1) : atL k (p :: r) = none :=
  at_none fun q hq => by
    rcases List.mem_cons.1 hq with rfl | hq
    · omega
    · have := (rising_cons.1 h).1 q hq; omega
theorem at_mem {k x : Int} : ∀ {L : List IP}, atL k L = some x → (k, x) ∈ L
  | [], h => by cases h
  | p :: r, h => by
    unfold atL at h
    split at h
    · rename_i e
      cases h; subst e; simp
    · exact List.mem_cons_of_mem _ (at_mem h)
theorem mem_at {p : IP} : ∀ {L : List IP}, Rising L → p ∈ L → atL p.1 L = some p.2
  | q :: r, h, hm => by
    obtain ⟨h1, h2⟩ := rising_cons.1 h
    unfold atL
    rcases List.mem_cons.1 hm with rfl | hm
    · rw [if_pos rfl]
    · rw [if_neg (by have := h1 p hm; omega)]; exact mem_at h2 hm
theorem at_put_same (k x : Int) : ∀ {L : List IP}, Rising L → atL k (putL k x L) = some x
  | [], _ => by simp [putL, atL]
  | p :: r, h => by
    unfold putL
    split
    · simp [atL]
    · split
      · simp [atL]
      · rename_i h1 h2
        unfold atL
        rw [if_neg h2]
        exact at_put_same k x (rising_cons.1 h).2
theorem at_put_other {k x k' : Int} (hk : k' ≠ k) : ∀ {L : List IP}, atL k' (putL k x L) = atL k' L
  | [] => by simp [putL, atL, Ne.symm hk]
  | p :: r => by
    unfold putL
    split
    · simp only [atL]
      rw [if_neg (Ne.symm hk)]
    · split
      · rename_i h1 h2
        simp only [atL]
        rw [if_neg (Ne.symm hk), if_neg (by omega)]
      · simp only [atL]
        rw [at_put_other hk]
theorem at_del_same (k : Int) (L : List IP) : atL k (delL k L) = none :=
  at_none fun q hq => by have := (List.mem_filter.1 hq).2; simpa using this
theorem at_del_other {k k' : Int} (hk : k' ≠ k) : ∀ (L : List IP), atL k' (delL k L) = atL k' L
  | [] => rfl
  | p :: r => by
    unfold delL
    rw [List.filter_cons]
    split
    · simp only [atL]
      split
      · rfl
      · exact at_del_other hk r
    · rename_i h
      have : p.1 = k := by simpa using h
      simp only [atL]
      rw [if_neg (by omega)]
      exact at_del_other hk r
theorem put_length (k x : Int) : ∀ (L : List IP), (putL k x L).length ≤ L.length + 1
  | [] => by simp [putL]
  | p :: r => by
    unfold putL
    split
    · simp
    · split
      · simp
      · have := put_length k x r; simp; omega
theorem del_none {k : Int} {L : List IP} (h : atL k L = none) : delL k L = L := by
  refine List.filter_eq_self.2 fun p hp => ?_
  have : p.1 ≠ k := fun e => by
    induction L with
    | nil => cases hp
    | cons q r ih =>
      unfold atL at h
      split at h
      · cases h
      · rename_i hq
        rcases List.mem_cons.1 hp with rfl | hp
        · exact hq e
        · exact ih h hp
  simpa using this

/-! ### as the reader reads it -/
theorem same_i64 (a b : Int) : (Lit.int .i64 a).sameKey (.int .i64 b) = decide (a = b) := by simp [Lit.sameKey]
theorem DL_has (L : List IP) (k : Int) : Maps.has (DL L) (.int .i64 k) = (atL k L).isSome := by
  show (L.map pairF).any (fun p => p.1.sameKey (.int .i64 k)) = _
  induction L with
  | nil => rfl
  | cons p r ih =>
    rw [List.map_cons, List.any_cons, ih]
    simp only [pairF, same_i64, atL]
    by_cases h : p.1 = k <;> simp [h]
theorem DL_at (L : List IP) (k : Int) (z : DataW Unit) : (DL L).atKey (.int .i64 k) z = match atL k L with | some s => .lit (.int .i64 s) | none => z := by
  unfold DL DataW.atKey
  dsimp only
  induction L with
  | nil => rfl
  | cons p r ih =>
    rw [List.map_cons, List.find?_cons]
    simp only [pairF, same_i64, atL]
    by_cases h : p.1 = k
    · simp [h]
    · simp only [h, decide_false, if_false]
      exact ih
theorem DL_atD {L : List IP} {k c : Int} (hat : (DL L).atKey (.int .i64 k) (.lit (.int .i64 0)) = .lit (.int .i64 c)) : (atL k L).getD 0 = c := by
  rw [DL_at] at hat
  cases hs : atL k L with
  | none => rw [hs] at hat; simpa using hat
  | some s => rw [hs] at hat; simpa using hat
theorem DL_filter (L : List IP) (k : Int) : (L.map pairF).filter (fun p => !p.1.sameKey (.int .i64 k)) = (delL k L).map pairF := by
  induction L with
  | nil => rfl
  | cons p r ih =>
    rw [List.map_cons, List.filter_cons]
    unfold delL at *
    rw [List.filter_cons]
    simp only [pairF, same_i64]
    by_cases h : p.1 = k
    · simp only [h, decide_true, Bool.not_true, Bool.false_eq_true, if_false, ne_eq, not_true_eq_false, decide_false]
      exact ih
    · simp only [h, decide_false, Bool.not_false, if_true, ne_eq, not_false_eq_true, decide_true, List.map_cons]
      rw [← ih]; rfl
theorem DL_del (L : List IP) (k : Int) : (DL L).del (.int .i64 k) = DL (delL k L) := congrArg DataW.map (DL_filter L k)
theorem insert_DL (k x : Int) : ∀ {L : List IP}, Rising L → DataW.insert (pairF (k, x)) ((delL k L).map pairF) = (putL k x L).map pairF
  | [], _ => rfl
  | p :: r, h => by
    obtain ⟨h1, h2⟩ := rising_cons.1 h
    unfold delL putL
    rw [List.filter_cons]
    by_cases hk : k < p.1
    · have hr : r.filter (fun p => decide (p.1 ≠ k)) = r := List.filter_eq_self.2 fun q hq => by have := h1 q hq; simp; omega
      rw [if_pos (by simp; omega), if_pos hk, hr, List.map_cons]
      unfold DataW.insert
      rw [if_pos (by simp [pairF, Lit.before, hk])]
      rfl
    · by_cases he : p.1 = k
      · have hr : r.filter (fun p => decide (p.1 ≠ k)) = r := List.filter_eq_self.2 fun q hq => by have := h1 q hq; simp; omega
        rw [if_neg (by simp [he]), if_neg hk, if_pos he, hr]
        cases r with
        | nil => rfl
        | cons q r =>
          have := h1 q (by simp)
          rw [List.map_cons]
          unfold DataW.insert
          rw [if_pos (by simp [pairF, Lit.before]; omega)]
          rfl
      · rw [if_pos (by simp [he]), if_neg hk, if_neg he, List.map_cons, List.map_cons]
        unfold DataW.insert
        rw [if_neg (by simp [pairF, Lit.before]; omega)]
        exact congrArg _ (insert_DL k x h2)
theorem DL_put {L : List IP} (h : Rising L) (k x : Int) : (DL L).put (.int .i64 k) (.lit (.int .i64 x)) = DL (putL k x L) := by
  show DataW.map (DataW.insert (pairF (k, x)) ((L.map pairF).filter fun p => !p.1.sameKey (.int .i64 k))) = _
  rw [DL_filter, insert_DL k x h]; rfl
theorem DL_size (L : List IP) : Maps.size (DL L) = L.length := by show (L.map pairF).length = _; simp
theorem DL_keys (L : List IP) : intKeys (DL L) = L.map (·.1) := by
  show (L.map pairF).map (fun p => Go.intOf p.1) = _
  rw [List.map_map]; rfl
theorem rising_sorted {L : List IP} (h : Rising L) : (L.map (·.1)).mergeSort leI = L.map (·.1) := by
  refine List.mergeSort_of_pairwise ?_
  refine List.pairwise_map.2 (h.imp fun {p q} hpq => ?_)
  simp only [leI, decide_eq_true_eq]; omega
theorem perm_sorted {L : List IP} (h : Rising L) {ss : List Int} (hp : ss.Perm (L.map (·.1))) : ss.mergeSort leI = L.map (·.1) := (mergeSort_of_perm_i hp).trans (rising_sorted h)

/-- The keys met so far of those that are wanted: each once, whatever order the range takes. -/
def CollI (L : List IP) (f : IP → Bool) (left : Lit → Bool) (ss : List Int) : Prop := ss.Nodup ∧ ∀ x, x ∈ ss ↔ ((∃ s, atL x L = some s ∧ f (x, s) = true) ∧ left (.int .i64 x) = false)
section
variable {L : List IP} {f : IP → Bool} {left : Lit → Bool} {ss : List Int}
theorem CollI.start (L : List IP) (f : IP → Bool) : CollI L f (Maps.has (DL L)) [] :=
  ⟨List.nodup_nil, fun x => by
    rw [DL_has]
    constructor
    · intro h; cases h
    · rintro ⟨⟨s, hs, _⟩, h⟩; rw [hs] at h; cases h⟩
theorem CollI.at_ {x c : Int} (hat : ∀ zd, (DL L).atKey (.int .i64 x) zd = .lit (.int .i64 c)) : atL x L = some c := by
  have h1 := hat .nil
  rw [DL_at] at h1
  split at h1
  · rename_i s hs
    rw [hs]
    injection h1 with h1
    injection h1 with _ h1
    rw [h1]
  · cases h1
theorem CollI.hit {x c : Int} (h : CollI L f left ss) (hlk : left (.int .i64 x) = true) (hc : atL x L = some c) (hf : f (x, c) = true) : CollI L f (fun z => left z && !z.sameKey (.int .i64 x)) (ss ++ [x]) := by
  have hnew : x ∉ ss := fun hx => by have := ((h.2 x).1 hx).2; rw [hlk] at this; cases this
  refine ⟨List.nodup_append.2 ⟨h.1, by simp, fun a ha b hb => by simp at hb; subst hb; exact fun e => hnew (e ▸ ha)⟩, fun y => ?_⟩
  by_cases hy : y = x
  · subst hy; simp [hc, hf, Lit.sameKey]
  · simp [h.2 y, hy, Lit.sameKey]
theorem CollI.miss {x c : Int} (h : CollI L f left ss) (hlk : left (.int .i64 x) = true) (hc : atL x L = some c) (hf : f (x, c) = false) : CollI L f (fun z => left z && !z.sameKey (.int .i64 x)) ss := by
  have hnew : x ∉ ss := fun hx => by have := ((h.2 x).1 hx).2; rw [hlk] at this; cases this
  refine ⟨h.1, fun y => ?_⟩
  by_cases hy : y = x
  · subst hy; simp [hc, hf, hnew]
  · simp [h.2 y, hy, Lit.sameKey]
theorem CollI.perm (h : CollI L f left ss) (hr : Rising L) (hl : ∀ kl, left kl = false) : ss.Perm ((L.filter f).map (·.1)) := by
  refine (List.perm_ext_iff_of_nodup h.1 ?_).2 fun x => ?_
  · refine List.pairwise_map.2 ((rising_filter hr f).imp fun {p q} hpq e => ?_)
    omega
  · rw [h.2 x, hl]
    simp only [and_true, List.mem_map, List.mem_filter]
    constructor
    · rintro ⟨s, hs, hf⟩; exact ⟨(x, s), ⟨at_mem hs, hf⟩, rfl⟩
    · rintro ⟨p, ⟨hp, hf⟩, rfl⟩; exact ⟨p.2, mem_at hr hp, hf⟩
theorem CollI.sorted (h : CollI L f left ss) (hr : Rising L) (hl : ∀ kl, left kl = false) : ss.mergeSort leI = (L.filter f).map (·.1) := perm_sorted (rising_filter hr f) (h.perm hr hl)
end

theorem keyedI : Maps.Keyed Try.prog 3 := Maps.int_keyed Try.underlying3
theorem zeroI (w : World) : (zeroValue 3).run Try.prog w = .ok (.int .i64 0) w := by kernel_rfl
/-- Block b is a map of at most n entries that are those of L. -/
abbrev MapI (w : World) (b n : Nat) (L : List IP) : Prop := w.ownsMap Try.prog 3 (plainElem Try.prog 3) b n (DL L)
section
variable {w w' : World} {b n : Nat} {L : List IP}
theorem MapI.of_block (h : MapI w b n L) (hk : w'.heap[b]? = w.heap[b]?) : MapI w' b n L := by
  obtain ⟨es, clock, h1, h2⟩ := h
  exact ⟨es, clock, hk.trans h1, h2⟩
theorem MapI.here (h : MapI w b n L) (hb : Below w.heap.size w w') : MapI w' b n L := h.of_block (hb.block b (World.ownsMap.lt h))
theorem MapI.turn {S : Nat → Prop} (h : MapI w b n L) (ht : Turn S w w') (hn : ¬ S b) : MapI w' b n L := h.of_block (ht.block b (World.ownsMap.lt h) hn)
theorem MapI.ne {g : Nat} {t : TypeId} {cs : Array Value} (h : MapI w b n L) (hk : Blk w g t cs) : b ≠ g := fun e => by
  obtain ⟨es, clock, h1, _⟩ := h
  subst e
  have h2 : w.heap[b]? = some (.cells cs t) := hk
  rw [h1] at h2
  cases h2
theorem MapI.ne_row {base k size : Nat} {e : TypeId} {v : Value} {xs : List Value} (h : MapI w b n L) (ho : w.ownsRow base e size v k xs) : v.ownBlock ≠ some b := fun e => by
  obtain ⟨cur, hh, _⟩ := own_heap ho b e
  exact MapI.ne h hh rfl
theorem MapI.size_le (h : MapI w b n L) : L.length ≤ n := by have := World.ownsMap.size_le h; rwa [DL_size] at this
end
/-! ### at the operation -/
theorem keyI {k : Int} (h : (Lit.int .i64 k).wf = true) : keyOf Try.prog 3 (.int .i64 k) = some (.int .i64 k) := Maps.keyOf_int_mk Try.underlying3 h
section
variable {w : World} {b n : Nat} {L : List IP}
theorem MapI.look (h : MapI w b n L) {k : Int} (hk : (Lit.int .i64 k).wf = true) : (Instr.lookup 55 (.map (some b)) (.int .i64 k) false).run Try.prog w = .ok (.int .i64 ((atL k L).getD 0)) w := by
  obtain ⟨c, hrun, hat, _⟩ := World.ownsMap.lookup_int h keyedI Try.underlying55 Try.underlying3 (zeroI w) (keyI hk)
  rw [hrun, DL_atD hat]
theorem step_putI {Q : Exit → Act → World → Prop} {K : Act → World → Prop} {o : Oper} {a : Act} {mo xo vo : Operand} (ho : o.op = Op.mapUpdate 55 mo xo vo) (h : MapI w b n L) (hr : Rising L) (hn : n < maxLen) {k c : Int} (hk : (Lit.int .i64 k).wf = true) (hc : (Lit.int .i64 c).wf = true)
    (em : a.eval mo = .map (some b)) (ex : a.eval xo = .int .i64 k) (ev : a.eval vo = .int .i64 c) (hK : ∀ w', MapI w' b (n + 1) (putL k c L) → w.grownBy w' (some b) → K (a.put o.dst undef) w') : o.wp Try.prog a w K Q := by
  obtain ⟨w', hrun, r1, r2⟩ := World.ownsMap.update h keyedI Try.underlying55 hn (keyI hk) (plainElem_int Try.underlying3 hc)
  rw [DL_put hr] at r1
  unfold Oper.wp
  simp [execOp, ho, em, ex, ev, hrun, Result.andThen]
  exact hK w' r1 r2
end
end Go.Proofs.Ythbjcaenkgjfaaa
