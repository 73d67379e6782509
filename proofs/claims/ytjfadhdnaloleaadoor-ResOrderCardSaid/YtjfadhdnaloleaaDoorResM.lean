/- Plain lists: the texts of resources, and what can go on to be one. -/
import Derived.Lib.ItoaNum
namespace Go.Proofs.YtjfadhdnaloleaaDoor
open Go.Lib

abbrev dig (n : Nat) : List UInt8 := decDigits n
/-- A resource's text. -/
def Tx (t r : Nat) : List UInt8 := if r = 0 then dig t else dig t ++ 46 :: dig r
def isDig (c : UInt8) : Bool := decide (48 ≤ c.toNat ∧ c.toNat ≤ 57)

def dc (n : Nat) : UInt8 := UInt8.ofNat (48 + n)
theorem dig_eq (n : Nat) : dig n = if n < 10 then [dc n] else dig (n / 10) ++ [dc (n % 10)] := by
  unfold dig; rw [decDigits]; split <;> rfl
theorem dig_lt {n : Nat} (h : n < 10) : dig n = [dc n] := by rw [dig_eq, if_pos h]
theorem dig_ge {n : Nat} (h : ¬ n < 10) : dig n = dig (n / 10) ++ [dc (n % 10)] := by rw [dig_eq, if_neg h]
theorem dig_ne (n : Nat) : dig n ≠ [] := by rw [dig_eq]; split <;> simp
theorem dc_toNat (k : Nat) (h : k < 10) : (dc k).toNat = 48 + k := by
  unfold dc; rw [UInt8.toNat_ofNat']; omega
theorem dc_of (c : UInt8) (h : 48 ≤ c.toNat) : dc (c.toNat - 48) = c := by
  unfold dc
  have : 48 + (c.toNat - 48) = c.toNat := by omega
  rw [this]; simp
theorem dig_digits (n : Nat) : ∀ c ∈ dig n, isDig c = true := by
  induction n using Nat.strongRecOn with
  | _ n ih =>
    intro c hc
    rw [dig_eq] at hc
    by_cases h : n < 10
    · rw [if_pos h] at hc; have hc := List.mem_singleton.1 hc; subst hc
      unfold isDig; rw [dc_toNat n h]; simp; omega
    · rw [if_neg h, List.mem_append] at hc
      rcases hc with hc | hc
      · exact ih (n / 10) (by omega) c hc
      · have hc := List.mem_singleton.1 hc; subst hc
        unfold isDig; rw [dc_toNat _ (Nat.mod_lt _ (by omega))]; simp; omega
theorem dig_nodot (n : Nat) : ∀ c ∈ dig n, c ≠ 46 := by
  intro c hc h; have := dig_digits n c hc; subst h; simp [isDig] at this
/-- One digit more. -/
theorem dig_snoc {n : Nat} (h : 1 ≤ n) (c : UInt8) (hc : isDig c = true) : dig (10 * n + (c.toNat - 48)) = dig n ++ [c] := by
  unfold isDig at hc; simp at hc
  rw [dig_ge (by omega)]
  have e1 : (10 * n + (c.toNat - 48)) / 10 = n := by omega
  have e2 : (10 * n + (c.toNat - 48)) % 10 = c.toNat - 48 := by omega
  rw [e1, e2]
  rw [dc_of c hc.1]
theorem dig_one (c : UInt8) (hc : isDig c = true) : dig (c.toNat - 48) = [c] := by
  unfold isDig at hc; simp at hc
  rw [dig_lt (by omega), dc_of c hc.1]
theorem dig_inj {m n : Nat} (h : dig m = dig n) : m = n := by
  induction m using Nat.strongRecOn generalizing n with
  | _ m ih =>
    by_cases hm : m < 10 <;> by_cases hn : n < 10
    · rw [dig_lt hm, dig_lt hn] at h
      simp only [List.cons.injEq, and_true] at h
      have := congrArg UInt8.toNat h
      rw [dc_toNat _ hm, dc_toNat _ hn] at this; omega
    · rw [dig_lt hm, dig_ge hn] at h
      have := congrArg List.length h
      have h0 := List.length_pos_iff.2 (dig_ne (n / 10))
      simp only [List.length_append, List.length_cons, List.length_nil] at this; omega
    · rw [dig_ge hm, dig_lt hn] at h
      have := congrArg List.length h
      have h0 := List.length_pos_iff.2 (dig_ne (m / 10))
      simp only [List.length_append, List.length_cons, List.length_nil] at this; omega
    · rw [dig_ge hm, dig_ge hn] at h
      obtain ⟨h1, h2⟩ := List.append_inj' h rfl
      have h3 := ih (m / 10) (by omega) h1
      simp only [List.cons.injEq, and_true] at h2
      have := congrArg UInt8.toNat h2
      rw [dc_toNat _ (Nat.mod_lt _ (by omega)), dc_toNat _ (Nat.mod_lt _ (by omega))] at this
      omega
/-- What stands ahead of a numeral's last digit. -/
theorem dig_back {n k : Nat} {c : UInt8} (h1 : 1 ≤ n) (h : dig k = dig n ++ [c]) : isDig c = true ∧ k = 10 * n + (c.toNat - 48) := by
  have hc : isDig c = true := dig_digits k c (by rw [h]; simp)
  exact ⟨hc, dig_inj (by rw [h, dig_snoc h1 c hc])⟩
/-- What begins a numeral is a numeral, and no greater. -/
theorem dig_pre {k : Nat} (hk : 1 ≤ k) : ∀ {q : List UInt8}, q ≠ [] → q <+: dig k → ∃ m, 1 ≤ m ∧ m ≤ k ∧ q = dig m := by
  induction k using Nat.strongRecOn with
  | _ k ih =>
    intro q hq hp
    by_cases h : k < 10
    · rw [dig_lt h] at hp
      obtain ⟨u, hu⟩ := hp
      cases q with
      | nil => exact absurd rfl hq
      | cons c r =>
        simp at hu
        obtain ⟨rfl, rfl, _⟩ := hu
        exact ⟨k, hk, Nat.le_refl _, (dig_lt h).symm⟩
    · rw [dig_ge h] at hp
      rcases List.prefix_concat_iff.1 hp with h1 | h1
      · exact ⟨k, hk, Nat.le_refl _, by rw [h1, ← dig_ge h]⟩
      · obtain ⟨m, a, b, e⟩ := ih (k / 10) (by omega) (by omega) hq h1
        exact ⟨m, a, by omega, e⟩
theorem dig_len3 {n : Nat} (h : n ≤ 250) : (dig n).length ≤ 3 := by
  by_cases h1 : n < 10
  · rw [dig_lt h1]; simp
  · rw [dig_ge h1]
    by_cases h2 : n / 10 < 10
    · rw [dig_lt h2]; simp
    · rw [dig_ge h2]
      rw [dig_lt (by omega)]; simp
theorem dig_head {n : Nat} (h : 1 ≤ n) : ∃ c r, dig n = c :: r ∧ isDig c = true ∧ c ≠ 48 := by
  cases hd : dig n with
  | nil => exact absurd hd (dig_ne n)
  | cons c r =>
    obtain ⟨m, a, b, e⟩ := dig_pre h (q := [c]) (by simp) (by rw [hd]; simp)
    refine ⟨c, r, rfl, dig_digits n c (by rw [hd]; simp), ?_⟩
    rintro rfl
    have : dig 0 = [48] := (dig_lt (by omega)).trans rfl
    have := dig_inj (e.symm.trans this.symm); omega

/-! ### What begins a text -/
def G (q : List UInt8) : Prop := ∃ t r, 1 ≤ t ∧ t ≤ 250 ∧ r ≤ 250 ∧ q <+: Tx t r
theorem G.pre {p q : List UInt8} (h : G q) (hp : p <+: q) : G p := by
  obtain ⟨t, r, a, b, c, hq⟩ := h; exact ⟨t, r, a, b, c, hp.trans hq⟩
theorem split_dot : ∀ {x a q b : List UInt8}, (∀ c ∈ x, c ≠ 46) → (∀ c ∈ a, c ≠ 46) → x ++ 46 :: q <+: a ++ 46 :: b → x = a ∧ q <+: b
  | [], [], q, b, _, _, h => by simpa [List.cons_prefix_cons] using h
  | [], d :: a, q, b, _, ha, h => by
    simp [List.cons_prefix_cons] at h
    exact absurd h.1.symm (ha d (by simp))
  | c :: x, [], q, b, hx, _, h => by
    simp [List.cons_prefix_cons] at h
    exact absurd h.1 (hx c (by simp))
  | c :: x, d :: a, q, b, hx, ha, h => by
    simp only [List.cons_append, List.cons_prefix_cons] at h
    obtain ⟨rfl, h⟩ := h
    obtain ⟨rfl, h'⟩ := split_dot (fun e he => hx e (by simp [he])) (fun e he => ha e (by simp [he])) h
    exact ⟨rfl, h'⟩
theorem pre_nodot : ∀ {x a b : List UInt8}, (∀ c ∈ x, c ≠ 46) → x <+: a ++ 46 :: b → x <+: a
  | [], _, _, _, _ => by simp
  | c :: x, [], b, hx, h => by
    simp [List.cons_prefix_cons] at h
    exact absurd h.1 (hx c (by simp))
  | c :: x, d :: a, b, hx, h => by
    simp only [List.cons_append, List.cons_prefix_cons] at h ⊢
    exact ⟨h.1, pre_nodot (fun e he => hx e (by simp [he])) h.2⟩
theorem G_nodot {q : List UInt8} (hq : ∀ c ∈ q, c ≠ 46) (h : G q) : ∃ t, 1 ≤ t ∧ t ≤ 250 ∧ q <+: dig t := by
  obtain ⟨t, r, a, b, c, h⟩ := h
  refine ⟨t, a, b, ?_⟩
  unfold Tx at h; split at h
  · exact h
  · exact pre_nodot hq h
theorem G_dot {t : Nat} {q : List UInt8} (h : G (dig t ++ 46 :: q)) : ∃ r, 1 ≤ r ∧ r ≤ 250 ∧ q <+: dig r := by
  obtain ⟨t', r, a, b, c, h⟩ := h
  unfold Tx at h; split at h
  · have : (46 : UInt8) ∈ dig t' := h.subset (by simp)
    exact absurd rfl (dig_nodot t' 46 this)
  · exact ⟨r, by omega, c, (split_dot (dig_nodot t) (dig_nodot t') h).2⟩
theorem Tx_G {t r : Nat} (h1 : 1 ≤ t) (h2 : t ≤ 250) (h3 : r ≤ 250) : G (Tx t r) := ⟨t, r, h1, h2, h3, List.prefix_refl _⟩
theorem dig_G {t : Nat} (h1 : 1 ≤ t) (h2 : t ≤ 250) : G (dig t) := ⟨t, 0, h1, h2, by omega, by simp [Tx]⟩
theorem dot_G {t : Nat} (h1 : 1 ≤ t) (h2 : t ≤ 250) : G (dig t ++ [46]) := ⟨t, 1, h1, h2, by omega, by simp [Tx]⟩
theorem row_G {t r : Nat} (h1 : 1 ≤ t) (h2 : t ≤ 250) (h3 : 1 ≤ r) (h4 : r ≤ 250) : G (dig t ++ 46 :: dig r) := ⟨t, r, h1, h2, h4, by rw [Tx, if_neg (by omega)]; exact List.prefix_refl _⟩
theorem Tx_inj {t r t' r' : Nat} (h : Tx t r = Tx t' r') : t = t' ∧ r = r' := by
  unfold Tx at h; split at h <;> split at h
  · exact ⟨dig_inj h, by omega⟩
  · exact absurd rfl (dig_nodot t 46 (by rw [h]; simp))
  · exact absurd rfl (dig_nodot t' 46 (by rw [← h]; simp))
  · obtain ⟨a, b⟩ := split_dot (dig_nodot t) (dig_nodot t') (by rw [h]; exact List.prefix_refl _)
    refine ⟨dig_inj a, dig_inj ?_⟩
    rw [a] at h; simpa using h
theorem Tx_len {t r : Nat} (h2 : t ≤ 250) (h3 : r ≤ 250) : (Tx t r).length ≤ 7 := by
  have := dig_len3 h2; have := dig_len3 h3
  unfold Tx; split <;> simp <;> omega
theorem G_len {q : List UInt8} (h : G q) : q.length ≤ 7 := by
  obtain ⟨t, r, a, b, c, h⟩ := h
  exact Nat.le_trans h.length_le (Tx_len b c)

/-! ### A number ahead -/
/-- What package res's number answers of a text: a number, how many digits, and the fault's place. -/
def numGo (most : Nat) : List UInt8 → Nat → Nat → Nat × Nat × Option Nat
  | [], n, k => if k = 0 then (0, 0, some 0) else (n, k, none)
  | c :: l, n, k =>
    if isDig c then
      if 10 * n + (c.toNat - 48) = 0 ∨ most < 10 * n + (c.toNat - 48) then (0, 0, some k) else numGo most l (10 * n + (c.toNat - 48)) (k + 1)
    else if k = 0 then (0, 0, some 0) else (n, k, none)

/-- No numeral from 1 to most begins so. -/
def Stuck (most : Nat) (q : List UInt8) : Prop := ∀ m, 1 ≤ m → m ≤ most → ¬ q <+: dig m
def NumOk (most : Nat) (s : List UInt8) (a : Nat × Nat × Option Nat) : Prop :=
  match a with
  | (n, z, none) => 1 ≤ n ∧ n ≤ most ∧ ∃ v, s = dig n ++ v ∧ z = (dig n).length ∧ ∀ c ∈ v.head?, isDig c = false
  | (n, z, some p) => n = 0 ∧ z = 0 ∧ (s = [] ∧ p = 0 ∨ ∃ u c v, s = u ++ c :: v ∧ p = u.length ∧ (u = [] ∨ (∃ m, 1 ≤ m ∧ m ≤ most ∧ u = dig m)) ∧ Stuck most (u ++ [c]) ∧ (u = [] ∨ isDig c = true))

theorem stuck_first (most : Nat) (c : UInt8) (h : isDig c = false ∨ c = 48) : Stuck most [c] := by
  intro m h1 _ hp
  obtain ⟨d, r, e, hd, h0⟩ := dig_head h1
  rw [e, List.cons_prefix_cons] at hp
  obtain ⟨rfl, _⟩ := hp
  rcases h with h | h
  · rw [h] at hd; cases hd
  · exact h0 h
theorem stuck_more (most n : Nat) (c : UInt8) (h1 : 1 ≤ n) (hc : isDig c = true) (h : most < 10 * n + (c.toNat - 48)) : Stuck most (dig n ++ [c]) := by
  intro m hm h2 hp
  rw [← dig_snoc h1 c hc] at hp
  obtain ⟨k, _, b, e⟩ := dig_pre hm (dig_ne _) hp
  have := dig_inj e; omega
theorem numGo_ok (most : Nat) : ∀ (l : List UInt8) (n k : Nat) (u : List UInt8), (u = [] ∧ n = 0 ∨ 1 ≤ n ∧ n ≤ most ∧ u = dig n) → k = u.length → NumOk most (u ++ l) (numGo most l n k)
  | [], n, k, u, h, hk => by
    unfold numGo
    rcases h with ⟨rfl, rfl⟩ | ⟨h1, h2, rfl⟩
    · rw [if_pos (by simpa using hk)]; exact ⟨rfl, rfl, .inl ⟨rfl, rfl⟩⟩
    · rw [if_neg (by have := List.length_pos_iff.2 (dig_ne n); omega)]
      exact ⟨h1, h2, [], rfl, hk, by simp⟩
  | c :: l, n, k, u, h, hk => by
    unfold numGo
    by_cases hc : isDig c = true
    · rw [if_pos hc]
      by_cases hb : 10 * n + (c.toNat - 48) = 0 ∨ most < 10 * n + (c.toNat - 48)
      · rw [if_pos hb]
        refine ⟨rfl, rfl, .inr ⟨u, c, l, rfl, hk, ?_, ?_, .inr hc⟩⟩
        · rcases h with ⟨rfl, _⟩ | ⟨h1, h2, rfl⟩
          · exact .inl rfl
          · exact .inr ⟨n, h1, h2, rfl⟩
        · rcases h with ⟨rfl, rfl⟩ | ⟨h1, h2, rfl⟩
          · rcases hb with hb | hb
            · refine stuck_first most c (.inr ?_)
              unfold isDig at hc; simp at hc
              have : c.toNat = (48 : UInt8).toNat := by show c.toNat = 48; omega
              exact UInt8.toNat_inj.1 this
            · intro m hm hm2 hp
              obtain ⟨k', a', b', e⟩ := dig_pre hm (by simp) hp
              rw [List.nil_append, ← dig_one c hc] at e
              have := dig_inj e; omega
          · rcases hb with hb | hb
            · omega
            · exact stuck_more most n c h1 hc hb
      · rw [if_neg hb]
        have hu : u ++ c :: l = (u ++ [c]) ++ l := by simp
        rw [hu]
        refine numGo_ok most l _ (k + 1) (u ++ [c]) (.inr ⟨by omega, by omega, ?_⟩) (by simp [hk])
        rcases h with ⟨rfl, rfl⟩ | ⟨h1, h2, rfl⟩
        · simp [dig_one c hc]
        · exact (dig_snoc h1 c hc).symm
    · rw [if_neg hc]
      rcases h with ⟨rfl, rfl⟩ | ⟨h1, h2, rfl⟩
      · rw [if_pos (by simpa using hk)]
        exact ⟨rfl, rfl, .inr ⟨[], c, l, rfl, rfl, .inl rfl, stuck_first most c (.inl (by simpa using hc)), .inl rfl⟩⟩
      · rw [if_neg (by have := List.length_pos_iff.2 (dig_ne n); omega)]
        exact ⟨h1, h2, c :: l, rfl, hk, by simpa using hc⟩

/-! ### The resource of a text, or the place of its fault -/
abbrev Ans := Option (Nat × Nat) × Nat
/-- What the document asks of a text. -/
def Asks (l : List UInt8) (a : Ans) : Prop :=
  (∃ t r, 1 ≤ t ∧ t ≤ 250 ∧ r ≤ 250 ∧ l = Tx t r ∧ a = (some (t, r), 0)) ∨
  (∃ p, p ≤ l.length ∧ a = (none, p) ∧ G (l.take p) ∧ (p < l.length ∧ ¬ G (l.take (p + 1)) ∨ p = l.length ∧ ∀ t r, 1 ≤ t → t ≤ 250 → r ≤ 250 → l ≠ Tx t r))
theorem Asks_one {l : List UInt8} {a b : Ans} (ha : Asks l a) (hb : Asks l b) : a = b := by
  rcases ha with ⟨t, r, h1, h2, h3, e, rfl⟩ | ⟨p, hp, rfl, hg, hs⟩ <;> rcases hb with ⟨t', r', h1', h2', h3', e', rfl⟩ | ⟨p', hp', rfl, hg', hs'⟩
  · obtain ⟨rfl, rfl⟩ := Tx_inj (e.symm.trans e'); rfl
  · rcases hs' with ⟨_, hs'⟩ | ⟨_, hs'⟩
    · exact absurd ((Tx_G h1 h2 h3).pre (e ▸ List.take_prefix _ _)) hs'
    · exact absurd e (hs' t r h1 h2 h3)
  · rcases hs with ⟨_, hs⟩ | ⟨_, hs⟩
    · exact absurd ((Tx_G h1' h2' h3').pre (e' ▸ List.take_prefix _ _)) hs
    · exact absurd e' (hs t' r' h1' h2' h3')
  · have key : ∀ {p p' : Nat}, p' ≤ l.length → G (l.take p') → (p < l.length ∧ ¬ G (l.take (p + 1)) ∨ p = l.length ∧ ∀ t r, 1 ≤ t → t ≤ 250 → r ≤ 250 → l ≠ Tx t r) → ¬ p < p' := by
      intro p p' hp' hg' hs hlt
      rcases hs with ⟨_, hs⟩ | ⟨he, _⟩
      · exact hs (hg'.pre (List.take_prefix_take_left (by omega)))
      · omega
    have := key hp' hg' hs; have := key hp hg hs'
    have : p = p' := by omega
    rw [this]
/-- Package res's answer. -/
def parseP (l : List UInt8) : Ans :=
  match numGo 250 l 0 0 with
  | (_, _, some p) => (none, p)
  | (t, d, none) =>
    if d = l.length then (some (t, 0), 0)
    else if l[d]? ≠ some 46 then (none, d)
    else match numGo 250 (l.drop (d + 1)) 0 0 with
      | (_, _, some p) => (none, d + 1 + p)
      | (r, z, none) => if d + 1 + z < l.length then (none, d + 1 + z) else (some (t, r), 0)

theorem G_nil : G [] := ⟨1, 0, by omega, by omega, by omega, by simp⟩
theorem Tx_ne (t r : Nat) : Tx t r ≠ [] := by unfold Tx; split; exact dig_ne _; simp
/-- A numeral, and then something that is neither a digit nor a dot. -/
theorem stuck_G1 {t : Nat} {c : UInt8} (hc : c ≠ 46) (h : ¬ isDig c = true) : ¬ G (dig t ++ [c]) := by
  intro hg
  obtain ⟨t', a, b, hp⟩ := G_nodot (by intro d hd; rcases List.mem_append.1 hd with hd | hd; exact dig_nodot t d hd; rw [List.mem_singleton.1 hd]; exact hc) hg
  exact h (dig_digits t' c (hp.subset (by simp)))
theorem stuck_G2 {t : Nat} {q : List UInt8} (h : Stuck 250 q) : ¬ G (dig t ++ 46 :: q) := by
  intro hg
  obtain ⟨r, a, b, hp⟩ := G_dot hg
  exact h r a b hp
theorem stuck_G0 {u : List UInt8} {c : UInt8} (hu : ∀ d ∈ u, d ≠ 46) (hc : u = [] ∨ isDig c = true) (h : Stuck 250 (u ++ [c])) : ¬ G (u ++ [c]) := by
  intro hg
  by_cases h46 : c = 46
  · subst h46
    rcases hc with rfl | hc
    · obtain ⟨t, r, a, b, _, hp⟩ := hg
      obtain ⟨d, e, hd, hd1, _⟩ := dig_head a
      have : Tx t r = d :: (e ++ if r = 0 then [] else 46 :: dig r) := by
        unfold Tx; rw [hd]; split <;> simp
      rw [this, List.nil_append, List.cons_prefix_cons] at hp
      rw [← hp.1] at hd1; simp [isDig] at hd1
    · simp [isDig] at hc
  · obtain ⟨t', a, b, hp⟩ := G_nodot (by intro d hd; rcases List.mem_append.1 hd with hd | hd; exact hu d hd; rw [List.mem_singleton.1 hd]; exact h46) hg
    exact h t' a b hp
theorem nodig_stuck {m : Nat} {c : UInt8} (hc : isDig c = false) : Stuck 250 (dig m ++ [c]) := by
  intro k _ _ hp
  have := dig_digits k c (hp.subset (by simp))
  rw [hc] at this; cases this

theorem parseP_asks (l : List UInt8) : Asks l (parseP l) := by
  have h0 := numGo_ok 250 l 0 0 [] (.inl ⟨rfl, rfl⟩) rfl
  unfold parseP
  rw [List.nil_append] at h0
  generalize numGo 250 l 0 0 = a at h0
  match a, h0 with
  | (n, z, some p), h0 =>
    obtain ⟨_, _, h | ⟨u, c, v, hl, hp, hu, hs, hd⟩⟩ := h0
    · obtain ⟨rfl, rfl⟩ := h
      exact .inr ⟨0, by simp, rfl, by simpa using G_nil, .inr ⟨rfl, fun t r _ _ _ e => Tx_ne t r e.symm⟩⟩
    · subst hl; subst hp
      refine .inr ⟨u.length, by simp, rfl, ?_, .inl ⟨by simp, ?_⟩⟩
      · rw [List.take_left]
        rcases hu with rfl | ⟨m, a, b, rfl⟩
        · exact G_nil
        · exact dig_G a b
      · have : (u ++ c :: v).take (u.length + 1) = u ++ [c] := by rw [List.take_append]; simp [List.take_of_length_le]
        rw [this]
        refine stuck_G0 ?_ hd hs
        rcases hu with rfl | ⟨m, a, b, rfl⟩
        · simp
        · exact dig_nodot m
  | (t, d, none), h0 =>
    obtain ⟨h1, h2, v, rfl, rfl, hv⟩ := h0
    dsimp only
    by_cases hd : (dig t).length = (dig t ++ v).length
    · rw [if_pos hd]
      have : v = [] := by simpa using hd
      subst this
      exact .inl ⟨t, 0, h1, h2, by omega, by simp [Tx], rfl⟩
    · rw [if_neg hd]
      cases v with
      | nil => simp at hd
      | cons c v =>
        have e0 : (dig t ++ c :: v)[(dig t).length]? = some c := by simp
        have e1 : (dig t ++ c :: v).drop ((dig t).length + 1) = v := by rw [List.drop_append]; simp [List.drop_of_length_le]
        have e2 : (dig t ++ c :: v).take ((dig t).length + 1) = dig t ++ [c] := by rw [List.take_append]; simp [List.take_of_length_le]
        rw [e0, e1]
        by_cases h46 : c = 46
        · subst h46
          rw [if_neg (by simp)]
          have h3 := numGo_ok 250 v 0 0 [] (.inl ⟨rfl, rfl⟩) rfl
          rw [List.nil_append] at h3
          generalize numGo 250 v 0 0 = b at h3
          match b, h3 with
          | (n, z, some p), h3 =>
            obtain ⟨_, _, h | ⟨u, c, v', hl, hp, hu, hs, hd'⟩⟩ := h3
            · obtain ⟨rfl, rfl⟩ := h
              refine .inr ⟨(dig t).length + 1, by simp, rfl, ?_, .inr ⟨by simp, ?_⟩⟩
              · rw [e2]; exact dot_G h1 h2
              · intro t' r' _ _ _ e
                unfold Tx at e; split at e
                · exact dig_nodot t' 46 (by rw [← e]; simp) rfl
                · have := (split_dot (dig_nodot t) (dig_nodot t') (by rw [e]; exact List.prefix_refl _)).1
                  rw [this] at e; simp at e
                  exact dig_ne _ (by first | exact e | exact e.symm)
            · subst hl; subst hp
              have e3 : dig t ++ 46 :: (u ++ c :: v') = (dig t ++ 46 :: u) ++ c :: v' := by simp
              have e4 : (dig t).length + 1 + u.length = (dig t ++ 46 :: u).length := by simp; omega
              refine .inr ⟨(dig t).length + 1 + u.length, by simp; omega, rfl, ?_, .inl ⟨by simp; omega, ?_⟩⟩
              · rw [e3, e4, List.take_left]
                rcases hu with rfl | ⟨m, a, b, rfl⟩
                · exact dot_G h1 h2
                · exact row_G h1 h2 a b
              · have : ((dig t ++ 46 :: u) ++ c :: v').take ((dig t).length + 1 + u.length + 1) = dig t ++ 46 :: (u ++ [c]) := by
                  rw [e4, List.take_append]; simp [List.take_of_length_le]
                rw [e3, this]
                exact stuck_G2 hs
          | (r, z, none), h3 =>
            obtain ⟨a1, a2, v', rfl, rfl, hv'⟩ := h3
            dsimp only
            have e3 : dig t ++ 46 :: (dig r ++ v') = (dig t ++ 46 :: dig r) ++ v' := by simp
            have e4 : (dig t).length + 1 + (dig r).length = (dig t ++ 46 :: dig r).length := by simp; omega
            by_cases hlt : (dig t).length + 1 + (dig r).length < (dig t ++ 46 :: (dig r ++ v')).length
            · rw [if_pos hlt]
              refine .inr ⟨(dig t).length + 1 + (dig r).length, by omega, rfl, ?_, .inl ⟨hlt, ?_⟩⟩
              · rw [e3, e4, List.take_left]
                exact row_G h1 h2 a1 a2
              · cases v' with
                | nil => simp at hlt; omega
                | cons c v' =>
                  have : ((dig t ++ 46 :: dig r) ++ c :: v').take ((dig t).length + 1 + (dig r).length + 1) = dig t ++ 46 :: (dig r ++ [c]) := by
                    rw [e4, List.take_append]; simp [List.take_of_length_le]
                  rw [e3, this]
                  exact stuck_G2 (nodig_stuck (hv' c (by simp)))
            · rw [if_neg hlt]
              have : v' = [] := by
                cases v' with
                | nil => rfl
                | cons c v' => simp at hlt; omega
              subst this
              exact .inl ⟨t, r, h1, h2, a2, by rw [Tx, if_neg (by omega)]; simp, rfl⟩
        · rw [if_pos (by simpa using h46)]
          refine .inr ⟨(dig t).length, by simp, rfl, ?_, .inl ⟨by simp, ?_⟩⟩
          · rw [List.take_left]; exact dig_G h1 h2
          · rw [e2]; exact stuck_G1 h46 (by rw [hv c (by simp)]; simp)
theorem parseP_text {t r : Nat} (h1 : 1 ≤ t) (h2 : t ≤ 250) (h3 : r ≤ 250) : parseP (Tx t r) = (some (t, r), 0) :=
  Asks_one (parseP_asks _) (.inl ⟨t, r, h1, h2, h3, rfl, rfl⟩)
theorem parseP_some {l : List UInt8} {t r k : Nat} (h : parseP l = (some (t, r), k)) : 1 ≤ t ∧ t ≤ 250 ∧ r ≤ 250 ∧ l = Tx t r ∧ k = 0 := by
  have := parseP_asks l
  rw [h] at this
  rcases this with ⟨t', r', a, b, c, e, e'⟩ | ⟨p, _, e', _⟩
  · simp only [Prod.mk.injEq, Option.some.injEq] at e'
    obtain ⟨⟨rfl, rfl⟩, rfl⟩ := e'
    exact ⟨a, b, c, e, rfl⟩
  · cases e'
theorem parseP_le {l : List UInt8} {p : Nat} (h : parseP l = (none, p)) : p ≤ l.length := by
  have := parseP_asks l
  rw [h] at this
  rcases this with ⟨t', r', a, b, c, e, e'⟩ | ⟨p', hp, e', _⟩
  · cases e'
  · simp only [Prod.mk.injEq, true_and] at e'; omega
end Go.Proofs.YtjfadhdnaloleaaDoor
