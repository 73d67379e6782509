/- Numbers as bytes, as plain lists: no word of the program. -/
import Derived.IntWalk
import Derived.Test.YtggfadiahacgeaaDoorBase
import Derived.Deep.DeepAppendWide
import Derived.Deep.QuietTactic
import Derived.BigQuiet
import Derived.OwnWalk
namespace Go.Proofs.YtggfadiahacgeaaDoor
set_option linter.unusedVariables false
set_option linter.unusedSimpArgs false

/-- 256 so many times, as a number that the walks know. -/
def pw : Nat → Nat
  | 0 => 1
  | k + 1 => 256 * pw k
theorem pw_pos : ∀ k, 0 < pw k
  | 0 => by simp [pw]
  | k + 1 => by have := pw_pos k; simp [pw]; omega
theorem pw_le {k : Nat} (h : k ≤ 4) : pw k ≤ 4294967296 := by
  match k, h with
  | 0, _ => simp [pw]
  | 1, _ => simp [pw]
  | 2, _ => simp [pw]
  | 3, _ => simp [pw]
  | 4, _ => simp [pw]
theorem pw_two : ∀ k, pw k = 2 ^ (8 * k)
  | 0 => rfl
  | k + 1 => by rw [pw, pw_two k, Nat.mul_add, Nat.pow_add]; omega

/-- A number's bytes, the highest one first. -/
def encN : Nat → Nat → List UInt8
  | 0, _ => []
  | w + 1, n => UInt8.ofNat (n / pw w) :: encN w n
theorem encN_length : ∀ w n, (encN w n).length = w
  | 0, _ => rfl
  | w + 1, n => by simp [encN, encN_length w n]
theorem encN_get (n : Nat) : ∀ (w k : Nat), k < w → (encN w n)[k]? = some (UInt8.ofNat (n / pw (w - 1 - k)))
  | 0, k, h => by omega
  | w + 1, 0, h => by simp [encN]
  | w + 1, k + 1, h => by
    rw [encN, List.getElem?_cons_succ, encN_get n w k (by omega)]
    congr 4; omega
theorem encN_take_succ (n w k : Nat) (h : k < w) : (encN w n).take (k + 1) = (encN w n).take k ++ [UInt8.ofNat (n / pw (w - 1 - k))] := by
  rw [List.take_add_one, encN_get n w k h]; rfl
/-- The bytes' number. -/
def decN (l : List UInt8) : Nat := l.foldl (fun n c => 256 * n + c.toNat) 0
theorem decN_snoc (l : List UInt8) (c : UInt8) : decN (l ++ [c]) = 256 * decN l + c.toNat := by simp [decN, List.foldl_append]
theorem decN_take_succ (l : List UInt8) {k : Nat} (h : k < l.length) : decN (l.take (k + 1)) = 256 * decN (l.take k) + l[k].toNat := by
  rw [List.take_add_one, List.getElem?_eq_getElem h, Option.toList_some, decN_snoc]
theorem decN_take_lt (l : List UInt8) : ∀ k, k ≤ l.length → decN (l.take k) < pw k
  | 0, _ => by simp [decN, pw]
  | k + 1, h => by
    have ih := decN_take_lt l k (by omega)
    rw [decN_take_succ l (by omega), pw]
    have := (l[k]).toNat_lt
    omega
theorem decN_lt (l : List UInt8) : decN l < pw l.length := by
  have := decN_take_lt l l.length (Nat.le_refl _)
  rwa [List.take_length] at this

/-- A number's bytes are its own. -/
theorem u8_ofNat_toNat (n : Nat) : (UInt8.ofNat n).toNat = n % 256 := by simp
theorem decN_encN_take (n w : Nat) : ∀ k, k ≤ w → decN ((encN w n).take k) = n / pw (w - k) % pw k
  | 0, _ => by simp [decN, pw, Nat.mod_one]
  | k + 1, h => by
    rw [encN_take_succ n w k (by omega), decN_snoc, decN_encN_take n w k (by omega), u8_ofNat_toNat]
    have e : w - k = (w - (k + 1)) + 1 := by omega
    have e2 : w - 1 - k = w - (k + 1) := by omega
    rw [e, e2, pw, pw]
    generalize w - (k + 1) = j
    rw [show n / (256 * pw j) = n / pw j / 256 by rw [Nat.div_div_eq_div_mul, Nat.mul_comm]]
    generalize n / pw j = m
    rw [Nat.mod_mul]
    omega
theorem decN_encN {n w : Nat} (h : n < pw w) : decN (encN w n) = n := by
  have := decN_encN_take n w w (Nat.le_refl _)
  rw [show (encN w n).take w = encN w n from List.take_of_length_le (by simp [encN_length])] at this
  rw [this, Nat.sub_self, pw, Nat.div_one, Nat.mod_eq_of_lt h]
theorem encN_decN (l : List UInt8) : encN l.length (decN l) = l := by
  have key : ∀ (w : Nat) (a : List UInt8) (hw : w = a.length), encN w (decN a) = a := by
    intro w
    induction w with
    | zero => intro a hw; have : a = [] := List.eq_nil_of_length_eq_zero hw.symm; subst this; rfl
    | succ w ih =>
      intro a hw
      refine List.ext_getElem? fun k => ?_
      by_cases hk : k < w + 1
      · rw [encN_get _ _ _ hk, List.getElem?_eq_getElem (by omega)]
        congr 1
        have hd : ∀ j, j ≤ a.length → decN a / pw (a.length - j) = decN (a.take j) := by
          intro j hj
          have step : ∀ i, i ≤ a.length → decN a / pw i = decN (a.take (a.length - i)) := by
            intro i
            induction i with
            | zero => intro _; simp [pw]
            | succ i ihi =>
              intro hi
              have h1 := ihi (by omega)
              have h2 := decN_take_succ a (k := a.length - (i + 1)) (by omega)
              rw [show a.length - (i + 1) + 1 = a.length - i by omega] at h2
              rw [pw, Nat.mul_comm 256, ← Nat.div_div_eq_div_mul, h1, h2]
              have := (a[a.length - (i + 1)]'(by omega)).toNat_lt
              omega
          have := step (a.length - j) (by omega)
          rwa [show a.length - (a.length - j) = j by omega] at this
        have h3 := hd (k + 1) (by omega)
        rw [show w + 1 - 1 - k = a.length - (k + 1) by omega, h3, decN_take_succ a (by omega)]
        apply UInt8.toNat_inj.1
        rw [u8_ofNat_toNat]
        have := (a[k]'(by omega)).toNat_lt
        omega
      · rw [List.getElem?_eq_none (by simp [encN_length]; omega), List.getElem?_eq_none (by omega)]
  exact key _ _ rfl

/-- Does a number fit a width? -/
def fitsB (w : Nat) (x : Int) : Bool := decide (0 ≤ x ∧ x < pw w)
theorem fitsB_iff {w : Nat} {x : Int} : fitsB w x = true ↔ 0 ≤ x ∧ x < pw w := by unfold fitsB; simp
theorem fitsB_shr (x : Int) (w : Nat) : (x.fdiv (pw w) == 0) = fitsB w x := by
  have hp := pw_pos w
  rw [Int.fdiv_eq_ediv_of_nonneg _ (by omega), Bool.eq_iff_iff, fitsB_iff]
  simp only [beq_iff_eq]
  constructor
  · intro h
    have h1 := Int.mul_ediv_add_emod x (pw w)
    have h2 := Int.emod_nonneg x (show (pw w : Int) ≠ 0 by omega)
    have h3 := Int.emod_lt_of_pos x (show (0 : Int) < pw w by omega)
    rw [h] at h1; omega
  · intro ⟨h1, h2⟩; exact Int.ediv_eq_zero_of_lt h1 h2
/-- The bytes of several numbers. -/
def encL (w : Nat) (l : List Int) : List UInt8 := l.flatMap fun x => encN w x.toNat
theorem encL_length (w : Nat) : ∀ l : List Int, (encL w l).length = w * l.length
  | [] => by simp [encL]
  | x :: l => by
    have := encL_length w l
    unfold encL at this ⊢
    rw [List.flatMap_cons, List.length_append, this, encN_length, List.length_cons, Nat.mul_succ]; omega
theorem encL_snoc (w : Nat) (l : List Int) (x : Int) : encL w (l ++ [x]) = encL w l ++ encN w x.toNat := by simp [encL, List.flatMap_append]
theorem encL_take_succ (w : Nat) (l : List Int) {k : Nat} (h : k < l.length) : encL w (l.take (k + 1)) = encL w (l.take k) ++ encN w (l[k]).toNat := by
  rw [List.take_add_one, List.getElem?_eq_getElem h, Option.toList_some, encL_snoc]
/-- All numbers fit; or there is a first one that doesn't. -/
def AllFit (w : Nat) (l : List Int) : Prop := ∀ x ∈ l, fitsB w x = true
def FirstBad (w : Nat) (l : List Int) (k : Nat) : Prop := ∃ h : k < l.length, fitsB w l[k] = false ∧ ∀ j (hj : j < k), fitsB w (l[j]'(by omega)) = true
def FitTill (w : Nat) (l : List Int) (k : Nat) : Prop := ∀ j (hj : j < l.length), j < k → fitsB w l[j] = true
theorem FitTill.zero (w : Nat) (l : List Int) : FitTill w l 0 := fun j hj h => absurd h (by omega)
theorem FitTill.succ {w : Nat} {l : List Int} {k : Nat} (h : FitTill w l k) (hk : k < l.length) (hf : fitsB w l[k] = true) : FitTill w l (k + 1) := fun j hj hjk => by
  by_cases e : j = k
  · subst e; exact hf
  · exact h j hj (by omega)
theorem FitTill.all {w : Nat} {l : List Int} (h : FitTill w l l.length) : AllFit w l := fun x hx => by
  obtain ⟨j, hj, rfl⟩ := List.getElem_of_mem hx
  exact h j hj hj
theorem FitTill.bad {w : Nat} {l : List Int} {k : Nat} (h : FitTill w l k) (hk : k < l.length) (hf : fitsB w l[k] = false) : FirstBad w l k := ⟨hk, hf, fun j hj => h j (by omega) hj⟩
theorem FirstBad.one {w : Nat} {l : List Int} {k j : Nat} (h : FirstBad w l k) (g : FirstBad w l j) : k = j := by
  obtain ⟨h1, h2, h3⟩ := h
  obtain ⟨g1, g2, g3⟩ := g
  rcases Nat.lt_trichotomy k j with c | c | c
  · have := g3 k c; rw [h2] at this; cases this
  · exact c
  · have := h3 j c; rw [g2] at this; cases this
theorem FirstBad.notAll {w : Nat} {l : List Int} {k : Nat} (h : FirstBad w l k) (g : AllFit w l) : False := by
  obtain ⟨h1, h2, _⟩ := h
  have := g _ (List.getElem_mem h1)
  rw [h2] at this; cases this
theorem fit_or (w : Nat) (l : List Int) : AllFit w l ∨ ∃ k, FirstBad w l k := by
  have key : ∀ k, k ≤ l.length → FitTill w l k ∨ ∃ j, FirstBad w l j := by
    intro k
    induction k with
    | zero => intro _; exact .inl (FitTill.zero w l)
    | succ k ih =>
      intro hk
      rcases ih (by omega) with h | h
      · cases hf : fitsB w (l[k]'(by omega)) with
        | true => exact .inl (h.succ (by omega) hf)
        | false => exact .inr ⟨k, h.bad (by omega) hf⟩
      · exact .inr h
  rcases key l.length (Nat.le_refl _) with h | h
  · exact .inl h.all
  · exact .inr h

/-- The number of a byte at a place, as the code makes it, and as the document does. -/
theorem byte_shr {x : Int} (h : 0 ≤ x) (j : Nat) : IntKind.u8.wrap (x.fdiv (pw j)) = ((UInt8.ofNat (x.toNat / pw j)).toNat : Int) := by
  rw [IntKind.wrap_u8, u8_ofNat_toNat, Int.fdiv_eq_ediv_of_nonneg _ (by omega)]
  rw [Int.natCast_emod, Int.natCast_ediv, Int.toNat_of_nonneg h]; rfl
theorem byte_div {x : Int} (h : 0 ≤ x) (j : Nat) : x / 2 ^ (8 * j) % 256 = ((UInt8.ofNat (x.toNat / pw j)).toNat : Int) := by
  rw [← byte_shr h, IntKind.wrap_u8, Int.fdiv_eq_ediv_of_nonneg _ (by omega), pw_two, Int.natCast_pow]; rfl
theorem byte_quo {x : Int} (h : 0 ≤ x) (j : Nat) : x / (pw j : Int) % 256 = ((UInt8.ofNat (x.toNat / pw j)).toNat : Int) := by
  rw [← byte_shr h, IntKind.wrap_u8, Int.fdiv_eq_ediv_of_nonneg _ (by omega)]
theorem or_byte {n c : Nat} (hn : n < 36028797018963968) (hc : c < 256) : (n * 256) ||| c = 256 * n + c := by
  have := Nat.shiftLeft_add_eq_or_of_lt (i := 8) (b := c) (by omega) n
  rw [Nat.shiftLeft_eq] at this
  rw [← this]; omega
end Go.Proofs.YtggfadiahacgeaaDoor
/- Slices of bytes and of integers, as lists; append of them; the document's Same. -/
namespace Go.Proofs.YtggfadiahacgeaaDoor
open Go.RowKit
set_option linter.unusedVariables false
set_option linter.unusedSimpArgs false

def u8s (l : List UInt8) : List Value := l.map fun c => .int .u8 (c.toNat : Int)
def i64s (l : List Int) : List Value := l.map (Value.int .i64)
theorem u8s_length (l : List UInt8) : (u8s l).length = l.length := by simp [u8s]
theorem i64s_length (l : List Int) : (i64s l).length = l.length := by simp [i64s]
theorem u8s_append (a b : List UInt8) : u8s (a ++ b) = u8s a ++ u8s b := by simp [u8s]
theorem u8s_one (l : List UInt8) : ∀ u ∈ u8s l, u.oneCell' = true := by
  intro u hu; obtain ⟨c, _, rfl⟩ := List.mem_map.1 hu; rfl
theorem i64s_one (l : List Int) : ∀ u ∈ i64s l, u.oneCell' = true := by
  intro u hu; obtain ⟨c, _, rfl⟩ := List.mem_map.1 hu; rfl
theorem u8s_get {l : List UInt8} {k : Nat} (h : k < l.length) : (u8s l)[k]? = some (.int .u8 (l[k].toNat : Int)) := by simp [u8s, h]
theorem i64s_get {l : List Int} {k : Nat} (h : k < l.length) : (i64s l)[k]? = some (.int .i64 l[k]) := by simp [i64s, h]

theorem info_u8 : (Tryd.prog.info? 5).map (fun i => (i.zero, i.size, i.bytes)) = some (some (.int .u8 0), 1, 1) := by kernel_rfl
theorem info_int : (Tryd.prog.info? 3).map (fun i => (i.zero, i.size, i.bytes)) = some (some (.int .i64 0), 1, 8) := by kernel_rfl

/-- A slice of bytes that reads as a list; its cell at a place. -/
theorem Reads.u8_at {w : World} {B n k : Nat} {A : Option Addr} {l : List UInt8} (h : Reads w B 1 A n (u8s l)) (hk : k < l.length) : ∃ ad, A = some ad ∧ ad.block < B ∧ w.cell? (ad.add k) = some (.int .u8 (l[k].toNat : Int)) := by
  have hn : l.length = n := by have := h.1; simpa [u8s_length, i64s_length] using this
  obtain ⟨ad, e, hb, hc⟩ := h.2 (by omega)
  exact ⟨ad, e, hb, hc k _ (u8s_get hk)⟩
theorem Reads.int_at {w : World} {B n k : Nat} {A : Option Addr} {l : List Int} (h : Reads w B 1 A n (i64s l)) (hk : k < l.length) : ∃ ad, A = some ad ∧ ad.block < B ∧ w.cell? (ad.add k) = some (.int .i64 l[k]) := by
  have hn : l.length = n := by have := h.1; simpa [u8s_length, i64s_length] using this
  obtain ⟨ad, e, hb, hc⟩ := h.2 (by omega)
  exact ⟨ad, e, hb, hc k _ (i64s_get hk)⟩
theorem Reads.u8_len {w : World} {B n : Nat} {A : Option Addr} {l : List UInt8} (h : Reads w B 1 A n (u8s l)) : l.length = n := by have := h.1; simpa [u8s_length, i64s_length] using this
theorem Reads.int_len {w : World} {B n : Nat} {A : Option Addr} {l : List Int} (h : Reads w B 1 A n (i64s l)) : l.length = n := by have := h.1; simpa [u8s_length, i64s_length] using this

/-! ### append onto a row of the call's own, with growslice's wider bound -/
section
variable {P : Program} (w : World)
theorem run_append_wide (base : Nat) (t ty e : TypeId) (i : TypeInfo) (z : Value) (size bytes : Nat) (ht : P.underlying t = some (.slice e)) (hi : P.info? e = some i) (hz : i.zero = some z)
    (hsize : i.size = size) (hby : i.bytes = bytes) (hzs : z.cells.size = size) (hsz : 0 < size)
    (v : Value) (n : Nat) (xs : List Value) (hown : w.ownsRow base e size v n xs)
    (B : Nat) (A : Option Addr) (m c : Nat) (news : List Value) (hr : Reads w B size A m news) (h1 : ∀ u ∈ news, u.oneCell' = true)
    (h63 : n + m ≤ maxLen) (hbytes : ((n + m) + (n + m) / 4 + 192) * bytes ≤ 281474976710656) (hbase : base ≤ w.heap.size) :
    ∃ v' w', (Builtin.append_ #[t, t] ty #[v, .slice A m c]).run P w = .ok v' w' ∧ w'.ownsRow base e size v' (n + m) (xs ++ news) ∧ w.grownBy w' v.ownBlock := by
  rcases A with _ | ad
  · have hm : m = 0 := by
      rcases Nat.eq_zero_or_pos m with h0 | h0
      · exact h0
      · obtain ⟨ad, h, _⟩ := hr.2 h0
        cases h
    subst hm
    have hn : news = [] := List.eq_nil_of_length_eq_zero (by simpa using hr.1)
    subst hn
    exact ⟨v, w, run_append_of_nil w base t ty e i size ht hi v n xs hown c, by simpa using hown, World.grownBy.refl w _⟩
  · have hcells : ∀ j u, news[j]? = some u → w.cell? (ad.add j) = some u := by
      intro j u hu
      rcases Nat.eq_zero_or_pos m with h0 | h0
      · subst h0
        have hn : news = [] := List.eq_nil_of_length_eq_zero (by simpa using hr.1)
        subst hn
        simp at hu
      · obtain ⟨ad', h, _, hc⟩ := hr.2 h0
        injection h with h
        subst h
        exact hc j u hu
    obtain ⟨v', w', hrun, h2, h3, _⟩ := run_append_own_wide (P := P) w base t ty e i z size bytes ht hi hz hsize hby hzs hsz v n xs hown ad m c news hr.1 hcells h1 h63 hbytes hbase
    exact ⟨v', w', hrun, h2, h3⟩
theorem wp_append_wide {o : Oper} {a : Act} {K : Act → World → Prop} {Q : Exit → Act → World → Prop} (s x : Operand) (t : TypeId)
    (ho : o.op = .call { callee := .builtin .append, args := #[s, x], argTypes := #[t, t] })
    (base : Nat) (e : TypeId) (i : TypeInfo) (z : Value) (size bytes : Nat) (ht : P.underlying t = some (.slice e)) (hi : P.info? e = some i) (hz : i.zero = some z)
    (hsize : i.size = size) (hby : i.bytes = bytes) (hzs : z.cells.size = size) (hsz : 0 < size)
    (v : Value) (n : Nat) (xs : List Value) (hs : a.eval s = v) (hown : w.ownsRow base e size v n xs)
    (B : Nat) (A : Option Addr) (m c : Nat) (news : List Value) (hx : a.eval x = .slice A m c) (hr : Reads w B size A m news) (h1 : ∀ u ∈ news, u.oneCell' = true)
    (h63 : n + m ≤ maxLen) (hbytes : ((n + m) + (n + m) / 4 + 192) * bytes ≤ 281474976710656) (hbase : base ≤ w.heap.size)
    (h : ∀ v' w', w'.ownsRow base e size v' (n + m) (xs ++ news) → w.grownBy w' v.ownBlock → K (a.put o.dst v') w') : o.wp P a w K Q := by
  obtain ⟨v', w', hrun, h2, h3⟩ := run_append_wide (P := P) w base t o.type e i z size bytes ht hi hz hsize hby hzs hsz v n xs hown B A m c news hr h1 h63 hbytes hbase
  unfold Oper.wp execOp
  simp only [ho, resolve, invoke, builtin, Sem.run_bind, Sem.run_pure, Result.andThen_ok, List.map_toArray, List.map_cons, List.map_nil, hs, hx, hrun]
  exact h v' w' h2 h3
theorem wpList_append_wide {ops : Array Oper} {rest : List Oper} {o : Oper} {a : Act} {Q : Exit → Act → World → Prop} (hgd : o.guard = none) (s x : Operand) (t : TypeId)
    (ho : o.op = .call { callee := .builtin .append, args := #[s, x], argTypes := #[t, t] })
    (base : Nat) (e : TypeId) (i : TypeInfo) (z : Value) (size bytes : Nat) (ht : P.underlying t = some (.slice e)) (hi : P.info? e = some i) (hz : i.zero = some z)
    (hsize : i.size = size) (hby : i.bytes = bytes) (hzs : z.cells.size = size) (hsz : 0 < size)
    (v : Value) (n : Nat) (xs : List Value) (hs : a.eval s = v) (hown : w.ownsRow base e size v n xs)
    (B : Nat) (A : Option Addr) (m c : Nat) (news : List Value) (hx : a.eval x = .slice A m c) (hr : Reads w B size A m news) (h1 : ∀ u ∈ news, u.oneCell' = true)
    (h63 : n + m ≤ maxLen) (hbytes : ((n + m) + (n + m) / 4 + 192) * bytes ≤ 281474976710656) (hbase : base ≤ w.heap.size)
    (h : ∀ v' w', w'.ownsRow base e size v' (n + m) (xs ++ news) → w.grownBy w' v.ownBlock → wpList P ops Q rest (a.put o.dst v') w') : wpList P ops Q (o :: rest) a w :=
  wpList_plain hgd fun _ hK => wp_append_wide w s x t ho base e i z size bytes ht hi hz hsize hby hzs hsz v n xs hs hown B A m c news hx hr h1 h63 hbytes hbase fun v' w' h2 h3 => hK _ _ (h v' w' h2 h3)
theorem step_append_wide {ops : Array Oper} {o : Oper} {a : Act} {K : Act → World → Prop} {Q : Exit → Act → World → Prop} {E : Prop} (hgd : o.guard = none) (s x : Operand) (t : TypeId)
    (ho : o.op = .call { callee := .builtin .append, args := #[s, x], argTypes := #[t, t] })
    (base : Nat) (e : TypeId) (i : TypeInfo) (z : Value) (size bytes : Nat) (ht : P.underlying t = some (.slice e)) (hi : P.info? e = some i) (hz : i.zero = some z)
    (hsize : i.size = size) (hby : i.bytes = bytes) (hzs : z.cells.size = size) (hsz : 0 < size)
    (v : Value) (n : Nat) (xs : List Value) (hs : a.eval s = v) (hown : w.ownsRow base e size v n xs)
    (B : Nat) (A : Option Addr) (m c : Nat) (news : List Value) (hx : a.eval x = .slice A m c) (hr : Reads w B size A m news) (h1 : ∀ u ∈ news, u.oneCell' = true)
    (h63 : n + m ≤ maxLen) (hbytes : ((n + m) + (n + m) / 4 + 192) * bytes ≤ 281474976710656) (hbase : base ≤ w.heap.size)
    (h : ∀ v' w', w'.ownsRow base e size v' (n + m) (xs ++ news) → w.grownBy w' v.ownBlock → K (a.put o.dst v') w') :
    if Region.wanted o (yielded ops a.tmps) = true then Oper.wp P o a w K Q else E := by
  have hw : Region.wanted o (yielded ops a.tmps) = true := by simp [Region.wanted, hgd]
  rw [if_pos hw]
  exact wp_append_wide w s x t ho base e i z size bytes ht hi hz hsize hby hzs hsz v n xs hs hown B A m c news hx hr h1 h63 hbytes hbase h
end
/-- One byte in a new block. -/
theorem reads_new1 (V : World) (t : TypeId) (y : Int) (c : UInt8) (h : y = c.toNat) : Reads (V.alloc (.cells #[.int .u8 y] t)) (V.heap.size + 1) 1 (some ⟨V.heap.size, 0, none⟩) 1 (u8s [c]) := by
  subst h
  exact ⟨rfl, fun _ => ⟨_, rfl, by simp, cell_one_new V _ t⟩⟩
theorem reads_newInt (V : World) (t : TypeId) (y : Int) : Reads (V.alloc (.cells #[.int .i64 y] t)) (V.heap.size + 1) 1 (some ⟨V.heap.size, 0, none⟩) 1 (i64s [y]) :=
  ⟨rfl, fun _ => ⟨_, rfl, by simp, cell_one_new V _ t⟩⟩
/-- A row that the call owns lies above its base; so what grew it left all below the base as it was. -/
theorem ownBlock_ge {w : World} {base : Nat} {e : TypeId} {size n : Nat} {v : Value} {xs : List Value} (h : w.ownsRow base e size v n xs) : ∀ g, v.ownBlock = some g → base ≤ g := by
  intro g hg
  rcases h.2 with ⟨rfl, _⟩ | ⟨g', cap, cur, rfl, hb, _⟩
  · simp [Value.ownBlock] at hg
  · simp [Value.ownBlock] at hg; omega
theorem below_own {B : Nat} {a w w' : World} {base : Nat} {e : TypeId} {size n : Nat} {v : Value} {xs : List Value} (h : Below B a w) (hg : w.grownBy w' v.ownBlock) (ho : w.ownsRow base e size v n xs) (hB : B ≤ base) (hw : B ≤ w.heap.size) : Below B a w' :=
  h.grown hg hw fun k hk => by have := ownBlock_ge ho k hk; omega

set_option maxRecDepth 100000 in
set_option maxHeartbeats 4000000 in
/-- Slices that read as one list are the same. -/
theorem same_yes (A A' : Option Addr) (n c c' B B' : Nat) (l : List UInt8) (w : World) (hl : l.length = n) (hn : n ≤ 9223372036854775807) (h : Reads w B 1 A n (u8s l)) (h' : Reads w B' 1 A' n (u8s l)) :
    Calls Tryd.prog 11 #[.slice A n c, .slice A' n c'] w fun e w' => e = .returned (.bool true) ∧ ∃ q, w' = w.drewN q := by
  have H := Lib.hid h
  have H' := Lib.hid h'
  have HL := Lib.hid hl
  clear h h' hl
  go_enter Tryd.func11, Tryd.ntmps11
  go_wp2_with fail
  go_loopw [5] (fun i W => ∃ k q : Nat, k ≤ n ∧ i = .int .i64 k ∧ W = w.drewN q) (fun i _ => n - (intOf i).toNat)
  case atStart => exact ⟨0, 0, Nat.zero_le _, rfl, rfl⟩
  case round =>
    obtain ⟨k, q, hk, rfl, rfl⟩ := hrel
    by_cases hlt : k < n
    · obtain ⟨ad, rfl, hb, hc⟩ := H.out.u8_at (k := k) (by rw [HL.out]; exact hlt)
      obtain ⟨ad', rfl, hb', hc'⟩ := H'.out.u8_at (k := k) (by rw [HL.out]; exact hlt)
      have k1 : w.cell? (ad.add k) = some (.int .u8 (l[k]'(by rw [HL.out]; exact hlt)).toNat) := hc
      have k2 : w.cell? (ad'.add k) = some (.int .u8 (l[k]'(by rw [HL.out]; exact hlt)).toNat) := hc'
      clear hc hc' hb hb'
      generalize (l[k]'(by rw [HL.out]; exact hlt)).toNat = x at k1 k2
      go_wp2_with fail
      go_quiet (fail)
      go_wp2_with fail
      go_roundw
      case rel => exact ⟨k + 1, _, by omega, by go_num, rfl⟩
      case measure => simp [intOf]; omega
    · go_wp2_with fail
      go_ret
      exact ⟨rfl, q, rfl⟩
end Go.Proofs.YtggfadiahacgeaaDoor
