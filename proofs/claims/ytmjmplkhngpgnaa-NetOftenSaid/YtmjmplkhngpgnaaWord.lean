/- Numbers as bytes, as plain lists: no word of the program. -/
import Derived.IntWalk
import Derived.Test.YtmjmplkhngpgnaaBase
import Derived.Deep.DeepAppendWide
import Derived.Deep.QuietTactic
import Derived.BigQuiet
import Derived.OwnWalk
import Derived.Test.YtmjmplkhngpgnaaErr
import Derived.RegionTactic
import Derived.Outline
import Derived.Deep.RegionWith
import Derived.Deep.DeepCutAuto
import Derived.StillTailTactics
import Derived.Deep.RegionHeld
namespace Go.Proofs.Ytmjmplkhngpgnaa
set_option linter.unusedVariables false
set_option linter.unusedSimpArgs false

/-- 256 so many times, as a number that the walks know. -/
def pw : Nat → Nat
  | 0 => 1
  | k + 1 => 256 * pw k
theorem pw_pos : ∀ k, 0 < pw k
  | 0 => by simp [pw]
  | k + 1 => by have := pw_pos k; simp [pw]; omega
theorem pw_le {k : Nat} (h : k ≤ 4) : pw k ≤ 4294967296 := by
  match k, h with
  | 0, _ => simp [pw]
  | 1, _ => simp [pw]
  | 2, _ => simp [pw]
  | 3, _ => simp [pw]
  | 4, _ => simp [pw]
theorem pw_two : ∀ k, pw k = 2 ^ (8 * k)
  | 0 => rfl
  | k + 1 => by rw [pw, pw_two k, Nat.mul_add, Nat.pow_add]; omega

/-- A number's bytes, the highest one first. -/
def encN : Nat → Nat → List UInt8
  | 0, _ => []
  | w + 1, n => UInt8.ofNat (n / pw w) :: encN w n
theorem encN_length : ∀ w n, (encN w n).length = w
  | 0, _ => rfl
  | w + 1, n => by simp [encN, encN_length w n]
theorem encN_get (n : Nat) : ∀ (w k : Nat), k < w → (encN w n)[k]? = some (UInt8.ofNat (n / pw (w - 1 - k)))
  | 0, k, h => by omega
  | w + 1, 0, h => by simp [encN]
  | w + 1, k + 1, h => by
    rw [encN, List.getElem?_cons_succ, encN_get n w k (by omega)]
    congr 4; omega
theorem encN_take_succ (n w k : Nat) (h : k < w) : (encN w n).take (k + 1) = (encN w n).take k ++ [UInt8.ofNat (n / pw (w - 1 - k))] := by
  rw [List.take_add_one, encN_get n w k h]; rfl
/-- The bytes' number. -/
def decN (l : List UInt8) : Nat := l.foldl (fun n c => 256 * n + c.toNat) 0
theorem decN_snoc (l : List UInt8) (c : UInt8) : decN (l ++ [c]) = 256 * decN l + c.toNat := by simp [decN, List.foldl_append]
theorem decN_take_succ (l : List UInt8) {k : Nat} (h : k < l.length) : decN (l.take (k + 1)) = 256 * decN (l.take k) + l[k].toNat := by
  rw [List.take_add_one, List.getElem?_eq_getElem h, Option.toList_some, decN_snoc]
theorem decN_take_lt (l : List UInt8) : ∀ k, k ≤ l.length → decN (l.take k) < pw k
  | 0, _ => by simp [decN, pw]
  | k + 1, h => by
    have ih := decN_take_lt l k (by omega)
    rw [decN_take_succ l (by omega), pw]
    have := (l[k]).toNat_lt
    omega
theorem decN_lt (l : List UInt8) : decN l < pw l.length := by
  have := decN_take_lt l l.length (Nat.le_refl _)
  rwa [List.take_length] at this

/-- A number's bytes are its own. -/
theorem u8_ofNat_toNat (n : Nat) : (UInt8.ofNat n).toNat = n % 256 := by simp
theorem decN_encN_take (n w : Nat) : ∀ k, k ≤ w → decN ((encN w n).take k) = n / pw (w - k) % pw k
  | 0, _ => by simp [decN, pw, Nat.mod_one]
  | k + 1, h => by
    rw [encN_take_succ n w k (by omega), decN_snoc, decN_encN_take n w k (by omega), u8_ofNat_toNat]
    have e : w - k = (w - (k + 1)) + 1 := by omega
    have e2 : w - 1 - k = w - (k + 1) := by omega
    rw [e, e2, pw, pw]
    generalize w - (k + 1) = j
    rw [show n / (256 * pw j) = n / pw j / 256 by rw [Nat.div_div_eq_div_mul, Nat.mul_comm]]
    generalize n / pw j = m
    rw [Nat.mod_mul]
    omega
theorem decN_encN {n w : Nat} (h : n < pw w) : decN (encN w n) = n := by
  have := decN_encN_take n w w (Nat.le_refl _)
  rw [show (encN w n).take w = encN w n from List.take_of_length_le (by simp [encN_length])] at this
  rw [this, Nat.sub_self, pw, Nat.div_one, Nat.mod_eq_of_lt h]
theorem encN_decN (l : List UInt8) : encN l.length (decN l) = l := by
  have key : ∀ (w : Nat) (a : List UInt8) (hw : w = a.length), encN w (decN a) = a := by
    intro w
    induction w with
    | zero => intro a hw; have : a = [] := List.eq_nil_of_length_eq_zero hw.symm; subst this; rfl
    | succ w ih =>
      intro a hw
      refine List.ext_getElem? fun k => ?_
      by_cases hk : k < w + 1
      · rw [encN_get _ _ _ hk, List.getElem?_eq_getElem (by omega)]
        congr 1
        have hd : ∀ j, j ≤ a.length → decN a / pw (a.length - j) = decN (a.take j) := by
          intro j hj
          have step : ∀ i, i ≤ a.length → decN a / pw i = decN (a.take (a.length - i)) := by
            intro i
            induction i with
            | zero => intro _; simp [pw]
            | succ i ihi =>
              intro hi
              have h1 := ihi (by omega)
              have h2 := decN_take_succ a (k := a.length - (i + 1)) (by omega)
              rw [show a.length - (i + 1) + 1 = a.length - i by omega] at h2
              rw [pw, Nat.mul_comm 256, ← Nat.div_div_eq_div_mul, h1, h2]
              have := (a[a.length - (i + 1)]'(by omega)).toNat_lt
              omega
          have := step (a.length - j) (by omega)
          rwa [show a.length - (a.length - j) = j by omega] at this
        have h3 := hd (k + 1) (by omega)
        rw [show w + 1 - 1 - k = a.length - (k + 1) by omega, h3, decN_take_succ a (by omega)]
        apply UInt8.toNat_inj.1
        rw [u8_ofNat_toNat]
        have := (a[k]'(by omega)).toNat_lt
        omega
      · rw [List.getElem?_eq_none (by simp [encN_length]; omega), List.getElem?_eq_none (by omega)]
  exact key _ _ rfl

/-- Does a number fit a width? -/
def fitsB (w : Nat) (x : Int) : Bool := decide (0 ≤ x ∧ x < pw w)
theorem fitsB_iff {w : Nat} {x : Int} : fitsB w x = true ↔ 0 ≤ x ∧ x < pw w := by unfold fitsB; simp
theorem fitsB_shr (x : Int) (w : Nat) : (x.fdiv (pw w) == 0) = fitsB w x := by
  have hp := pw_pos w
  rw [Int.fdiv_eq_ediv_of_nonneg _ (by omega), Bool.eq_iff_iff, fitsB_iff]
  simp only [beq_iff_eq]
  constructor
  · intro h
    have h1 := Int.mul_ediv_add_emod x (pw w)
    have h2 := Int.emod_nonneg x (show (pw w : Int) ≠ 0 by omega)
    have h3 := Int.emod_lt_of_pos x (show (0 : Int) < pw w by omega)
    rw [h] at h1; omega
  · intro ⟨h1, h2⟩; exact Int.ediv_eq_zero_of_lt h1 h2
/-- The bytes of several numbers. -/
def encL (w : Nat) (l : List Int) : List UInt8 := l.flatMap fun x => encN w x.toNat
theorem encL_length (w : Nat) : ∀ l : List Int, (encL w l).length = w * l.length
  | [] => by simp [encL]
  | x :: l => by
    have := encL_length w l
    unfold encL at this ⊢
    rw [List.flatMap_cons, List.length_append, this, encN_length, List.length_cons, Nat.mul_succ]; omega
theorem encL_snoc (w : Nat) (l : List Int) (x : Int) : encL w (l ++ [x]) = encL w l ++ encN w x.toNat := by simp [encL, List.flatMap_append]
theorem encL_take_succ (w : Nat) (l : List Int) {k : Nat} (h : k < l.length) : encL w (l.take (k + 1)) = encL w (l.take k) ++ encN w (l[k]).toNat := by
  rw [List.take_add_one, List.getElem?_eq_getElem h, Option.toList_some, encL_snoc]
/-- All numbers fit; or there is a first one that doesn't. -/
def AllFit (w : Nat) (l : List Int) : Prop := ∀ x ∈ l, fitsB w x = true
def FirstBad (w : Nat) (l : List Int) (k : Nat) : Prop := ∃ h : k < l.length, fitsB w l[k] = false ∧ ∀ j (hj : j < k), fitsB w (l[j]'(by omega)) = true
def FitTill (w : Nat) (l : List Int) (k : Nat) : Prop := ∀ j (hj : j < l.length), j < k → fitsB w l[j] = true
theorem FitTill.zero (w : Nat) (l : List Int) : FitTill w l 0 := fun j hj h => absurd h (by omega)
theorem FitTill.succ {w : Nat} {l : List Int} {k : Nat} (h : FitTill w l k) (hk : k < l.length) (hf : fitsB w l[k] = true) : FitTill w l (k + 1) := fun j hj hjk => by
  by_cases e : j = k
  · subst e; exact hf
  · exact h j hj (by omega)
theorem FitTill.all {w : Nat} {l : List Int} (h : FitTill w l l.length) : AllFit w l := fun x hx => by
  obtain ⟨j, hj, rfl⟩ := List.getElem_of_mem hx
  exact h j hj hj
theorem FitTill.bad {w : Nat} {l : List Int} {k : Nat} (h : FitTill w l k) (hk : k < l.length) (hf : fitsB w l[k] = false) : FirstBad w l k := ⟨hk, hf, fun j hj => h j (by omega) hj⟩
theorem FirstBad.one {w : Nat} {l : List Int} {k j : Nat} (h : FirstBad w l k) (g : FirstBad w l j) : k = j := by
  obtain ⟨h1, h2, h3⟩ := h
  obtain ⟨g1, g2, g3⟩ := g
  rcases Nat.lt_trichotomy k j with c | c | c
  · have := g3 k c; rw [h2] at this; cases this
  · exact c
  · have := h3 j c; rw [g2] at this; cases this
theorem FirstBad.notAll {w : Nat} {l : List Int} {k : Nat} (h : FirstBad w l k) (g : AllFit w l) : False := by
  obtain ⟨h1, h2, _⟩ := h
  have := g _ (List.getElem_mem h1)
  rw [h2] at this; cases this
theorem fit_or (w : Nat) (l : List Int) : AllFit w l ∨ ∃ k, FirstBad w l k := by
  have key : ∀ k, k ≤ l.length → FitTill w l k ∨ ∃ j, FirstBad w l j := by
    intro k
    induction k with
    | zero => intro _; exact .inl (FitTill.zero w l)
    | succ k ih =>
      intro hk
      rcases ih (by omega) with h | h
      · cases hf : fitsB w (l[k]'(by omega)) with
        | true => exact .inl (h.succ (by omega) hf)
        | false => exact .inr ⟨k, h.bad (by omega) hf⟩
      · exact .inr h
  rcases key l.length (Nat.le_refl _) with h | h
  · exact .inl h.all
  · exact .inr h

/-- The number of a byte at a place, as the code makes it, and as the document does. -/
theorem byte_shr {x : Int} (h : 0 ≤ x) (j : Nat) : IntKind.u8.wrap (x.fdiv (pw j)) = ((UInt8.ofNat (x.toNat / pw j)).toNat : Int) := by
  rw [IntKind.wrap_u8, u8_ofNat_toNat, Int.fdiv_eq_ediv_of_nonneg _ (by omega)]
  rw [Int.natCast_emod, Int.natCast_ediv, Int.toNat_of_nonneg h]; rfl
theorem byte_div {x : Int} (h : 0 ≤ x) (j : Nat) : x / 2 ^ (8 * j) % 256 = ((UInt8.ofNat (x.toNat / pw j)).toNat : Int) := by
  rw [← byte_shr h, IntKind.wrap_u8, Int.fdiv_eq_ediv_of_nonneg _ (by omega), pw_two, Int.natCast_pow]; rfl
theorem byte_quo {x : Int} (h : 0 ≤ x) (j : Nat) : x / (pw j : Int) % 256 = ((UInt8.ofNat (x.toNat / pw j)).toNat : Int) := by
  rw [← byte_shr h, IntKind.wrap_u8, Int.fdiv_eq_ediv_of_nonneg _ (by omega)]
theorem or_byte {n c : Nat} (hn : n < 36028797018963968) (hc : c < 256) : (n * 256) ||| c = 256 * n + c := by
  have := Nat.shiftLeft_add_eq_or_of_lt (i := 8) (b := c) (by omega) n
  rw [Nat.shiftLeft_eq] at this
  rw [← this]; omega
end Go.Proofs.Ytmjmplkhngpgnaa
/- Slices of bytes and of integers, as lists; append of them; the document's Same. -/
namespace Go.Proofs.Ytmjmplkhngpgnaa
open Go.RowKit
set_option linter.unusedVariables false
set_option linter.unusedSimpArgs false

def u8s (l : List UInt8) : List Value := l.map fun c => .int .u8 (c.toNat : Int)
def i64s (l : List Int) : List Value := l.map (Value.int .i64)
theorem u8s_length (l : List UInt8) : (u8s l).length = l.length := by simp [u8s]
theorem i64s_length (l : List Int) : (i64s l).length = l.length := by simp [i64s]
theorem u8s_append (a b : List UInt8) : u8s (a ++ b) = u8s a ++ u8s b := by simp [u8s]
theorem u8s_one (l : List UInt8) : ∀ u ∈ u8s l, u.oneCell' = true := by
  intro u hu; obtain ⟨c, _, rfl⟩ := List.mem_map.1 hu; rfl
theorem i64s_one (l : List Int) : ∀ u ∈ i64s l, u.oneCell' = true := by
  intro u hu; obtain ⟨c, _, rfl⟩ := List.mem_map.1 hu; rfl
theorem u8s_get {l : List UInt8} {k : Nat} (h : k < l.length) : (u8s l)[k]? = some (.int .u8 (l[k].toNat : Int)) := by simp [u8s, h]
theorem i64s_get {l : List Int} {k : Nat} (h : k < l.length) : (i64s l)[k]? = some (.int .i64 l[k]) := by simp [i64s, h]

theorem info_u8 : (Try.prog.info? 5).map (fun i => (i.zero, i.size, i.bytes)) = some (some (.int .u8 0), 1, 1) := by kernel_rfl
theorem info_int : (Try.prog.info? 3).map (fun i => (i.zero, i.size, i.bytes)) = some (some (.int .i64 0), 1, 8) := by kernel_rfl

/-- A slice of bytes that reads as a list; its cell at a place. -/
theorem Reads.u8_at {w : World} {B n k : Nat} {A : Option Addr} {l : List UInt8} (h : Reads w B 1 A n (u8s l)) (hk : k < l.length) : ∃ ad, A = some ad ∧ ad.block < B ∧ w.cell? (ad.add k) = some (.int .u8 (l[k].toNat : Int)) := by
  have hn : l.length = n := by have := h.1; simpa [u8s_length, i64s_length] using this
  obtain ⟨ad, e, hb, hc⟩ := h.2 (by omega)
  exact ⟨ad, e, hb, hc k _ (u8s_get hk)⟩
theorem Reads.int_at {w : World} {B n k : Nat} {A : Option Addr} {l : List Int} (h : Reads w B 1 A n (i64s l)) (hk : k < l.length) : ∃ ad, A = some ad ∧ ad.block < B ∧ w.cell? (ad.add k) = some (.int .i64 l[k]) := by
  have hn : l.length = n := by have := h.1; simpa [u8s_length, i64s_length] using this
  obtain ⟨ad, e, hb, hc⟩ := h.2 (by omega)
  exact ⟨ad, e, hb, hc k _ (i64s_get hk)⟩
theorem Reads.u8_len {w : World} {B n : Nat} {A : Option Addr} {l : List UInt8} (h : Reads w B 1 A n (u8s l)) : l.length = n := by have := h.1; simpa [u8s_length, i64s_length] using this
theorem Reads.int_len {w : World} {B n : Nat} {A : Option Addr} {l : List Int} (h : Reads w B 1 A n (i64s l)) : l.length = n := by have := h.1; simpa [u8s_length, i64s_length] using this

/-! ### append onto a row of the call's own, with growslice's wider bound -/
section
variable {P : Program} (w : World)
theorem run_append_wide (base : Nat) (t ty e : TypeId) (i : TypeInfo) (z : Value) (size bytes : Nat) (ht : P.underlying t = some (.slice e)) (hi : P.info? e = some i) (hz : i.zero = some z)
    (hsize : i.size = size) (hby : i.bytes = bytes) (hzs : z.cells.size = size) (hsz : 0 < size)
    (v : Value) (n : Nat) (xs : List Value) (hown : w.ownsRow base e size v n xs)
    (B : Nat) (A : Option Addr) (m c : Nat) (news : List Value) (hr : Reads w B size A m news) (h1 : ∀ u ∈ news, u.oneCell' = true)
    (h63 : n + m ≤ maxLen) (hbytes : ((n + m) + (n + m) / 4 + 192) * bytes ≤ 281474976710656) (hbase : base ≤ w.heap.size) :
    ∃ v' w', (Builtin.append_ #[t, t] ty #[v, .slice A m c]).run P w = .ok v' w' ∧ w'.ownsRow base e size v' (n + m) (xs ++ news) ∧ w.grownBy w' v.ownBlock := by
  rcases A with _ | ad
  · have hm : m = 0 := by
      rcases Nat.eq_zero_or_pos m with h0 | h0
      · exact h0
      · obtain ⟨ad, h, _⟩ := hr.2 h0
        cases h
    subst hm
    have hn : news = [] := List.eq_nil_of_length_eq_zero (by simpa using hr.1)
    subst hn
    exact ⟨v, w, run_append_of_nil w base t ty e i size ht hi v n xs hown c, by simpa using hown, World.grownBy.refl w _⟩
  · have hcells : ∀ j u, news[j]? = some u → w.cell? (ad.add j) = some u := by
      intro j u hu
      rcases Nat.eq_zero_or_pos m with h0 | h0
      · subst h0
        have hn : news = [] := List.eq_nil_of_length_eq_zero (by simpa using hr.1)
        subst hn
        simp at hu
      · obtain ⟨ad', h, _, hc⟩ := hr.2 h0
        injection h with h
        subst h
        exact hc j u hu
    obtain ⟨v', w', hrun, h2, h3, _⟩ := run_append_own_wide (P := P) w base t ty e i z size bytes ht hi hz hsize hby hzs hsz v n xs hown ad m c news hr.1 hcells h1 h63 hbytes hbase
    exact ⟨v', w', hrun, h2, h3⟩
theorem wp_append_wide {o : Oper} {a : Act} {K : Act → World → Prop} {Q : Exit → Act → World → Prop} (s x : Operand) (t : TypeId)
    (ho : o.op = .call { callee := .builtin .append, args := #[s, x], argTypes := #[t, t] })
    (base : Nat) (e : TypeId) (i : TypeInfo) (z : Value) (size bytes : Nat) (ht : P.underlying t = some (.slice e)) (hi : P.info? e = some i) (hz : i.zero = some z)
    (hsize : i.size = size) (hby : i.bytes = bytes) (hzs : z.cells.size = size) (hsz : 0 < size)
    (v : Value) (n : Nat) (xs : List Value) (hs : a.eval s = v) (hown : w.ownsRow base e size v n xs)
    (B : Nat) (A : Option Addr) (m c : Nat) (news : List Value) (hx : a.eval x = .slice A m c) (hr : Reads w B size A m news) (h1 : ∀ u ∈ news, u.oneCell' = true)
    (h63 : n + m ≤ maxLen) (hbytes : ((n + m) + (n + m) / 4 + 192) * bytes ≤ 281474976710656) (hbase : base ≤ w.heap.size)
    (h : ∀ v' w', w'.ownsRow base e size v' (n + m) (xs ++ news) → w.grownBy w' v.ownBlock → K (a.put o.dst v') w') : o.wp P a w K Q := by
  obtain ⟨v', w', hrun, h2, h3⟩ := run_append_wide (P := P) w base t o.type e i z size bytes ht hi hz hsize hby hzs hsz v n xs hown B A m c news hr h1 h63 hbytes hbase
  unfold Oper.wp execOp
  simp only [ho, resolve, invoke, builtin, Sem.run_bind, Sem.run_pure, Result.andThen_ok, List.map_toArray, List.map_cons, List.map_nil, hs, hx, hrun]
  exact h v' w' h2 h3
theorem wpList_append_wide {ops : Array Oper} {rest : List Oper} {o : Oper} {a : Act} {Q : Exit → Act → World → Prop} (hgd : o.guard = none) (s x : Operand) (t : TypeId)
    (ho : o.op = .call { callee := .builtin .append, args := #[s, x], argTypes := #[t, t] })
    (base : Nat) (e : TypeId) (i : TypeInfo) (z : Value) (size bytes : Nat) (ht : P.underlying t = some (.slice e)) (hi : P.info? e = some i) (hz : i.zero = some z)
    (hsize : i.size = size) (hby : i.bytes = bytes) (hzs : z.cells.size = size) (hsz : 0 < size)
    (v : Value) (n : Nat) (xs : List Value) (hs : a.eval s = v) (hown : w.ownsRow base e size v n xs)
    (B : Nat) (A : Option Addr) (m c : Nat) (news : List Value) (hx : a.eval x = .slice A m c) (hr : Reads w B size A m news) (h1 : ∀ u ∈ news, u.oneCell' = true)
    (h63 : n + m ≤ maxLen) (hbytes : ((n + m) + (n + m) / 4 + 192) * bytes ≤ 281474976710656) (hbase : base ≤ w.heap.size)
    (h : ∀ v' w', w'.ownsRow base e size v' (n + m) (xs ++ news) → w.grownBy w' v.ownBlock → wpList P ops Q rest (a.put o.dst v') w') : wpList P ops Q (o :: rest) a w :=
  wpList_plain hgd fun _ hK => wp_append_wide w s x t ho base e i z size bytes ht hi hz hsize hby hzs hsz v n xs hs hown B A m c news hx hr h1 h63 hbytes hbase fun v' w' h2 h3 => hK _ _ (h v' w' h2 h3)
theorem step_append_wide {ops : Array Oper} {o : Oper} {a : Act} {K : Act → World → Prop} {Q : Exit → Act → World → Prop} {E : Prop} (hgd : o.guard = none) (s x : Operand) (t : TypeId)
    (ho : o.op = .call { callee := .builtin .append, args := #[s, x], argTypes := #[t, t] })
    (base : Nat) (e : TypeId) (i : TypeInfo) (z : Value) (size bytes : Nat) (ht : P.underlying t = some (.slice e)) (hi : P.info? e = some i) (hz : i.zero = some z)
    (hsize : i.size = size) (hby : i.bytes = bytes) (hzs : z.cells.size = size) (hsz : 0 < size)
    (v : Value) (n : Nat) (xs : List Value) (hs : a.eval s = v) (hown : w.ownsRow base e size v n xs)
    (B : Nat) (A : Option Addr) (m c : Nat) (news : List Value) (hx : a.eval x = .slice A m c) (hr : Reads w B size A m news) (h1 : ∀ u ∈ news, u.oneCell' = true)
    (h63 : n + m ≤ maxLen) (hbytes : ((n + m) + (n + m) / 4 + 192) * bytes ≤ 281474976710656) (hbase : base ≤ w.heap.size)
    (h : ∀ v' w', w'.ownsRow base e size v' (n + m) (xs ++ news) → w.grownBy w' v.ownBlock → K (a.put o.dst v') w') :
    if Region.wanted o (yielded ops a.tmps) = true then Oper.wp P o a w K Q else E := by
  have hw : Region.wanted o (yielded ops a.tmps) = true := by simp [Region.wanted, hgd]
  rw [if_pos hw]
  exact wp_append_wide w s x t ho base e i z size bytes ht hi hz hsize hby hzs hsz v n xs hs hown B A m c news hx hr h1 h63 hbytes hbase h
end
/-- One byte in a new block. -/
theorem reads_new1 (V : World) (t : TypeId) (y : Int) (c : UInt8) (h : y = c.toNat) : Reads (V.alloc (.cells #[.int .u8 y] t)) (V.heap.size + 1) 1 (some ⟨V.heap.size, 0, none⟩) 1 (u8s [c]) := by
  subst h
  exact ⟨rfl, fun _ => ⟨_, rfl, by simp, cell_one_new V _ t⟩⟩
theorem reads_newInt (V : World) (t : TypeId) (y : Int) : Reads (V.alloc (.cells #[.int .i64 y] t)) (V.heap.size + 1) 1 (some ⟨V.heap.size, 0, none⟩) 1 (i64s [y]) :=
  ⟨rfl, fun _ => ⟨_, rfl, by simp, cell_one_new V _ t⟩⟩
/-- A row that the call owns lies above its base; so what grew it left all below the base as it was. -/
theorem ownBlock_ge {w : World} {base : Nat} {e : TypeId} {size n : Nat} {v : Value} {xs : List Value} (h : w.ownsRow base e size v n xs) : ∀ g, v.ownBlock = some g → base ≤ g := by
  intro g hg
  rcases h.2 with ⟨rfl, _⟩ | ⟨g', cap, cur, rfl, hb, _⟩
  · simp [Value.ownBlock] at hg
  · simp [Value.ownBlock] at hg; omega
theorem below_own {B : Nat} {a w w' : World} {base : Nat} {e : TypeId} {size n : Nat} {v : Value} {xs : List Value} (h : Below B a w) (hg : w.grownBy w' v.ownBlock) (ho : w.ownsRow base e size v n xs) (hB : B ≤ base) (hw : B ≤ w.heap.size) : Below B a w' :=
  h.grown hg hw fun k hk => by have := ownBlock_ge ho k hk; omega

set_option maxRecDepth 100000 in
set_option maxHeartbeats 4000000 in
/-- Slices that read as one list are the same. -/
theorem same_yes (A A' : Option Addr) (n c c' B B' : Nat) (l : List UInt8) (w : World) (hl : l.length = n) (hn : n ≤ 9223372036854775807) (h : Reads w B 1 A n (u8s l)) (h' : Reads w B' 1 A' n (u8s l)) :
    Calls Try.prog 28 #[.slice A n c, .slice A' n c'] w fun e w' => e = .returned (.bool true) ∧ ∃ q, w' = w.drewN q := by
  have H := Lib.hid h
  have H' := Lib.hid h'
  have HL := Lib.hid hl
  clear h h' hl
  go_enter Try.func28, Try.ntmps28
  go_wp2_with fail
  go_loopw [5] (fun i W => ∃ k q : Nat, k ≤ n ∧ i = .int .i64 k ∧ W = w.drewN q) (fun i _ => n - (intOf i).toNat)
  case atStart => exact ⟨0, 0, Nat.zero_le _, rfl, rfl⟩
  case round =>
    obtain ⟨k, q, hk, rfl, rfl⟩ := hrel
    by_cases hlt : k < n
    · obtain ⟨ad, rfl, hb, hc⟩ := H.out.u8_at (k := k) (by rw [HL.out]; exact hlt)
      obtain ⟨ad', rfl, hb', hc'⟩ := H'.out.u8_at (k := k) (by rw [HL.out]; exact hlt)
      have k1 : w.cell? (ad.add k) = some (.int .u8 (l[k]'(by rw [HL.out]; exact hlt)).toNat) := hc
      have k2 : w.cell? (ad'.add k) = some (.int .u8 (l[k]'(by rw [HL.out]; exact hlt)).toNat) := hc'
      clear hc hc' hb hb'
      generalize (l[k]'(by rw [HL.out]; exact hlt)).toNat = x at k1 k2
      go_wp2_with fail
      go_quiet (fail)
      go_wp2_with fail
      go_roundw
      case rel => exact ⟨k + 1, _, by omega, by go_num, rfl⟩
      case measure => simp [intOf]; omega
    · go_wp2_with fail
      go_ret
      exact ⟨rfl, q, rfl⟩
end Go.Proofs.Ytmjmplkhngpgnaa
/- The contracts of package word's small functions, and of the document's. -/
namespace Go.Proofs.Ytmjmplkhngpgnaa
open Go.RowKit
set_option linter.unusedVariables false
set_option linter.unusedSimpArgs false

/-- May a width be? -/
def mayW (x : Int) : Bool := decide (1 ≤ x ∧ x ≤ 4)
theorem mayW_iff {x : Int} : mayW x = true ↔ 1 ≤ x ∧ x ≤ 4 := by unfold mayW; simp
theorem mayW_no {x : Int} (h : mayW x = false) : x < 1 ∨ 4 < x := by unfold mayW at h; simp at h; omega

set_option maxRecDepth 100000 in
set_option maxHeartbeats 1000000 in
theorem mayBe_any (x : Int) (w : World) : Calls Try.prog 47 #[.int .i64 x] w fun e w' => e = .returned (.bool (mayW x)) ∧ w = w' := by
  have HR : ∀ b : Bool, mayW x = b → Hid (b = mayW x) := fun b h => h.symm
  cases h1 : decide (1 ≤ x) <;> cases h2 : decide (x ≤ 4)
  all_goals
    have HQ := HR _ (by unfold mayW; simp only [Bool.decide_and, h1, h2]; rfl)
    clear HR
    go_enter Try.func47, Try.ntmps47
    go_wp2
    go_ret
    exact ⟨ret_bool HQ.out, rfl⟩
theorem mayBe_yes {x : Int} (h : mayW x = true) (w : World) : Calls Try.prog 47 #[.int .i64 x] w fun e w' => e = .returned (.bool true) ∧ w = w' :=
  (mayBe_any x w).mono fun _ _ ⟨he, hw⟩ => ⟨by rw [he, h], hw⟩
theorem mayBe_no {x : Int} (h : mayW x = false) (w : World) : Calls Try.prog 47 #[.int .i64 x] w fun e w' => e = .returned (.bool false) ∧ w = w' :=
  (mayBe_any x w).mono fun _ _ ⟨he, hw⟩ => ⟨by rw [he, h], hw⟩

set_option maxRecDepth 100000 in
set_option maxHeartbeats 1000000 in
theorem fits_any (x : Int) (wd : Nat) (h1 : 1 ≤ wd) (h4 : wd ≤ 4) (w : World) : Calls Try.prog 64 #[.int .i64 x, .int .i64 wd] w fun e w' => e = .returned (.bool (fitsB wd x)) ∧ w = w' := by
  rw [← fitsB_shr]
  have hc : wd = 1 ∨ wd = 2 ∨ wd = 3 ∨ wd = 4 := by omega
  rcases hc with rfl | rfl | rfl | rfl
  all_goals
    go_enter Try.func64, Try.ntmps64
    go_wp2
    go_ret
    refine ⟨ret_bool ?_, rfl⟩
    rw [Int.fdiv_eq_ediv_of_nonneg _ (by omega)]
    rfl



/-- Block r is a reader's. -/
abbrev RdAt (w : World) (r : Nat) (A : Option Addr) (n cap : Nat) (at_ : Int) : Prop := Blk w r 89 #[.slice A n cap, .int .i64 at_]

set_option maxRecDepth 100000 in
set_option maxHeartbeats 1000000 in
theorem left_any (r n cap k : Nat) (A : Option Addr) (hk : k ≤ n) (hn : n ≤ 9223372036854775807) (w : World) (h : RdAt w r A n cap k) :
    Calls Try.prog 48 #[.pointer (some ⟨r, 0, none⟩)] w fun e w' => e = .returned (.int .i64 ((n - k : Nat) : Int)) ∧ ∃ q, w' = w.drewN q := by
  have h0 := h.cell 0
  have h1 := h.cell 1
  have hw : IntKind.i64.wrap ((n : Int) - k) = ((n - k : Nat) : Int) := by rw [IntWalk.i64_in _ (by omega)]; omega
  clear h
  go_enter Try.func48, Try.ntmps48
  go_wp2_with fail
  go_quiet (fail)
  go_wp2_with fail
  go_ret
  exact ⟨rfl, _, rfl⟩
set_option maxRecDepth 100000 in
set_option maxHeartbeats 1000000 in
theorem left_nil (w : World) : Calls Try.prog 48 #[.pointer none] w fun e w' => e = .returned (.int .i64 0) ∧ w = w' := by
  go_enter Try.func48, Try.ntmps48
  go_wp2
  go_ret
  exact ⟨rfl, rfl⟩
set_option maxRecDepth 100000 in
set_option maxHeartbeats 1000000 in
theorem take_nil (x : Value) (w : World) : Calls Try.prog 31 #[.pointer none, x] w fun e w' => e = .returned (.tuple #[.int .i64 0, errno 1]) ∧ w = w' := by
  go_enter Try.func31, Try.ntmps31
  go_wp2
  go_ret2
  exact ⟨rfl, rfl⟩
set_option maxRecDepth 100000 in
set_option maxHeartbeats 1000000 in
theorem take_arg (r : Nat) (x : Int) (h : mayW x = false) (w : World) : Calls Try.prog 31 #[.pointer (some ⟨r, 0, none⟩), .int .i64 x] w fun e w' => e = .returned (.tuple #[.int .i64 0, errno 1]) ∧ w = w' := by
  have H := Lib.hid h
  clear h
  go_enter Try.func31, Try.ntmps31
  go_wp2_with (go_at_call 47; refine (mayBe_no H.out _).mono ?_; rintro e w' ⟨rfl, rfl⟩)
  go_ret2
  exact ⟨rfl, rfl⟩
end Go.Proofs.Ytmjmplkhngpgnaa
/- The contracts of a reader's Take, and of the document's. -/
namespace Go.Proofs.Ytmjmplkhngpgnaa
open Go.RowKit
set_option linter.unusedVariables false
set_option linter.unusedSimpArgs false

theorem or_i64 {n c : Nat} (hn : n < 36028797018963968) (hc : c < 256) : IntKind.i64.wrap ((BitVec.ofInt 64 ((n : Int) * 256) ||| BitVec.ofInt 64 (c : Int)).toNat : Int) = ((256 * n + c : Nat) : Int) := by
  have e1 : BitVec.ofInt 64 ((n : Int) * 256) = BitVec.ofNat 64 (n * 256) := by
    rw [← BitVec.ofInt_natCast]; congr 1
  have e2 : BitVec.ofInt 64 (c : Int) = BitVec.ofNat 64 c := BitVec.ofInt_natCast ..
  rw [e1, e2, BitVec.toNat_or, BitVec.toNat_ofNat, BitVec.toNat_ofNat, Nat.mod_eq_of_lt (by omega), Nat.mod_eq_of_lt (by omega), or_byte hn hc]
  exact IntWalk.i64_in _ (by omega)

set_option maxRecDepth 100000 in
set_option maxHeartbeats 4000000 in
theorem take_short (r n cap k wd : Nat) (A : Option Addr) (h1 : 1 ≤ wd) (h4 : wd ≤ 4) (hk : k ≤ n) (hs : n < k + wd) (hn : n ≤ 9223372036854775807) (w : World) (h : RdAt w r A n cap k) :
    Calls Try.prog 31 #[.pointer (some ⟨r, 0, none⟩), .int .i64 wd] w fun e w' => ∃ b, e = .returned (.tuple #[.int .i64 0, faultV b]) ∧ Below w.heap.size w w' ∧ w.heap.size ≤ b ∧ FaultAt w' b n 3 := by
  have HW := Lib.hid (mayW_iff.2 (show 1 ≤ (wd : Int) ∧ (wd : Int) ≤ 4 by omega))
  have H := Lib.hid h
  have d0 : decide (n - k < wd) = true := by simp; omega
  clear h
  go_enter Try.func31, Try.ntmps31
  go_wp2_with fail
  refine (mayBe_yes HW.out _).mono ?_
  rintro e w' ⟨rfl, rfl⟩
  go_wp2_with fail
  refine (left_any r n cap k A hk hn _ H.out).mono ?_
  rintro e w' ⟨rfl, q, rfl⟩
  have c0 : w.cell? ⟨r, 0, none⟩ = some (.slice A n cap) := H.out.cell 0
  go_wp2_with fail
  go_region
  all_goals
    go_wp2_with fail
    go_ret2
    exact ⟨_, rfl, (below_drewN (Below.refl _ _) _).alloc (Nat.le_refl _) _, Nat.le_refl _, Blk.new _ _ _⟩

set_option maxRecDepth 100000 in
set_option maxHeartbeats 4000000 in
theorem take_ok (r n cap k wd : Nat) (A : Option Addr) (l : List UInt8) (h1 : 1 ≤ wd) (h4 : wd ≤ 4) (hk : k + wd ≤ n) (hn : n ≤ 140737488355328) (w : World) (h : RdAt w r A n cap k) (hr : Reads w w.heap.size 1 A n (u8s l)) :
    Calls Try.prog 31 #[.pointer (some ⟨r, 0, none⟩), .int .i64 wd] w fun e w' => e = .returned (.tuple #[.int .i64 (decN ((l.drop k).take wd)), .nilIface]) ∧ ∃ q, w' = (w.drewN q).setCell ⟨r, 1, none⟩ (.int .i64 ((k + wd : Nat) : Int)) := by
  have HW := Lib.hid (mayW_iff.2 (show 1 ≤ (wd : Int) ∧ (wd : Int) ≤ 4 by omega))
  have H := Lib.hid h
  have HR := Lib.hid hr
  have HL := Lib.hid hr.u8_len
  have d0 : decide (n - k < wd) = false := by simp; omega
  clear h hr
  go_enter Try.func31, Try.ntmps31
  go_wp2_with fail
  refine (mayBe_yes HW.out _).mono ?_
  rintro e w' ⟨rfl, rfl⟩
  go_wp2_with fail
  refine (left_any r n cap k A (by omega) (by omega) _ H.out).mono ?_
  rintro e w' ⟨rfl, q0, rfl⟩
  go_wp2_with fail
  go_loopw [6, 32] (fun m i W => ∃ j q : Nat, j ≤ wd ∧ i = .int .i64 j ∧ m = .int .i64 (decN ((l.drop k).take j)) ∧ W = w.drewN q) (fun _ i _ => wd - (intOf i).toNat)
  case atStart => exact ⟨0, q0, Nat.zero_le _, rfl, rfl, rfl⟩
  case round =>
    obtain ⟨j, q, hj, rfl, rfl, rfl⟩ := hrel
    have c0 : w.cell? ⟨r, 0, none⟩ = some (.slice A n cap) := H.out.cell 0
    have c1 : w.cell? ⟨r, 1, none⟩ = some (.int .i64 k) := H.out.cell 1
    by_cases hlt : j < wd
    · have hkl : k + j < l.length := by rw [HL.out]; omega
      obtain ⟨ad, rfl, hb, hc⟩ := HR.out.u8_at hkl
      have hT : decN ((l.drop k).take (j + 1)) = 256 * decN ((l.drop k).take j) + (l[k + j]).toNat := by
        rw [decN_take_succ (l.drop k) (k := j) (by rw [List.length_drop]; omega), List.getElem_drop]
      have hT2 := decN_take_lt (l.drop k) j (by rw [List.length_drop, HL.out]; omega)
      have hp := pw_le (k := j) (by omega)
      have hc256 := (l[k + j]).toNat_lt
      have HT := Lib.hid hT
      clear hT
      generalize (l[k + j]).toNat = c at hc hc256 HT
      generalize decN ((l.drop k).take j) = m at hT2 HT
      have hwr : IntKind.i64.wrap ((m : Int) * 256) = (m : Int) * 256 := IntWalk.i64_in _ (by omega)
      have hor := or_i64 (n := m) (c := c) (by omega) (by omega)
      have hadd : IntKind.i64.wrap ((k : Int) + (j : Int)) = ((k + j : Nat) : Int) := IntWalk.i64_in _ (by omega)
      go_wp2_with fail
      go_quiet (fail)
      go_wp2_with fail
      go_roundw
      case rel => exact ⟨j + 1, _, by omega, by go_num, by rw [HT.out, ← hor]; rfl, rfl⟩
      case measure => simp [intOf]; omega
    · obtain rfl : j = wd := by omega
      have hf : w.frozen? ⟨r, 1, none⟩ = false := H.out.frozen 1
      go_wp2_with fail
      go_ret2
      exact ⟨rfl, q, rfl⟩
end Go.Proofs.Ytmjmplkhngpgnaa
/- The contracts of New, and of the document's Take. -/
namespace Go.Proofs.Ytmjmplkhngpgnaa
open Go.RowKit
set_option linter.unusedVariables false
set_option linter.unusedSimpArgs false


/-- What slices.Clone answers, of bytes. -/
def ClonePost (w : World) (n : Nat) (l : List UInt8) (e : Ending) (w' : World) : Prop :=
  ∃ A cap, e = .returned (.slice A n cap) ∧ Reads w' w'.heap.size 1 A n (u8s l) ∧ (∀ ad, A = some ad → w.heap.size ≤ ad.block) ∧ Below w.heap.size w w'
set_option maxRecDepth 100000 in
set_option maxHeartbeats 1000000 in
theorem clone_u8 (A : Option Addr) (n cap : Nat) (l : List UInt8) (hn : n ≤ 211106232532992) (w : World) (hr : Reads w w.heap.size 1 A n (u8s l)) :
    Calls Try.prog 46 #[.slice A n cap] w (ClonePost w n l) := by
  rcases A with _ | ad
  · have h0 : n = 0 := by
      rcases Nat.eq_zero_or_pos n with h0 | h0
      · exact h0
      · obtain ⟨ad, h, _⟩ := hr.2 h0
        cases h
    have hl := hr.u8_len
    subst h0
    have : l = [] := List.eq_nil_of_length_eq_zero hl
    subst this
    have he : (binOp .eql 22 (.slice none 0 cap) (.slice none 0 0)).run Try.prog w = .ok (.bool true) w := by kernel_rfl
    clear hr hl
    go_enter Try.func46, Try.ntmps46
    go_wp2
    go_ret
    exact ⟨none, _, rfl, Reads.none_, fun _ h => (by cases h), Below.refl _ _⟩
  · obtain ⟨i0, hi0, hz0, hz1, hz2⟩ := info_parts info_u8
    have HR := Lib.hid hr
    have he : (binOp .eql 22 (.slice (some ad) n cap) (.slice none 0 0)).run Try.prog w = .ok (.bool false) w := by kernel_rfl
    clear hr
    go_enter Try.func46, Try.ntmps46
    go_wp2_with (at_builtin
                 refine wpList_append_wide _ rfl (.tmp 5) (.tmp 6) _ rfl w.heap.size 5 i0 _ 1 1 Try.underlying22 hi0 hz0 hz1 hz2 rfl (by omega) (.slice (some ⟨w.heap.size, 0, none⟩) 0 0) 0 [] rfl
                   (World.ownsRow_made w #[] 0 (Nat.le_refl _) (Nat.zero_le _) (by simp)) w.heap.size (some ad) n cap (u8s l) rfl (HR.out.alloc (Nat.le_refl _) _) (u8s_one l) (by simp only [maxLen]; omega) (by omega) (by simp) ?_
                 intro v2 w2 hown2 hg2
                 rw [Nat.zero_add, List.nil_append] at hown2
                 obtain ⟨A2, cap2, rfl⟩ : ∃ A2 c2, v2 = .slice A2 n c2 := by
                   rcases hown2.2 with ⟨rfl, h⟩ | ⟨g', cap', cur, rfl, _⟩
                   · subst h; exact ⟨_, _, rfl⟩
                   · exact ⟨_, _, rfl⟩
                 have B2 := Lib.hid ((((Below.refl w.heap.size w).alloc (Nat.le_refl _) (.cells #[] 5)).grown hg2 (by simp) (by intro k hk; simp [Value.ownBlock] at hk; omega)))
                 have R2 := Lib.hid (Reads.of_own hown2)
                 have L2 := Lib.hid (ownBlock_ge hown2)
                 clear hown2 hg2)
    go_ret
    refine ⟨A2, cap2, rfl, R2.out, fun a ha => ?_, B2.out⟩
    subst ha
    exact L2.out a.block (by simp [Value.ownBlock])

/-- A new reader. -/
def NewPost (w : World) (n : Nat) (l : List UInt8) (e : Ending) (w' : World) : Prop :=
  ∃ r A cap, e = .returned (.pointer (some ⟨r, 0, none⟩)) ∧ RdAt w' r A n cap 0 ∧ Reads w' r 1 A n (u8s l) ∧ (∀ ad, A = some ad → w.heap.size ≤ ad.block) ∧ w.heap.size ≤ r ∧ Below w.heap.size w w'
set_option maxRecDepth 100000 in
set_option maxHeartbeats 1000000 in
theorem new_any (A : Option Addr) (n cap : Nat) (l : List UInt8) (hn : n ≤ 211106232532992) (w : World) (hr : Reads w w.heap.size 1 A n (u8s l)) :
    Calls Try.prog 30 #[.slice A n cap] w (NewPost w n l) := by
  have HR := Lib.hid hr
  clear hr
  go_enter Try.func30, Try.ntmps30
  go_wp2_with fail
  refine (clone_u8 A n cap l hn w HR.out).mono ?_
  rintro e w1 ⟨A1, cap1, rfl, hr1, hA1, hb1⟩
  have R1 := Lib.hid hr1
  have HA := Lib.hid hA1
  have B1 := Lib.hid hb1
  clear hr1 hA1 hb1
  go_wp2_with fail
  go_ret
  exact ⟨_, A1, cap1, rfl, Blk.new _ _ _, R1.out.alloc (Nat.le_refl _) _, HA.out, B1.out.size, B1.out.alloc B1.out.size _⟩
end Go.Proofs.Ytmjmplkhngpgnaa
/- The contract of package word's Put. -/
namespace Go.Proofs.Ytmjmplkhngpgnaa
open Go.RowKit
set_option linter.unusedVariables false
set_option linter.unusedSimpArgs false

set_option maxRecDepth 100000 in
set_option maxHeartbeats 1000000 in
theorem put_arg (b l : Value) (x : Int) (h : mayW x = false) (w : World) : Calls Try.prog 58 #[b, .int .i64 x, l] w fun e w' => e = .returned (.tuple #[.slice none 0 0, errno 1]) ∧ w = w' := by
  have H := Lib.hid h
  clear h
  go_enter Try.func58, Try.ntmps58
  go_wp2_with fail
  refine (mayBe_no H.out _).mono ?_
  rintro e w' ⟨rfl, rfl⟩
  go_wp2_with fail
  go_ret2
  exact ⟨rfl, rfl⟩

/-- What Put answers: all bytes, or a fault at the first number that doesn't fit. -/
def PutPost (wd n m : Nat) (bs : List UInt8) (is : List Int) (w : World) (e : Ending) (w' : World) : Prop :=
  (AllFit wd is ∧ ∃ v, e = .returned (.tuple #[v, .nilIface]) ∧ w'.ownsRow w.heap.size 5 1 v (n + wd * m) (u8s (bs ++ encL wd is)) ∧ Below w.heap.size w w') ∨
  (∃ k b, FirstBad wd is k ∧ e = .returned (.tuple #[.slice none 0 0, faultV b]) ∧ FaultAt w' b k 2 ∧ Below w.heap.size w w')
/-- What holds at the head of Put's loop. -/
structure PutRel (wd n : Nat) (bs : List UInt8) (is : List Int) (w : World) (j : Nat) (v : Value) (W : World) : Prop where
  fit : FitTill wd is j
  own : W.ownsRow w.heap.size 5 1 v (n + wd * j) (u8s (bs ++ encL wd (is.take j)))
  bel : Below w.heap.size w W
structure PutRel2 (wd n : Nat) (bs : List UInt8) (is : List Int) (w : World) (j k : Nat) (x : Int) (v : Value) (W : World) : Prop where
  own : W.ownsRow w.heap.size 5 1 v (n + wd * j + k) (u8s (bs ++ encL wd (is.take j) ++ (encN wd x.toNat).take k))
  bel : Below w.heap.size w W

set_option maxRecDepth 100000 in
set_option maxHeartbeats 4000000 in
theorem put_any (A A' : Option Addr) (n cap m cap' wd : Nat) (bs : List UInt8) (is : List Int) (h1 : 1 ≤ wd) (h4 : wd ≤ 4) (hN : n + wd * m ≤ 211106232532992) (w : World) (hb : Reads w w.heap.size 1 A n (u8s bs)) (hl : Reads w w.heap.size 1 A' m (i64s is)) :
    Calls Try.prog 58 #[.slice A n cap, .int .i64 wd, .slice A' m cap'] w (PutPost wd n m bs is w) := by
  have HW := Lib.hid (mayW_iff.2 (show 1 ≤ (wd : Int) ∧ (wd : Int) ≤ 4 by omega))
  have HB := Lib.hid hb
  have HL := Lib.hid hl
  have HLN := Lib.hid hl.int_len
  have HBN := Lib.hid hb.u8_len
  obtain ⟨i0, hi0, hz0, hz1, hz2⟩ := info_parts info_u8
  have hm : m ≤ wd * m := Nat.le_mul_of_pos_left m (by omega)
  have hw1 : IntKind.i64.wrap ((wd : Int) * (m : Int)) = ((wd * m : Nat) : Int) := by rw [← Int.natCast_mul]; exact IntWalk.i64_in _ (by omega)
  have hw2 : IntKind.i64.wrap ((n : Int) + ((wd * m : Nat) : Int)) = ((n + wd * m : Nat) : Int) := IntWalk.i64_in _ (by omega)
  clear hb hl
  go_enter Try.func58, Try.ntmps58
  go_wp2_with fail
  refine (mayBe_yes HW.out _).mono ?_
  rintro e w' ⟨rfl, rfl⟩
  clear hw1 hw2
  go_wp2_with (first
    | (refine wpList_make_own _ rfl (.const (.int .i64 0)) (.tmp 22) 22 rfl w.heap.size 5 i0 _ 1 Try.underlying22 hi0 hz0 hz1 .i64 .i64 _ (n + wd * m) rfl rfl (by push_cast; rfl) (by rw [hz2]; omega) (by simp only [maxLen]; omega) (Nat.le_refl _) ?_
       intro w1 hown1 hg1
       have B1 := Lib.hid (Below.grown (Below.refl w.heap.size w) hg1 (Nat.le_refl _) (fun k hk => by cases hk))
       have O1 := Lib.hid hown1
       clear hown1 hg1)
    | (at_builtin
       refine wpList_append_wide _ rfl (.tmp 23) (.tmp 24) _ rfl w.heap.size 5 i0 _ 1 1 Try.underlying22 hi0 hz0 hz1 hz2 rfl (by omega) (.slice (some ⟨w.heap.size, 0, none⟩) 0 (n + wd * m)) 0 [] rfl
         O1.out w.heap.size A n cap (u8s bs) rfl (HB.out.below B1.out) (u8s_one bs) (by simp only [maxLen]; omega) (by omega) B1.out.size ?_
       intro v2 w2 hown2 hg2
       rw [Nat.zero_add, List.nil_append] at hown2
       have B2 := Lib.hid (below_own B1.out hg2 O1.out (Nat.le_refl _) B1.out.size)
       have O2 := Lib.hid hown2
       clear hown2 hg2))
  go_loopw [8, 28] (fun v i W => ∃ j : Nat, j ≤ m ∧ i = .int .i64 j ∧ PutRel wd n bs is w j v W) (fun _ i _ => m - (intOf i).toNat)
  case atStart => exact ⟨0, Nat.zero_le _, rfl, FitTill.zero _ _, by simpa [encL] using O2.out, B2.out⟩
  case round =>
    obtain ⟨j, hj, rfl, hfit, hown, hbel⟩ := hrel
    rename World => W
    have F := Lib.hid hfit
    have O := Lib.hid hown
    have B := Lib.hid hbel
    clear hfit hown hbel
    by_cases hlt : j < m
    · have hjm : n + wd * j + wd ≤ n + wd * m := by have := Nat.mul_le_mul_left wd (show j + 1 ≤ m by omega); rw [Nat.mul_succ] at this; omega
      have hjl : j < is.length := by rw [HLN.out]; exact hlt
      obtain ⟨ad, rfl, hbA, hcA⟩ := (HL.out.below B.out).int_at hjl
      have E := Lib.hid (encL_take_succ wd is hjl)
      have FS := Lib.hid (fun hx => F.out.succ hjl hx)
      have FB := Lib.hid (fun hx => F.out.bad hjl hx)
      generalize is[j] = x at hcA E FS FB
      cases hf : fitsB wd x with
      | false =>
        have HF := Lib.hid hf
        clear hf
        go_wp2_with fail
        refine (fits_any x wd h1 h4 _).mono ?_
        rintro e w' ⟨rfl, rfl⟩
        rw [HF.out]
        go_wp2_with fail
        go_ret2
        exact .inr ⟨j, _, FB.out HF.out, rfl, Blk.new _ _ _, B.out.alloc B.out.size _⟩
      | true =>
        have HF := Lib.hid hf
        clear hf
        go_wp2_with fail
        refine (fits_any x wd h1 h4 _).mono ?_
        rintro e w' ⟨rfl, rfl⟩
        rw [HF.out]
        go_wp2_with fail
        go_loopw [8, 43] (fun v i W => ∃ k : Nat, k ≤ wd ∧ i = .int .i64 k ∧ PutRel2 wd n bs is w j k x v W) (fun _ i _ => wd - (intOf i).toNat)
        case atStart => exact ⟨0, Nat.zero_le _, rfl, by simpa using O.out, B.out⟩
        case round =>
          obtain ⟨k, hk, rfl, hown, hbel⟩ := hrel
          rename World => V
          have O := Lib.hid hown
          have B := Lib.hid hbel
          clear hown hbel
          by_cases hkl : k < wd
          · have hx := (fitsB_iff.1 HF.out).1
            have HBY := Lib.hid (byte_div hx (wd - 1 - k))
            have HT := Lib.hid (encN_take_succ x.toNat wd k hkl)
            generalize UInt8.ofNat (x.toNat / pw (wd - 1 - k)) = c at HBY HT
            clear hx
            go_wp2_with (at_builtin
                         refine wpList_append_wide _ rfl (.tmp 46) (.tmp 55) _ rfl w.heap.size 5 i0 _ 1 1 Try.underlying22 hi0 hz0 hz1 hz2 rfl (by omega) u8 (n + wd * j + k) (u8s (bs ++ encL wd (is.take j) ++ (encN wd x.toNat).take k)) rfl
                           (O.out.alloc _) _ (some ⟨V.heap.size, 0, none⟩) 1 1 (u8s [c]) rfl (reads_new1 V _ _ c HBY.out) (u8s_one _) (by simp only [maxLen]; omega) (by omega) (by have := B.out.size; simp; omega) ?_
                         intro v3 w3 hown3 hg3
                         have B3 := Lib.hid (below_own (B.out.alloc B.out.size _) hg3 (O.out.alloc _) (Nat.le_refl _) (by have := B.out.size; simp; omega))
                         have O3 := Lib.hid hown3
                         clear hown3 hg3)
            go_roundw
            case rel => exact ⟨k + 1, by omega, by go_num, by rw [HT.out, ← List.append_assoc, u8s_append]; exact O3.out, B3.out⟩
            case measure => simp [intOf]; omega
          · obtain rfl : k = wd := by omega
            go_wp2_with fail
            go_roundw
            case rel => exact ⟨j + 1, by omega, by go_num, FS.out HF.out, by have := O.out; rw [show (encN k x.toNat).take k = encN k x.toNat from List.take_of_length_le (by simp [encN_length])] at this; rw [E.out, ← List.append_assoc, Nat.mul_succ, ← Nat.add_assoc]; exact this, B.out⟩
            case measure => simp [intOf]; omega
    · obtain rfl : j = m := by omega
      go_wp2_with fail
      go_ret2
      refine .inl ⟨FitTill.all (by rw [HLN.out]; exact F.out), _, rfl, ?_, B.out⟩
      have := O.out
      rwa [List.take_of_length_le (by rw [HLN.out]; exact Nat.le_refl _)] at this
end Go.Proofs.Ytmjmplkhngpgnaa
/- The contract of the document's Put. -/
namespace Go.Proofs.Ytmjmplkhngpgnaa
open Go.RowKit
set_option linter.unusedVariables false
set_option linter.unusedSimpArgs false


/-- What the document's Put answers. -/
def PutRPost (wd n m : Nat) (bs : List UInt8) (is : List Int) (w : World) (e : Ending) (w' : World) : Prop :=
  (AllFit wd is ∧ ∃ v, e = .returned (.tuple #[v, .int .i64 (-1), .int .i64 0]) ∧ w'.ownsRow w.heap.size 5 1 v (n + wd * m) (u8s (bs ++ encL wd is)) ∧ Below w.heap.size w w') ∨
  (∃ k : Nat, FirstBad wd is k ∧ e = .returned (.tuple #[.slice none 0 0, .int .i64 k, .int .i64 2]) ∧ Below w.heap.size w w')
structure CopyRel (bs : List UInt8) (w : World) (k : Nat) (v : Value) (W : World) : Prop where
  own : W.ownsRow w.heap.size 5 1 v k (u8s (bs.take k))
  bel : Below w.heap.size w W

end Go.Proofs.Ytmjmplkhngpgnaa
/- Layer 3's statements: the document's examples (alive). -/
namespace Go.Proofs.Ytmjmplkhngpgnaa
open Go.RowKit
set_option linter.unusedVariables false
set_option linter.unusedSimpArgs false


theorem Reads.step {w w' : World} {size n : Nat} {A : Option Addr} {xs : List Value} (h : Reads w w.heap.size size A n xs) (hb : Below w.heap.size w w') : Reads w' w'.heap.size size A n xs := (h.below hb).more hb.size
theorem Reads.stepA {w : World} {size n : Nat} {A : Option Addr} {xs : List Value} (h : Reads w w.heap.size size A n xs) (o : Obj) : Reads (w.alloc o) (w.alloc o).heap.size size A n xs := (h.alloc (Nat.le_refl _) o).more (by simp)

/-- Put of numbers that all fit. -/
theorem put_ok {wd : Nat} {is : List Int} (hf : AllFit wd is) (A A' : Option Addr) (n cap m cap' : Nat) (bs : List UInt8) (h1 : 1 ≤ wd) (h4 : wd ≤ 4) (hN : n + wd * m ≤ 211106232532992) (w : World) (hb : Reads w w.heap.size 1 A n (u8s bs)) (hl : Reads w w.heap.size 1 A' m (i64s is)) :
    Calls Try.prog 58 #[.slice A n cap, .int .i64 wd, .slice A' m cap'] w fun e w' => ∃ v, e = .returned (.tuple #[v, .nilIface]) ∧ w'.ownsRow w.heap.size 5 1 v (n + wd * m) (u8s (bs ++ encL wd is)) ∧ Below w.heap.size w w' :=
  (put_any A A' n cap m cap' wd bs is h1 h4 hN w hb hl).mono fun e w' h => by
    rcases h with ⟨_, h⟩ | ⟨k, b, h, _⟩
    · exact h
    · exact (h.notAll hf).elim
theorem put_bad {wd : Nat} {is : List Int} {k : Nat} (hf : FirstBad wd is k) (A A' : Option Addr) (n cap m cap' : Nat) (bs : List UInt8) (h1 : 1 ≤ wd) (h4 : wd ≤ 4) (hN : n + wd * m ≤ 211106232532992) (w : World) (hb : Reads w w.heap.size 1 A n (u8s bs)) (hl : Reads w w.heap.size 1 A' m (i64s is)) :
    Calls Try.prog 58 #[.slice A n cap, .int .i64 wd, .slice A' m cap'] w fun e w' => ∃ b, e = .returned (.tuple #[.slice none 0 0, faultV b]) ∧ FaultAt w' b k 2 ∧ Below w.heap.size w w' :=
  (put_any A A' n cap m cap' wd bs is h1 h4 hN w hb hl).mono fun e w' h => by
    rcases h with ⟨h, _⟩ | ⟨j, b, h, h'⟩
    · exact (hf.notAll h).elim
    · obtain rfl := h.one hf; exact ⟨b, h'⟩

theorem own_slice {w : World} {base n : Nat} {t : TypeId} {v : Value} {xs : List Value} (h : w.ownsRow base t 1 v n xs) : ∃ A cap, v = .slice A n cap ∧ Reads w w.heap.size 1 A n xs ∧ (∀ ad, A = some ad → base ≤ ad.block) := by
  have e : ∃ A c, v = .slice A n c := by
    rcases h.2 with ⟨rfl, h0⟩ | ⟨g', cap', cur, rfl, _⟩
    · subst h0; exact ⟨_, _, rfl⟩
    · exact ⟨_, _, rfl⟩
  obtain ⟨A, c, rfl⟩ := e
  exact ⟨A, c, rfl, Reads.of_own h, fun ad ha => by subst ha; exact ownBlock_ge h ad.block (by simp [Value.ownBlock])⟩

theorem ex_fit : AllFit 2 [1, 258] := by intro x hx; simp at hx; rcases hx with rfl | rfl <;> decide
theorem ex_bytes : encL 2 [1, 258] = [0, 1, 1, 2] := by decide +kernel

end Go.Proofs.Ytmjmplkhngpgnaa
