/- Slices of numbers: their cells; append onto a row of the call's own; the document's Ints. -/
import Derived.Test.YtadnlannbafjpaaGreatQFlats
import Derived.Test.YtadnlannbafjpaaGreatQBase
import Derived.Test.YtadnlannbafjpaaGreatQHeld
import Derived.RegionTactic
import Derived.BigRegion
import Derived.BigQuiet
import Derived.Deep.DeepCutAuto
import Derived.IntWalk
import Derived.Deep.RegionHeld
namespace Go.Proofs.YtadnlannbafjpaaGreat
open Go.RowKit
set_option linter.unusedVariables false
set_option linter.unusedSimpArgs false
theorem i64s_gd {H : List Int} {k : Nat} (h : k < H.length) : (i64s H)[k]? = some (.int .i64 (gd H k)) := by rw [i64s_get h, gd_get h]
theorem own_gd {w : World} {B r n m c : Nat} {t : TypeId} {H : List Int} (h : w.ownsRow B t 1 (.slice (some ⟨r, 0, none⟩) n c) m (i64s H)) {k : Nat} (hk : k < H.length) : w.cell? ⟨r, k, none⟩ = some (.int .i64 (gd H k)) := by
 have := h.cells (g := r) rfl k _ (i64s_gd hk)
 rwa [show (⟨r, 0, none⟩ : Addr).add k = ⟨r, k, none⟩ by unfold Addr.add; split <;> simp_all] at this
section
variable {w : World} {B n : Nat} {A : Option Addr} {l : List Int}
theorem int_cells {A : Option Addr} (h : Reads w B 1 A n (i64s l)) (h0 : 0 < n) : ∃ b off, A = some ⟨b, off, none⟩ ∧ b < B ∧ ∀ j, j < l.length → w.cell? ⟨b, off + j, none⟩ = some (.int .i64 (gd l j)) := by
 obtain ⟨ad, e, hb, hc⟩ := h.2 h0
 have hl : l.length = n := by have := h.1; rw [i64s_length] at this; omega
 obtain ⟨b, off, sp⟩ := ad
 have hsp : sp = none := World.cell?_spot (hc 0 _ (by rw [i64s_get (show 0 < l.length by omega)]))
 subst hsp
 refine ⟨b, off, e, hb, fun j hj => ?_⟩
 have := hc j _ (by rw [i64s_get hj])
 rw [gd_get hj, ← this]
 unfold Addr.add
 split
 · rename_i h; subst h; rfl
 · rfl
end
/-! ### append, of numbers -/
theorem reads_newInts (V : World) (t : TypeId) (ys : List Int) : Reads (V.alloc (.cells (i64s ys).toArray t)) (V.heap.size + 1) 1 (some ⟨V.heap.size, 0, none⟩) ys.length (i64s ys) :=
 ⟨by rw [i64s_length]; omega, fun _ => ⟨_, rfl, by simp, fun j u hu => by
   have h1 := (Blk.new V t (i64s ys).toArray).cell j
   have h2 : (⟨V.heap.size, 0, none⟩ : Addr).add j = ⟨V.heap.size, j, none⟩ := by unfold Addr.add; split <;> simp_all
   rw [h2, h1]; simpa using hu⟩⟩
theorem readsI_blk {w : World} {g : Nat} {t : TypeId} {ys : List Int} (h : Blk w g t (i64s ys).toArray) : Reads w w.heap.size 1 (some ⟨g, 0, none⟩) ys.length (i64s ys) :=
 ⟨by rw [i64s_length]; omega, fun _ => ⟨_, rfl, h.lt, fun j u hu => by
   have h1 := h.cell j
   have h2 : (⟨g, 0, none⟩ : Addr).add j = ⟨g, j, none⟩ := by unfold Addr.add; split <;> simp_all
   rw [h2, h1]; simpa using hu⟩⟩
section
variable {ops : Array Oper} {rest : List Oper} {o : Oper} {a : Act} {Q : Exit → Act → World → Prop}
theorem wpList_app_reads (w : World) (hgd : o.guard = none) (s x : Operand) (t : TypeId) (ho : o.op = .call { callee := .builtin .append, args := #[s, x], argTypes := #[t, t] }) (ht : Tryz.prog.underlying t = some (.slice 3))
   (base : Nat) (v : Value) (n : Nat) (xs : List Int) (hs : a.eval s = v) (hown : w.ownsRow base 3 1 v n (i64s xs)) (B : Nat) (A : Option Addr) (m c : Nat) (ys : List Int) (hx : a.eval x = .slice A m c) (hr : Reads w B 1 A m (i64s ys))
   (hn : n + m ≤ 1000000) (hb : base ≤ w.heap.size)
   (h : ∀ v' w', w'.ownsRow base 3 1 v' (n + m) (i64s (xs ++ ys)) → w.grownBy w' v.ownBlock → (v'.ownBlock = v.ownBlock ∨ v'.ownBlock = some w.heap.size) → wpList Tryz.prog ops Q rest (a.put o.dst v') w') : wpList Tryz.prog ops Q (o :: rest) a w := by
 obtain ⟨i0, hi0, hz0, hz1, hz2⟩ := info_parts info_int
 refine wpList_append_any w hgd s x t ho base 3 i0 _ 1 8 ht hi0 hz0 hz1 hz2 rfl (by omega) v n (i64s xs) hs hown B A m c (i64s ys) hx hr (i64s_one _) (by simp only [maxLen]; omega) (by omega) hb ?_
 intro v' w' h1 h2 h3
 rw [show i64s xs ++ i64s ys = i64s (xs ++ ys) by simp [i64s]] at h1
 exact h v' w' h1 h2 h3
theorem wpList_app_new (w : World) (hgd : o.guard = none) (s x : Operand) (t : TypeId) (ho : o.op = .call { callee := .builtin .append, args := #[s, x], argTypes := #[t, t] }) (ht : Tryz.prog.underlying t = some (.slice 3))
   (base : Nat) (v : Value) (n : Nat) (xs : List Int) (hs : a.eval s = v) (hown : w.ownsRow base 3 1 v n (i64s xs)) (ys : List Int) (m c : Nat) (V : World) (T : TypeId) (hw : w = V.alloc (.cells (i64s ys).toArray T)) (g : Nat) (hx : a.eval x = .slice (some ⟨g, 0, none⟩) m c) (hg : g = V.heap.size) (hm : m = ys.length)
   (hn : n + m ≤ 1000000) (hb : base ≤ w.heap.size)
   (h : ∀ v' w', w'.ownsRow base 3 1 v' (n + m) (i64s (xs ++ ys)) → w.grownBy w' v.ownBlock → (v'.ownBlock = v.ownBlock ∨ v'.ownBlock = some w.heap.size) → wpList Tryz.prog ops Q rest (a.put o.dst v') w') : wpList Tryz.prog ops Q (o :: rest) a w := by
 subst hm hg
 refine wpList_app_reads w hgd s x t ho ht base v n xs hs hown (V.heap.size + 1) _ _ c ys hx (by rw [hw]; exact reads_newInts V T ys) hn hb h
end
theorem fm_length {α : Type} {enc : α → List Value} {n : Nat} (hn : ∀ a, (enc a).length = n) : ∀ L : List α, (L.flatMap enc).length = L.length * n
 | [] => by simp
 | a :: r => by rw [List.flatMap_cons, List.length_append, fm_length hn r, hn, List.length_cons, Nat.succ_mul]; omega
theorem fm_get {α : Type} {enc : α → List Value} {n : Nat} (hn : ∀ a, (enc a).length = n) : ∀ {L : List α} {i k : Nat} (hi : i < L.length), k < n → (L.flatMap enc)[i * n + k]? = (enc L[i])[k]?
 | [], i, k, hi, _ => by simp at hi
 | a :: r, 0, k, hi, hk => by rw [List.flatMap_cons, Nat.zero_mul, Nat.zero_add, List.getElem?_append_left (by rw [hn]; exact hk)]; rfl
 | a :: r, i + 1, k, hi, hk => by
   rw [List.flatMap_cons, List.getElem?_append_right (by rw [hn, Nat.succ_mul]; omega), hn, show (i + 1) * n + k - n = i * n + k by rw [Nat.succ_mul]; omega, fm_get hn (by simpa using hi) hk]
   rfl
section
variable {α : Type} {enc : α → List Value} {w : World} {B n m : Nat} {A : Option Addr} {L : List α}
end
structure Cl where
 tx : Int
 dead : Bool
 since : Int
def clv (c : Cl) : List Value := [.int .i64 c.tx, .bool c.dead, .int .i64 c.since]
def cls (L : List Cl) : List Value := L.flatMap clv
theorem clv_length (c : Cl) : (clv c).length = 3 := rfl
theorem cls_length (L : List Cl) : (cls L).length = L.length * 3 := fm_length clv_length L
def ofL (tx : Int) : List Cl → Int
 | [] => 0
 | c :: r => if 0 < tx ∧ c.tx = tx then 1 else if ofL tx r = 0 then 0 else ofL tx r + 1
theorem ofL_nonneg (tx : Int) : ∀ L : List Cl, 0 ≤ ofL tx L
 | [] => Int.le_refl _
 | c :: r => by have := ofL_nonneg tx r; unfold ofL; split; omega; split <;> omega
theorem ofL_miss {tx : Int} : ∀ {L : List Cl}, (∀ c ∈ L, ¬ (0 < tx ∧ c.tx = tx)) → ofL tx L = 0
 | [], _ => rfl
 | c :: r, h => by rw [ofL, if_neg (h c (by simp)), if_pos (ofL_miss fun x hx => h x (by simp [hx]))]
theorem ofL_hit {tx : Int} : ∀ {L : List Cl} {k : Nat} (h : k < L.length), (∀ c ∈ L.take k, ¬ (0 < tx ∧ c.tx = tx)) → 0 < tx → L[k].tx = tx → ofL tx L = k + 1
 | [], k, h, _, _, _ => by simp at h
 | c :: r, 0, h, _, h0, he => by rw [ofL, if_pos ⟨h0, he⟩]; rfl
 | c :: r, k + 1, h, ha, h0, he => by
   have h1 := ha c (by simp)
   have h2 := ofL_hit (L := r) (k := k) (by simpa using h) (fun x hx => ha x (by simp [hx])) h0 he
   rw [ofL, if_neg h1, h2, if_neg (by omega)]
   simp
theorem ofL_le (tx : Int) : ∀ L : List Cl, ofL tx L ≤ L.length
 | [] => by simp [ofL]
 | c :: r => by
   have := ofL_le tx r
   have := ofL_nonneg tx r
   unfold ofL; rw [List.length_cons]; split
   · omega
   · split <;> omega
theorem ofL_get {tx : Int} : ∀ {L : List Cl}, ofL tx L ≠ 0 → ∃ h : (ofL tx L - 1).toNat < L.length, 0 < tx ∧ L[(ofL tx L - 1).toNat].tx = tx
 | [], h => absurd rfl h
 | c :: r, h => by
   by_cases h1 : 0 < tx ∧ c.tx = tx
   · have e : ofL tx (c :: r) = 1 := by rw [ofL, if_pos h1]
     simp only [e]
     exact ⟨by simp, h1.1, h1.2⟩
   · by_cases h2 : ofL tx r = 0
     · exact absurd (by rw [ofL, if_neg h1, if_pos h2]) h
     · have e : ofL tx (c :: r) = ofL tx r + 1 := by rw [ofL, if_neg h1, if_neg h2]
       obtain ⟨h3, h4, h5⟩ := ofL_get (L := r) h2
       have := ofL_nonneg tx r
       have e2 : (ofL tx (c :: r) - 1).toNat = (ofL tx r - 1).toNat + 1 := by rw [e]; omega
       simp only [e2]
       exact ⟨by simp; omega, h4, h5⟩
def isT (x : Int) : Bool := decide (0 ≤ x ∧ x ≤ 1099511627776)
theorem isT_iff {x : Int} : isT x = true ↔ 0 ≤ x ∧ x ≤ 1099511627776 := by unfold isT; simp
def noCl : Cl := ⟨0, false, 0⟩
def clAt (L : List Cl) (k : Nat) : Cl := L.getD k noCl
theorem clAt_get {L : List Cl} {k : Nat} (h : k < L.length) : clAt L k = L[k] := by simp [clAt, List.getD, h]
def beginL (L : List Cl) (id tx : Int) : List Cl × Int :=
 if id < 1 ∨ (L.length : Int) < id then (L, 10) else if tx < 1 ∨ 1048576 < tx then (L, 1) else
 if (clAt L (id - 1).toNat).dead then (L, 11) else if 0 < (clAt L (id - 1).toNat).tx then (L, 8) else if 0 < ofL tx L then (L, 15) else
 (L.set (id - 1).toNat { clAt L (id - 1).toNat with tx := tx }, 0)
def endL (L : List Cl) (tx : Int) : List Cl × Int :=
 if ofL tx L = 0 then (L, 10) else (L.set (ofL tx L - 1).toNat { clAt L (ofL tx L - 1).toNat with tx := 0 }, 0)
def crashL (L : List Cl) (id now : Int) : List Cl × Int :=
 if id < 1 ∨ (L.length : Int) < id then (L, 10) else if isT now = false then (L, 1) else
 if (clAt L (id - 1).toNat).dead then (L, 11) else (L.set (id - 1).toNat { clAt L (id - 1).toNat with dead := true, since := now }, 0)
theorem beginL_in (L : List Cl) (tx : Int) {id : Int} (e0 : ¬ (id < 1 ∨ (L.length : Int) < id)) (e1 : ¬ (tx < 1 ∨ 1048576 < tx)) :
   beginL L id tx = (if (clAt L (id - 1).toNat).dead = false ∧ ¬ 0 < (clAt L (id - 1).toNat).tx ∧ ¬ 0 < ofL tx L then L.set (id - 1).toNat { clAt L (id - 1).toNat with tx := tx } else L,
     if (clAt L (id - 1).toNat).dead then 11 else if 0 < (clAt L (id - 1).toNat).tx then 8 else if 0 < ofL tx L then 15 else 0) := by
 unfold beginL
 rw [if_neg e0, if_neg e1]
 generalize clAt L (id - 1).toNat = x
 obtain ⟨xt, xd, xs⟩ := x
 generalize ofL tx L = v
 cases xd
 · by_cases h2 : 0 < xt
   · simp [h2]
   · by_cases h3 : 0 < v
     · simp [h2, h3]
     · simp [h2, h3]
 · simp
section
variable {w : World} {B n : Nat} {A : Option Addr} {l : List Int}
end
def isLost (now span : Int) (c : Cl) : Bool := c.dead && decide (0 < c.tx) && decide (span ≤ now - c.since)
def lostL (now span : Int) (L : List Cl) : List Int := (L.filter (isLost now span)).map (·.tx)
def lostIds (now span : Int) (L : List Cl) : List Int := if isT now ∧ 0 ≤ span then lostL now span L else []
theorem lostL_succ (now span : Int) {L : List Cl} {k : Nat} (h : k < L.length) : lostL now span (L.take (k + 1)) = lostL now span (L.take k) ++ (if isLost now span L[k] then [L[k].tx] else []) := by
 unfold lostL
 rw [List.take_add_one, List.getElem?_eq_getElem h, Option.toList_some, List.filter_append, List.map_append, List.filter_cons]
 split <;> simp
theorem lostL_length (now span : Int) (L : List Cl) : (lostL now span L).length ≤ L.length := by unfold lostL; rw [List.length_map]; exact List.length_filter_le _ _
end Go.Proofs.YtadnlannbafjpaaGreat
