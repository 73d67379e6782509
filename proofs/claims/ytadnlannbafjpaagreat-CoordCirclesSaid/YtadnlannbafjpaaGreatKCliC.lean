/- Numbers as bytes, as plain lists: no word of the program. -/
import Derived.IntWalk
import Derived.Test.YtadnlannbafjpaaGreatKBase
import Derived.Deep.DeepAppendWide
import Derived.Deep.QuietTactic
import Derived.BigQuiet
import Derived.OwnWalk
import Derived.Deep.RegionHeld
import Derived.Test.YtadnlannbafjpaaGreatKGraM
import Derived.RegionTactic
import Derived.BigRegion
import Derived.Deep.DeepCutAuto
import Derived.Test.YtadnlannbafjpaaGreatKShelfS
import Derived.Lib.OwnBridge
import Derived.Lib.SlKeysI
import Derived.Test.YtadnlannbafjpaaGreatRows
import Derived.ProofKit
import Derived.OpenShut
import Derived.ShutString
import Derived.ChangeOld
import Derived.Carry
import Derived.ChangeArms
import Derived.ChangeSame
import Derived.SizedLaws
import Derived.Deep.Slices
import Derived.DataReads
namespace Go.Proofs.YtadnlannbafjpaaGreat
set_option linter.unusedVariables false
set_option linter.unusedSimpArgs false
def pw : Nat → Nat
  | 0 => 1
  | k + 1 => 256 * pw k
def fitsB (w : Nat) (x : Int) : Bool := decide (0 ≤ x ∧ x < pw w)
def AllFit (w : Nat) (l : List Int) : Prop := ∀ x ∈ l, fitsB w x = true
def FirstBad (w : Nat) (l : List Int) (k : Nat) : Prop := ∃ h : k < l.length, fitsB w l[k] = false ∧ ∀ j (hj : j < k), fitsB w (l[j]'(by omega)) = true
def FitTill (w : Nat) (l : List Int) (k : Nat) : Prop := ∀ j (hj : j < l.length), j < k → fitsB w l[j] = true
theorem FitTill.zero (w : Nat) (l : List Int) : FitTill w l 0 := fun j hj h => absurd h (by omega)
theorem FitTill.succ {w : Nat} {l : List Int} {k : Nat} (h : FitTill w l k) (hk : k < l.length) (hf : fitsB w l[k] = true) : FitTill w l (k + 1) := fun j hj hjk => by
  by_cases e : j = k
  · subst e; exact hf
  · exact h j hj (by omega)
theorem FitTill.all {w : Nat} {l : List Int} (h : FitTill w l l.length) : AllFit w l := fun x hx => by
  obtain ⟨j, hj, rfl⟩ := List.getElem_of_mem hx
  exact h j hj hj
theorem FirstBad.one {w : Nat} {l : List Int} {k j : Nat} (h : FirstBad w l k) (g : FirstBad w l j) : k = j := by
  obtain ⟨h1, h2, h3⟩ := h
  obtain ⟨g1, g2, g3⟩ := g
  rcases Nat.lt_trichotomy k j with c | c | c
  · have := g3 k c; rw [h2] at this; cases this
  · exact c
  · have := h3 j c; rw [g2] at this; cases this
end Go.Proofs.YtadnlannbafjpaaGreat
/- Slices of bytes and of integers, as lists; append of them; the document's Same. -/
namespace Go.Proofs.YtadnlannbafjpaaGreat
open Go.RowKit
set_option linter.unusedVariables false
set_option linter.unusedSimpArgs false
def i64s (l : List Int) : List Value := l.map (Value.int .i64)
theorem i64s_length (l : List Int) : (i64s l).length = l.length := by simp [i64s]
theorem i64s_one (l : List Int) : ∀ u ∈ i64s l, u.oneCell' = true := by
  intro u hu; obtain ⟨c, _, rfl⟩ := List.mem_map.1 hu; rfl
theorem i64s_get {l : List Int} {k : Nat} (h : k < l.length) : (i64s l)[k]? = some (.int .i64 l[k]) := by simp [i64s, h]
theorem info_int : (Tryz.prog.info? 3).map (fun i => (i.zero, i.size, i.bytes)) = some (some (.int .i64 0), 1, 8) := by kernel_rfl
/-! ### append onto a row of the call's own, with growslice's wider bound -/
section
variable {P : Program} (w : World)
end
theorem ownBlock_ge {w : World} {base : Nat} {e : TypeId} {size n : Nat} {v : Value} {xs : List Value} (h : w.ownsRow base e size v n xs) : ∀ g, v.ownBlock = some g → base ≤ g := by
  intro g hg
  rcases h.2 with ⟨rfl, _⟩ | ⟨g', cap, cur, rfl, hb, _⟩
  · simp [Value.ownBlock] at hg
  · simp [Value.ownBlock] at hg; omega
theorem below_own {B : Nat} {a w w' : World} {base : Nat} {e : TypeId} {size n : Nat} {v : Value} {xs : List Value} (h : Below B a w) (hg : w.grownBy w' v.ownBlock) (ho : w.ownsRow base e size v n xs) (hB : B ≤ base) (hw : B ≤ w.heap.size) : Below B a w' :=
  h.grown hg hw fun k hk => by have := ownBlock_ge ho k hk; omega
end Go.Proofs.YtadnlannbafjpaaGreat
/- A region that draws its order, and whose last operation writes what others of it load. -/
namespace Go.Proofs.YtadnlannbafjpaaGreat
open Go.RowKit
section
variable {P : Program} {ops : Array Oper} {Q : Exit → Act → World → Prop} {md : Region.Mode} {S : World → Prop} {late : Nat}
def wpTill (P : Program) (md : Region.Mode) (ops : Array Oper) (Q : Exit → Act → World → Prop) (S : World → Prop) (late : Nat) : Nat → Array Bool → Act → World → Prop
  | 0, done, a, w => Region.ready md ops done = [] ∧ Q .normal a w
  | n + 1, done, a, w => (Region.ready md ops done = [] → Q .normal a w) ∧
    ∀ i ∈ Region.ready md ops done, wpOp P ops Q i (fun b v => ((done.setIfInBounds i true).getD late true = false → S v) ∧ wpTill P md ops Q S late n (done.setIfInBounds i true) b v) a w
theorem wpTill.any : ∀ (n : Nat) (done : Array Bool) (a : Act) (w : World), wpTill P md ops Q S late n done a w → wpAny P md ops Q n done a w
  | 0, _, _, _, h => h
  | n + 1, _, _, _, h => ⟨h.1, fun i hi => wpOp_mono (fun _ _ h' => wpTill.any n _ _ _ h'.2) (h.2 i hi)⟩
theorem wpTill_first {i : Nat} {o ol : Oper} {v : Value} (hi : ops[i]? = some o) (hol : ops[late]? = some ol) (hwait : ∃ e ∈ ol.after, Region.binds md e = true ∧ e.on = i) (hne : late ≠ i)
    (hsel : ∀ (j : Nat) (o : Oper) cs b, ops[j]? = some o → o.op ≠ .select cs b) (hQ : ∀ c a w, Q (.panic c) (a.put o.dst v) w → Q (.panic c) a w) :
    ∀ (n : Nat) (done : Array Bool) (a : Act) (w : World), done.getD late true = false →
      (∀ j oj, ops[j]? = some oj → j ≠ i → done.getD j true = false → (∀ e ∈ oj.after, Region.binds md e = true → e.on ≠ i) → o.apart ops oj = true) →
      i ∈ Region.ready md ops done → YieldsIf P ops S o v a → S w → wpTill P md ops Q S late n (done.setIfInBounds i true) (a.put o.dst v) w → wpTill P md ops Q S late (n + 1) done a w := by
  intro n
  induction n with
  | zero =>
    intro done a w _ _ hr hy hS H
    refine ⟨fun h => (by rw [h] at hr; cases hr), fun j hj => ?_⟩
    by_cases hji : j = i
    · subst hji; exact hy.wpOp hi hS ⟨fun _ => hS, H⟩
    · have := ready_mono hj hji
      rw [H.1] at this
      cases this
  | succ n ih =>
    intro done a w hlate hfree hr hy hS H
    refine ⟨fun h => (by rw [h] at hr; cases hr), fun j hj => ?_⟩
    by_cases hji : j = i
    · subst hji; exact hy.wpOp hi hS ⟨fun _ => hS, H⟩
    · have h1 := H.2 j (ready_mono hj hji)
      obtain ⟨hjun, oj, hoj, hall⟩ := mem_ready.1 hj
      have hnot : ∀ e ∈ oj.after, Region.binds md e = true → e.on ≠ i := fun e he hb heq => by
        have h1 := hall e he hb
        have h0 := (mem_ready.1 hr).1
        rw [heq] at h1
        rcases Nat.lt_or_ge i done.size with h' | h'
        · simp [h'] at h0 h1; rw [h0] at h1; cases h1
        · simp [Array.getElem?_eq_none h'] at h1
      have hjl : j ≠ late := fun e => by
        subst e
        rw [hoj] at hol; cases hol
        obtain ⟨e, he, hb, hon⟩ := hwait
        exact hnot e he hb hon
      have hl' : (done.setIfInBounds j true).getD late true = false := by rw [getD_set_ne true hjl]; exact hlate
      have hl'' : ((done.setIfInBounds i true).setIfInBounds j true).getD late true = false := by rw [getD_set_ne true hjl, getD_set_ne true (Ne.symm hne)]; exact hlate
      have h2 := wpOp_putIf hoj (hfree j oj hoj hji hjun hnot) (fun cs b => hsel i o cs b hi) (fun cs b => hsel j oj cs b hoj) hQ hy h1
      refine wpOp_mono (fun b u h3 => ⟨fun _ => h3.2.1 hl'', ih (done.setIfInBounds j true) b u hl' (fun k ok hk hki hun hno => ?_) (ready_mono hr (Ne.symm hji)) h3.1 (h3.2.1 hl'') ?_⟩) h2
      · refine hfree k ok hk hki ?_ hno
        by_cases hjk : j = k
        · subst hjk; exact hjun
        · rw [getD_set_ne true hjk] at hun; exact hun
      · rw [Array.setIfInBounds_comm _ _ hji]
        exact h3.2.2
def waitsB (md : Region.Mode) (ops : Array Oper) (late i : Nat) (done : Array Bool) : Bool :=
  decide (late ≠ i) && ((done.getD late true == false) && (match ops[late]? with | some o => o.after.any (fun e => Region.binds md e && decide (e.on = i)) | none => false))
theorem wpTill_take {i : Nat} {o : Oper} {v : Value} {n : Nat} {done : Array Bool} {a : Act} {w : World} (hi : ops[i]? = some o)
    (hs : Region.noSelect ops = true) (hf : Region.free md ops done i = true) (hr : (Region.ready md ops done).contains i = true) (hw : waitsB md ops late i done = true)
    (hQ : ∀ c a w, Q (.panic c) (a.put o.dst v) w → Q (.panic c) a w) (hy : YieldsIf P ops S o v a) (hS : S w)
    (h : wpTill P md ops Q S late n (done.setIfInBounds i true) (a.put o.dst v) w) : wpTill P md ops Q S late (n + 1) done a w := by
  unfold waitsB at hw
  rw [Bool.and_eq_true, Bool.and_eq_true] at hw
  obtain ⟨h1, h2, h3⟩ := hw
  cases hol : ops[late]? with
  | none => rw [hol] at h3; cases h3
  | some ol =>
    rw [hol] at h3
    obtain ⟨k, hk, hb⟩ := Array.any_eq_true.1 h3
    rw [Bool.and_eq_true] at hb
    exact wpTill_first hi hol ⟨_, Array.getElem_mem hk, hb.1, of_decide_eq_true hb.2⟩ (of_decide_eq_true h1) (Region.noSelect_spec hs) hQ n done a w (by simpa using h2) (Region.free_spec hi hf) (by simpa using hr) hy hS h
def AllTill (P : Program) (md : Region.Mode) (ops : Array Oper) (Q : Exit → Act → World → Prop) (S : World → Prop) (late n : Nat) (done : Array Bool) (a : Act) (w : World) (rs : List Nat) : Prop :=
  ∀ i ∈ rs, wpOp P ops Q i (fun b v => ((done.setIfInBounds i true).getD late true = false → S v) ∧ wpTill P md ops Q S late n (done.setIfInBounds i true) b v) a w
theorem AllTill.nil {n : Nat} {done : Array Bool} {a : Act} {w : World} : AllTill P md ops Q S late n done a w [] := fun _ h => by cases h
theorem AllTill.cons {n : Nat} {done : Array Bool} {a : Act} {w : World} {i : Nat} {o : Oper} {rs : List Nat} (ho : ops[i]? = some o)
    (h : ∀ K : Act → World → Prop, Shut (∀ a w, S w → (S w → wpTill P md ops Q S late n (done.setIfInBounds i true) a w) → K a w) → if Region.wanted o (yielded ops a.tmps) = true then Oper.wp P o a w K Q else K (a.put o.dst undef) w)
    (hs : AllTill P md ops Q S late n done a w rs) : AllTill P md ops Q S late n done a w (i :: rs) := fun j hj => by
  rcases List.mem_cons.1 hj with rfl | hj
  · exact wpOp_step ho (fun K hK => h K (fun a w hS hW => hK a w ⟨fun _ => hS, hW hS⟩))
  · exact hs j hj
theorem AllTill.last {n : Nat} {done : Array Bool} {a : Act} {w : World} {o : Oper} (ho : ops[late]? = some o) (hlt : late < done.size)
    (h : ∀ K : Act → World → Prop, Shut (∀ a w, wpTill P md ops Q S late n (done.setIfInBounds late true) a w → K a w) → if Region.wanted o (yielded ops a.tmps) = true then Oper.wp P o a w K Q else K (a.put o.dst undef) w) :
    AllTill P md ops Q S late n done a w [late] := fun j hj => by
  obtain rfl : j = late := by simpa using hj
  exact wpOp_step ho (fun K hK => h K (fun a w hW => hK a w ⟨fun hf => by simp [hlt] at hf, hW⟩))
theorem AllTill.past {n : Nat} {done : Array Bool} {a : Act} {w : World} {i : Nat} {o : Oper} (ho : ops[i]? = some o) (hd : (done.setIfInBounds i true).getD late true = true)
    (h : ∀ K : Act → World → Prop, Shut (∀ a w, wpTill P md ops Q S late n (done.setIfInBounds i true) a w → K a w) → if Region.wanted o (yielded ops a.tmps) = true then Oper.wp P o a w K Q else K (a.put o.dst undef) w) :
    AllTill P md ops Q S late n done a w [i] := fun j hj => by
  obtain rfl : j = i := by simpa using hj
  exact wpOp_step ho (fun K hK => h K (fun a w hW => hK a w ⟨fun hf => (by rw [hd] at hf; cases hf), hW⟩))
theorem wpTill_ready {rs : List Nat} {n : Nat} {done : Array Bool} {a : Act} {w : World} (hr : Region.ready md ops done = rs) (hne : rs ≠ [])
    (h : AllTill P md ops Q S late n done a w rs) : wpTill P md ops Q S late (n + 1) done a w := ⟨fun h0 => absurd (hr ▸ h0) hne, hr ▸ h⟩
theorem wpTill_done {done : Array Bool} {a : Act} {w : World} (hr : Region.ready md ops done = []) (h : Q .normal a w) : ∀ n, wpTill P md ops Q S late n done a w
  | 0 => ⟨hr, h⟩
  | _ + 1 => ⟨fun _ => h, by rw [hr]; simp⟩
theorem wp_region_till {id : Nat} {a : Act} {w : World} (late : Nat) (S : World → Prop) (hm : P.follows .mixedOrders = true) (hS : S w.drew)
    (h : S w.drew → wpTill P .any ops Q S late ops.size (Array.replicate ops.size false) a w.drew) : (Code.region id ops true).wp P Q a w :=
  wp_region_any hm (wpTill.any _ _ _ _ (h hS))
end
end Go.Proofs.YtadnlannbafjpaaGreat
/- Slices of numbers: their cells; append onto a row of the call's own; the document's Ints. -/
namespace Go.Proofs.YtadnlannbafjpaaGreat
open Go.RowKit
set_option linter.unusedVariables false
set_option linter.unusedSimpArgs false
theorem i64s_gd {H : List Int} {k : Nat} (h : k < H.length) : (i64s H)[k]? = some (.int .i64 (gd H k)) := by rw [i64s_get h, gd_get h]
theorem own_gd {w : World} {B r n m c : Nat} {t : TypeId} {H : List Int} (h : w.ownsRow B t 1 (.slice (some ⟨r, 0, none⟩) n c) m (i64s H)) {k : Nat} (hk : k < H.length) : w.cell? ⟨r, k, none⟩ = some (.int .i64 (gd H k)) := by
  have := h.cells (g := r) rfl k _ (i64s_gd hk)
  rwa [show (⟨r, 0, none⟩ : Addr).add k = ⟨r, k, none⟩ by unfold Addr.add; split <;> simp_all] at this
section
variable {w : World} {B n : Nat} {A : Option Addr} {l : List Int}
theorem int_cells {A : Option Addr} (h : Reads w B 1 A n (i64s l)) (h0 : 0 < n) : ∃ b off, A = some ⟨b, off, none⟩ ∧ b < B ∧ ∀ j, j < l.length → w.cell? ⟨b, off + j, none⟩ = some (.int .i64 (gd l j)) := by
  obtain ⟨ad, e, hb, hc⟩ := h.2 h0
  have hl : l.length = n := by have := h.1; rw [i64s_length] at this; omega
  obtain ⟨b, off, sp⟩ := ad
  have hsp : sp = none := World.cell?_spot (hc 0 _ (by rw [i64s_get (show 0 < l.length by omega)]))
  subst hsp
  refine ⟨b, off, e, hb, fun j hj => ?_⟩
  have := hc j _ (by rw [i64s_get hj])
  rw [gd_get hj, ← this]
  unfold Addr.add
  split
  · rename_i h; subst h; rfl
  · rfl
end
/-! ### append, of numbers -/
theorem reads_newInts (V : World) (t : TypeId) (ys : List Int) : Reads (V.alloc (.cells (i64s ys).toArray t)) (V.heap.size + 1) 1 (some ⟨V.heap.size, 0, none⟩) ys.length (i64s ys) :=
  ⟨by rw [i64s_length]; omega, fun _ => ⟨_, rfl, by simp, fun j u hu => by
    have h1 := (Blk.new V t (i64s ys).toArray).cell j
    have h2 : (⟨V.heap.size, 0, none⟩ : Addr).add j = ⟨V.heap.size, j, none⟩ := by unfold Addr.add; split <;> simp_all
    rw [h2, h1]; simpa using hu⟩⟩
theorem readsI_blk {w : World} {g : Nat} {t : TypeId} {ys : List Int} (h : Blk w g t (i64s ys).toArray) : Reads w w.heap.size 1 (some ⟨g, 0, none⟩) ys.length (i64s ys) :=
  ⟨by rw [i64s_length]; omega, fun _ => ⟨_, rfl, h.lt, fun j u hu => by
    have h1 := h.cell j
    have h2 : (⟨g, 0, none⟩ : Addr).add j = ⟨g, j, none⟩ := by unfold Addr.add; split <;> simp_all
    rw [h2, h1]; simpa using hu⟩⟩
section
variable {ops : Array Oper} {rest : List Oper} {o : Oper} {a : Act} {Q : Exit → Act → World → Prop}
theorem wpList_app_reads (w : World) (hgd : o.guard = none) (s x : Operand) (t : TypeId) (ho : o.op = .call { callee := .builtin .append, args := #[s, x], argTypes := #[t, t] }) (ht : Tryz.prog.underlying t = some (.slice 3))
    (base : Nat) (v : Value) (n : Nat) (xs : List Int) (hs : a.eval s = v) (hown : w.ownsRow base 3 1 v n (i64s xs)) (B : Nat) (A : Option Addr) (m c : Nat) (ys : List Int) (hx : a.eval x = .slice A m c) (hr : Reads w B 1 A m (i64s ys))
    (hn : n + m ≤ 1000000) (hb : base ≤ w.heap.size)
    (h : ∀ v' w', w'.ownsRow base 3 1 v' (n + m) (i64s (xs ++ ys)) → w.grownBy w' v.ownBlock → (v'.ownBlock = v.ownBlock ∨ v'.ownBlock = some w.heap.size) → wpList Tryz.prog ops Q rest (a.put o.dst v') w') : wpList Tryz.prog ops Q (o :: rest) a w := by
  obtain ⟨i0, hi0, hz0, hz1, hz2⟩ := info_parts info_int
  refine wpList_append_any w hgd s x t ho base 3 i0 _ 1 8 ht hi0 hz0 hz1 hz2 rfl (by omega) v n (i64s xs) hs hown B A m c (i64s ys) hx hr (i64s_one _) (by simp only [maxLen]; omega) (by omega) hb ?_
  intro v' w' h1 h2 h3
  rw [show i64s xs ++ i64s ys = i64s (xs ++ ys) by simp [i64s]] at h1
  exact h v' w' h1 h2 h3
theorem wpList_app_new (w : World) (hgd : o.guard = none) (s x : Operand) (t : TypeId) (ho : o.op = .call { callee := .builtin .append, args := #[s, x], argTypes := #[t, t] }) (ht : Tryz.prog.underlying t = some (.slice 3))
    (base : Nat) (v : Value) (n : Nat) (xs : List Int) (hs : a.eval s = v) (hown : w.ownsRow base 3 1 v n (i64s xs)) (ys : List Int) (m c : Nat) (V : World) (T : TypeId) (hw : w = V.alloc (.cells (i64s ys).toArray T)) (g : Nat) (hx : a.eval x = .slice (some ⟨g, 0, none⟩) m c) (hg : g = V.heap.size) (hm : m = ys.length)
    (hn : n + m ≤ 1000000) (hb : base ≤ w.heap.size)
    (h : ∀ v' w', w'.ownsRow base 3 1 v' (n + m) (i64s (xs ++ ys)) → w.grownBy w' v.ownBlock → (v'.ownBlock = v.ownBlock ∨ v'.ownBlock = some w.heap.size) → wpList Tryz.prog ops Q rest (a.put o.dst v') w') : wpList Tryz.prog ops Q (o :: rest) a w := by
  subst hm hg
  refine wpList_app_reads w hgd s x t ho ht base v n xs hs hown (V.heap.size + 1) _ _ c ys hx (by rw [hw]; exact reads_newInts V T ys) hn hb h
end
end Go.Proofs.YtadnlannbafjpaaGreat
/- slices.Sort at a row of the call's own. -/
namespace Go.Proofs.YtadnlannbafjpaaGreat
open Go.RowKit Go.Maps Go.Sort Go.Shelf
set_option linter.unusedVariables false
set_option linter.unusedSimpArgs false
section
variable {w : World} {B n : Nat} {v : Value} {l : List Int}
theorem sort_own (w : World) (h : w.ownsRow B 3 1 v n (i64s l)) (hn : n < 4611686018427387904) :
    Calls Tryz.prog 107 #[v] w fun e w' => e = .returned (.tuple #[]) ∧ w'.ownsRow B 3 1 v n (i64s (srt l)) ∧ Turn (fun k => v.ownBlock = some k) w w' := by
  have hl : l.length = n := by have := h.1; rw [i64s_length] at this; omega
  rcases h.2 with ⟨rfl, h0⟩ | ⟨gb, cap, cur, rfl, hbase, hgb, r1, r2, r3, r4⟩
  · have hs : l = [] := List.eq_nil_of_length_eq_zero (by omega)
    subst hs
    have hc := AnyM.slices_Sort_int_none Tryz.laysSort none 0 w
    change Calls Tryz.prog 107 _ _ _ at hc
    exact hc.mono fun e w' ⟨h1, h2⟩ => by
      subst h2
      exact ⟨h1, by simpa [srt] using h, Turn.refl _ _⟩
  · have hH : Holds encZ w gb 0 l.toArray := holds_of_block_i hgb (by rw [Nat.mul_one] at r4; rw [hl]; exact r4)
    have hgl := (Array.getElem?_eq_some_iff.1 hgb).1
    have hc := AnyM.slices_Sort_int Tryz.laysSort gb 0 cap l w hH hgl (by omega)
    change Calls Tryz.prog 107 _ _ _ at hc
    rw [hl] at hc
    refine hc.mono fun e w' ⟨h1, nn, os, h2⟩ => ?_
    subst h2
    refine ⟨h1, ?_, (Turn.refl _ _).grown (grownBy_sorted_i _) fun k hk _ => hk⟩
    have := ownsRow_sorted_i (w := w) (n := nn) (os := os) (ts := srt l) (ss := l) (srt_len l) hbase hgb (by omega) r2 r3
    rw [hl] at this
    exact this
end
end Go.Proofs.YtadnlannbafjpaaGreat
/- What a law's arguments are opened to, where no variable is laid: structs and arrays of integers. -/
namespace Go.Proofs.YtadnlannbafjpaaGreat
open Go.ChangeShapes Go.WideShapes Go.ChangeAt Go.RowKit
set_option linter.unusedVariables false
set_option linter.unusedSimpArgs false
section
variable {H : Type} {enc : TypeId × Value → H} {P : Program} {w : World} {base : Nat} {spare : Nat → Bool} {held : Bool}
end
end Go.Proofs.YtadnlannbafjpaaGreat
/- Slices of bytes and of integers that came in, opened; how long they are. -/
namespace Go.Proofs.YtadnlannbafjpaaGreat
open Go.RowKit Go.ChangeShapes Go.WideShapes Go.Deep
set_option linter.unusedVariables false
set_option linter.unusedSimpArgs false
section
variable {H : Type} {enc : TypeId × Value → H} {W : World} {base : Nat} {held : Bool} {A : Option Addr} {len cap : Nat} {d : DataW H} {p : List MemPlace}
end
theorem ints_get (l : List Int) (j : Nat) : (ints l)[j]? = (l[j]?).map (Value.int .i64) := by unfold ints; exact List.getElem?_map
theorem flat_get {n : Nat} : ∀ {ls : List (List Int)} {i k : Nat}, (∀ l ∈ ls, l.length = n) → k < n → ls.flatten[i * n + k]? = (ls[i]?).bind (·[k]?)
  | [], i, k, _, _ => by simp
  | l :: ls, 0, k, h, hk => by
    rw [List.flatten_cons, Nat.zero_mul, Nat.zero_add, List.getElem?_append_left (by rw [h l (by simp)]; exact hk)]; rfl
  | l :: ls, i + 1, k, h, hk => by
    have hl := h l (by simp)
    rw [List.flatten_cons, List.getElem?_append_right (by rw [hl, Nat.succ_mul]; omega), hl, show (i + 1) * n + k - n = i * n + k by rw [Nat.succ_mul]; omega, flat_get (fun x hx => h x (by simp [hx])) hk]
    rfl
section
variable {H : Type} {enc : TypeId × Value → H} {P : Program} {W : World} {base : Nat} {held : Bool} {A : Option Addr} {len cap : Nat} {dt : DataW H} {p : List MemPlace}
end
theorem Reads.flat_at {w : World} {B n size : Nat} {A : Option Addr} {ls : List (List Int)} (h : Reads w B size A n (ints ls.flatten)) (hall : ∀ l ∈ ls, l.length = size) (hn : ls.length = n) (hs : 0 < size) {i : Nat} (hi : i < n) :
    ∃ b off, A = some ⟨b, off, none⟩ ∧ b < B ∧ (∀ j, j < size → w.cell? ⟨b, off + i * size + j, none⟩ = some (.int .i64 (fld (ls.getD i []) j))) ∧ (ls.getD i []).length = size := by
  obtain ⟨ad, e, hb, hc⟩ := h.2 (by omega)
  have hl : ls.getD i [] = ls[i]'(by omega) := by simp [List.getD, hn, hi]
  have hlen : (ls.getD i []).length = size := by rw [hl]; exact hall _ (List.getElem_mem _)
  have hcell : ∀ j, j < size → w.cell? (ad.add (i * size + j)) = some (.int .i64 (fld (ls.getD i []) j)) := by
    intro j hj
    apply hc
    have h1 : ls.flatten[i * size + j]? = (ls.getD i [])[j]? := by rw [flat_get hall hj, hl]; simp [hn, hi]
    rw [ints_get, h1, fld_get (by omega)]; rfl
  obtain ⟨b, off, sp⟩ := ad
  have hsp : sp = none := by
    have h0 : (ints ls.flatten)[0]? = some (.int .i64 (fld (ls.getD 0 []) 0)) := by
      have h1 : ls.flatten[0 * size + 0]? = _ := flat_get hall hs
      rw [Nat.zero_mul] at h1
      have h2 : (ls[0]'(by omega)).length = size := hall _ (List.getElem_mem _)
      rw [ints_get, h1, List.getElem?_eq_getElem (show 0 < ls.length by omega)]
      simp [List.getD, show 0 < ls.length by omega, fld, List.getElem?_eq_getElem (show 0 < (ls[0]'(by omega)).length by omega)]
    exact World.cell?_spot (hc 0 _ h0)
  subst hsp
  refine ⟨b, off, e, hb, fun j hj => ?_, hlen⟩
  have := hcell j hj
  unfold Addr.add at this
  split at this
  · rename_i h0
    rw [show off + i * size + j = off by omega]; exact this
  · rw [show off + i * size + j = off + (i * size + j) by omega]; exact this
end Go.Proofs.YtadnlannbafjpaaGreat
/- Slices whose elements are told by lists of cells, all of one length. -/
namespace Go.Proofs.YtadnlannbafjpaaGreat
open Go.RowKit
set_option linter.unusedVariables false
set_option linter.unusedSimpArgs false
theorem fm_length {α : Type} {enc : α → List Value} {n : Nat} (hn : ∀ a, (enc a).length = n) : ∀ L : List α, (L.flatMap enc).length = L.length * n
  | [] => by simp
  | a :: r => by rw [List.flatMap_cons, List.length_append, fm_length hn r, hn, List.length_cons, Nat.succ_mul]; omega
theorem fm_get {α : Type} {enc : α → List Value} {n : Nat} (hn : ∀ a, (enc a).length = n) : ∀ {L : List α} {i k : Nat} (hi : i < L.length), k < n → (L.flatMap enc)[i * n + k]? = (enc L[i])[k]?
  | [], i, k, hi, _ => by simp at hi
  | a :: r, 0, k, hi, hk => by rw [List.flatMap_cons, Nat.zero_mul, Nat.zero_add, List.getElem?_append_left (by rw [hn]; exact hk)]; rfl
  | a :: r, i + 1, k, hi, hk => by
    rw [List.flatMap_cons, List.getElem?_append_right (by rw [hn, Nat.succ_mul]; omega), hn, show (i + 1) * n + k - n = i * n + k by rw [Nat.succ_mul]; omega, fm_get hn (by simpa using hi) hk]
    rfl
section
variable {α : Type} {enc : α → List Value} {w : World} {B n m : Nat} {A : Option Addr} {L : List α}
end
structure Cl where
  tx : Int
  dead : Bool
  since : Int
def clv (c : Cl) : List Value := [.int .i64 c.tx, .bool c.dead, .int .i64 c.since]
def cls (L : List Cl) : List Value := L.flatMap clv
theorem clv_length (c : Cl) : (clv c).length = 3 := rfl
theorem cls_length (L : List Cl) : (cls L).length = L.length * 3 := fm_length clv_length L
def ofL (tx : Int) : List Cl → Int
  | [] => 0
  | c :: r => if 0 < tx ∧ c.tx = tx then 1 else if ofL tx r = 0 then 0 else ofL tx r + 1
theorem ofL_nonneg (tx : Int) : ∀ L : List Cl, 0 ≤ ofL tx L
  | [] => Int.le_refl _
  | c :: r => by have := ofL_nonneg tx r; unfold ofL; split; omega; split <;> omega
theorem ofL_miss {tx : Int} : ∀ {L : List Cl}, (∀ c ∈ L, ¬ (0 < tx ∧ c.tx = tx)) → ofL tx L = 0
  | [], _ => rfl
  | c :: r, h => by rw [ofL, if_neg (h c (by simp)), if_pos (ofL_miss fun x hx => h x (by simp [hx]))]
theorem ofL_hit {tx : Int} : ∀ {L : List Cl} {k : Nat} (h : k < L.length), (∀ c ∈ L.take k, ¬ (0 < tx ∧ c.tx = tx)) → 0 < tx → L[k].tx = tx → ofL tx L = k + 1
  | [], k, h, _, _, _ => by simp at h
  | c :: r, 0, h, _, h0, he => by rw [ofL, if_pos ⟨h0, he⟩]; rfl
  | c :: r, k + 1, h, ha, h0, he => by
    have h1 := ha c (by simp)
    have h2 := ofL_hit (L := r) (k := k) (by simpa using h) (fun x hx => ha x (by simp [hx])) h0 he
    rw [ofL, if_neg h1, h2, if_neg (by omega)]
    simp
theorem ofL_le (tx : Int) : ∀ L : List Cl, ofL tx L ≤ L.length
  | [] => by simp [ofL]
  | c :: r => by
    have := ofL_le tx r
    have := ofL_nonneg tx r
    unfold ofL; rw [List.length_cons]; split
    · omega
    · split <;> omega
theorem ofL_get {tx : Int} : ∀ {L : List Cl}, ofL tx L ≠ 0 → ∃ h : (ofL tx L - 1).toNat < L.length, 0 < tx ∧ L[(ofL tx L - 1).toNat].tx = tx
  | [], h => absurd rfl h
  | c :: r, h => by
    by_cases h1 : 0 < tx ∧ c.tx = tx
    · have e : ofL tx (c :: r) = 1 := by rw [ofL, if_pos h1]
      simp only [e]
      exact ⟨by simp, h1.1, h1.2⟩
    · by_cases h2 : ofL tx r = 0
      · exact absurd (by rw [ofL, if_neg h1, if_pos h2]) h
      · have e : ofL tx (c :: r) = ofL tx r + 1 := by rw [ofL, if_neg h1, if_neg h2]
        obtain ⟨h3, h4, h5⟩ := ofL_get (L := r) h2
        have := ofL_nonneg tx r
        have e2 : (ofL tx (c :: r) - 1).toNat = (ofL tx r - 1).toNat + 1 := by rw [e]; omega
        simp only [e2]
        exact ⟨by simp; omega, h4, h5⟩
def isT (x : Int) : Bool := decide (0 ≤ x ∧ x ≤ 1099511627776)
theorem isT_iff {x : Int} : isT x = true ↔ 0 ≤ x ∧ x ≤ 1099511627776 := by unfold isT; simp
def noCl : Cl := ⟨0, false, 0⟩
def clAt (L : List Cl) (k : Nat) : Cl := L.getD k noCl
theorem clAt_get {L : List Cl} {k : Nat} (h : k < L.length) : clAt L k = L[k] := by simp [clAt, List.getD, h]
def beginL (L : List Cl) (id tx : Int) : List Cl × Int :=
  if id < 1 ∨ (L.length : Int) < id then (L, 10) else if tx < 1 ∨ 1048576 < tx then (L, 1) else
  if (clAt L (id - 1).toNat).dead then (L, 11) else if 0 < (clAt L (id - 1).toNat).tx then (L, 8) else if 0 < ofL tx L then (L, 15) else
  (L.set (id - 1).toNat { clAt L (id - 1).toNat with tx := tx }, 0)
def endL (L : List Cl) (tx : Int) : List Cl × Int :=
  if ofL tx L = 0 then (L, 10) else (L.set (ofL tx L - 1).toNat { clAt L (ofL tx L - 1).toNat with tx := 0 }, 0)
def crashL (L : List Cl) (id now : Int) : List Cl × Int :=
  if id < 1 ∨ (L.length : Int) < id then (L, 10) else if isT now = false then (L, 1) else
  if (clAt L (id - 1).toNat).dead then (L, 11) else (L.set (id - 1).toNat { clAt L (id - 1).toNat with dead := true, since := now }, 0)
theorem beginL_in (L : List Cl) (tx : Int) {id : Int} (e0 : ¬ (id < 1 ∨ (L.length : Int) < id)) (e1 : ¬ (tx < 1 ∨ 1048576 < tx)) :
    beginL L id tx = (if (clAt L (id - 1).toNat).dead = false ∧ ¬ 0 < (clAt L (id - 1).toNat).tx ∧ ¬ 0 < ofL tx L then L.set (id - 1).toNat { clAt L (id - 1).toNat with tx := tx } else L,
      if (clAt L (id - 1).toNat).dead then 11 else if 0 < (clAt L (id - 1).toNat).tx then 8 else if 0 < ofL tx L then 15 else 0) := by
  unfold beginL
  rw [if_neg e0, if_neg e1]
  generalize clAt L (id - 1).toNat = x
  obtain ⟨xt, xd, xs⟩ := x
  generalize ofL tx L = v
  cases xd
  · by_cases h2 : 0 < xt
    · simp [h2]
    · by_cases h3 : 0 < v
      · simp [h2, h3]
      · simp [h2, h3]
  · simp
section
variable {w : World} {B n : Nat} {A : Option Addr} {l : List Int}
end
def isLost (now span : Int) (c : Cl) : Bool := c.dead && decide (0 < c.tx) && decide (span ≤ now - c.since)
def lostL (now span : Int) (L : List Cl) : List Int := (L.filter (isLost now span)).map (·.tx)
def lostIds (now span : Int) (L : List Cl) : List Int := if isT now ∧ 0 ≤ span then lostL now span L else []
theorem lostL_succ (now span : Int) {L : List Cl} {k : Nat} (h : k < L.length) : lostL now span (L.take (k + 1)) = lostL now span (L.take k) ++ (if isLost now span L[k] then [L[k].tx] else []) := by
  unfold lostL
  rw [List.take_add_one, List.getElem?_eq_getElem h, Option.toList_some, List.filter_append, List.map_append, List.filter_cons]
  split <;> simp
theorem lostL_length (now span : Int) (L : List Cl) : (lostL now span L).length ≤ L.length := by unfold lostL; rw [List.length_map]; exact List.length_filter_le _ _
end Go.Proofs.YtadnlannbafjpaaGreat
/- A region whose last operation writes what others load: operations that read no memory. -/
namespace Go.Proofs.YtadnlannbafjpaaGreat
open Go.RowKit
section
variable {P : Program} {ops : Array Oper} {Q : Exit → Act → World → Prop} {md : Region.Mode} {S : World → Prop} {late : Nat}
theorem wpTill_pure_first {i : Nat} {o : Oper} {v : Value} (hi : ops[i]? = some o) (hne : late ≠ i)
    (hsel : ∀ (j : Nat) (o : Oper) cs b, ops[j]? = some o → o.op ≠ .select cs b) (hQ : ∀ c a w, Q (.panic c) (a.put o.dst v) w → Q (.panic c) a w) :
    ∀ (n : Nat) (done : Array Bool) (a : Act) (w : World), (done.getD late true = false → S w) →
      (∀ j oj, ops[j]? = some oj → j ≠ i → done.getD j true = false → (∀ e ∈ oj.after, Region.binds md e = true → e.on ≠ i) → o.apart ops oj = true) →
      i ∈ Region.ready md ops done → YieldsIf P ops (fun _ => True) o v a → wpTill P md ops Q S late n (done.setIfInBounds i true) (a.put o.dst v) w → wpTill P md ops Q S late (n + 1) done a w := by
  intro n
  induction n with
  | zero =>
    intro done a w hS _ hr hy H
    refine ⟨fun h => (by rw [h] at hr; cases hr), fun j hj => ?_⟩
    by_cases hji : j = i
    · subst hji; exact hy.wpOp hi trivial ⟨fun hf => hS (by rwa [getD_set_ne true (Ne.symm hne)] at hf), H⟩
    · have := ready_mono hj hji
      rw [H.1] at this
      cases this
  | succ n ih =>
    intro done a w hS hfree hr hy H
    refine ⟨fun h => (by rw [h] at hr; cases hr), fun j hj => ?_⟩
    by_cases hji : j = i
    · subst hji; exact hy.wpOp hi trivial ⟨fun hf => hS (by rwa [getD_set_ne true (Ne.symm hne)] at hf), H⟩
    · have h1 := H.2 j (ready_mono hj hji)
      obtain ⟨hjun, oj, hoj, hall⟩ := mem_ready.1 hj
      have hnot : ∀ e ∈ oj.after, Region.binds md e = true → e.on ≠ i := fun e he hb heq => by
        have h1 := hall e he hb
        have h0 := (mem_ready.1 hr).1
        rw [heq] at h1
        rcases Nat.lt_or_ge i done.size with h' | h'
        · simp [h'] at h0 h1; rw [h0] at h1; cases h1
        · simp [Array.getElem?_eq_none h'] at h1
      have hSS : ∀ {b : Bool}, (done.setIfInBounds j true).getD late true = b → ((done.setIfInBounds i true).setIfInBounds j true).getD late true = b := fun h => by
        rw [Array.setIfInBounds_comm _ _ (Ne.symm hji), getD_set_ne true (Ne.symm hne)]; exact h
      have h2 := wpOp_putIf hoj (hfree j oj hoj hji hjun hnot) (fun cs b => hsel i o cs b hi) (fun cs b => hsel j oj cs b hoj) hQ hy h1
      refine wpOp_mono (fun b u h3 => ⟨fun hf => h3.2.1 (hSS hf), ih (done.setIfInBounds j true) b u (fun hf => h3.2.1 (hSS hf)) (fun k ok hk hki hun hno => ?_) (ready_mono hr (Ne.symm hji)) h3.1 ?_⟩) h2
      · refine hfree k ok hk hki ?_ hno
        by_cases hjk : j = k
        · subst hjk; exact hjun
        · rw [getD_set_ne true hjk] at hun; exact hun
      · rw [Array.setIfInBounds_comm _ _ hji]
        exact h3.2.2
theorem wpTill_pure {i : Nat} {o : Oper} {v : Value} {n : Nat} {done : Array Bool} {a : Act} {w : World} (hi : ops[i]? = some o)
    (hs : Region.noSelect ops = true) (hf : Region.free md ops done i = true) (hr : (Region.ready md ops done).contains i = true) (hne : decide (late ≠ i) = true)
    (hQ : ∀ c a w, Q (.panic c) (a.put o.dst v) w → Q (.panic c) a w) (hy : YieldsIf P ops (fun _ => True) o v a) (hS : done.getD late true = false → S w)
    (h : wpTill P md ops Q S late n (done.setIfInBounds i true) (a.put o.dst v) w) : wpTill P md ops Q S late (n + 1) done a w :=
  wpTill_pure_first hi (of_decide_eq_true hne) (Region.noSelect_spec hs) hQ n done a w hS (Region.free_spec hi hf) (by simpa using hr) hy h
end
end Go.Proofs.YtadnlannbafjpaaGreat
