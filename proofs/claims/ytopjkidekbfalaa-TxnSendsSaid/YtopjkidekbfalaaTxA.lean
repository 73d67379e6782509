/- A transaction in memory; slices.Clone, slices.Contains at rows of the call's own. -/
import Derived.Test.YtopjkidekbfalaaTxM
import Derived.Test.YtopjkidekbfalaaIntsA
import Derived.Test.YtopjkidekbfalaaSortA
import Derived.Test.YtopjkidekbfalaaShelf17
import Derived.Test.YtopjkidekbfalaaHeld
import Derived.RegionTactic
import Derived.BigRegion
import Derived.BigQuiet
import Derived.Deep.DeepCutAuto
import Derived.Deep.MidRow
namespace Go.Proofs.Ytopjkidekbfalaa
open Go.RowKit Go.Shelf Go.Lib Go.Sort
set_option linter.unusedVariables false
set_option linter.unusedSimpArgs false

/-- The four slices of a transaction. -/
structure Sl where
  t : Value
  v : Value
  k : Value
  g : Value
def noSl : Sl := ⟨.slice none 0 0, .slice none 0 0, .slice none 0 0, .slice none 0 0⟩
def trc (x : Tr) (s : Sl) : Array Value := #[.int .i64 x.tx, .int .i64 x.st, .int .i64 x.rs, .int .i64 x.sq, .bool x.op, .int .i64 x.sh, .int .i64 x.a0, .int .i64 x.a1, .int .i64 x.md, s.t, s.v, s.k, s.g]
abbrev NumR (w : World) (B : Nat) (v : Value) (l : List Int) : Prop := w.ownsRow B 3 1 v l.length (i64s l)
abbrev GraR (w : World) (B : Nat) (v : Value) (l : List (List Int)) : Prop := w.ownsRow B 76 5 v l.length (ints l.flatten)
abbrev MsgR (w : World) (B : Nat) (v : Value) (l : List (List Int)) : Prop := w.ownsRow B 42 28 v l.length (ints l.flatten)
/-- A transaction's slices in memory, in blocks from B on. -/
structure Tm (w : World) (B : Nat) (x : Tr) (s : Sl) : Prop where
  t : NumR w B s.t x.tch
  v : NumR w B s.v x.vts
  k : NumR w B s.k x.acks
  g : GraR w B s.g x.got
/-- No two of its slices of numbers lie in one block. -/
structure Apart (s : Sl) : Prop where
  tv : ∀ b, s.t.ownBlock = some b → s.v.ownBlock ≠ some b
  tk : ∀ b, s.t.ownBlock = some b → s.k.ownBlock ≠ some b
  vk : ∀ b, s.v.ownBlock = some b → s.k.ownBlock ≠ some b
theorem own_step {w w' : World} {B n size : Nat} {e : TypeId} {v : Value} {xs : List Value} (h : w.ownsRow B e size v n xs) (hb : Below w.heap.size w w') : w'.ownsRow B e size v n xs := own_turn h (Turn.of_below hb (S := fun _ => False)) (fun _ _ => id)
theorem own_one {w : World} {B n size : Nat} {e : TypeId} {v : Value} {xs : List Value} (h : w.ownsRow B e size v n xs) : v.oneCell' = true := by
  rcases h.2 with ⟨rfl, _⟩ | ⟨g, cap, cur, rfl, _⟩ <;> rfl
theorem own_len {w : World} {B n size : Nat} {e : TypeId} {v : Value} {xs : List Value} (h : w.ownsRow B e size v n xs) : ∃ A c, v = .slice A n c := by
  rcases h.2 with ⟨rfl, h0⟩ | ⟨g, cap, cur, rfl, _⟩
  · exact ⟨none, 0, by rw [h0]⟩
  · exact ⟨_, _, rfl⟩
theorem own_rd {w : World} {base n size : Nat} {t : TypeId} {v : Value} {xs : List Value} (h : w.ownsRow base t size v n xs) : ∃ A c, v = .slice A n c ∧ Reads w w.heap.size size A n xs ∧ n ≤ c ∧ (∀ ad, A = some ad → base ≤ ad.block) := by
  rcases h.2 with ⟨rfl, h0⟩ | ⟨g', cap', cur, rfl, hb, hh, hnc, _⟩
  · subst h0; exact ⟨_, _, rfl, Reads.of_own h, Nat.le_refl _, fun ad e => by cases e⟩
  · exact ⟨_, _, rfl, Reads.of_own h, hnc, fun ad e => by cases e; exact hb⟩
theorem reads_flat {V : World} (t : TypeId) (l : List Int) {size : Nat} (hl : l.length = size) : Reads (V.alloc (.cells (ints l).toArray t)) (V.heap.size + 1) size (some ⟨V.heap.size, 0, none⟩) 1 (ints l) :=
  ⟨by rw [ints_length]; omega, fun _ => ⟨_, rfl, by simp, fun j u hu => by
    have h1 := (Blk.new V t (ints l).toArray).cell j
    have h2 : (⟨V.heap.size, 0, none⟩ : Addr).add j = ⟨V.heap.size, j, none⟩ := by unfold Addr.add; split <;> simp_all
    rw [h2, h1]; simpa using hu⟩⟩
theorem mc_cell {w : World} {g : Nat} {t : TypeId} {m : List Int} (hl : m.length = 28) (h : Blk w g t (mc m)) {i : Nat} (hi : i < 28) : w.cell? ⟨g, i, none⟩ = some (.int .i64 (fld m i)) := by rw [h.cell i]; exact mc_get hl hi
theorem mc_setCell {w : World} {g : Nat} {t : TypeId} {m : List Int} (h : Blk w g t (mc m)) (i : Nat) (z : Int) : Blk (w.setCell ⟨g, i, none⟩ (.int .i64 z)) g t (mc (m.set i z)) := by
  have := h.set_ i (.int .i64 z)
  rwa [show (mc m).setIfInBounds i (.int .i64 z) = mc (m.set i z) from by simp [mc, ints]] at this
section
variable {w w' : World} {B B' : Nat} {x : Tr} {s : Sl}
theorem Tm.step (h : Tm w B x s) (hb : Below w.heap.size w w') : Tm w' B x s := ⟨own_step h.t hb, own_step h.v hb, own_step h.k hb, own_step h.g hb⟩
theorem Tm.less (h : Tm w B x s) (hb : B' ≤ B) : Tm w B' x s := ⟨own_less h.t hb, own_less h.v hb, own_less h.k hb, own_less h.g hb⟩
theorem own_off {w w' : World} {B n size : Nat} {e : TypeId} {v : Value} {xs : List Value} {S : Nat → Prop} (h : w.ownsRow B e size v n xs) (ht : Turn S w w') (hn : ∀ k, B ≤ k → k < w.heap.size → ¬ S k) : w'.ownsRow B e size v n xs :=
  own_turn h ht fun k hk => by obtain ⟨cur, hh, h1⟩ := own_heap h k hk; exact hn k h1 (own_lt hh)
theorem Tm.turn {S : Nat → Prop} (h : Tm w B x s) (ht : Turn S w w') (hn : ∀ k, B ≤ k → k < w.heap.size → ¬ S k) : Tm w' B x s := ⟨own_off h.t ht hn, own_off h.v ht hn, own_off h.k ht hn, own_off h.g ht hn⟩
theorem Tm.none (w : World) (B : Nat) {x : Tr} (h1 : x.tch = []) (h2 : x.vts = []) (h3 : x.acks = []) (h4 : x.got = []) : Tm w B x noSl := by
  refine ⟨?_, ?_, ?_, ?_⟩
  · rw [h1]; exact World.ownsRow_nil _ _ _ _
  · rw [h2]; exact World.ownsRow_nil _ _ _ _
  · rw [h3]; exact World.ownsRow_nil _ _ _ _
  · rw [h4]; exact World.ownsRow_nil _ _ _ _
theorem Tm.new (w : World) (B : Nat) (tx : Int) : Tm w B (newL tx) noSl := Tm.none w B rfl rfl rfl rfl
theorem Tm.no (w : World) (B : Nat) : Tm w B noTr noSl := Tm.none w B rfl rfl rfl rfl
theorem tr_one (x : Tr) (s : Sl) (h0 : s.t.oneCell' = true) (h1 : s.v.oneCell' = true) (h2 : s.k.oneCell' = true) (h3 : s.g.oneCell' = true) : (trc x s).all (·.oneCell') = true :=
  all_oneCell_toArray (cs := [.int .i64 x.tx, .int .i64 x.st, .int .i64 x.rs, .int .i64 x.sq, .bool x.op, .int .i64 x.sh, .int .i64 x.a0, .int .i64 x.a1, .int .i64 x.md, s.t, s.v, s.k, s.g]) (fun v hv => by
    simp only [List.mem_cons, List.mem_nil_iff, or_false] at hv
    rcases hv with rfl | rfl | rfl | rfl | rfl | rfl | rfl | rfl | rfl | rfl | rfl | rfl | rfl
    all_goals first | rfl | assumption)
theorem Tm.one (h : Tm w B x s) : (trc x s).all (·.oneCell') = true := tr_one x s (own_one h.t) (own_one h.v) (own_one h.k) (own_one h.g)
end
theorem info_txn : (Try.prog.info? 30).map (·.size) = some 13 := by kernel_rfl
theorem info_txnR : (Try.prog.info? 51).map (·.size) = some 13 := by kernel_rfl
theorem tr_info (x : Tr) (s : Sl) : (Try.prog.info? 30).map (·.size) = some (trc x s).size := info_txn
theorem tr_infoR (x : Tr) (s : Sl) : (Try.prog.info? 51).map (·.size) = some (trc x s).size := info_txnR
theorem tr_load {w : World} {g : Nat} {x : Tr} {s : Sl} (h : Blk w g 30 (trc x s)) : (loadVar 30 ⟨g, 0, none⟩).run Try.prog w = .ok (.agg (trc x s)) w :=
  run_loadVar_row w g _ 30 (trc x s) (0, 0) _ h Try.underlying30 rfl (tr_info x s)
theorem tr_loadR {w : World} {g : Nat} {x : Tr} {s : Sl} (h : Blk w g 51 (trc x s)) : (loadVar 51 ⟨g, 0, none⟩).run Try.prog w = .ok (.agg (trc x s)) w :=
  run_loadVar_row w g _ 51 (trc x s) (0, 0) _ h Try.underlying51 rfl (tr_infoR x s)
theorem tr_put {w : World} {g : Nat} {t : TypeId} {x y : Tr} {s r : Sl} (h : Blk w g t (trc x s)) (y : Tr) (r : Sl) : Blk (w.setCells g 0 (trc y r).toList) g t (trc y r) := h.put (trc y r) rfl
theorem tr_there {w : World} {g : Nat} {t : TypeId} {x : Tr} {s : Sl} (h : Blk w g t (trc x s)) (y : Tr) (r : Sl) : w.there g 0 (trc y r).size := h.there (Nat.le_refl 13)
theorem results_one {P : Program} {fn : Func} {p : Tmp} {ty : TypeId} (h : fn.results = #[.cell p ty]) {tmps : Array Value} {w : World} {a : Addr} {u : Value} (hp : tmps.getD p undef = .pointer (some a))
    (hu : (loadVar ty a).run P w = .ok u w) : (results fn tmps).run P w = .ok u w := by
  have hp' : tmps[p]?.getD undef = .pointer (some a) := by simpa using hp
  simp [results, h, hp', asAddr, hu]
theorem results_and2 {P : Program} {fn : Func} {p q r : Tmp} {ty : TypeId} (h : fn.results = #[.cell p ty, .tmp q, .tmp r]) {tmps : Array Value} {w : World} {a : Addr} {u v x : Value} (hp : tmps.getD p undef = .pointer (some a)) (hq : tmps.getD q undef = v) (hr : tmps.getD r undef = x)
    (hu : (loadVar ty a).run P w = .ok u w) : (results fn tmps).run P w = .ok (.tuple #[u, v, x]) w := by
  have hp' : tmps[p]?.getD undef = .pointer (some a) := by simpa using hp
  have hq' : tmps[q]?.getD undef = v := by simpa using hq
  have hr' : tmps[r]?.getD undef = x := by simpa using hr
  simp [results, h, hp', hq', hr', asAddr, hu]

/-! ### the library -/
theorem info_grant : (Try.prog.info? 76).map (fun i => (i.zero, i.size, i.bytes)) = some (some (.agg #[.int .i64 0, .int .i64 0, .int .i64 0, .int .i64 0, .int .i64 0]), 5, 40) := by kernel_rfl
theorem ints_one (l : List Int) : ∀ v ∈ ints l, v.oneCell' = true := fun v hv => by obtain ⟨c, _, rfl⟩ := List.mem_map.1 hv; rfl
section
variable {w : World} {B : Nat} {v : Value}
theorem clone_int {l : List Int} (w : World) (h : NumR w B v l) (hn : l.length ≤ 1000) :
    Calls Try.prog 40 #[v] w fun e w' => ∃ v', e = .returned v' ∧ NumR w' w.heap.size v' l ∧ Below w.heap.size w w' := by
  obtain ⟨i0, hi0, hz0, hz1, hz2⟩ := info_parts info_int
  rcases h.2 with ⟨rfl, h0⟩ | ⟨g, cap, cur, rfl, hb, hh, h2⟩
  · have hl : l = [] := List.eq_nil_of_length_eq_zero h0
    subst hl
    exact (AnyE.slices_Clone_nil Try.laysCloneI 0 0 w).mono fun e w' ⟨he, hw⟩ => ⟨_, he, World.ownsRow_nil _ _ _ _, by subst hw; exact Below.refl _ _⟩
  · have hc : ∀ j u, (i64s l)[j]? = some u → w.cell? ⟨g, 0 + j, none⟩ = some u := fun j u hu => by rw [Nat.zero_add]; exact own_cell h hu
    have := AnyE.slices_Clone Try.laysCloneI i0 _ 1 8 hi0 hz0 hz1 hz2 rfl (by omega) Try.sizeOf3 g 0 l.length cap (i64s l) w (by rw [i64s_length]; omega) (by unfold maxLen; omega) (by omega) hc (i64s_one l)
    exact Calls.mono this fun e w' ⟨v', he, ho, _, hb'⟩ => ⟨v', he, ho, hb'⟩
theorem clone_gra {l : List (List Int)} (w : World) (h : GraR w B v l) (hn : l.length ≤ 1000) (h5 : ∀ m ∈ l, m.length = 5) :
    Calls Try.prog 42 #[v] w fun e w' => ∃ v', e = .returned v' ∧ GraR w' w.heap.size v' l ∧ Below w.heap.size w w' := by
  obtain ⟨i0, hi0, hz0, hz1, hz2⟩ := info_parts info_grant
  rcases h.2 with ⟨rfl, h0⟩ | ⟨g, cap, cur, rfl, hb, hh, h2⟩
  · have hl : l = [] := List.eq_nil_of_length_eq_zero h0
    subst hl
    exact (AnyE.slices_Clone_nil Try.laysCloneG 0 0 w).mono fun e w' ⟨he, hw⟩ => ⟨_, he, World.ownsRow_nil _ _ _ _, by subst hw; exact Below.refl _ _⟩
  · have hc : ∀ j u, (ints l.flatten)[j]? = some u → w.cell? ⟨g, 0 + j, none⟩ = some u := fun j u hu => by rw [Nat.zero_add]; exact own_cell h hu
    have := AnyE.slices_Clone Try.laysCloneG i0 _ 5 40 hi0 hz0 hz1 hz2 rfl (by omega) Try.sizeOf76 g 0 l.length cap (ints l.flatten) w h.1 (by unfold maxLen; omega) (by omega) hc (ints_one _)
    exact Calls.mono this fun e w' ⟨v', he, ho, _, hb'⟩ => ⟨v', he, ho, hb'⟩
theorem cont_own {l : List Int} (x : Int) (w : World) (h : NumR w B v l) (hn : l.length ≤ 1000) :
    Calls Try.prog 38 #[v, .int .i64 x] w fun e w' => e = .returned (.bool (l.contains x)) ∧ w = w' := by
  rcases h.2 with ⟨rfl, h0⟩ | ⟨g, cap, cur, rfl, hb, hh, h2⟩
  · have hl : l = [] := List.eq_nil_of_length_eq_zero h0
    subst hl
    have hc := AnyG.slices_Contains_int_empty Try.laysContains none 0 x w
    change Calls Try.prog 38 _ _ _ at hc
    exact hc.mono fun e w' ⟨h1, h2⟩ => ⟨h1, h2.symm⟩
  · have hc : ∀ j, j < l.length → w.cell? ⟨g, 0 + j, none⟩ = some (.int .i64 (gd l j)) := fun j hj => by rw [Nat.zero_add]; exact own_gd h hj
    have hc := AnyG.slices_Contains_int Try.laysContains g 0 l.length cap l x w (by omega) (by omega) (fun j hj => hc j hj)
    change Calls Try.prog 38 _ _ _ at hc
    rw [List.take_of_length_le (by omega)] at hc
    exact hc.mono fun e w' ⟨h1, h2⟩ => ⟨h1, h2.symm⟩
end
theorem srt_ins {l : List Int} {n : Int} (h : Ris l) (hn : n ∉ l) : srt (l ++ [n]) = ins n l :=
  ris_ext (srt_ris (by
    rw [List.nodup_append]
    exact ⟨ris_nodup h, by simp, fun a ha b hb e => by rw [List.mem_singleton.1 hb] at e; exact hn (e ▸ ha)⟩)) (ris_ins' h) fun y => by
      rw [srt_mem, mem_ins, List.mem_append, List.mem_singleton]
      constructor
      · rintro (h | h); exact .inr h; exact .inl h
      · rintro (h | h); exact .inr h; exact .inl h
end Go.Proofs.Ytopjkidekbfalaa
