/- A map from messages to int that the call itself has made: what it answers, and what a store does to it. -/
import Derived.Test.YtmjmplkhngpgnaaDoor
import Derived.Test.YtmjmplkhngpgnaaMsgA
import Derived.DeepKeys4
import Derived.Maps.Keyed
import Derived.Carry
namespace Go.Proofs.Ytmjmplkhngpgnaa
open Go.RowKit Go.ChangeShapes Go.WideShapes Go.Deep
open Go.ChangeMaps (setBlock heap_setBlock_same heap_setBlock_other)
set_option linter.unusedVariables false
set_option linter.unusedSimpArgs false

theorem mapM_some {α β : Type} {f : α → Option β} : ∀ {l : List α}, (∀ x ∈ l, ∃ y, f x = some y) → ∃ ys, l.mapM f = some ys
  | [], _ => ⟨[], by simp⟩
  | x :: l, h => by
    obtain ⟨y, hy⟩ := h x (by simp)
    obtain ⟨ys, hys⟩ := mapM_some (f := f) (l := l) (fun z hz => h z (List.mem_cons_of_mem _ hz))
    exact ⟨y :: ys, by simp [List.mapM_cons, hy, hys]⟩

theorem flatFs_all {F : TypeId → Option (Bool × Nat)} : ∀ (fs : List Field) (off n : Nat), flatFs F off fs = some n → off ≤ n ∧ ∀ f ∈ fs, f.name ≠ "_" ∧ ∃ (ag : Bool) (k : Nat), F f.type = some (ag, k) ∧ f.offset + k ≤ n
  | [], off, n, h => by simp [flatFs] at h; exact ⟨by omega, by simp⟩
  | f :: fs, off, n, h => by
    simp only [flatFs] at h
    split at h
    · cases h
    · rename_i hc
      have hname : f.name ≠ "_" := fun e => hc (Or.inl e)
      have hoff : f.offset = off := Classical.byContradiction fun e => hc (Or.inr e)
      split at h
      · rename_i b k hF
        obtain ⟨h1, h2⟩ := flatFs_all fs _ _ h
        refine ⟨by omega, fun g hg => ?_⟩
        rcases List.mem_cons.1 hg with rfl | hg
        · exact ⟨hname, b, k, hF, by omega⟩
        · exact h2 g hg
      · cases h

theorem ints_part (l : List Int) (i k : Nat) : ((ints l).drop i).take k = ints ((l.drop i).take k) := by simp [ints, List.map_drop, List.map_take]

/-- A value of integers alone reads as a key's literals. -/
theorem flat_keyLits {P : Program} : ∀ (d : Nat) (t : TypeId) (ag : Bool) (n : Nat), flatB P d t = some (ag, n) → all64 P d t = true → ∀ l : List Int, l.length = n → (∀ y ∈ l, (Lit.int .i64 y).wf = true) → ∃ ls, P.keyLits d t (ints l) = some ls
  | 0, t, ag, n, h, _, l, _, _ => by simp [flatB] at h
  | d + 1, t, ag, n, h, h6, l, hl, hw => by
    have hsz := flat_cellsOf h
    simp only [flatB] at h
    simp only [all64] at h6
    split at h <;> rename_i hu
    · rename_i k
      rw [hu] at h6
      obtain rfl : k = .i64 := by simpa using h6
      split at h
      · cases h
        obtain ⟨y, rfl⟩ := List.length_eq_one_iff.1 hl
        exact ⟨[.int .i64 y], by simp [Program.keyLits, hu, ints, hw y (by simp)]⟩
      · cases h
    · rename_i fs
      rw [hu] at h6
      split at h
      · cases h
      · split at h
        · rename_i n' hfs
          split at h
          · cases h
            obtain ⟨_, hF⟩ := flatFs_all _ _ _ hfs
            have hall : fs.all (·.name != "_") = true := by
              rw [← Array.all_toList]
              exact List.all_eq_true.2 fun f hf => by simpa using (hF f hf).1
            have hm : ∃ ys, (fs.toList.mapM fun f => P.keyLits d f.type (((ints l).drop f.offset).take (P.cellsOf f.type))) = some ys := by
              refine mapM_some fun f hf => ?_
              obtain ⟨_, ag', k', hFt, hle⟩ := hF f hf
              rw [ints_part, flat_cellsOf hFt]
              refine flat_keyLits d f.type ag' k' hFt ((List.all_eq_true.1 h6) f hf) _ (by simp; omega) fun y hy => hw y (List.mem_of_mem_drop (List.mem_of_mem_take hy))
            obtain ⟨ys, hys⟩ := hm
            refine ⟨ys.flatten, ?_⟩
            unfold Program.keyLits
            rw [hu]
            simp only [ints_length, hl, hsz, hall, and_self, if_true, hys, Option.map_some]
          · cases h
        · cases h
    · rename_i len e
      rw [hu] at h6
      split at h
      · rename_i b k hFe
        split at h
        · cases h
          have hm : ∃ ys, ((List.range len).mapM fun i => P.keyLits d e (((ints l).drop (i * P.cellsOf e)).take (P.cellsOf e))) = some ys := by
            refine mapM_some fun i hi => ?_
            have hi := List.mem_range.1 hi
            have hik : i * k + k ≤ len * k := by
              have := Nat.mul_le_mul_right k (show i + 1 ≤ len by omega)
              rw [Nat.succ_mul] at this
              exact this
            rw [ints_part, flat_cellsOf hFe]
            exact flat_keyLits d e b k hFe h6 _ (by simp; omega) fun y hy => hw y (List.mem_of_mem_drop (List.mem_of_mem_take hy))
          obtain ⟨ys, hys⟩ := hm
          refine ⟨ys.flatten, ?_⟩
          unfold Program.keyLits
          rw [hu]
          simp only [ints_length, hl, hsz, if_true, hys, Option.map_some]
        · cases h
      · cases h
    · cases h

/-- A message that a map may bear as a key: its words in their bounds. -/
def Word28 (m : List Int) : Prop := m.length = 28 ∧ ∀ y ∈ m, (Lit.int .i64 y).wf = true

theorem wideM : (match Try.prog.underlying 31 with | some (.array _ _) | some (.struct _) => true | _ => false) = true := by rw [Try.underlying31]
theorem keyTypeM : Try.prog.keyType 31 = true := by kernel_rfl
theorem rowKM : (31 : TypeId) < Try.prog.types.size := of_decide_eq_true (by kernel_rfl)
theorem flatMK : flatB Try.prog (Try.prog.types.size + 1) 31 = some (true, 28) := by kernel_rfl
theorem all64MK : all64 Try.prog (Try.prog.types.size + 1) 31 = true := by kernel_rfl
theorem keyAtM : Try.prog.keyTypeAt 8 31 = true := by kernel_rfl
theorem keyedM : Maps.Keyed Try.prog 31 := Maps.Keyed.of_law (deep_law_laid (P := Try.prog) (k := 31) laidOutK (m := 8) (Nat.le_of_ble_eq_true rfl) rowKM keyAtM (by rw [Try.underlying31]))
theorem keyOf_msg {m : List Int} (h : Word28 m) : ∃ l, keyOf Try.prog 31 (.agg (mc m)) = some l := by
  obtain ⟨ls, hls⟩ := flat_keyLits _ _ _ _ flatMK all64MK m h.1 h.2
  have hf : (Value.agg (mc m)).formed Try.prog 31 = true := by
    have hc : Try.prog.cellsOf 31 = 28 := by kernel_rfl
    simp [Value.formed, Try.underlying31, hc, mc_size h.1]
  have hcells : (Value.agg (mc m)).cells.toList = ints m := by simp [Value.cells, mc]
  refine ⟨.string (keyBytes ls), ?_⟩
  unfold keyOf
  rw [Try.underlying31]
  simp only [keyTypeM, hf, Bool.and_self, if_true]
  rw [hcells, hls]
  rfl

/-- Block b of w is a map of messages, of at most n, in which m stands f m times. -/
def MapM (w : World) (b n : Nat) (f : List Int → Int) : Prop :=
  ∃ es : Array MapEntry, w.heap[b]? = some (.map es es.size) ∧ es.size ≤ n ∧ (∀ (i : Nat) (e : MapEntry), es[i]? = some e → e.born = i) ∧
    (∀ (i : Nat) (e : MapEntry), es[i]? = some e → ∃ m, Word28 m ∧ e.key = .agg (mc m) ∧ e.val = .int .i64 (f m)) ∧
    (∀ (i j : Nat) (e e' : MapEntry), es[i]? = some e → es[j]? = some e' → e.key = e'.key → i = j) ∧
    ∀ m, Word28 m → (∀ (i : Nat) (e : MapEntry), es[i]? = some e → e.key ≠ .agg (mc m)) → f m = 0
/-- Its j-th entry bears m. -/
def StandsAt (w : World) (b j : Nat) (m : List Int) : Prop := ∃ es clock e, w.heap[b]? = some (.map es clock) ∧ es[j]? = some e ∧ e.key = .agg (mc m)

theorem mc_inj {a b : List Int} (h : (Value.agg (mc a)) = .agg (mc b)) : a = b := by
  have h1 : ints a = ints b := by simpa [mc] using h
  exact (List.map_inj_right (fun x y e => by cases e; rfl)).1 h1

section
variable {w : World} {b n : Nat} {f : List Int → Int}
theorem MapM.made (w : World) : MapM (w.alloc (.map #[] 0)) w.heap.size 0 (fun _ => 0) :=
  ⟨#[], (MapKept.heap_alloc w _).1, by simp, by simp, by simp, by simp, fun _ _ _ => rfl⟩
theorem MapM.mono (h : MapM w b n f) {n' : Nat} (hn : n ≤ n') : MapM w b n' f := by
  obtain ⟨es, h1, h2, h3⟩ := h
  exact ⟨es, h1, by omega, h3⟩
theorem MapM.kept {w' : World} (h : MapM w b n f) (hk : w'.heap[b]? = w.heap[b]?) : MapM w' b n f := by
  obtain ⟨es, h1, h2⟩ := h
  exact ⟨es, hk.trans h1, h2⟩
theorem MapM.find (h : MapM w b n f) {m : List Int} (hm : Word28 m) {es : Array MapEntry} (hb : w.heap[b]? = some (.map es es.size)) (W : World) :
    ((Instr.findKey 31 (.agg (mc m)) es.toList).run Try.prog W = .ok none W ∧ (∀ (i : Nat) (e : MapEntry), es[i]? = some e → e.key ≠ .agg (mc m)) ∧ f m = 0) ∨
    ∃ j e, (Instr.findKey 31 (.agg (mc m)) es.toList).run Try.prog W = .ok (some (j, .int .i64 (f m))) W ∧ es[j]? = some e ∧ e.key = .agg (mc m) ∧ e.val = .int .i64 (f m) := by
  obtain ⟨es', hb', _, _, hv, _, hz⟩ := h
  obtain rfl : es' = es := by rw [hb'] at hb; simp at hb; exact hb.1
  obtain ⟨l, hl⟩ := keyOf_msg hm
  have hall : ∀ e ∈ es'.toList, ∃ l, keyOf Try.prog 31 e.key = some l := fun e he => by
    obtain ⟨i, hi⟩ := List.getElem?_of_mem he
    obtain ⟨m', hm', hk, _⟩ := hv i e (by simpa using hi)
    rw [hk]
    exact keyOf_msg hm'
  rcases keyedM.find W hl es'.toList hall with ⟨h1, h2⟩ | ⟨j, e, h1, h2, h3⟩
  · have hno : ∀ (i : Nat) (e : MapEntry), es'[i]? = some e → e.key ≠ .agg (mc m) := fun i e hi => h2 e (List.mem_of_getElem? (i := i) (by simpa using hi))
    exact Or.inl ⟨h1, hno, hz m hm hno⟩
  · have hj : es'[j]? = some e := by simpa using h2
    obtain ⟨m', hm', hk, hval⟩ := hv j e hj
    obtain rfl : m' = m := mc_inj (hk.symm.trans h3)
    rw [hval] at h1
    exact Or.inr ⟨j, e, h1, hj, h3, hval⟩

/-- What the map answers at a message. -/
theorem MapM.lookup (h : MapM w b n f) {m : List Int} (hm : Word28 m) : (Instr.lookup 56 (.map (some b)) (.agg (mc m)) false).run Try.prog w = .ok (.int .i64 (f m)) w := by
  obtain ⟨es, hb, _⟩ := id h
  obtain ⟨l, hl⟩ := keyOf_msg hm
  have hz : (zeroValue 3).run Try.prog w = .ok (.int .i64 0) w := by kernel_rfl
  rcases h.find hm hb w with ⟨h1, _, h3⟩ | ⟨j, e, h1, _⟩
  · simp [Instr.lookup, run_underlying Try.underlying56, MapKept.run_getObj_map hb, keyedM.check w _ hl, h1, hz, h3, Result.andThen]
  · simp [Instr.lookup, run_underlying Try.underlying56, MapKept.run_getObj_map hb, keyedM.check w _ hl, h1, Result.andThen]

theorem grown_setBlock {w : World} {b : Nat} {o : Obj} {es : Array MapEntry} {c : Nat} (hb : w.heap[b]? = some (.map es c)) (o : Obj) : w.grownBy (setBlock w b o) (some b) :=
  ⟨rfl, rfl, rfl, by simp [setBlock], fun i _ hi => heap_setBlock_other hb _ (fun e => hi (by rw [e]))⟩

/-- The entry is sought, or made. -/
theorem MapM.entry (h : MapM w b n f) {m : List Int} (hm : Word28 m) : ∃ (w' : World) (j : Nat), (Instr.mapEntry 56 (.map (some b)) (.agg (mc m))).run Try.prog w = .ok (.tuple #[.int .i64 (f m), .int .i64 j]) w' ∧
    MapM w' b (n + 1) f ∧ StandsAt w' b j m ∧ w.grownBy w' (some b) := by
  obtain ⟨es, hb, hsz, hborn, hv, hdis, hz0⟩ := id h
  obtain ⟨l, hl⟩ := keyOf_msg hm
  have hz : (zeroValue 3).run Try.prog w = .ok (.int .i64 0) w := by kernel_rfl
  rcases h.find hm hb w with ⟨h1, hno, h3⟩ | ⟨j, e, h1, hj, hk, hval⟩
  · have hget : ∀ (i : Nat) (e : MapEntry), (es.push ⟨.agg (mc m), .int .i64 0, es.size⟩)[i]? = some e → (es[i]? = some e ∧ i < es.size) ∨ (i = es.size ∧ e = ⟨.agg (mc m), .int .i64 0, es.size⟩) := by
      intro i e hi
      rw [Array.getElem?_push] at hi
      split at hi
      · rename_i he
        exact Or.inr ⟨he, (Option.some.inj hi).symm⟩
      · exact Or.inl ⟨hi, (Array.getElem?_eq_some_iff.1 hi).1⟩
    refine ⟨setBlock w b (.map (es.push ⟨.agg (mc m), .int .i64 0, es.size⟩) (es.size + 1)), es.size, ?_, ⟨es.push ⟨.agg (mc m), .int .i64 0, es.size⟩, ?_, by simp; omega, ?_, ?_, ?_, ?_⟩, ?_, ?_⟩
    · simp [Instr.mapEntry, run_underlying Try.underlying56, MapKept.run_getObj_map hb, keyedM.check w false hl, h1, hz, MapKept.run_setObj_map _ hb, Result.andThen, setBlock, goInt, h3]
    · rw [heap_setBlock_same hb]; simp
    · intro i e hi
      rcases hget i e hi with ⟨h, _⟩ | ⟨rfl, rfl⟩
      · exact hborn i e h
      · rfl
    · intro i e hi
      rcases hget i e hi with ⟨h, _⟩ | ⟨rfl, rfl⟩
      · exact hv i e h
      · exact ⟨m, hm, rfl, by rw [h3]⟩
    · intro i i' e e' hi hi' hke
      rcases hget i e hi with ⟨h, _⟩ | ⟨rfl, rfl⟩ <;> rcases hget i' e' hi' with ⟨h', _⟩ | ⟨rfl, rfl⟩
      · exact hdis i i' e e' h h' hke
      · exact absurd hke (hno i e h)
      · exact absurd hke.symm (hno i' e' h')
      · rfl
    · intro m' hm' hn'
      refine hz0 m' hm' fun i e hi => hn' i e ?_
      rw [Array.getElem?_push, if_neg (by have := (Array.getElem?_eq_some_iff.1 hi).1; omega)]
      exact hi
    · exact ⟨_, _, ⟨.agg (mc m), .int .i64 0, es.size⟩, heap_setBlock_same hb _, by simp, rfl⟩
    · exact grown_setBlock (o := .map #[] 0) hb _
  · have hsame : (es.modify j fun e => { e with key := .agg (mc m) }) = es := by
      apply Array.ext_getElem?
      intro i
      rw [Array.getElem?_modify]
      split
      · rename_i hij
        subst hij
        rw [hj, ← hk]
        rfl
      · rfl
    have hself : setBlock w b (.map es es.size) = setBlock w b (.map es es.size) := rfl
    refine ⟨setBlock w b (.map es es.size), j, ?_, ⟨es, heap_setBlock_same hb _, by omega, hborn, hv, hdis, hz0⟩, ⟨es, es.size, e, heap_setBlock_same hb _, hj, hk⟩, grown_setBlock (o := .map #[] 0) hb _⟩
    simp [Instr.mapEntry, run_underlying Try.underlying56, MapKept.run_getObj_map hb, keyedM.check w false hl, h1, hj, hk, keyedM.stays w hl, MapKept.run_setObj_map _ hb, Result.andThen, setBlock, goInt, hsame, hborn j e hj]

/-- The entry's number is set. -/
theorem MapM.store (h : MapM w b n f) {m : List Int} {j : Nat} (hj : StandsAt w b j m) (c : Int) (t : TypeId) : ∃ w' : World, (Instr.entryStore t (.map (some b)) (.int .i64 j) (.int .i64 c)).run Try.prog w = .ok () w' ∧
    MapM w' b n (fun x => if x = m then c else f x) ∧ w.grownBy w' (some b) := by
  obtain ⟨es, hb, hsz, hborn, hv, hdis, hz0⟩ := id h
  obtain ⟨es', c', e, hb', hje, hk⟩ := hj
  obtain ⟨rfl, rfl⟩ : es = es' ∧ es.size = c' := by rw [hb] at hb'; simp at hb'; exact hb'
  have hfind : es.findIdx? (fun e => (e.born : Int) == (j : Int)) = some j := by
    have hjl := (Array.getElem?_eq_some_iff.1 hje).1
    rw [Array.findIdx?_eq_some_iff_getElem]
    refine ⟨hjl, ?_, fun i hi => ?_⟩
    · have := hborn j es[j] (Array.getElem?_eq_getElem hjl)
      simp [this]
    · have := hborn i es[i] (Array.getElem?_eq_getElem (by omega))
      simp [this]
      omega
  have hget : ∀ (i : Nat) (e' : MapEntry), (es.modify j fun e => { e with val := .int .i64 c })[i]? = some e' → (i ≠ j ∧ es[i]? = some e') ∨ (i = j ∧ e' = { e with val := .int .i64 c }) := by
    intro i e' hi
    rw [Array.getElem?_modify] at hi
    split at hi
    · rename_i hij
      subst hij
      rw [hje] at hi
      exact Or.inr ⟨rfl, (Option.some.inj hi).symm⟩
    · rename_i hij
      exact Or.inl ⟨fun e => hij e.symm, hi⟩
  refine ⟨setBlock w b (.map (es.modify j fun e => { e with val := .int .i64 c }) es.size), ?_, ⟨es.modify j fun e => { e with val := .int .i64 c }, ?_, by simpa using hsz, ?_, ?_, ?_, ?_⟩, grown_setBlock (o := .map #[] 0) hb _⟩
  · simp [Instr.entryStore, MapKept.run_getObj_map hb, asInt, asIntOf, hfind, MapKept.run_setObj_map _ hb, Result.andThen, setBlock]
  · rw [heap_setBlock_same hb]; simp
  · intro i e' hi
    rcases hget i e' hi with ⟨_, h⟩ | ⟨rfl, rfl⟩
    · exact hborn i e' h
    · exact hborn _ e hje
  · intro i e' hi
    rcases hget i e' hi with ⟨hne, h⟩ | ⟨rfl, rfl⟩
    · obtain ⟨m', hm', hk', hv'⟩ := hv i e' h
      refine ⟨m', hm', hk', ?_⟩
      show e'.val = .int .i64 (if m' = m then c else f m')
      rw [if_neg (fun e1 => hne (hdis i j e' e h hje (by rw [hk', hk, e1])))]
      exact hv'
    · obtain ⟨m', hm', hk', hv'⟩ := hv _ e hje
      obtain rfl : m' = m := mc_inj (hk'.symm.trans hk)
      exact ⟨m', hm', hk', by simp⟩
  · intro i i' e1 e2 hi hi' hke
    rcases hget i e1 hi with ⟨_, h⟩ | ⟨rfl, rfl⟩ <;> rcases hget i' e2 hi' with ⟨_, h'⟩ | ⟨rfl, rfl⟩
    · exact hdis i i' _ _ h h' hke
    · exact hdis i _ _ _ h hje hke
    · exact hdis _ i' _ _ hje h' hke
    · rfl
  · intro m' hm' hn'
    have hno : ∀ (i : Nat) (e : MapEntry), es[i]? = some e → e.key ≠ .agg (mc m') := fun i e1 hi => by
      by_cases hij : i = j
      · subst hij
        have := hn' i { e with val := .int .i64 c } (by rw [Array.getElem?_modify, if_pos rfl, hje]; rfl)
        rw [hje] at hi
        cases hi
        exact this
      · exact hn' i e1 (by rw [Array.getElem?_modify, if_neg (fun e => hij e.symm)]; exact hi)
    show (if m' = m then c else f m') = 0
    rw [if_neg (fun e1 => hno j e hje (by rw [hk, e1]))]
    exact hz0 m' hm' hno
end
end Go.Proofs.Ytmjmplkhngpgnaa
