/- Numbers as bytes, as plain lists: no word of the program. -/
import Derived.IntWalk
import Derived.Test.YtadnlannbafjpaaGreatQBase
import Derived.Deep.DeepAppendWide
import Derived.Deep.QuietTactic
import Derived.BigQuiet
import Derived.OwnWalk
import Derived.Test.YtadnlannbafjpaaGreatQShelfS
import Derived.Lib.OwnBridge
import Derived.Lib.SlKeysI
import Derived.Test.YtadnlannbafjpaaGreatRows
import Derived.ProofKit
import Derived.OpenShut
import Derived.ShutString
import Derived.ChangeOld
import Derived.Carry
import Derived.ChangeArms
import Derived.ChangeSame
import Derived.SizedLaws
import Derived.Deep.Slices
import Derived.DataReads
namespace Go.Proofs.YtadnlannbafjpaaGreat
set_option linter.unusedVariables false
set_option linter.unusedSimpArgs false
end Go.Proofs.YtadnlannbafjpaaGreat
/- Slices of bytes and of integers, as lists; append of them; the document's Same. -/
namespace Go.Proofs.YtadnlannbafjpaaGreat
open Go.RowKit
set_option linter.unusedVariables false
set_option linter.unusedSimpArgs false
def i64s (l : List Int) : List Value := l.map (Value.int .i64)
theorem i64s_length (l : List Int) : (i64s l).length = l.length := by simp [i64s]
theorem i64s_one (l : List Int) : ∀ u ∈ i64s l, u.oneCell' = true := by
 intro u hu; obtain ⟨c, _, rfl⟩ := List.mem_map.1 hu; rfl
theorem i64s_get {l : List Int} {k : Nat} (h : k < l.length) : (i64s l)[k]? = some (.int .i64 l[k]) := by simp [i64s, h]
theorem info_int : (Tryz.prog.info? 3).map (fun i => (i.zero, i.size, i.bytes)) = some (some (.int .i64 0), 1, 8) := by kernel_rfl
/-! ### append onto a row of the call's own, with growslice's wider bound -/
section
variable {P : Program} (w : World)
end
theorem ownBlock_ge {w : World} {base : Nat} {e : TypeId} {size n : Nat} {v : Value} {xs : List Value} (h : w.ownsRow base e size v n xs) : ∀ g, v.ownBlock = some g → base ≤ g := by
 intro g hg
 rcases h.2 with ⟨rfl, _⟩ | ⟨g', cap, cur, rfl, hb, _⟩
 · simp [Value.ownBlock] at hg
 · simp [Value.ownBlock] at hg; omega
theorem below_own {B : Nat} {a w w' : World} {base : Nat} {e : TypeId} {size n : Nat} {v : Value} {xs : List Value} (h : Below B a w) (hg : w.grownBy w' v.ownBlock) (ho : w.ownsRow base e size v n xs) (hB : B ≤ base) (hw : B ≤ w.heap.size) : Below B a w' :=
 h.grown hg hw fun k hk => by have := ownBlock_ge ho k hk; omega
/-! ### lists of numbers -/
theorem nodup_len : ∀ {l m : List Int}, l.Nodup → (∀ x ∈ l, x ∈ m) → l.length ≤ m.length
 | [], m, _, _ => Nat.zero_le _
 | x :: l, m, h, hs => by
   have hx := hs x (by simp)
   obtain ⟨hn, hd⟩ := List.nodup_cons.1 h
   have h1 := nodup_len (m := m.erase x) hd fun y hy => (List.mem_erase_of_ne (fun e : y = x => hn (by rw [← e]; exact hy))).2 (hs y (by simp [hy]))
   rw [List.length_erase_of_mem hx] at h1
   have h2 : 0 < m.length := List.length_pos_of_mem hx
   simp only [List.length_cons]; omega
abbrev Ris (l : List Int) : Prop := l.Pairwise (· < ·)
theorem ris_nodup {l : List Int} (h : Ris l) : l.Nodup := h.imp fun {a b} hab e => by omega
theorem ris_ext : ∀ {l m : List Int}, Ris l → Ris m → (∀ x, x ∈ l ↔ x ∈ m) → l = m
 | [], [], _, _, _ => rfl
 | [], y :: m, _, _, h => by have := (h y).2 (by simp); simp at this
 | x :: l, [], _, _, h => by have := (h x).1 (by simp); simp at this
 | x :: l, y :: m, h1, h2, h => by
   obtain ⟨a1, a2⟩ := List.pairwise_cons.1 h1
   obtain ⟨b1, b2⟩ := List.pairwise_cons.1 h2
   have e : x = y := by
     have hx := (h x).1 (by simp)
     have hy := (h y).2 (by simp)
     rcases List.mem_cons.1 hx with e | hx
     · exact e
     · rcases List.mem_cons.1 hy with e | hy
       · exact e.symm
       · have := b1 x hx; have := a1 y hy; omega
   subst e
   have : l = m := ris_ext a2 b2 fun z => by
     constructor
     · intro hz
       have h3 := (h z).1 (by simp [hz])
       rcases List.mem_cons.1 h3 with rfl | h3
       · have := a1 z hz; omega
       · exact h3
     · intro hz
       have h3 := (h z).2 (by simp [hz])
       rcases List.mem_cons.1 h3 with rfl | h3
       · have := b1 z hz; omega
       · exact h3
   rw [this]
/-! ### what leads where -/
section
variable {F G : Int → List Int} {a b c : Int}
end
/-! ### breadth first -/
structure St where
 row : List Int
 ahead : Int → Option Int
 paths : Int → List Int
section
variable {F : Int → List Int} {fr : Int} {s : St} {c n : Int}
structure Grew (s s' : St) : Prop where
 row : ∃ t, s'.row = s.row ++ t
 ahead : ∀ x, (s.ahead x).isSome = true → s'.ahead x = s.ahead x ∧ s'.paths x = s.paths x
theorem Grew.refl (s : St) : Grew s s := ⟨⟨[], by simp⟩, fun x _ => ⟨rfl, rfl⟩⟩
end
structure Ws where
 seen : Int → Prop
 left : List Int
 way : List (Int × List Int)
section
variable {F : Int → List Int} {S : Int → Prop} {fr : Int} {s : Ws}
end
/-! ### the second pass -/
section
variable {F B : Int → List Int} {L A P : List Int} {n : Int} {T : Int → Prop} {lot : List Int}
end
/-! ### a heap -/
def gd (H : List Int) (i : Nat) : Int := H.getD i 0
theorem gd_get {H : List Int} {i : Nat} (h : i < H.length) : gd H i = H[i] := by simp [gd, List.getD, h]
def HP (H : List Int) (m : Nat) : Prop := ∀ i, 0 < i → i < m → gd H ((i - 1) / 2) ≤ gd H i
/-! ### the order -/
abbrev Egs := List (Int × Int)
section
variable {E : Egs} {N out : List Int} {x : Int}
end
def srt (l : List Int) : List Int := l.mergeSort fun x y => decide (x ≤ y)
theorem srt_perm (l : List Int) : (srt l).Perm l := List.mergeSort_perm _ _
theorem srt_mem {l : List Int} {x : Int} : x ∈ srt l ↔ x ∈ l := (srt_perm l).mem_iff
theorem srt_len (l : List Int) : (srt l).length = l.length := (srt_perm l).length_eq
theorem srt_sorted (l : List Int) : (srt l).Pairwise (· ≤ ·) := by
 have := List.pairwise_mergeSort (le := fun x y : Int => decide (x ≤ y)) (fun a b c h1 h2 => by simp at *; omega) (fun a b => by simp; omega) l
 exact this.imp fun {a b} h => by simpa using h
theorem srt_ris {l : List Int} (h : l.Nodup) : Ris (srt l) := by
 have h1 := srt_sorted l
 have h2 : (srt l).Nodup := (srt_perm l).nodup_iff.2 h
 exact (List.pairwise_and_iff.2 ⟨h1, h2⟩).imp fun {a b} hab => by have := hab.1; have := hab.2; omega
end Go.Proofs.YtadnlannbafjpaaGreat
/- slices.Sort at a row of the call's own. -/
namespace Go.Proofs.YtadnlannbafjpaaGreat
open Go.RowKit Go.Maps Go.Sort Go.Shelf
set_option linter.unusedVariables false
set_option linter.unusedSimpArgs false
section
variable {w : World} {B n : Nat} {v : Value} {l : List Int}
theorem sort_own (w : World) (h : w.ownsRow B 3 1 v n (i64s l)) (hn : n < 4611686018427387904) :
   Calls Tryz.prog 107 #[v] w fun e w' => e = .returned (.tuple #[]) ∧ w'.ownsRow B 3 1 v n (i64s (srt l)) ∧ Turn (fun k => v.ownBlock = some k) w w' := by
 have hl : l.length = n := by have := h.1; rw [i64s_length] at this; omega
 rcases h.2 with ⟨rfl, h0⟩ | ⟨gb, cap, cur, rfl, hbase, hgb, r1, r2, r3, r4⟩
 · have hs : l = [] := List.eq_nil_of_length_eq_zero (by omega)
   subst hs
   have hc := AnyM.slices_Sort_int_none Tryz.laysSort none 0 w
   change Calls Tryz.prog 107 _ _ _ at hc
   exact hc.mono fun e w' ⟨h1, h2⟩ => by
     subst h2
     exact ⟨h1, by simpa [srt] using h, Turn.refl _ _⟩
 · have hH : Holds encZ w gb 0 l.toArray := holds_of_block_i hgb (by rw [Nat.mul_one] at r4; rw [hl]; exact r4)
   have hgl := (Array.getElem?_eq_some_iff.1 hgb).1
   have hc := AnyM.slices_Sort_int Tryz.laysSort gb 0 cap l w hH hgl (by omega)
   change Calls Tryz.prog 107 _ _ _ at hc
   rw [hl] at hc
   refine hc.mono fun e w' ⟨h1, nn, os, h2⟩ => ?_
   subst h2
   refine ⟨h1, ?_, (Turn.refl _ _).grown (grownBy_sorted_i _) fun k hk _ => hk⟩
   have := ownsRow_sorted_i (w := w) (n := nn) (os := os) (ts := srt l) (ss := l) (srt_len l) hbase hgb (by omega) r2 r3
   rw [hl] at this
   exact this
end
end Go.Proofs.YtadnlannbafjpaaGreat
/- What a law's arguments are opened to, where no variable is laid: structs and arrays of integers. -/
namespace Go.Proofs.YtadnlannbafjpaaGreat
open Go.ChangeShapes Go.WideShapes Go.ChangeAt Go.RowKit
set_option linter.unusedVariables false
set_option linter.unusedSimpArgs false
theorem ownK : ownKnob Tryz.prog.godebug = none := by kernel_rfl
theorem laidOutK : laidOutB Tryz.prog = true := by kernel_rfl
def all64 (P : Program) : Nat → TypeId → Bool
 | 0, _ => false
 | d + 1, t => match P.underlying t with
   | some (.int k) => k == .i64
   | some (.struct fs) => fs.toList.all fun f => all64 P d f.type
   | some (.array _ e) => all64 P d e
   | _ => false
section
variable {H : Type} {enc : TypeId × Value → H} {P : Program} {w : World} {base : Nat} {spare : Nat → Bool} {held : Bool}
theorem flat_cellsOf {d : Nat} {t : TypeId} {ag : Bool} {n : Nat} (h : flatB P d t = some (ag, n)) : P.cellsOf t = n := by
 unfold Program.cellsOf; rw [flat_size h]; rfl
theorem flatFs_at {F : TypeId → Option (Bool × Nat)} : ∀ (fs : List Field) (off n : Nat), flatFs F off fs = some n → ∀ i, off ≤ i → i < n → ∃ (j : Nat) (f : Field) (ag : Bool) (k : Nat), fs[j]? = some f ∧ F f.type = some (ag, k) ∧ f.offset ≤ i ∧ i < f.offset + k
 | [], off, n, h, i, h1, h2 => by simp [flatFs] at h; omega
 | f :: fs, off, n, h, i, h1, h2 => by
   simp only [flatFs] at h
   split at h
   · cases h
   · rename_i hn
     have hoff : f.offset = off := Decidable.byContradiction fun e => hn (.inr e)
     split at h
     · rename_i ag k hF
       by_cases hi : i < off + k
       · exact ⟨0, f, ag, k, rfl, hF, by omega, by omega⟩
       · obtain ⟨j, g, ag', k', hj, hg, ha, hb⟩ := flatFs_at fs _ _ h i (by omega) h2
         exact ⟨j + 1, g, ag', k', by simpa using hj, hg, ha, hb⟩
     · cases h
theorem flat_ints : ∀ (d : Nat) (t : TypeId) (ag : Bool) (n : Nat), flatB P d t = some (ag, n) → all64 P d t = true → ∀ (fuel : Nat) (cs : List Value) (x : DataW H × List MemPlace), DataW.trod enc P w base spare held fuel t cs = some x →
   cs.length = n ∧ ∀ v ∈ cs, ∃ y : Int, v = .int .i64 y ∧ (Lit.int .i64 y).wf = true
 | 0, t, ag, n, h, _, fuel, cs, x, hx => by simp [flatB] at h
 | d + 1, t, ag, n, h, h6, fuel, cs, x, hx => by
   have hsz := flat_cellsOf h
   simp only [flatB] at h
   simp only [all64] at h6
   split at h <;> rename_i hu
   · rename_i k
     rw [hu] at h6
     obtain rfl : k = .i64 := by simpa using h6
     obtain ⟨y, rfl, _, hy⟩ := DataW.trod_int hu hx
     split at h
     · cases h
       exact ⟨rfl, fun v hv => ⟨y, by simpa using hv, hy⟩⟩
     · cases h
   · rename_i fs
     rw [hu] at h6
     obtain ⟨xs, m, _, _, hlen, hxl, hat⟩ := DataW.trod_struct hu hx
     refine ⟨by omega, fun v hv => ?_⟩
     obtain ⟨i, hi, rfl⟩ := List.getElem_of_mem hv
     split at h
     · cases h
     · split at h
       · rename_i n' hfs
         split at h
         · cases h
           obtain ⟨j, f, ag', k', hj, hF, ha, hb⟩ := flatFs_at _ _ _ hfs i (Nat.zero_le _) (by omega)
           have hj' : fs[j]? = some f := by simpa using hj
           have hjl : j < fs.size := (Array.getElem?_eq_some_iff.1 hj').1
           have h1 := hat j f hj'
           rw [List.getElem?_eq_getElem (show j < xs.length by omega)] at h1
           have h6f : all64 P d f.type = true := (List.all_eq_true.1 h6) f (List.mem_of_getElem? hj)
           obtain ⟨hl2, hall⟩ := flat_ints d f.type ag' k' hF h6f _ _ _ h1
           rw [flat_cellsOf hF] at hl2 hall
           refine hall _ (List.mem_of_getElem? (i := i - f.offset) ?_)
           rw [List.getElem?_take, if_pos (by omega), List.getElem?_drop, show f.offset + (i - f.offset) = i by omega]
           exact List.getElem?_eq_getElem hi
         · cases h
       · cases h
   · rename_i len e
     rw [hu] at h6
     obtain ⟨xs, m, _, _, hlen, hxl, hat⟩ := DataW.trod_array hu hx
     refine ⟨by omega, fun v hv => ?_⟩
     obtain ⟨i, hi, rfl⟩ := List.getElem_of_mem hv
     split at h
     · rename_i ag' k hk
       split at h
       · cases h
         have hk0 : 0 < k := by
           rcases Nat.eq_zero_or_pos k with h0 | h0
           · subst h0; simp at hsz; omega
           · exact h0
         have hd : i / k < len := Nat.div_lt_of_lt_mul (by rw [Nat.mul_comm]; omega)
         have h1 := hat (i / k) hd
         rw [List.getElem?_eq_getElem (show i / k < xs.length by omega)] at h1
         obtain ⟨hl2, hall⟩ := flat_ints d e ag' k hk h6 _ _ _ h1
         rw [flat_cellsOf hk] at hl2 hall
         have hdm := Nat.div_add_mod i k
         have hml := Nat.mod_lt i hk0
         have hcm := Nat.mul_comm k (i / k)
         refine hall _ (List.mem_of_getElem? (i := i % k) ?_)
         rw [List.getElem?_take, if_pos hml, List.getElem?_drop, show i / k * k + i % k = i by omega]
         exact List.getElem?_eq_getElem hi
       · cases h
     · cases h
   · cases h
theorem ints_of {cs : List Value} (h : ∀ v ∈ cs, ∃ y : Int, v = .int .i64 y ∧ (Lit.int .i64 y).wf = true) : ∃ l : List Int, cs = ints l ∧ ∀ y ∈ l, (Lit.int .i64 y).wf = true := by
 induction cs with
 | nil => exact ⟨[], rfl, by simp⟩
 | cons v cs ih =>
   obtain ⟨y, rfl, hy⟩ := h v (by simp)
   obtain ⟨l, rfl, hl⟩ := ih (fun v hv => h v (by simp [hv]))
   exact ⟨y :: l, rfl, by simpa using ⟨hy, hl⟩⟩
end
end Go.Proofs.YtadnlannbafjpaaGreat
/- Slices of bytes and of integers that came in, opened; how long they are. -/
namespace Go.Proofs.YtadnlannbafjpaaGreat
open Go.RowKit Go.ChangeShapes Go.WideShapes Go.Deep
set_option linter.unusedVariables false
set_option linter.unusedSimpArgs false
theorem choose_fn {α : Type} [Inhabited α] {n : Nat} {p : Nat → α → Prop} (h : ∀ i, i < n → ∃ x, p i x) : ∃ f : Nat → α, ∀ i, i < n → p i (f i) := choose_lt h
section
variable {H : Type} {enc : TypeId × Value → H} {W : World} {base : Nat} {held : Bool} {A : Option Addr} {len cap : Nat} {d : DataW H} {p : List MemPlace}
end
theorem ints_get (l : List Int) (j : Nat) : (ints l)[j]? = (l[j]?).map (Value.int .i64) := by unfold ints; exact List.getElem?_map
theorem flat_get {n : Nat} : ∀ {ls : List (List Int)} {i k : Nat}, (∀ l ∈ ls, l.length = n) → k < n → ls.flatten[i * n + k]? = (ls[i]?).bind (·[k]?)
 | [], i, k, _, _ => by simp
 | l :: ls, 0, k, h, hk => by
   rw [List.flatten_cons, Nat.zero_mul, Nat.zero_add, List.getElem?_append_left (by rw [h l (by simp)]; exact hk)]; rfl
 | l :: ls, i + 1, k, h, hk => by
   have hl := h l (by simp)
   rw [List.flatten_cons, List.getElem?_append_right (by rw [hl, Nat.succ_mul]; omega), hl, show (i + 1) * n + k - n = i * n + k by rw [Nat.succ_mul]; omega, flat_get (fun x hx => h x (by simp [hx])) hk]
   rfl
theorem flat_length {n : Nat} : ∀ {ls : List (List Int)}, (∀ l ∈ ls, l.length = n) → ls.flatten.length = ls.length * n
 | [], _ => by simp
 | l :: ls, h => by rw [List.flatten_cons, List.length_append, flat_length (fun x hx => h x (by simp [hx])), h l (by simp), List.length_cons, Nat.succ_mul]; omega
section
variable {H : Type} {enc : TypeId × Value → H} {P : Program} {W : World} {base : Nat} {held : Bool} {A : Option Addr} {len cap : Nat} {dt : DataW H} {p : List MemPlace}
theorem flats_in {t e : TypeId} {d n : Nat} (hu : P.underlying t = some (.slice e)) (hf : flatB P d e = some (true, n)) (h6 : all64 P d e = true) (hn : 0 < n)
   (h : DataW.Trod enc P W base (fun _ => true) held t (.slice A len cap) dt p) : ∃ ls : List (List Int), ls.length = len ∧ (∀ l ∈ ls, l.length = n) ∧ (∀ l ∈ ls, ∀ y ∈ l, (Lit.int .i64 y).wf = true) ∧ Reads W W.heap.size n A len (ints ls.flatten) := by
 obtain ⟨fuel, hx⟩ := h
 rcases open_slice hu hx with ⟨hcs, _⟩ | ⟨a, len', cap', m, k0, D, Pl, hcs, hb, hl, hm, hmm, hx, hi⟩
 · simp [Value.cells] at hcs
   obtain ⟨rfl, rfl, rfl⟩ := hcs
   exact ⟨[], rfl, by simp, by simp, by simp [ints], fun h => absurd h (by omega)⟩
 · simp [Value.cells] at hcs
   obtain ⟨rfl, rfl, rfl⟩ := hcs
   have hC : P.cellsOf e = n := flat_cellsOf hf
   have cell : ∀ k, k < len → ∃ l : List Int, (l.length = n ∧ ∀ y ∈ l, (Lit.int .i64 y).wf = true) ∧ ∀ j y, l[j]? = some y → W.cell? (a.add (k * n + j)) = some (.int .i64 y) := by
     intro k hk
     obtain ⟨cs', hc, ht⟩ := hi k (by rw [hmm]; simp; omega)
     rw [hC] at hc
     obtain ⟨_, hcl, hat⟩ := World.cells?_some hc
     obtain ⟨hl2, hall⟩ := flat_ints d e true n hf h6 _ _ _ ht
     obtain ⟨l, hle, hw⟩ := ints_of hall
     subst hle
     refine ⟨l, ⟨by simpa using hl2, hw⟩, fun j y hj => ?_⟩
     have hjn : j < n := by have := (List.getElem?_eq_some_iff.1 hj).1; simp at hl2; omega
     have := hat j hjn
     rw [add_add] at this
     rw [this]
     simp [ints, hj]
   obtain ⟨f, hfn⟩ := choose_fn cell
   have hall : ∀ l ∈ (List.range len).map f, l.length = n := fun l hl => by
     obtain ⟨k, hk, rfl⟩ := List.mem_map.1 hl
     exact (hfn k (List.mem_range.1 hk)).1.1
   refine ⟨(List.range len).map f, by simp, hall, fun l hl => ?_, ?_⟩
   · obtain ⟨k, hk, rfl⟩ := List.mem_map.1 hl
     exact (hfn k (List.mem_range.1 hk)).1.2
   · refine ⟨by rw [ints_length, flat_length hall]; simp, fun h0 => ⟨a, rfl, ?_, fun j u hu => ?_⟩⟩
     · have h1 := (hfn 0 h0).1.1
       have := (hfn 0 h0).2 0 _ (List.getElem?_eq_getElem (show 0 < (f 0).length by omega))
       have := World.block_lt_of_cell? _ _ this
       rwa [block_of_add] at this
     · have hj : j < len * n := by
         have := (List.getElem?_eq_some_iff.1 hu).1
         rw [ints_length, flat_length hall] at this
         simpa using this
       have hd : j / n < len := Nat.div_lt_of_lt_mul (by rw [Nat.mul_comm]; exact hj)
       have hml := Nat.mod_lt j hn
       have hdm : j = j / n * n + j % n := by have := Nat.div_add_mod j n; rw [Nat.mul_comm] at this; omega
       have hget : ((List.range len).map f).flatten[j]? = (f (j / n))[j % n]? := by
         conv => lhs; rw [hdm]
         rw [flat_get hall hml]
         simp [hd]
       have hu2 : (ints ((List.range len).map f).flatten)[j]? = (((List.range len).map f).flatten[j]?).map (Value.int .i64) := ints_get _ _
       rw [hu2, hget] at hu
       obtain ⟨y, hy, rfl⟩ := Option.map_eq_some_iff.1 hu
       conv => lhs; rw [hdm]
       exact (hfn _ hd).2 _ _ hy
end
theorem Reads.flat_at {w : World} {B n size : Nat} {A : Option Addr} {ls : List (List Int)} (h : Reads w B size A n (ints ls.flatten)) (hall : ∀ l ∈ ls, l.length = size) (hn : ls.length = n) (hs : 0 < size) {i : Nat} (hi : i < n) :
   ∃ b off, A = some ⟨b, off, none⟩ ∧ b < B ∧ (∀ j, j < size → w.cell? ⟨b, off + i * size + j, none⟩ = some (.int .i64 (fld (ls.getD i []) j))) ∧ (ls.getD i []).length = size := by
 obtain ⟨ad, e, hb, hc⟩ := h.2 (by omega)
 have hl : ls.getD i [] = ls[i]'(by omega) := by simp [List.getD, hn, hi]
 have hlen : (ls.getD i []).length = size := by rw [hl]; exact hall _ (List.getElem_mem _)
 have hcell : ∀ j, j < size → w.cell? (ad.add (i * size + j)) = some (.int .i64 (fld (ls.getD i []) j)) := by
   intro j hj
   apply hc
   have h1 : ls.flatten[i * size + j]? = (ls.getD i [])[j]? := by rw [flat_get hall hj, hl]; simp [hn, hi]
   rw [ints_get, h1, fld_get (by omega)]; rfl
 obtain ⟨b, off, sp⟩ := ad
 have hsp : sp = none := by
   have h0 : (ints ls.flatten)[0]? = some (.int .i64 (fld (ls.getD 0 []) 0)) := by
     have h1 : ls.flatten[0 * size + 0]? = _ := flat_get hall hs
     rw [Nat.zero_mul] at h1
     have h2 : (ls[0]'(by omega)).length = size := hall _ (List.getElem_mem _)
     rw [ints_get, h1, List.getElem?_eq_getElem (show 0 < ls.length by omega)]
     simp [List.getD, show 0 < ls.length by omega, fld, List.getElem?_eq_getElem (show 0 < (ls[0]'(by omega)).length by omega)]
   exact World.cell?_spot (hc 0 _ h0)
 subst hsp
 refine ⟨b, off, e, hb, fun j hj => ?_, hlen⟩
 have := hcell j hj
 unfold Addr.add at this
 split at this
 · rename_i h0
   rw [show off + i * size + j = off by omega]; exact this
 · rw [show off + i * size + j = off + (i * size + j) by omega]; exact this
end Go.Proofs.YtadnlannbafjpaaGreat
