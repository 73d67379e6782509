/- What a law's arguments are opened to: slices of those that wait, and of what is done. -/
import Derived.Test.YtflnjechinfcdaaDoor
import Derived.Test.YtflnjechinfcdaaLineA
import Derived.Deep.Slices
namespace Go.Proofs.Ytflnjechinfcdaa
open Go.RowKit Go.ChangeShapes Go.WideShapes Go.Deep
set_option linter.unusedVariables false
set_option linter.unusedSimpArgs false

/-- What is done, as cells. -/
def av (p : Int × Wt) : List Value := .int .i64 p.1 :: wv p.2
def avs (L : List (Int × Wt)) : List Value := L.flatMap av
theorem fm_length {α : Type} {enc : α → List Value} {n : Nat} (hn : ∀ a, (enc a).length = n) : ∀ L : List α, (L.flatMap enc).length = L.length * n
  | [] => by simp
  | a :: r => by rw [List.flatMap_cons, List.length_append, fm_length hn r, hn, List.length_cons, Nat.succ_mul]; omega
theorem fm_get {α : Type} {enc : α → List Value} {n : Nat} (hn : ∀ a, (enc a).length = n) : ∀ {L : List α} {i k : Nat} (hi : i < L.length), k < n → (L.flatMap enc)[i * n + k]? = (enc L[i])[k]?
  | [], i, k, hi, _ => by simp at hi
  | a :: r, 0, k, hi, hk => by rw [List.flatMap_cons, Nat.zero_mul, Nat.zero_add, List.getElem?_append_left (by rw [hn]; exact hk)]; rfl
  | a :: r, i + 1, k, hi, hk => by
    rw [List.flatMap_cons, List.getElem?_append_right (by rw [hn, Nat.succ_mul]; omega), hn, show (i + 1) * n + k - n = i * n + k by rw [Nat.succ_mul]; omega, fm_get hn (by simpa using hi) hk]
    rfl
section
variable {H : Type} {enc : TypeId × Value → H} {W : World} {base : Nat} {held : Bool} {A : Option Addr} {len cap : Nat} {dt : DataW H} {p : List MemPlace}
theorem choose_el {α : Type} [Inhabited α] {n : Nat} {p : Nat → α → Prop} (h : ∀ i, i < n → ∃ x, p i x) : ∃ f : Nat → α, ∀ i, i < n → p i (f i) := choose_lt h
theorem elems_in {P : Program} {α : Type} [Inhabited α] {en : α → List Value} {t e : TypeId} {n : Nat} (hu : P.underlying t = some (.slice e)) (hC : P.cellsOf e = n) (h0 : 0 < n) (hn : ∀ a, (en a).length = n)
    (hel : ∀ fuel cs x, DataW.trod enc P W base (fun _ => true) held fuel e cs = some x → ∃ a, cs = en a)
    (h : DataW.Trod enc P W base (fun _ => true) held t (.slice A len cap) dt p) : len ≤ cap ∧ ∃ ls : List α, ls.length = len ∧ Reads W W.heap.size n A len (ls.flatMap en) := by
  obtain ⟨fuel, hx⟩ := h
  rcases open_slice hu hx with ⟨hcs, _⟩ | ⟨a, len', cap', m, k0, D, Pl, hcs, hb, hl, hm, hmm, hx, hi⟩
  · simp [Value.cells] at hcs
    obtain ⟨rfl, rfl, rfl⟩ := hcs
    exact ⟨Nat.le_refl _, [], rfl, by simp, fun h => absurd h (by omega)⟩
  · simp [Value.cells] at hcs
    obtain ⟨rfl, rfl, rfl⟩ := hcs
    have cell : ∀ k, k < len → ∃ q : α, ∀ j y, (en q)[j]? = some y → W.cell? (a.add (k * n + j)) = some y := by
      intro k hk
      obtain ⟨cs', hc, ht⟩ := hi k (by rw [hmm]; simp; omega)
      rw [hC] at hc
      obtain ⟨_, hcl, hat⟩ := World.cells?_some hc
      obtain ⟨q, hq⟩ := hel _ _ _ ht
      refine ⟨q, fun j y hj => ?_⟩
      have hjn : j < n := by have := (List.getElem?_eq_some_iff.1 hj).1; rwa [hn] at this
      have := hat j hjn
      rw [add_of_add] at this
      rw [this, ← hj, ← hq]
    obtain ⟨f, hfn⟩ := choose_el cell
    refine ⟨by omega, (List.range len).map f, by simp, by rw [fm_length hn]; simp, fun h1 => ⟨a, rfl, ?_, fun j u hu => ?_⟩⟩
    · have hlen0 := hn (f 0)
      have := hfn 0 h1 0 _ (List.getElem?_eq_getElem (show 0 < (en (f 0)).length by omega))
      have := World.block_lt_of_cell? _ _ this
      rwa [block_of_add] at this
    · have hj : j < len * n := by
        have := (List.getElem?_eq_some_iff.1 hu).1
        rw [fm_length hn] at this
        simpa using this
      have hd : j / n < len := Nat.div_lt_of_lt_mul (by rw [Nat.mul_comm]; exact hj)
      have hml := Nat.mod_lt j h0
      have hdm : j = j / n * n + j % n := by have := Nat.div_add_mod j n; rw [Nat.mul_comm] at this; omega
      have hget := fm_get hn (L := (List.range len).map f) (i := j / n) (k := j % n) (by simpa using hd) hml
      rw [← hdm, hu] at hget
      rw [hdm]
      exact hfn _ hd _ _ (by rw [hget]; simp)
theorem wait_el (fuel : Nat) (cs : List Value) (x : DataW H × List MemPlace) (h : DataW.trod enc Try.prog W base (fun _ => true) held fuel 33 cs = some x) : ∃ q, cs = wv q := by
  obtain ⟨xs, m, _, _, hlen, hxl, hat⟩ := DataW.trod_struct Try.underlying33 h
  have c1 : Try.prog.cellsOf 3 = 1 := by kernel_rfl
  have c2 : Try.prog.cellsOf 31 = 1 := by kernel_rfl
  have c3 : Try.prog.cellsOf 4 = 1 := by kernel_rfl
  have c4 : Try.prog.cellsOf 33 = 4 := by kernel_rfl
  rw [c4] at hlen
  have hxl4 : xs.length = 4 := hxl
  match cs, hlen, hat with
  | [v0, v1, v2, v3], _, hat =>
    have h0 : DataW.trod enc Try.prog W base (fun _ => true) held m 3 (([v0, v1, v2, v3].drop 0).take (Try.prog.cellsOf 3)) = xs[0]? := hat 0 _ rfl
    have h1 : DataW.trod enc Try.prog W base (fun _ => true) held m 3 (([v0, v1, v2, v3].drop 1).take (Try.prog.cellsOf 3)) = xs[1]? := hat 1 _ rfl
    have h2 : DataW.trod enc Try.prog W base (fun _ => true) held m 31 (([v0, v1, v2, v3].drop 2).take (Try.prog.cellsOf 31)) = xs[2]? := hat 2 _ rfl
    have h3 : DataW.trod enc Try.prog W base (fun _ => true) held m 4 (([v0, v1, v2, v3].drop 3).take (Try.prog.cellsOf 4)) = xs[3]? := hat 3 _ rfl
    rw [c1] at h0 h1
    rw [c2] at h2
    rw [c3] at h3
    rw [List.getElem?_eq_getElem (by omega)] at h0 h1 h2 h3
    obtain ⟨a, ha, _⟩ := DataW.trod_int Try.underlying3 h0
    obtain ⟨b, hb, _⟩ := DataW.trod_int Try.underlying3 h1
    obtain ⟨c, hc, _⟩ := DataW.trod_int Try.underlying31 h2
    obtain ⟨d, hd, _⟩ := DataW.trod_bool Try.underlying4 h3
    simp at ha hb hc hd
    subst ha hb hc hd
    exact ⟨⟨a, b, c, d⟩, rfl⟩
theorem act_el (fuel : Nat) (cs : List Value) (x : DataW H × List MemPlace) (h : DataW.trod enc Try.prog W base (fun _ => true) held fuel 35 cs = some x) : ∃ q, cs = av q := by
  obtain ⟨xs, m, _, _, hlen, hxl, hat⟩ := DataW.trod_struct Try.underlying35 h
  have c1 : Try.prog.cellsOf 3 = 1 := by kernel_rfl
  have c4 : Try.prog.cellsOf 33 = 4 := by kernel_rfl
  have c5 : Try.prog.cellsOf 35 = 5 := by kernel_rfl
  rw [c5] at hlen
  have hxl2 : xs.length = 2 := hxl
  have h0 : DataW.trod enc Try.prog W base (fun _ => true) held m 3 ((cs.drop 0).take (Try.prog.cellsOf 3)) = xs[0]? := hat 0 _ rfl
  have h1 : DataW.trod enc Try.prog W base (fun _ => true) held m 33 ((cs.drop 1).take (Try.prog.cellsOf 33)) = xs[1]? := hat 1 _ rfl
  rw [c1] at h0
  rw [c4] at h1
  rw [List.getElem?_eq_getElem (by omega)] at h0 h1
  obtain ⟨a, ha, _⟩ := DataW.trod_int Try.underlying3 h0
  obtain ⟨q, hq⟩ := wait_el _ _ _ h1
  refine ⟨(a, q), ?_⟩
  match cs, hlen with
  | v0 :: r, hlen =>
    simp at ha
    simp only [List.drop_succ_cons, List.drop_zero] at hq
    rw [List.take_of_length_le (by simp at hlen; omega)] at hq
    rw [ha, hq]; rfl
instance : Inhabited (Int × Wt) := ⟨(0, zW)⟩
theorem waits_in (h : DataW.Trod enc Try.prog W base (fun _ => true) held 30 (.slice A len cap) dt p) : len ≤ cap ∧ ∃ ls : List Wt, ls.length = len ∧ Reads W W.heap.size 4 A len (wvs ls) :=
  elems_in (en := wv) Try.underlying30 (by kernel_rfl) (by omega) wv_length wait_el h
theorem acts_in (h : DataW.Trod enc Try.prog W base (fun _ => true) held 22 (.slice A len cap) dt p) : len ≤ cap ∧ ∃ ls : List (Int × Wt), ls.length = len ∧ Reads W W.heap.size 5 A len (avs ls) :=
  elems_in (en := av) Try.underlying22 (by kernel_rfl) (by omega) (fun _ => rfl) act_el h
end
/-- A thing that is done, at its place. -/
theorem Reads.act_at {w : World} {B n : Nat} {A : Option Addr} {L : List (Int × Wt)} (h : Reads w B 5 A n (avs L)) {i : Nat} (hi : i < L.length) :
    ∃ b off, A = some ⟨b, off, none⟩ ∧ b < B ∧ (∀ j v, (av L[i])[j]? = some v → w.cell? ⟨b, off + i * 5 + j, none⟩ = some v) := by
  have hl : L.length = n := by have := h.1; unfold avs at this; rw [fm_length (n := 5) (fun _ => rfl)] at this; omega
  obtain ⟨ad, e, hb, hc⟩ := h.2 (by omega)
  have hcell : ∀ j v, (av L[i])[j]? = some v → w.cell? (ad.add (i * 5 + j)) = some v := by
    intro j v hv
    have hj : j < 5 := (List.getElem?_eq_some_iff.1 hv).1
    apply hc
    unfold avs
    rw [fm_get (n := 5) (fun _ => rfl) hi hj]; exact hv
  obtain ⟨b, off, sp⟩ := ad
  have hsp : sp = none := by
    have h0 := hc 0 (.int .i64 (L[0]'(by omega)).1) (by
      have := fm_get (enc := av) (n := 5) (fun _ => rfl) (L := L) (i := 0) (k := 0) (by omega) (by omega)
      rw [Nat.zero_mul] at this
      exact this)
    exact World.cell?_spot h0
  subst hsp
  refine ⟨b, off, e, hb, fun j v hv => ?_⟩
  have := hcell j v hv
  rw [add_lit] at this
  rw [show off + i * 5 + j = off + (i * 5 + j) by omega]; exact this
theorem Reads.act_len {w : World} {B n : Nat} {A : Option Addr} {L : List (Int × Wt)} (h : Reads w B 5 A n (avs L)) : L.length = n := by
  have := h.1; unfold avs at this; rw [fm_length (n := 5) (fun _ => rfl)] at this; omega
end Go.Proofs.Ytflnjechinfcdaa
