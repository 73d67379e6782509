/- The program's Parse. -/
import Derived.Test.YtggfadiahacgeaaDoorScrE
namespace Go.Proofs.YtggfadiahacgeaaDoor
open Go.RowKit Go.Shelf
set_option linter.unusedVariables false
set_option linter.unusedSimpArgs false
attribute [local go_sem] Oper.semAt_some

theorem info_entry : (Tryd.prog.info? 30).map (fun i => (i.zero, i.size, i.bytes)) = some (some (.agg #[.int .i64 0, .int .i64 0, .int .i64 0, .int .i64 0, .int .i64 0, .int .i64 0]), 6, 48) := by kernel_rfl
theorem run_build_ent (a b c d e f : Int) (w : World) : (Instr.buildSlice 24 1 #[(0, .agg #[.int .i64 a, .int .i64 b, .int .i64 c, .int .i64 d, .int .i64 e, .int .i64 f])]).run Tryd.prog w = .ok (.slice (some ⟨w.heap.size, 0, none⟩) 1 1) (w.alloc (.cells #[.int .i64 a, .int .i64 b, .int .i64 c, .int .i64 d, .int .i64 e, .int .i64 f] 30)) := by
  obtain ⟨i, hi, hz, hsz, hb⟩ := info_parts info_entry
  have hzz : (zeroValue 30).run Tryd.prog w = .ok (.agg #[.int .i64 0, .int .i64 0, .int .i64 0, .int .i64 0, .int .i64 0, .int .i64 0]) w := by simp [zeroValue, typeInfo, hi, hz]
  have hss : (sizeOf 30).run Tryd.prog w = .ok 6 w := by simp [sizeOf, typeInfo, hi, hsz]
  simp [Instr.buildSlice, run_underlying Tryd.underlying24, hss, hzz, Instr.fill, newRow, Value.cells]
  rw [show Array.range 6 = #[0, 1, 2, 3, 4, 5] from by decide]
  simp
theorem six_ints {x : List Int} (h : x.length = 6) : ∃ a b c d e f, x = [a, b, c, d, e, f] := by
  match x, h with
  | [a, b, c, d, e, f], _ => exact ⟨a, b, c, d, e, f, rfl⟩
theorem reads_ent (V : World) (a b c d e f : Int) : Reads (V.alloc (.cells #[.int .i64 a, .int .i64 b, .int .i64 c, .int .i64 d, .int .i64 e, .int .i64 f] 30)) (V.heap.size + 1) 6 (some ⟨V.heap.size, 0, none⟩) 1 (ints [a, b, c, d, e, f]) :=
  ⟨rfl, fun _ => ⟨_, rfl, by simp, fun j u hu => by
    have h1 := (Blk.new V 30 #[.int .i64 a, .int .i64 b, .int .i64 c, .int .i64 d, .int .i64 e, .int .i64 f]).cell j
    have h2 : (⟨V.heap.size, 0, none⟩ : Addr).add j = ⟨V.heap.size, j, none⟩ := by unfold Addr.add; split <;> simp_all
    rw [h2, h1]
    simpa [ints] using hu⟩⟩
theorem ints_one6 (l : List Int) : ∀ u ∈ ints l, u.oneCell' = true := fun v hv => by obtain ⟨c, _, rfl⟩ := List.mem_map.1 hv; rfl
theorem keeps_below {B n₀ : Nat} {W W' : World} (h : Below n₀ W W') (hn : W.heap.size ≤ n₀) : KeepsFrom B W W' := ⟨h.size, fun k o _ hk _ => (h.block k (by have := (Array.getElem?_eq_some_iff.1 hk).1; omega)).trans hk⟩

/-- The entry of a piece is that of all bytes at its place. -/
theorem ent_piece (l : List UInt8) (k : Nat) : entAt ((l.drop (5 * k)).take (min 5 (l.length - 5 * k))) 0 = entAt l k := by
  have hl : ((l.drop (5 * k)).take (min 5 (l.length - 5 * k))).length = min 5 (l.length - 5 * k) := by rw [List.length_take, List.length_drop]; omega
  unfold entAt
  by_cases h : 5 * k + 5 ≤ l.length
  · have hb : ∀ j, j < 5 → byt ((l.drop (5 * k)).take (min 5 (l.length - 5 * k))) j = byt l (5 * k + j) := fun j hj => by
      unfold byt
      simp only [List.getD_eq_getElem?_getD]
      rw [List.getElem?_take, if_pos (by omega), List.getElem?_drop]
    rw [if_pos (by rw [hl]; omega), if_pos h]
    have b0 := hb 0 (by omega)
    rw [Nat.add_zero] at b0
    rw [show 5 * 0 = 0 from rfl, Nat.zero_add, Nat.zero_add, Nat.zero_add, Nat.zero_add, b0, hb 1 (by omega), hb 2 (by omega), hb 3 (by omega), hb 4 (by omega)]
  · rw [if_neg (by rw [hl]; omega), if_neg h]
theorem pcs_ents (l : List UInt8) : (List.finRange (pcN l.length)).map (fun x => entAt l x.1) = entsL l := by
  apply List.ext_getElem
  · rw [List.length_map, List.length_finRange, entsL_length]
  · intro i h1 h2
    rw [List.getElem_map, List.getElem_finRange]
    have := entsL_get (l := l) (i := i) (by rw [entsL_length] at h2; exact h2)
    rw [List.getElem?_eq_getElem h2] at this
    injection this with this
    rw [this]; rfl
def pieceV (A : Option Addr) (n : Nat) (x : Fin (pcN n)) : Value := match A with | some ad => pcV ad.block ad.off n x.1 | none => .nilIface
theorem encP_piece (A : Option Addr) (n : Nat) : encP A n = fun x => #[pieceV A n x] := rfl
/-- Each piece is read as its entry. -/
theorem piece_read (A : Option Addr) (n : Nat) (l : List UInt8) (w : World) (h : Reads w w.heap.size 1 A n (u8s l)) : ∃ pv : Fin (pcN n) → Value, encP A n = (fun x => #[pv x]) ∧ ∀ x W, Below w.heap.size w W → Calls Tryd.prog 21 #[pv x] W fun e W' => e = .returned (.agg (ints (entAt l x.1)).toArray) ∧ Below W.heap.size W W' := by
  have hl := h.u8_len
  refine ⟨pieceV A n, encP_piece A n, fun x W hW => ?_⟩
  have hx : 5 * x.1 < n := by have := x.2; unfold pcN at this; omega
  obtain ⟨b, off, rfl, hb, hc⟩ := u8_cells h (by omega)
  have hr : Reads W W.heap.size 1 (some ⟨b, off + 5 * x.1, none⟩) (min 5 (n - 5 * x.1)) (u8s ((l.drop (5 * x.1)).take (min 5 (n - 5 * x.1)))) := by
    refine ⟨by rw [u8s_length, List.length_take, List.length_drop]; omega, fun _ => ⟨_, rfl, Nat.lt_of_lt_of_le hb hW.size, fun j u hu => ?_⟩⟩
    have hj : j < min 5 (n - 5 * x.1) := by have := (List.getElem?_eq_some_iff.1 hu).1; rw [u8s_length, List.length_take, List.length_drop] at this; omega
    have h2 : (⟨b, off + 5 * x.1, none⟩ : Addr).add j = ⟨b, off + (5 * x.1 + j), none⟩ := by unfold Addr.add; split <;> simp_all; omega
    rw [h2, (hW.cell (p := ⟨b, off + (5 * x.1 + j), none⟩) hb), hc _ (by omega), ← hu]
    have h3 := byt_get (l := l) (i := 5 * x.1 + j) (by omega)
    unfold u8s at h3 ⊢
    rw [List.getElem?_map] at h3 ⊢
    rw [List.getElem?_take, if_pos hj, List.getElem?_drop, h3]
  have := read_any _ _ (min 5 (n - 5 * x.1)) _ W hr
  have e9 := ent_piece l x.1
  rw [hl] at e9
  rw [e9] at this
  exact this
end Go.Proofs.YtggfadiahacgeaaDoor
