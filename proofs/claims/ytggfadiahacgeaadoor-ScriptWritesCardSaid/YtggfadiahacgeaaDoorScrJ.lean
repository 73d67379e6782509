/- The document's Parse. -/
import Derived.Test.YtggfadiahacgeaaDoorScrI
import Derived.Test.YtggfadiahacgeaaDoorScrF
namespace Go.Proofs.YtggfadiahacgeaaDoor
open Go.RowKit
set_option linter.unusedVariables false
set_option linter.unusedSimpArgs false

theorem info_entry9 : (Tryd.prog.info? 33).map (fun i => (i.zero, i.size, i.bytes)) = some (some (.agg #[.int .i64 0, .int .i64 0, .int .i64 0, .int .i64 0, .int .i64 0, .int .i64 0]), 6, 48) := by kernel_rfl
theorem run_build_ent9 (a b c d e f : Int) (w : World) : (Instr.buildSlice 22 1 #[(0, .agg #[.int .i64 a, .int .i64 b, .int .i64 c, .int .i64 d, .int .i64 e, .int .i64 f])]).run Tryd.prog w = .ok (.slice (some ⟨w.heap.size, 0, none⟩) 1 1) (w.alloc (.cells #[.int .i64 a, .int .i64 b, .int .i64 c, .int .i64 d, .int .i64 e, .int .i64 f] 33)) := by
  obtain ⟨i, hi, hz, hsz, hb⟩ := info_parts info_entry9
  have hzz : (zeroValue 33).run Tryd.prog w = .ok (.agg #[.int .i64 0, .int .i64 0, .int .i64 0, .int .i64 0, .int .i64 0, .int .i64 0]) w := by simp [zeroValue, typeInfo, hi, hz]
  have hss : (sizeOf 33).run Tryd.prog w = .ok 6 w := by simp [sizeOf, typeInfo, hi, hsz]
  simp [Instr.buildSlice, run_underlying Tryd.underlying22, hss, hzz, Instr.fill, newRow, Value.cells]
  rw [show Array.range 6 = #[0, 1, 2, 3, 4, 5] from by decide]
  simp
theorem reads_ent9 (V : World) (a b c d e f : Int) : Reads (V.alloc (.cells #[.int .i64 a, .int .i64 b, .int .i64 c, .int .i64 d, .int .i64 e, .int .i64 f] 33)) (V.heap.size + 1) 6 (some ⟨V.heap.size, 0, none⟩) 1 (ints [a, b, c, d, e, f]) :=
  ⟨rfl, fun _ => ⟨_, rfl, by simp, fun j u hu => by
    have h1 := (Blk.new V 33 #[.int .i64 a, .int .i64 b, .int .i64 c, .int .i64 d, .int .i64 e, .int .i64 f]).cell j
    have h2 : (⟨V.heap.size, 0, none⟩ : Addr).add j = ⟨V.heap.size, j, none⟩ := by unfold Addr.add; split <;> simp_all
    rw [h2, h1]
    simpa [ints] using hu⟩⟩
theorem ints_one9 (l : List Int) : ∀ u ∈ ints l, u.oneCell' = true := fun v hv => by obtain ⟨c, _, rfl⟩ := List.mem_map.1 hv; rfl
theorem own_stepS9 {w w' : World} {B n size : Nat} {e : TypeId} {v : Value} {xs : List Value} (h : w.ownsRow B e size v n xs) (hb : Below w.drew.heap.size w.drew w') : w'.ownsRow B e size v n xs := own_turn (w := w.drew) h (Turn.of_below hb (S := fun _ => False)) (fun _ _ => id)
theorem ints_app (a b : List Int) : ints (a ++ b) = ints a ++ ints b := by simp [ints]
theorem entN_flat_succ (l : List UInt8) (k : Nat) : ints (entN l (k + 1)).flatten = ints (entN l k).flatten ++ ints (entAt l k) := by rw [entN_succ, List.flatten_append, ints_app]; simp

end Go.Proofs.YtggfadiahacgeaaDoor
