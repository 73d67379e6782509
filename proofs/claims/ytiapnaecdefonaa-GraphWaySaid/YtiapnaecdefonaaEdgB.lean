/- Edges that came in, and in later worlds; lists of what is reached. -/
import Derived.Test.YtiapnaecdefonaaEdgA
namespace Go.Proofs.Ytiapnaecdefonaa
open Go.RowKit
set_option linter.unusedVariables false
set_option linter.unusedSimpArgs false

theorem edg_of {W : World} {A : Option Addr} {len : Nat} {l : List (List Int)} (hl : l.length = len) (ha : ∀ x ∈ l, x.length = 4) (hw : ∀ x ∈ l, ∀ y ∈ x, (Lit.int .i64 y).wf = true) (hr : Reads W W.heap.size 4 A len (ints l.flatten)) : EdgM W W.heap.size A len l := ⟨hr, ha, hl, hw⟩
theorem EdgM.next {w w' : World} {A : Option Addr} {n : Nat} {l : List (List Int)} (h : EdgM w w.heap.size A n l) (hb : Below w.heap.size w w') : EdgM w' w'.heap.size A n l := (h.below hb).more hb.size
theorem EdgM.drewN {w : World} {A : Option Addr} {n : Nat} {l : List (List Int)} (h : EdgM w w.heap.size A n l) (q : Nat) : EdgM (w.drewN q) (w.drewN q).heap.size A n l := ⟨h.reads, h.four, h.count, h.wf⟩
theorem ris_len {l : List Int} {E : Egs} (h : Ris l) (hs : ∀ x ∈ l, x ∈ nds E) : l.length ≤ 2 * E.length := Nat.le_trans (nodup_len (ris_nodup h) hs) (nds_len E)
theorem rp_nds {E : Egs} {a b : Int} (h : Rp (nxt E) a b) : b ∈ nds E := by obtain ⟨d, _, h2⟩ := h; exact (nds_of h2).2
end Go.Proofs.Ytiapnaecdefonaa
