/- Layer 4's statements: the document's example (alive), and the kinds' names. -/
import Derived.Test.YthdfgdehddmkpaaMsgH
namespace Go.Proofs.Ythdfgdehddmkpaa
open Go.RowKit
set_option linter.unusedVariables false
set_option linter.unusedSimpArgs false

theorem own_form {w : World} {base n c : Nat} {e : TypeId} {A : Option Addr} {xs : List Value} (h : w.ownsRow base e 1 (.slice A n c) n xs) (hn : 0 < n) :
    ∃ g cur, A = some ⟨g, 0, none⟩ ∧ base ≤ g ∧ n ≤ c ∧ c ≤ maxLen ∧ Blk w g e cur ∧ cur.size = c ∧ cur.toList.take n = xs := by
  rcases h with ⟨h0, ⟨h1, h2⟩ | ⟨g, cap, cur, hv, hb, hh, h2, h3, h4, h5⟩⟩
  · omega
  · simp only [Value.slice.injEq, true_and] at hv
    obtain ⟨rfl, rfl⟩ := hv
    exact ⟨g, cur, rfl, hb, h2, h3, hh, by omega, by simpa using h5⟩
theorem Reads.takeU {w : World} {B n k : Nat} {A : Option Addr} {l : List UInt8} (h : Reads w B 1 A n (u8s l)) (hk : k ≤ n) : Reads w B 1 A k (u8s (l.take k)) := by
  have hl : l.length = n := h.u8_len
  refine ⟨by simp [u8s_length]; omega, fun h0 => ?_⟩
  obtain ⟨ad, e, hb, hc⟩ := h.2 (by omega)
  refine ⟨ad, e, hb, fun j u hu => hc j u ?_⟩
  have hj : j < k := by have := (List.getElem?_eq_some_iff.1 hu).1; simp [u8s_length] at this; omega
  rw [← hu]
  simp [u8s, List.getElem?_take, hj]
theorem reads_bytes {w : World} {b : Nat} {t : TypeId} {l : List UInt8} {n : Nat} (h : Blk w b t (u8s l).toArray) (hn : l.length = n) : Reads w w.heap.size 1 (some ⟨b, 0, none⟩) n (u8s l) :=
  ⟨by simp [u8s, hn], fun _ => ⟨_, rfl, h.lt, fun j u hu => by
    have := h.cell j
    rw [show (⟨b, 0, none⟩ : Addr).add j = ⟨b, j, none⟩ by unfold Addr.add; split <;> simp_all, this]
    simpa using hu⟩⟩

set_option maxRecDepth 100000 in
set_option maxHeartbeats 4000000 in
theorem msgAlive (w : World) : Calls Try.prog 8 #[] w fun e w' => e = .returned (.bool true) ∧ Below w.heap.size w w' := by
  have hn := fun W => run_eql_nil_nil (P := Try.prog) W 33 Try.underlying33
  go_enter Try.func8, Try.ntmps8
  go_wp2_with fail
  refine (encode_ok exM rfl exM_may _).mono ?_
  rintro e w1 ⟨A, c, rfl, hown, hb1⟩
  rw [exM_bytes] at hown
  obtain ⟨g, cur, rfl, hg, h88, hcm, hblk, hcs, hcur⟩ := own_form hown (by omega)
  have HB1 := Lib.hid hb1
  have HR := Lib.hid (Reads.of_own hown)
  have HLT := Lib.hid hblk.lt
  clear hown hb1 hcur hcs hblk hg
  unfold maxLen at hcm
  have h7 : (7 : Int) ≤ c := by omega
  have h7n : 7 ≤ c := by omega
  go_wp2_with fail
  refine (same_yes (some ⟨g, 0, none⟩) (some ⟨w1.heap.size, 0, none⟩) 7 c 7 _ _ [4, 0, 2, 0, 0, 0, 7] _ rfl (by omega) ((HR.out.alloc (Nat.le_refl _) _).takeU (k := 7) (by omega)) (reads_bytes (Blk.new _ _ _) rfl)).mono ?_
  rintro e V ⟨rfl, q, hV⟩
  have HR2 := Lib.hid (show Reads V (w1.alloc (.cells #[.int .u8 4, .int .u8 0, .int .u8 2, .int .u8 0, .int .u8 0, .int .u8 0, .int .u8 7] 5)).heap.size 1 (some ⟨g, 0, none⟩) 88 (u8s ([4, 0, 2, 0, 0, 0, 7] ++ List.replicate 81 0)) by
    rw [hV]; exact ((HR.out.alloc (Nat.le_refl _) _).more (by simp)).drewN q)
  have HB2 := Lib.hid (show Below w.heap.size w V by rw [hV]; exact below_drewN (stepA HB1.out _) q)
  clear hV
  go_wp2_with fail
  go_loopw [3] (fun i W => ∃ k q : Nat, 7 ≤ k ∧ k ≤ 88 ∧ i = .int .i64 k ∧ W = V.drewN q) (fun i _ => 88 - (intOf i).toNat)
  case atStart => exact ⟨7, 0, by omega, by omega, rfl, rfl⟩
  case round =>
    obtain ⟨k, q, hk7, hk, rfl, rfl⟩ := hrel
    by_cases hlt : k < 88
    · have hc0 : V.cell? ⟨g, k, none⟩ = some (.int .u8 0) := by
        obtain ⟨ad, e, _, hc⟩ := HR2.out.2 (by omega)
        cases e
        rw [← show (⟨g, 0, none⟩ : Addr).add k = ⟨g, k, none⟩ by rw [Addr.add_mid, Nat.zero_add]]
        refine hc k _ ?_
        simp only [u8s, List.getElem?_map]
        rw [List.getElem?_append_right (by simpa using hk7), List.getElem?_replicate, if_pos (by simp only [List.length_cons, List.length_nil]; omega)]
        rfl
      go_wp2_with fail
      go_roundw
      case rel => exact ⟨k + 1, _, by omega, by omega, by go_num, rfl⟩
      case measure => simp [intOf]; omega
    · go_wp2_with fail
      go_ret
      exact ⟨rfl, below_drewN HB2.out _⟩
end Go.Proofs.Ythdfgdehddmkpaa
