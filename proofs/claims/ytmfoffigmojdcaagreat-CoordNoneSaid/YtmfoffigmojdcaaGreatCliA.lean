/- The document's clients: whose a transaction is. -/
import Derived.Test.YtmfoffigmojdcaaGreatEnc
import Derived.Test.YtmfoffigmojdcaaGreatHeld
import Derived.RegionTactic
import Derived.BigRegion
import Derived.BigQuiet
import Derived.Deep.DeepCutAuto
namespace Go.Proofs.YtmfoffigmojdcaaGreat
open Go.RowKit
set_option linter.unusedVariables false
set_option linter.unusedSimpArgs false

/-- A client: its transaction (0: none), whether it is dead, since when. -/
structure Cl where
  tx : Int
  dead : Bool
  since : Int
def clv (c : Cl) : List Value := [.int .i64 c.tx, .bool c.dead, .int .i64 c.since]
def cls (L : List Cl) : List Value := L.flatMap clv
theorem clv_length (c : Cl) : (clv c).length = 3 := rfl
theorem cls_length (L : List Cl) : (cls L).length = L.length * 3 := fm_length clv_length L
theorem cls_one (L : List Cl) : ∀ u ∈ cls L, u.oneCell' = true := by
  intro u hu
  obtain ⟨h, _, hh⟩ := List.mem_flatMap.1 hu
  simp [clv] at hh
  rcases hh with rfl | rfl | rfl <;> rfl
theorem cls_append (H G : List Cl) : cls (H ++ G) = cls H ++ cls G := by simp [cls]
theorem Reads.c_len {w : World} {B n : Nat} {A : Option Addr} {L : List Cl} (h : Reads w B 3 A n (cls L)) : L.length = n := Reads.el_len clv_length (by omega) h
theorem Reads.c_at {w : World} {B n : Nat} {A : Option Addr} {L : List Cl} (h : Reads w B 3 A n (cls L)) {i : Nat} (hi : i < L.length) :
    ∃ b off, A = some ⟨b, off, none⟩ ∧ b < B ∧ w.cell? ⟨b, off + i * 3, none⟩ = some (.int .i64 L[i].tx) ∧ w.cell? ⟨b, off + i * 3 + 1, none⟩ = some (.bool L[i].dead) ∧ w.cell? ⟨b, off + i * 3 + 2, none⟩ = some (.int .i64 L[i].since) := by
  obtain ⟨b, off, e, hb, hc⟩ := Reads.el_cells clv_length (by omega) h hi
  exact ⟨b, off, e, hb, hc 0 _ rfl, hc 1 _ rfl, hc 2 _ rfl⟩
/-- Whose a transaction is; 0: nobody's. -/
def ofL (tx : Int) : List Cl → Int
  | [] => 0
  | c :: r => if 0 < tx ∧ c.tx = tx then 1 else if ofL tx r = 0 then 0 else ofL tx r + 1
theorem ofL_nonneg (tx : Int) : ∀ L : List Cl, 0 ≤ ofL tx L
  | [] => Int.le_refl _
  | c :: r => by have := ofL_nonneg tx r; unfold ofL; split; omega; split <;> omega
theorem ofL_miss {tx : Int} : ∀ {L : List Cl}, (∀ c ∈ L, ¬ (0 < tx ∧ c.tx = tx)) → ofL tx L = 0
  | [], _ => rfl
  | c :: r, h => by rw [ofL, if_neg (h c (by simp)), if_pos (ofL_miss fun x hx => h x (by simp [hx]))]
theorem ofL_hit {tx : Int} : ∀ {L : List Cl} {k : Nat} (h : k < L.length), (∀ c ∈ L.take k, ¬ (0 < tx ∧ c.tx = tx)) → 0 < tx → L[k].tx = tx → ofL tx L = k + 1
  | [], k, h, _, _, _ => by simp at h
  | c :: r, 0, h, _, h0, he => by rw [ofL, if_pos ⟨h0, he⟩]; rfl
  | c :: r, k + 1, h, ha, h0, he => by
    have h1 := ha c (by simp)
    have h2 := ofL_hit (L := r) (k := k) (by simpa using h) (fun x hx => ha x (by simp [hx])) h0 he
    rw [ofL, if_neg h1, h2, if_neg (by omega)]
    simp
theorem ofL_le (tx : Int) : ∀ L : List Cl, ofL tx L ≤ L.length
  | [] => by simp [ofL]
  | c :: r => by
    have := ofL_le tx r
    have := ofL_nonneg tx r
    unfold ofL; rw [List.length_cons]; split
    · omega
    · split <;> omega
/-- The client whose it is has it. -/
theorem ofL_get {tx : Int} : ∀ {L : List Cl}, ofL tx L ≠ 0 → ∃ h : (ofL tx L - 1).toNat < L.length, 0 < tx ∧ L[(ofL tx L - 1).toNat].tx = tx
  | [], h => absurd rfl h
  | c :: r, h => by
    by_cases h1 : 0 < tx ∧ c.tx = tx
    · have e : ofL tx (c :: r) = 1 := by rw [ofL, if_pos h1]
      simp only [e]
      exact ⟨by simp, h1.1, h1.2⟩
    · by_cases h2 : ofL tx r = 0
      · exact absurd (by rw [ofL, if_neg h1, if_pos h2]) h
      · have e : ofL tx (c :: r) = ofL tx r + 1 := by rw [ofL, if_neg h1, if_neg h2]
        obtain ⟨h3, h4, h5⟩ := ofL_get (L := r) h2
        have := ofL_nonneg tx r
        have e2 : (ofL tx (c :: r) - 1).toNat = (ofL tx r - 1).toNat + 1 := by rw [e]; omega
        simp only [e2]
        exact ⟨by simp; omega, h4, h5⟩

set_option maxRecDepth 100000 in
set_option maxHeartbeats 4000000 in
theorem refOf_any (A : Option Addr) (n c B : Nat) (L : List Cl) (tx : Int) (w : World) (h : Reads w B 3 A n (cls L)) (hn : n ≤ 1000000) :
    Calls Tryz.prog 122 #[.slice A n c, .int .i64 tx] w fun e w' => e = .returned (.int .i64 (ofL tx L)) ∧ w = w' := by
  have RV := Lib.hid h
  have HL := Lib.hid h.c_len
  clear h
  go_enter Tryz.func122, Tryz.ntmps122
  go_wp2_with fail
  go_loopw [5] (fun i W => ∃ k : Nat, k ≤ n ∧ i = .int .i64 k ∧ (∀ q ∈ L.take k, ¬ (0 < tx ∧ q.tx = tx)) ∧ w = W) (fun i _ => n - (RowKit.intOf i).toNat)
  case atStart => exact ⟨0, Nat.zero_le _, rfl, by simp, rfl⟩
  case round =>
    obtain ⟨k, hk, rfl, hall, rfl⟩ := hrel
    have HA := Lib.hid hall
    clear hall
    by_cases hlt : k < n
    · have hkl : k < L.length := by rw [HL.out]; exact hlt
      have d0 : decide ((k : Int) < (n : Int)) = true := decide_eq_true (by omega)
      obtain ⟨b, off, rfl, hb, h0, h1, h2⟩ := RV.out.c_at hkl
      have HX := Lib.hid (show 0 < tx → L[k].tx = tx → ofL tx L = k + 1 from fun hp he => ofL_hit hkl HA.out hp he)
      have HY := Lib.hid (show ¬ (0 < tx ∧ L[k].tx = tx) → ∀ q ∈ L.take (k + 1), ¬ (0 < tx ∧ q.tx = tx) from fun hne q hq => by
        rw [List.take_add_one, List.getElem?_eq_getElem hkl, Option.toList_some] at hq
        rcases List.mem_append.1 hq with hq | hq
        · exact HA.out q hq
        · rw [List.mem_singleton.1 hq]; exact hne)
      generalize L[k].tx = x at h0 HX HY
      clear hb h1 h2
      by_cases hp : 0 < tx
      · have d1 : decide (0 < tx) = true := decide_eq_true hp
        by_cases he : x = tx
        · have e1 : (x == tx) = true := by simpa using he
          have HZ := Lib.hid (HX.out hp he)
          clear he HX HY hp
          go_wp2_with fail
          go_ret
          exact ⟨by rw [HZ.out]; first | rfl | (go_num), rfl⟩
        · have e1 : (x == tx) = false := by simpa using he
          have HZ := Lib.hid (HY.out (fun h => he h.2))
          clear he HX HY hp
          go_wp2_with fail
          go_roundw
          case rel => exact ⟨k + 1, by omega, by go_num, HZ.out, trivial⟩
          case measure => simp [RowKit.intOf]; omega
      · have d1 : decide (0 < tx) = false := decide_eq_false hp
        have HZ := Lib.hid (HY.out (fun h => hp h.1))
        clear HX HY hp
        go_wp2_with fail
        go_roundw
        case rel => exact ⟨k + 1, by omega, by go_num, HZ.out, trivial⟩
        case measure => simp [RowKit.intOf]; omega
    · obtain rfl : k = n := by omega
      have d0 : decide ((k : Int) < (k : Int)) = false := by simp
      rw [List.take_of_length_le (by rw [HL.out]; exact Nat.le_refl _)] at HA
      have HZ := Lib.hid (ofL_miss HA.out)
      clear HA
      go_wp2_with fail
      go_ret
      exact ⟨by rw [HZ.out]; rfl, rfl⟩
end Go.Proofs.YtmfoffigmojdcaaGreat
