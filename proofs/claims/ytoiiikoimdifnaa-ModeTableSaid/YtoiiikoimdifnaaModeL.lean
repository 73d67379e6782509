/- The document's own least above two modes, by its loops. -/
import Derived.Test.YtoiiikoimdifnaaModeR
namespace Go.Proofs.Ytoiiikoimdifnaa
open Go.RowKit

/-- No mode below n that covers both lacks k below it. -/
def innB (a b : Int) (k n : Nat) : Bool := (List.range n).all fun c => !(covM c a && covM c b && !covM c k)
def outB (a b : Int) (k : Nat) : Bool := covM k a && covM k b && innB a b k 5
def resR (a b : Int) : Int := ((((List.range 5).find? (outB a b)).getD 0 : Nat) : Int)

theorem resR_eq (a b : Int) (ha : okM a = true) (hb : okM b = true) : resR a b = leastM a b := by
  rcases okM_yes a ha with rfl | rfl | rfl | rfl | rfl <;> rcases okM_yes b hb with rfl | rfl | rfl | rfl | rfl <;> decide

theorem innB_succ (a b : Int) (k n : Nat) : innB a b k (n + 1) = (innB a b k n && !(covM n a && covM n b && !covM n k)) := by
  unfold innB; rw [List.range_succ]; simp
theorem innB_hit (a b : Int) (k n : Nat) (h1 : covM n a = true) (h2 : covM n b = true) (h3 : covM n k = false) : innB a b k (n + 1) = false := by
  rw [innB_succ, h1, h2, h3]; simp
theorem innB_1 (a b : Int) (k n : Nat) (h1 : covM n a = false) : innB a b k (n + 1) = innB a b k n := by rw [innB_succ, h1]; simp
theorem innB_2 (a b : Int) (k n : Nat) (h1 : covM n b = false) : innB a b k (n + 1) = innB a b k n := by rw [innB_succ, h1]; simp
theorem innB_3 (a b : Int) (k n : Nat) (h1 : covM n k = true) : innB a b k (n + 1) = innB a b k n := by rw [innB_succ, h1]; simp

/-- Nothing was found below k. -/
def Nix (a b : Int) (k : Nat) : Prop := ∀ j, j < k → outB a b j = false
theorem Nix_succ {a b : Int} {k : Nat} (h : Nix a b k) (h1 : outB a b k = false) : Nix a b (k + 1) := by
  intro j hj; by_cases e : j = k
  · rw [e]; exact h1
  · exact h j (by omega)
theorem res_of {a b : Int} {k : Nat} (h : Nix a b k) (hk : k < 5) (h1 : outB a b k = true) : resR a b = k := by
  unfold resR
  have h5 : (List.range 5).find? (outB a b) = some k := by
    rw [List.find?_eq_some_iff_append]
    refine ⟨h1, List.range k, (List.range (4 - k)).map (· + (k + 1)), ?_, ?_⟩
    · have : k = 0 ∨ k = 1 ∨ k = 2 ∨ k = 3 ∨ k = 4 := by omega
      rcases this with rfl | rfl | rfl | rfl | rfl <;> rfl
    · intro j hj; rw [h j (by simpa using hj)]; rfl
  rw [h5]; rfl
theorem res_none {a b : Int} (h : Nix a b 5) : resR a b = 0 := by
  unfold resR
  have h5 : (List.range 5).find? (outB a b) = none := by
    rw [List.find?_eq_none]; intro j hj; rw [h j (by simpa using hj)]; simp
  rw [h5]; rfl
theorem out_1 {a b : Int} {k : Nat} (h1 : covM k a = false) : outB a b k = false := by unfold outB; rw [h1]; rfl
theorem out_2 {a b : Int} {k : Nat} (h1 : covM k b = false) : outB a b k = false := by unfold outB; rw [h1]; simp
theorem out_3 {a b : Int} {k : Nat} (h1 : innB a b k 5 = false) : outB a b k = false := by unfold outB; rw [h1]; simp
theorem out_yes {a b : Int} {k : Nat} (h1 : covM k a = true) (h2 : covM k b = true) (h3 : innB a b k 5 = true) : outB a b k = true := by unfold outB; rw [h1, h2, h3]; rfl

set_option maxHeartbeats 2000000 in
theorem leastR_any (a b : Int) (w : World) :
    Calls Try.prog 19 #[.int .i64 a, .int .i64 b] w fun e w' => e = .returned (.int .i64 (resR a b)) ∧ w = w' := by
  go_enter Try.func19, Try.ntmps19
  go_wp2_with fail
  go_loop [5] (fun i => ∃ k : Nat, k ≤ 5 ∧ Nix a b k ∧ i = .int .i64 k) (fun i => (5 - intOf i).toNat)
  case atStart => exact ⟨0, by omega, fun j hj => by omega, rfl⟩
  case round =>
    obtain ⟨k, hk, hnix, rfl⟩ := hrel
    by_cases hlt : k < 5
    · cases h1 : covM k a
      · go_wp2_with (go_at_call 14; refine (covR_any _ _ _).mono ?_; rintro e w' ⟨rfl, rfl⟩)
        go_round
        case rel => exact ⟨k + 1, by omega, Nix_succ hnix (out_1 h1), by go_num⟩
        case measure => simp [intOf]; omega
      · cases h2 : covM k b
        · go_wp2_with (go_at_call 14; refine (covR_any _ _ _).mono ?_; rintro e w' ⟨rfl, rfl⟩)
          go_round
          case rel => exact ⟨k + 1, by omega, Nix_succ hnix (out_2 h2), by go_num⟩
          case measure => simp [intOf]; omega
        · have H1 := Lib.hid h1
          have H2 := Lib.hid h2
          go_wp2_with (go_at_call 14; refine (covR_any _ _ _).mono ?_; rintro e w' ⟨rfl, rfl⟩)
          go_loop [6, 7] (fun f i => ∃ n : Nat, n ≤ 5 ∧ f = .bool (innB a b k n) ∧ i = .int .i64 n) (fun _ i => (5 - intOf i).toNat)
          case atStart => exact ⟨0, by omega, rfl, rfl⟩
          case round =>
            obtain ⟨n, hn, rfl, rfl⟩ := hrel
            by_cases hln : n < 5
            · clear h1 h2
              cases g1 : covM n a
              · have G := Lib.hid (innB_1 a b k n g1)
                go_wp2_with (go_at_call 14; refine (covR_any _ _ _).mono ?_; rintro e w' ⟨rfl, rfl⟩)
                go_round
                case rel => exact ⟨n + 1, by omega, by rw [G.out], by go_num⟩
                case measure => simp [intOf]; omega
              · cases g2 : covM n b
                · have G := Lib.hid (innB_2 a b k n g2)
                  go_wp2_with (go_at_call 14; refine (covR_any _ _ _).mono ?_; rintro e w' ⟨rfl, rfl⟩)
                  go_round
                  case rel => exact ⟨n + 1, by omega, by rw [G.out], by go_num⟩
                  case measure => simp [intOf]; omega
                · cases g3 : covM n k
                  · have G := Lib.hid (innB_hit a b k n g1 g2 g3)
                    go_wp2_with (go_at_call 14; refine (covR_any _ _ _).mono ?_; rintro e w' ⟨rfl, rfl⟩)
                    go_round
                    case rel => exact ⟨n + 1, by omega, by rw [G.out], by go_num⟩
                    case measure => simp [intOf]; omega
                  · have G := Lib.hid (innB_3 a b k n g3)
                    go_wp2_with (go_at_call 14; refine (covR_any _ _ _).mono ?_; rintro e w' ⟨rfl, rfl⟩)
                    go_round
                    case rel => exact ⟨n + 1, by omega, by rw [G.out], by go_num⟩
                    case measure => simp [intOf]; omega
            · obtain rfl : n = 5 := by omega
              cases g : innB a b k 5
              · have hq := Nix_succ hnix (out_3 g)
                have HQ := Lib.hid hq; clear hq hnix
                go_wp2_with fail
                go_round
                case rel => exact ⟨k + 1, by omega, HQ.out, by go_num⟩
                case measure => simp [intOf]; omega
              · have hq := res_of hnix hlt (out_yes H1.out H2.out g)
                have HQ := Lib.hid hq; clear hq hnix
                go_wp2_with fail
                go_ret
                exact ⟨by rw [HQ.out]; rfl, rfl⟩
    · obtain rfl : k = 5 := by omega
      have hq := res_none hnix
      have HQ := Lib.hid hq; clear hq hnix
      go_wp2_with fail
      go_ret
      exact ⟨by rw [HQ.out]; rfl, rfl⟩
end Go.Proofs.Ytoiiikoimdifnaa
