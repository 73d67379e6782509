/- The document's reading of a number of four bytes. -/
import Derived.Test.YtmjmplkhngpgnaaMsgA
import Derived.Test.YtmjmplkhngpgnaaWord
import Derived.Deep.QuietTactic
import Derived.BigQuiet
namespace Go.Proofs.Ytmjmplkhngpgnaa
open Go.RowKit
set_option linter.unusedVariables false
set_option linter.unusedSimpArgs false

theorem take4 {l : List UInt8} {i : Nat} (h : i + 4 ≤ l.length) : (l.drop i).take 4 = [l[i]'(by omega), l[i + 1]'(by omega), l[i + 2]'(by omega), l[i + 3]'(by omega)] := by
  rw [List.drop_eq_getElem_cons (show i < l.length by omega), List.drop_eq_getElem_cons (show i + 1 < l.length by omega), List.drop_eq_getElem_cons (show i + 1 + 1 < l.length by omega), List.drop_eq_getElem_cons (show i + 1 + 1 + 1 < l.length by omega)]
  rfl
theorem decN4 (a b c d : UInt8) : ((decN [a, b, c, d] : Nat) : Int) = 16777216 * (a.toNat : Int) + 65536 * (b.toNat : Int) + 256 * (c.toNat : Int) + (d.toNat : Int) := by
  simp [decN]; omega
set_option maxRecDepth 100000 in
set_option maxHeartbeats 4000000 in
theorem at4_any (A : Option Addr) (n cap i B : Nat) (l : List UInt8) (hi : i + 4 ≤ n) (hn : n ≤ 1000) (w : World) (hr : Reads w B 1 A n (u8s l)) :
    Calls Try.prog 33 #[.slice A n cap, .int .i64 i] w fun e w' => e = .returned (.int .i64 (decN ((l.drop i).take 4))) ∧ ∃ q, w' = w.drewN q := by
  have hl := hr.u8_len
  have HT := Lib.hid (take4 (l := l) (i := i) (by omega))
  obtain ⟨ad, rfl, hb, k0⟩ := hr.u8_at (k := i) (by omega)
  obtain ⟨ad', e1, _, k1⟩ := hr.u8_at (k := i + 1) (by omega)
  cases e1
  obtain ⟨ad', e1, _, k2⟩ := hr.u8_at (k := i + 2) (by omega)
  cases e1
  obtain ⟨ad', e1, _, k3⟩ := hr.u8_at (k := i + 3) (by omega)
  cases e1
  have u0 := (l[i]'(by omega)).toNat_lt
  have u1 := (l[i + 1]'(by omega)).toNat_lt
  have u2 := (l[i + 2]'(by omega)).toNat_lt
  have u3 := (l[i + 3]'(by omega)).toNat_lt
  have HD := Lib.hid (decN4 (l[i]'(by omega)) (l[i + 1]'(by omega)) (l[i + 2]'(by omega)) (l[i + 3]'(by omega)))
  generalize l[i]'(by omega) = d0 at k0 u0 HT HD
  generalize l[i + 1]'(by omega) = d1 at k1 u1 HT HD
  generalize l[i + 2]'(by omega) = d2 at k2 u2 HT HD
  generalize l[i + 3]'(by omega) = d3 at k3 u3 HT HD
  generalize d0.toNat = a at k0 u0 HD
  generalize d1.toNat = b at k1 u1 HD
  generalize d2.toNat = c at k2 u2 HD
  generalize d3.toNat = d at k3 u3 HD
  have s1 : IntKind.i64.wrap ((i : Int) + 1) = (i : Int) + 1 := IntWalk.i64_in _ (by omega)
  have b1 : 0 ≤ (i : Int) + 1 := by omega
  have r1 : (i : Int) + 1 < (n : Int) := by omega
  have v1 : ((i : Int) + 1).toNat = i + 1 := by omega
  have s2 : IntKind.i64.wrap ((i : Int) + 2) = (i : Int) + 2 := IntWalk.i64_in _ (by omega)
  have b2 : 0 ≤ (i : Int) + 2 := by omega
  have r2 : (i : Int) + 2 < (n : Int) := by omega
  have v2 : ((i : Int) + 2).toNat = i + 2 := by omega
  have s3 : IntKind.i64.wrap ((i : Int) + 3) = (i : Int) + 3 := IntWalk.i64_in _ (by omega)
  have b3 : 0 ≤ (i : Int) + 3 := by omega
  have r3 : (i : Int) + 3 < (n : Int) := by omega
  have v3 : ((i : Int) + 3).toNat = i + 3 := by omega
  have t0 : IntKind.i64.wrap (a : Int) = a := IntWalk.i64_in _ (by omega)
  have t1 : IntKind.i64.wrap (b : Int) = b := IntWalk.i64_in _ (by omega)
  have t2 : IntKind.i64.wrap (c : Int) = c := IntWalk.i64_in _ (by omega)
  have t3 : IntKind.i64.wrap (d : Int) = d := IntWalk.i64_in _ (by omega)
  have p0 : IntKind.i64.wrap (16777216 * (a : Int)) = 16777216 * (a : Int) := IntWalk.i64_in _ (by omega)
  have p1 : IntKind.i64.wrap (65536 * (b : Int)) = 65536 * (b : Int) := IntWalk.i64_in _ (by omega)
  have p2 : IntKind.i64.wrap (256 * (c : Int)) = 256 * (c : Int) := IntWalk.i64_in _ (by omega)
  have q1 : IntKind.i64.wrap (16777216 * (a : Int) + 65536 * (b : Int)) = 16777216 * (a : Int) + 65536 * (b : Int) := IntWalk.i64_in _ (by omega)
  have q2 : IntKind.i64.wrap (16777216 * (a : Int) + 65536 * (b : Int) + 256 * (c : Int)) = 16777216 * (a : Int) + 65536 * (b : Int) + 256 * (c : Int) := IntWalk.i64_in _ (by omega)
  have q3 : IntKind.i64.wrap (16777216 * (a : Int) + 65536 * (b : Int) + 256 * (c : Int) + (d : Int)) = 16777216 * (a : Int) + 65536 * (b : Int) + 256 * (c : Int) + (d : Int) := IntWalk.i64_in _ (by omega)
  have k1 : w.cell? ⟨ad.block, ad.off + (i + 1), none⟩ = some (.int .u8 (b : Int)) := by have h := k1; unfold Addr.add at h; rw [if_neg (by omega)] at h; exact h
  have k2 : w.cell? ⟨ad.block, ad.off + (i + 2), none⟩ = some (.int .u8 (c : Int)) := by have h := k2; unfold Addr.add at h; rw [if_neg (by omega)] at h; exact h
  have k3 : w.cell? ⟨ad.block, ad.off + (i + 3), none⟩ = some (.int .u8 (d : Int)) := by have h := k3; unfold Addr.add at h; rw [if_neg (by omega)] at h; exact h
  have r0 : (i : Int) < (n : Int) := by omega
  have r00 : i < n := by omega
  clear hr hl
  go_enter Try.func33, Try.ntmps33
  go_wp2_with fail
  go_quiet (fail)
  go_wp2_with fail
  go_ret
  exact ⟨by rw [HT.out, HD.out]; rfl, _, rfl⟩
end Go.Proofs.Ytmjmplkhngpgnaa
