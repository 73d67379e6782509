/- The walk of LeaseMax. -/
import Derived.Test.YthbjcaenkgjfaaaLaw6S
namespace Go.Proofs.Ythbjcaenkgjfaaa
open Go.RowKit
set_option linter.unusedVariables false
set_option linter.unusedSimpArgs false

/-! ### the greatest of some, in whatever order -/
def mx (f : Nat → Int) : Nat → Int
  | 0 => 0
  | n + 1 => max (mx f n) (f n)
def mxo (f : Nat → Int) (n : Nat) : Option Int := if n = 0 then none else some (mx f n)
theorem mx_le (f : Nat → Int) (c : Int) : ∀ n, mx f n ≤ c ↔ 0 ≤ c ∧ ∀ j, j < n → f j ≤ c
  | 0 => by simp [mx]
  | n + 1 => by
    have := mx_le f c n
    constructor
    · intro h
      unfold mx at h
      obtain ⟨h1, h2⟩ := this.1 (by omega)
      refine ⟨h1, fun j hj => ?_⟩
      by_cases e : j = n
      · subst e; omega
      · exact h2 j (by omega)
    · rintro ⟨h1, h2⟩
      have h3 := this.2 ⟨h1, fun j hj => h2 j (by omega)⟩
      have h4 := h2 n (by omega)
      unfold mx; omega
theorem mx_self (f : Nat → Int) (n : Nat) : 0 ≤ mx f n ∧ ∀ j, j < n → f j ≤ mx f n := (mx_le f _ n).1 (Int.le_refl _)
theorem rot_onto {n b j : Nat} (hj : j < n) : ∃ i, i < n ∧ (i + b) % n = j := by
  have hb := Nat.mod_lt b (show 0 < n by omega)
  refine ⟨(j + (n - b % n)) % n, Nat.mod_lt _ (by omega), ?_⟩
  rw [Nat.mod_add_mod]
  have hd := Nat.mod_add_div b n
  have e : j + (n - b % n) + b = j + n * (b / n + 1) := by
    rw [Nat.mul_succ]
    omega
  rw [e, Nat.add_mul_mod_self_left, Nat.mod_eq_of_lt hj]
theorem mx_rot (f : Nat → Int) (b n : Nat) : mx (fun j => f ((j + b) % n)) n = mx f n := by
  apply Int.le_antisymm
  · rw [mx_le]
    refine ⟨(mx_self f n).1, fun j hj => (mx_self f n).2 _ (Nat.mod_lt _ (by omega))⟩
  · rw [mx_le]
    refine ⟨(mx_self _ n).1, fun j hj => ?_⟩
    obtain ⟨i, hi, he⟩ := rot_onto (b := b) hj
    have := (mx_self (fun j => f ((j + b) % n)) n).2 i hi
    simp only [he] at this
    exact this
theorem mxo_rot (f : Nat → Int) (b n : Nat) : mxo (fun j => f ((j + b) % n)) n = mxo f n := by
  unfold mxo
  split
  · rfl
  · rw [mx_rot]
theorem mxo_succ (f : Nat → Int) (n : Nat) (h : 0 ≤ f n) : mxo f (n + 1) = some (max ((mxo f n).getD 0) (f n)) := by
  unfold mxo
  rw [if_neg (by omega)]
  split
  · rename_i h0
    subst h0
    rfl
  · rfl
def oneL : Option Int → List IP
  | none => []
  | some s => [(5, s)]
theorem one_at (x : Option Int) : atL 5 (oneL x) = x := by cases x <;> simp [oneL, atL]
theorem one_ren (x : Option Int) (t : Int) (h : 0 ≤ t) : renL 5 t (oneL x) = oneL (some (max (x.getD 0) t)) := by
  unfold renL
  rw [one_at]
  cases x
  · rfl
  · simp [oneL, putL]
theorem ren_at (k t : Int) {L : List IP} (h : Rising L) : atL k (renL k t L) = some (max ((atL k L).getD 0) t) := at_put_same _ _ h
theorem ren_at_other {k k' t : Int} (h : k' ≠ k) (L : List IP) : atL k' (renL k t L) = atL k' L := at_put_other h
theorem due_mem {n now : Int} {L : List IP} (h : Rising L) (k : Int) : k ∈ dueIds n now L ↔ isT now = true ∧ ∃ s, atL k L = some s ∧ n ≤ now - s := by
  unfold dueIds dueL
  cases isT now
  · simp
  · simp only [if_true, List.mem_map, List.mem_filter, true_and]
    constructor
    · rintro ⟨p, ⟨hp, hd⟩, rfl⟩
      exact ⟨p.2, mem_at h hp, by simpa using hd⟩
    · rintro ⟨s, hs, hd⟩
      exact ⟨(k, s), ⟨at_mem hs, by simpa using hd⟩, rfl⟩
theorem due_len {n now : Int} {L : List IP} (h : Rising L) (x : Option Int) (hx : atL 5 L = x) : decide (0 < ((dueIds n now (oneL x)).length : Int)) = decide ((5 : Int) ∈ dueIds n now L) := by
  apply decide_eq_decide.2
  rw [due_mem h, hx]
  cases x with
  | none => rw [show oneL none = [] from rfl, due_nil]; simp
  | some s =>
    show 0 < ((dueIds n now [(5, s)]).length : Int) ↔ _
    cases ht : isT now
    · have : dueIds n now [(5, s)] = [] := by unfold dueIds; rw [ht]; rfl
      rw [this]; simp
    · by_cases hd : n ≤ now - s
      · rw [due_one ht hd]; simp [hd]
      · rw [due_no hd]; simp [hd]

def u16s (l : List Int) : List Value := l.map (Value.int .u16)
theorem Reads.u16_at {w : World} {B n k : Nat} {A : Option Addr} {l : List Int} (h : Reads w B 1 A n (u16s l)) (hk : k < l.length) : ∃ ad, A = some ad ∧ ad.block < B ∧ w.cell? (ad.add k) = some (.int .u16 (l.getD k 0)) := by
  have hn : l.length = n := by have := h.1; simpa [u16s] using this
  obtain ⟨ad, e, hb, hc⟩ := h.2 (by omega)
  exact ⟨ad, e, hb, hc k _ (by simp [u16s, hk, List.getD])⟩
theorem Reads.u16_len {w : World} {B n : Nat} {A : Option Addr} {l : List Int} (h : Reads w B 1 A n (u16s l)) : l.length = n := by have := h.1; simpa [u16s] using this
theorem u16_in {l : List Int} (h : ∀ x ∈ l, (Lit.int .u16 x).wf = true) (k : Nat) : 0 ≤ l.getD k 0 ∧ l.getD k 0 ≤ 65535 := by
  by_cases hk : k < l.length
  · have := bounds_u16 (h l[k] (List.getElem_mem hk))
    simpa [List.getD, hk] using this
  · simp [List.getD, hk]

def sinceO : Option Int → Value
  | some s => .tuple #[.int .i64 s, .nilIface]
  | none => .tuple #[.int .i64 0, errno 10]
theorem since_of {k : Int} {L : List IP} {x : Option Int} (h : atL k L = x) : sinceV k L = sinceO x := by
  unfold sinceV
  rw [h]
  cases x <;> rfl
theorem mem_take_succ (l : List Int) (x : Int) {k : Nat} (h : k < l.length) : decide (x ∈ l.take (k + 1)) = (decide (x ∈ l.take k) || (l[k] == x)) := by
  rw [List.take_add_one, List.getElem?_eq_getElem h, Option.toList_some, Bool.eq_iff_iff]
  simp only [decide_eq_true_eq, Bool.or_eq_true, beq_iff_eq, List.mem_append, List.mem_singleton]
  constructor
  · rintro (h | h)
    · exact .inl h
    · exact .inr h.symm
  · rintro (h | h)
    · exact .inl h
    · exact .inr h.symm
theorem mod_nat (i b n : Nat) : ((i : Int) + (b : Int)).tmod (n : Int) = (((i + b) % n : Nat) : Int) := by
  rw [Int.tmod_eq_emod_of_nonneg (by omega)]
  simp

set_option maxRecDepth 100000 in
set_option maxHeartbeats 16000000 in
theorem leaseMax_walk (sp by_ now : Int) (A : Option Addr) (n c : Nat) (l : List Int) (hs : 0 ≤ sp ∧ sp < 65536) (hby : 0 ≤ by_ ∧ by_ < 256) (hnow : 0 ≤ now ∧ now < 4294967296) (w : World) (hr : Reads w w.heap.size 1 A n (u16s l)) (hw : ∀ x ∈ l, (Lit.int .u16 x).wf = true) :
    Calls Try.prog 6 #[.int .u16 sp, .slice A n c, .int .u8 by_, .int .u32 now] w fun e w' => e = .returned (.bool true) ∧ Below w.heap.size w w' := by
  obtain ⟨b, rfl⟩ : ∃ b : Nat, by_ = b := ⟨by_.toNat, by omega⟩
  have hnn := fun W => run_neq_nil_nil (P := Try.prog) W 26 Try.underlying26
  have h1 := Int.tmod_lt_of_pos sp (show (0 : Int) < 1000 by omega)
  have h2 : 0 ≤ sp.tmod 1000 := Int.tmod_nonneg _ hs.1
  generalize hr0 : sp.tmod 1000 = r at h1 h2
  have v1 : IntKind.i64.wrap sp = sp := IntWalk.i64_in _ (by omega)
  have v2 : IntKind.i64.wrap r = r := IntWalk.i64_in _ (by omega)
  have v3 : IntKind.i64.wrap (1 + r) = 1 + r := IntWalk.i64_in _ (by omega)
  have H := Lib.hid hr
  have HL := Lib.hid hr.u16_len
  have HI := Lib.hid (u16_in hw)
  clear hr hw
  by_cases hn : 60 < n
  · have d0 : decide ((60 : Int) < (n : Int)) = true := by simp; omega
    go_enter Try.func6, Try.ntmps6
    go_wp2_with fail
    refine (leaseAlive _).mono ?_
    rintro e w0 ⟨rfl, hb0⟩
    go_wp2_with fail
    go_ret
    exact ⟨rfl, hb0⟩
  · have d0 : decide ((60 : Int) < (n : Int)) = false := by simp; omega
    go_enter Try.func6, Try.ntmps6
    go_wp2_with fail
    refine (leaseAlive _).mono ?_
    rintro e w0 ⟨rfl, hb0⟩
    have B0 := Lib.hid hb0
    clear hb0
    go_wp2_with fail
    generalize hn0 : 1 + r = s
    have hn1 : 1 ≤ s ∧ s ≤ 1000 := by omega
    clear v3 v2 v1 h1 h2 hr0 hn0
    refine (newL_ok s hn1 _).mono ?_
    rintro e w1 ⟨rfl, hl1, hb1⟩
    have L1 := Lib.hid hl1
    have B1 := Lib.hid (stepB B0.out hb1)
    have hsz0 := B0.out.size
    have hsz1 := hl1.lt
    clear hl1 hb1
    go_wp2_with fail
    refine (newL_ok s hn1 _).mono ?_
    rintro e w2 ⟨rfl, hl2, hb2⟩
    have L2 := Lib.hid hl2
    have L1b := Lib.hid (L1.out.step hb2)
    have B2 := Lib.hid (stepB B1.out hb2)
    clear hl2 hb2
    have hbA : w.heap.size ≤ w0.heap.size := hsz0
    generalize hba : w0.heap.size = ba at L1 L1b hsz1 hbA ⊢
    have hbB : ba + 2 ≤ w1.heap.size := by omega
    generalize hbb : w1.heap.size = bb at L2 hsz1 hbB ⊢
    clear hba hbb hsz1 hsz0 L1
    have z0 : ∀ m : Nat, (mxo (fun j => l.getD j 0) m) = mxo (fun j => l.getD j 0) m := fun _ => rfl
    go_wp2_with fail
    go_loopw [14] (fun i wr => ∃ (m na nb : Nat) (Lb : List IP), m ≤ n ∧ i = .int .i64 m ∧ Lse wr (ba + 1) ba na s (oneL (mxo (fun j => l.getD j 0) m)) ∧ Lse wr (bb + 1) bb nb s Lb ∧ na ≤ m ∧ nb ≤ 2 * m ∧ atL 5 Lb = mxo (fun j => l.getD ((j + b) % n) 0) m ∧ Below w.heap.size w wr) (fun i _ => n - (RowKit.intOf i).toNat)
    case atStart => exact ⟨0, 0, 0, [], Nat.zero_le _, rfl, L1b.out, L2.out, Nat.le_refl _, Nat.le_refl _, rfl, B2.out⟩
    case round =>
      obtain ⟨m, na, nb, Lb, hm, rfl, hla, hlb, hna, hnb, hat, hbel⟩ := hrel
      have LA := Lib.hid hla
      have LB := Lib.hid hlb
      have HX := Lib.hid hbel
      have HA := Lib.hid hat
      clear hla hlb hbel hat
      by_cases hlt : m < n
      · have hq : (m + b) % n < n := Nat.mod_lt _ (by omega)
        have d1 : decide ((m : Int) < (n : Int)) = true := by simp; omega
        have c1 : IntKind.i64.wrap ((m : Int) + (b : Int)) = (m : Int) + (b : Int) := IntWalk.i64_in _ (by omega)
        have c2 : IntKind.i64.wrap (b : Int) = (b : Int) := IntWalk.i64_in _ (by omega)
        have c3 : IntKind.i64.wrap (6 + (m : Int)) = 6 + (m : Int) := IntWalk.i64_in _ (by omega)
        have c4 : ((n : Int) == 0) = false := by simp; omega
        have c5 := mod_nat m b n
        obtain ⟨ad, rfl, _, _⟩ := H.out.u16_at (k := m) (by rw [HL.out]; exact hlt)
        have HC := Lib.hid (fun W (hW : Below w.heap.size w W) => show W.cell? (ad.add m) = some (.int .u16 (l.getD m 0)) ∧ W.cell? (ad.add ((m + b) % n)) = some (.int .u16 (l.getD ((m + b) % n) 0)) by
          obtain ⟨a1, e1, _, k1⟩ := (H.out.below hW).u16_at (k := m) (by rw [HL.out]; exact hlt)
          obtain ⟨a2, e2, _, k2⟩ := (H.out.below hW).u16_at (k := (m + b) % n) (by rw [HL.out]; exact hq)
          cases e1; cases e2
          exact ⟨k1, k2⟩)
        have i1 := HI.out m
        have i2 := HI.out ((m + b) % n)
        have S1 := Lib.hid (show mxo (fun j => l.getD j 0) (m + 1) = some (max ((mxo (fun j => l.getD j 0) m).getD 0) (l.getD m 0)) from mxo_succ (fun j => l.getD j 0) m i1.1)
        have S2 := Lib.hid (show mxo (fun j => l.getD ((j + b) % n) 0) (m + 1) = some (max ((mxo (fun j => l.getD ((j + b) % n) 0) m).getD 0) (l.getD ((m + b) % n) 0)) from mxo_succ (fun j => l.getD ((j + b) % n) 0) m i2.1)
        generalize l.getD m 0 = x0 at HC i1 S1
        generalize l.getD ((m + b) % n) 0 = x1 at HC i2 S2
        generalize (m + b) % n = q at HC hq c5
        have u1 : IntKind.i64.wrap x0 = x0 := IntWalk.i64_in _ (by omega)
        have u2 : IntKind.i64.wrap x1 = x1 := IntWalk.i64_in _ (by omega)
        have c6 : IntKind.i64.wrap (q : Int) = (q : Int) := IntWalk.i64_in _ (by omega)
        obtain ⟨k1, k2⟩ := HC.out _ HX.out
        go_wp2_with fail
        refine (renew_ok 5 x0 (by omega) (isT_iff.2 (by omega)) _ LA.out (by simp only [maxLen]; omega)).mono ?_
        rintro e w3 ⟨rfl, hl3, ht3⟩
        rw [one_ren _ _ i1.1, ← S1.out] at hl3
        have LA3 := Lib.hid hl3
        have LB3 := Lib.hid (LB.out.turn ht3 (by omega) (by omega))
        have X3 := Lib.hid (HX.out.trans (ht3.below (B := w.heap.size) (fun k hk e => by omega) HX.out.size))
        obtain ⟨k3, k4⟩ := HC.out _ X3.out
        clear hl3 ht3
        go_wp2_with fail
        refine (renew_ok 5 x1 (by omega) (isT_iff.2 (by omega)) _ LB3.out (by simp only [maxLen]; omega)).mono ?_
        rintro e w4 ⟨rfl, hl4, ht4⟩
        have LA4 := Lib.hid (LA3.out.turn ht4 (by omega) (by omega))
        have LB4 := Lib.hid hl4
        have A4 := Lib.hid (show atL 5 (renL 5 x1 Lb) = mxo (fun j => l.getD ((j + b) % n) 0) (m + 1) by rw [S2.out, ren_at _ _ LB3.out.ok.ris, HA.out])
        have X4 := Lib.hid (X3.out.trans (ht4.below (B := w.heap.size) (fun k hk e => by omega) X3.out.size))
        obtain ⟨k5, k6⟩ := HC.out _ X4.out
        clear hl4 ht4
        go_wp2_with fail
        refine (renew_ok (6 + (m : Int)) x0 (by omega) (isT_iff.2 (by omega)) _ LB4.out (by simp only [maxLen]; omega)).mono ?_
        rintro e w5 ⟨rfl, hl5, ht5⟩
        have LA5 := Lib.hid (LA4.out.turn ht5 (by omega) (by omega))
        have LB5 := Lib.hid hl5
        have A5 := Lib.hid ((ren_at_other (k := 6 + (m : Int)) (k' := 5) (t := x0) (by omega) (renL 5 x1 Lb)).trans A4.out)
        have X5 := Lib.hid (X4.out.trans (ht5.below (B := w.heap.size) (fun k hk e => by omega) X4.out.size))
        clear hl5 ht5
        go_wp2_with fail
        go_roundw
        case rel => exact ⟨m + 1, na + 1, nb + 1 + 1, _, by omega, by go_num, LA5.out, LB5.out, by omega, by omega, A5.out, X5.out⟩
        case measure => simp [RowKit.intOf]; omega
      · obtain rfl : m = n := by omega
        have d1 : decide ((m : Int) < (m : Int)) = false := by simp
        have HA2 := Lib.hid (HA.out.trans (mxo_rot (fun j => l.getD j 0) b m))
        clear HA
        generalize mxo (fun j => l.getD j 0) m = x at LA HA2
        have hLb := MapI.size_le LB.out.map
        have hil : (dueIds s now Lb).length ≤ 1000 := by
          unfold dueIds dueL
          split
          · rw [List.length_map]; exact Nat.le_trans (List.length_filter_le _ _) (by omega)
          · simp
        have HE := Lib.hid (due_len (n := s) (now := now) LB.out.ok.ris x HA2.out)
        have u1 : IntKind.i64.wrap now = now := IntWalk.i64_in _ (by omega)
        have HS1 := Lib.hid (since_of (one_at x))
        have HS2 := Lib.hid (since_of HA2.out)
        clear HA2 hLb
        generalize hids : dueIds s now Lb = ids at hil HE
        generalize hz : (dueIds s now (oneL x)).length = z at HE
        have HZ := Lib.hid hz
        clear hz
        have HID := Lib.hid hids
        clear hids
        rcases x with _ | v
        · go_wp2_with fail
          refine (since_any 5 (by decide) _ LA.out).mono ?_
          rw [HS1.out, sinceO]
          rintro e w' ⟨rfl, rfl⟩
          go_wp2_with fail
          refine (since_any 5 (by decide) _ LB.out).mono ?_
          rw [HS2.out, sinceO]
          rintro e w' ⟨rfl, rfl⟩
          go_wp2_with fail
          refine (due_s now _ LB.out (by omega)).mono ?_
          rw [HID.out]
          rintro e w6 ⟨A6, c6, rfl, hr6, hb6⟩
          have R6 := Lib.hid hr6
          have LA6 := Lib.hid (LA.out.step hb6)
          have B6 := Lib.hid (stepB HX.out hb6)
          clear hr6 hb6
          go_wp2_with fail
          go_loopw [20, 22] (fun f i W => ∃ k : Nat, k ≤ ids.length ∧ i = .int .i64 k ∧ f = .bool (decide ((5 : Int) ∈ ids.take k)) ∧ W = w6) (fun _ i _ => ids.length - (RowKit.intOf i).toNat)
          case atStart => exact ⟨0, Nat.zero_le _, rfl, by simp, rfl⟩
          case round =>
            obtain ⟨k, hk, rfl, rfl, rfl⟩ := hrel
            by_cases hlt : k < ids.length
            · have d2 : decide ((k : Int) < (ids.length : Int)) = true := by simp; omega
              obtain ⟨ad, rfl, _, hc⟩ := R6.out.int_at (k := k) hlt
              have hT := Lib.hid (mem_take_succ ids 5 hlt)
              generalize ids[k] = y at hc hT
              generalize decide ((5 : Int) ∈ ids.take k) = f at hT ⊢
              cases f
              · by_cases hy : y = 5
                · have e1 : (y == 5) = true := by simpa using hy
                  have HT2 := Lib.hid (hT.out.trans (show (false || (y == 5)) = true by simp [e1]))
                  clear hT hy
                  go_wp2_with fail
                  go_roundw
                  case rel => exact ⟨k + 1, by omega, by go_num, by rw [HT2.out], trivial⟩
                  case measure => simp [RowKit.intOf]; omega
                · have e1 : (y == 5) = false := by simpa using hy
                  have HT2 := Lib.hid (hT.out.trans (show (false || (y == 5)) = false by simp [e1]))
                  clear hT hy
                  go_wp2_with fail
                  go_roundw
                  case rel => exact ⟨k + 1, by omega, by go_num, by rw [HT2.out], trivial⟩
                  case measure => simp [RowKit.intOf]; omega
              · have HT2 := Lib.hid (hT.out.trans (show (true || (y == 5)) = true from rfl))
                clear hT
                go_wp2_with fail
                go_roundw
                case rel => exact ⟨k + 1, by omega, by go_num, by rw [HT2.out], trivial⟩
                case measure => simp [RowKit.intOf]; omega
            · obtain rfl : k = ids.length := by omega
              have d2 : decide ((ids.length : Int) < (ids.length : Int)) = false := by simp
              rw [List.take_length]
              generalize decide ((5 : Int) ∈ ids) = f at HE ⊢
              go_wp2_with (go_at_call 9; refine (code_errno 10 (by decide) _).mono ?_; rintro e w' ⟨rfl, rfl⟩)
              refine (due_s now _ LA6.out (by omega)).mono ?_
              rw [HZ.out]
              rintro e w7 ⟨A7, c7, rfl, hr7, hb7⟩
              have B7 := Lib.hid (stepB B6.out hb7)
              have HE2 : decide (0 < z) = f := by rw [← HE.out]; simp
              clear hr7 hb7 HE
              cases f
              all_goals
                go_wp2_with fail
                go_ret
                exact ⟨by first | rfl | (rw [HE2]; rfl), B7.out⟩
        · go_wp2_with fail
          refine (since_any 5 (by decide) _ LA.out).mono ?_
          rw [HS1.out, sinceO]
          rintro e w' ⟨rfl, rfl⟩
          go_wp2_with fail
          refine (since_any 5 (by decide) _ LB.out).mono ?_
          rw [HS2.out, sinceO]
          rintro e w' ⟨rfl, rfl⟩
          go_wp2_with fail
          refine (due_s now _ LB.out (by omega)).mono ?_
          rw [HID.out]
          rintro e w6 ⟨A6, c6, rfl, hr6, hb6⟩
          have R6 := Lib.hid hr6
          have LA6 := Lib.hid (LA.out.step hb6)
          have B6 := Lib.hid (stepB HX.out hb6)
          clear hr6 hb6
          go_wp2_with fail
          go_loopw [20, 22] (fun f i W => ∃ k : Nat, k ≤ ids.length ∧ i = .int .i64 k ∧ f = .bool (decide ((5 : Int) ∈ ids.take k)) ∧ W = w6) (fun _ i _ => ids.length - (RowKit.intOf i).toNat)
          case atStart => exact ⟨0, Nat.zero_le _, rfl, by simp, rfl⟩
          case round =>
            obtain ⟨k, hk, rfl, rfl, rfl⟩ := hrel
            by_cases hlt : k < ids.length
            · have d2 : decide ((k : Int) < (ids.length : Int)) = true := by simp; omega
              obtain ⟨ad, rfl, _, hc⟩ := R6.out.int_at (k := k) hlt
              have hT := Lib.hid (mem_take_succ ids 5 hlt)
              generalize ids[k] = y at hc hT
              generalize decide ((5 : Int) ∈ ids.take k) = f at hT ⊢
              cases f
              · by_cases hy : y = 5
                · have e1 : (y == 5) = true := by simpa using hy
                  have HT2 := Lib.hid (hT.out.trans (show (false || (y == 5)) = true by simp [e1]))
                  clear hT hy
                  go_wp2_with fail
                  go_roundw
                  case rel => exact ⟨k + 1, by omega, by go_num, by rw [HT2.out], trivial⟩
                  case measure => simp [RowKit.intOf]; omega
                · have e1 : (y == 5) = false := by simpa using hy
                  have HT2 := Lib.hid (hT.out.trans (show (false || (y == 5)) = false by simp [e1]))
                  clear hT hy
                  go_wp2_with fail
                  go_roundw
                  case rel => exact ⟨k + 1, by omega, by go_num, by rw [HT2.out], trivial⟩
                  case measure => simp [RowKit.intOf]; omega
              · have HT2 := Lib.hid (hT.out.trans (show (true || (y == 5)) = true from rfl))
                clear hT
                go_wp2_with fail
                go_roundw
                case rel => exact ⟨k + 1, by omega, by go_num, by rw [HT2.out], trivial⟩
                case measure => simp [RowKit.intOf]; omega
            · obtain rfl : k = ids.length := by omega
              have d2 : decide ((ids.length : Int) < (ids.length : Int)) = false := by simp
              rw [List.take_length]
              generalize decide ((5 : Int) ∈ ids) = f at HE ⊢
              go_wp2_with (go_at_call 9; refine (code_nil _).mono ?_; rintro e w' ⟨rfl, rfl⟩)
              refine (due_s now _ LA6.out (by omega)).mono ?_
              rw [HZ.out]
              rintro e w7 ⟨A7, c7, rfl, hr7, hb7⟩
              have B7 := Lib.hid (stepB B6.out hb7)
              have HE2 : decide (0 < z) = f := by rw [← HE.out]; simp
              clear hr7 hb7 HE
              cases f
              all_goals
                go_wp2_with fail
                go_ret
                exact ⟨by first | rfl | (rw [HE2]; rfl), B7.out⟩
end Go.Proofs.Ythbjcaenkgjfaaa
