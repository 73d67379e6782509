/- LineOrder's walk. -/
import Derived.Test.YtflnjechinfcdaaLaw7N
namespace Go.Proofs.Ytflnjechinfcdaa
open Go.RowKit
set_option linter.unusedVariables false
set_option linter.unusedSimpArgs false

/-- What comes of those that wait by one thing that is done. -/
structure Steps (P N : List Wt) : Prop where
  mono : ∀ (i j a b : Nat) (hi : i < N.length) (hj : j < N.length), i < j → idx N[i].tx P = some a → idx N[j].tx P = some b → a ≤ b
  new : ∀ (i : Nat) (hi : i + 1 < N.length), idx (N[i]'(by omega)).tx P = none → (N[i + 1].up == (N[i]'(by omega)).up) = false
theorem steps_same {P : List Wt} (h : Once P) : Steps P P :=
  ⟨fun i j a b hi hj hij ha hb => by rw [idx_once h hi] at ha; rw [idx_once h hj] at hb; cases ha; cases hb; omega,
   fun i hi hx => by rw [idx_once h (show i < P.length by omega)] at hx; cases hx⟩
theorem steps_erase {P : List Wt} (h : Once P) (m : Nat) (hm : m < P.length) : Steps P (P.eraseIdx m) := by
  have hl : (P.eraseIdx m).length = P.length - 1 := by rw [List.length_eraseIdx, if_pos hm]
  have hg : ∀ (i : Nat) (hi : i < (P.eraseIdx m).length), idx (P.eraseIdx m)[i].tx P = some (if i < m then i else i + 1) := fun i hi => by
    rw [List.getElem_eraseIdx]
    split
    · exact idx_once h _
    · exact idx_once h _
  refine ⟨fun i j a b hi hj hij ha hb => ?_, fun i hi hx => ?_⟩
  · rw [hg i hi] at ha; rw [hg j hj] at hb
    injection ha with ha; injection hb with hb
    subst ha hb
    split <;> split <;> omega
  · rw [hg i (by omega)] at hx; cases hx
theorem steps_insert {P A B : List Wt} (hP : P = A ++ B) (h : Once P) {q : Wt} (hq : idx q.tx P = none) (hB : ∀ p ∈ B, (p.up == q.up) = false) : Steps P (A ++ [q] ++ B) := by
  subst hP
  have hl : (A ++ [q] ++ B).length = A.length + B.length + 1 := by simp; omega
  have hlP : (A ++ B).length = A.length + B.length := by simp
  have hg : ∀ (i : Nat) (hi : i < (A ++ [q] ++ B).length), idx (A ++ [q] ++ B)[i].tx (A ++ B) = if i < A.length then some i else if i = A.length then none else some (i - 1) := fun i hi => by
    rcases Nat.lt_trichotomy i A.length with h1 | h1 | h1
    · rw [if_pos h1]
      have e : (A ++ [q] ++ B)[i] = (A ++ B)[i]'(by omega) := by
        rw [List.getElem_append_left (by simp; omega), List.getElem_append_left h1, List.getElem_append_left h1]
      rw [e]; exact idx_once h _
    · rw [if_neg (by omega), if_pos h1]
      have e : (A ++ [q] ++ B)[i] = q := by
        subst h1
        rw [List.getElem_append_left (by simp)]
        simp
      rw [e]; exact hq
    · rw [if_neg (by omega), if_neg (by omega)]
      have e : (A ++ [q] ++ B)[i] = (A ++ B)[i - 1]'(by omega) := by
        rw [List.getElem_append_right (by simp; omega), List.getElem_append_right (by omega)]
        congr 1; simp; omega
      rw [e]; exact idx_once h _
  refine ⟨fun i j a b hi hj hij ha hb => ?_, fun i hi hx => ?_⟩
  · rw [hg i hi] at ha; rw [hg j hj] at hb
    split at ha
    · cases ha
      split at hb
      · cases hb; omega
      · split at hb
        · cases hb
        · cases hb; omega
    · split at ha
      · cases ha
      · cases ha
        split at hb
        · omega
        · split at hb
          · cases hb
          · cases hb; omega
  · rw [hg i (by omega)] at hx
    split at hx
    · cases hx
    · split at hx
      · rename_i h1 h2
        have e0 : (A ++ [q] ++ B)[i]'(by omega) = q := by
          subst h2
          rw [List.getElem_append_left (by simp)]
          simp
        have e1 : (A ++ [q] ++ B)[i + 1] ∈ B := by
          rw [List.getElem_append_right (by simp; omega)]
          exact List.getElem_mem _
        rw [e0]
        exact hB _ e1
      · cases hx
theorem steps_act {lim : Int} {U D : List Wt} (h : LinOk lim U D) (K : Int) (q : Wt) : Steps (U ++ D) (actU lim K q U D ++ actD lim K q U D) := by
  have lev : ∀ t, Steps (U ++ D) (levU t U ++ levD t U D) := fun t => by
    rw [lev_append]
    cases hx : idx t (U ++ D) with
    | some k => exact steps_erase h.once k (idx_lt hx)
    | none => exact steps_same h.once
  unfold actU actD
  by_cases h0 : K = 0
  · rw [if_pos h0, if_pos h0]
    unfold putU putD
    by_cases hc : pushC lim q U D = 0
    · rw [if_pos hc, if_pos hc]
      obtain ⟨hm, hx, hl⟩ := pushC_zero hc
      unfold pushU pushD
      cases hu : q.up
      · simp only [Bool.false_eq_true, if_false]
        have := steps_insert (A := U ++ D) (B := []) (by simp) h.once hx (by simp)
        simpa using this
      · simp only [if_true]
        exact steps_insert (A := U) (B := D) rfl h.once hx (fun p hp => by rw [h.dns p hp, hu]; rfl)
    · rw [if_neg hc, if_neg hc]
      exact steps_same h.once
  · rw [if_neg h0, if_neg h0]
    split
    · exact lev _
    · split
      · exact lev _
      · exact steps_same h.once
/-- Nobody without a lock stands ahead of one that has it. -/
theorem LinOk.above {lim : Int} {U D : List Wt} (h : LinOk lim U D) (i : Nat) (hi : i + 1 < (U ++ D).length) (hu : (U ++ D)[i + 1].up = true) : ((U ++ D)[i]'(by omega)).up = true := by
  rcases Nat.lt_or_ge (i + 1) U.length with h1 | h1
  · rw [List.getElem_append_left (by omega)]; exact h.ups _ (List.getElem_mem _)
  · rw [List.getElem_append_right h1] at hu
    rw [h.dns _ (List.getElem_mem _)] at hu; cases hu
def Above (N : List Wt) : Prop := ∀ (i : Nat) (hi : i + 1 < N.length), N[i + 1].up = true → (N[i]'(by omega)).up = true
theorem LinOk.above' {lim : Int} {U D : List Wt} (h : LinOk lim U D) : Above (U ++ D) := fun i hi hu => h.above i hi hu
theorem Reads.w_all {w : World} {B n : Nat} {A : Option Addr} {L : List Wt} (h : Reads w B 4 A n (wvs L)) (h0 : 0 < L.length) :
    ∃ b off, A = some ⟨b, off, none⟩ ∧ ∀ (i : Nat) (hi : i < L.length), w.cell? ⟨b, off + i * 4, none⟩ = some (.int .i64 L[i].tx) ∧ w.cell? ⟨b, off + i * 4 + 3, none⟩ = some (.bool L[i].up) := by
  obtain ⟨b, off, rfl, _⟩ := h.w_at h0
  refine ⟨b, off, rfl, fun i hi => ?_⟩
  obtain ⟨b', off', e, _, c0, _, _, c3⟩ := h.w_at hi
  cases e
  exact ⟨c0, c3⟩
set_option maxRecDepth 100000 in
set_option maxHeartbeats 16000000 in
theorem lineOrder_walk (A : Option Addr) (n c : Nat) (l : List (Int × Wt)) (w : World) (hl : l.length = n) (hr : Reads w w.heap.size 5 A n (avs l)) :
    Calls Try.prog 4 #[.slice A n c] w fun e w' => e = .returned (.bool true) ∧ Below w.heap.size w w' := by
  have HR := Lib.hid hr
  have HN := Lib.hid hl
  have hn0 := fun W => run_neq_nil_nil (P := Try.prog) W 26 Try.underlying26
  clear hr hl
  by_cases hbig : 200 < n
  · have d1 : decide ((200 : Int) < (n : Int)) = true := decide_eq_true (by omega)
    have d2 : decide (200 < n) = true := decide_eq_true hbig
    go_enter Try.func4, Try.ntmps4
    go_wp2_with fail
    refine (alive_true _).mono ?_
    rintro e w1 ⟨rfl, hb1⟩
    have B1 := Lib.hid hb1
    clear hb1
    go_wp2_with fail
    go_ret
    exact ⟨rfl, B1.out⟩
  · have d1 : decide ((200 : Int) < (n : Int)) = false := decide_eq_false (by omega)
    have d2 : decide (200 < n) = false := decide_eq_false hbig
    go_enter Try.func4, Try.ntmps4
    go_wp2_with fail
    refine (alive_true _).mono ?_
    rintro e w1 ⟨rfl, hb1⟩
    have B1 := Lib.hid hb1
    clear hb1
    go_wp2_with fail
    refine (newLine_ok 64 (by decide) _).mono ?_
    rintro e w2 ⟨rfl, hl6, hb6⟩
    have L6 := Lib.hid hl6
    have B6 := Lib.hid (stepB B1.out hb6)
    have HZ := Lib.hid (show w.heap.size ≤ w1.heap.size from B1.out.size)
    clear hl6 hb6
    generalize w1.heap.size = z at L6 HZ ⊢
    go_wp2_with fail
    clear d1 d2
    go_loopw [5] (fun i W => ∃ (k : Nat) (U D : List Wt) (r0 r1 : Option Nat), k ≤ n ∧ i = .int .i64 k ∧ Line W z z r0 r1 64 U D ∧ Below w.heap.size w W) (fun i _ => n - (RowKit.intOf i).toNat)
    case atStart => exact ⟨0, [], [], none, none, Nat.zero_le _, rfl, L6.out, B6.out⟩
    case round =>
      obtain ⟨k, U, D, r0, r1, hk, rfl, hlk, hbk⟩ := hrel
      rename World => W
      have LK := Lib.hid hlk
      have BK := Lib.hid hbk
      have HOKK := Lib.hid hlk.ok
      have hlen := hlk.ok.len
      clear hlk hbk
      by_cases hlt : k < n
      · have d3 : decide ((k : Int) < (n : Int)) = true := decide_eq_true (by omega)
        have hkl : k < l.length := by rw [HN.out]; exact hlt
        obtain ⟨b, off, rfl, hbb, hcell⟩ := HR.out.act_at hkl
        have HC := Lib.hid (fun X (hX : Below w.heap.size w X) (j : Nat) (v : Value) hv => ((hX.cell (p := ⟨b, off + k * 5 + j, none⟩) hbb).trans (hcell j v hv)))
        clear hcell
        generalize l[k] = q at HC
        obtain ⟨K, qa, qb, qc, qd⟩ := q
        go_wp2_with fail
        refine (allLine_any _ LK.out).mono ?_
        rintro e w3 ⟨A6, rfl, hT, hb3⟩
        have T3 := Lib.hid hT.reads
        have O3 := Lib.hid (LK.out.off (A := A6) (fun ad he => (hT.new ad he).1))
        have L3 := Lib.hid (LK.out.step hb3)
        have B3 := Lib.hid (stepB BK.out hb3)
        clear hT hb3
        go_wp2_with (refine wpList_load_cells rfl 35 (.tmp 37) rfl ⟨b, off + k * 5, none⟩ rfl [.int .i64 K, .int .i64 qa, .int .i64 qb, .int .i64 qc, .bool qd] _ (act_list (HC.out w3 B3.out)) Try.underlying35 rfl info_act ?_)
        refine (act_any K ⟨qa, qb, qc, qd⟩ _ L3.out).mono ?_
        rintro e w4 ⟨rfl, r0', r1', hl4, ht4, hx4⟩
        have HST := Lib.hid (steps_act HOKK.out K ⟨qa, qb, qc, qd⟩)
        generalize actC 64 K ⟨qa, qb, qc, qd⟩ U D = cd
        generalize actW K ⟨qa, qb, qc, qd⟩ U D = p
        generalize actU 64 K ⟨qa, qb, qc, qd⟩ U D = U' at hl4 HST
        generalize actD 64 K ⟨qa, qb, qc, qd⟩ U D = D' at hl4 HST
        have L4 := Lib.hid hl4
        have B4 := Lib.hid (B3.out.trans ((L3.out.below_of ht4).mono HZ.out))
        have R4 := Lib.hid (told_kept T3.out ht4 O3.out)
        clear hl4 ht4 hx4 T3 O3 L3 B3 LK BK
        go_wp2_with fail
        refine (allLine_any _ L4.out).mono ?_
        rintro e w5 ⟨A7, rfl, hT, hb5⟩
        have R7 := Lib.hid hT.reads
        have R6 := Lib.hid ((R4.out.below hb5).more hb5.size)
        have L5 := Lib.hid (L4.out.step hb5)
        have B5 := Lib.hid (stepB B4.out hb5)
        have HAB := Lib.hid L4.out.ok.above'
        have hlen7 := L4.out.ok.len
        have HL7 := Lib.hid (show (U' ++ D').length = U'.length + D'.length from List.length_append)
        have hlen6 : U.length + D.length ≤ 1000000 := by omega
        clear hT hb5 L4 B4 R4
        generalize U' ++ D' = N at R7 HAB HL7 HST
        generalize U'.length + D'.length = n7 at R7 hlen7 HL7 ⊢
        generalize U ++ D = P at R6 HST
        generalize U.length + D.length = n6 at R6 hlen6 ⊢
        go_wp2_with fail
        go_loopw [8, 9] (fun s8 s9 X => ∃ (att kk : Nat), kk ≤ n7 ∧ s8 = .int .i64 att ∧ s9 = .int .i64 kk ∧ (att = 0 ∨ ∃ (i : Nat) (hi : i < N.length), i < kk ∧ idx N[i].tx P = some att) ∧ Below w5.heap.size w5 X) (fun _ s9 _ => n7 - (RowKit.intOf s9).toNat)
        case atStart => exact ⟨0, 0, Nat.zero_le _, rfl, rfl, .inl rfl, Below.refl _ _⟩
        case round =>
          obtain ⟨att, kk, hkk7, rfl, rfl, hat, hbx⟩ := hrel
          rename World => X
          have BX := Lib.hid hbx
          have HAT := Lib.hid hat
          clear hbx hat
          by_cases hlt7 : kk < n7
          · have d4 : decide ((kk : Int) < (n7 : Int)) = true := decide_eq_true (by omega)
            have hkk : kk < N.length := by rw [HL7.out]; exact hlt7
            obtain ⟨b7, o7, rfl, hcx⟩ := ((R7.out.below BX.out).more BX.out.size).w_all (by omega)
            have HCX := Lib.hid hcx
            have c0 := (hcx kk hkk).1
            have c3 := (hcx kk hkk).2
            clear hcx
            obtain ⟨u, hu⟩ : ∃ u, u = N[kk].up := ⟨_, rfl⟩
            rw [← hu] at c3
            have HUK := Lib.hid hu.symm
            clear hu
            go_wp2_with fail
            refine (refFind_any A6 n6 _ _ P N[kk].tx X hlen6 ((R6.out.below BX.out).more BX.out.size)).mono ?_
            rintro e w' ⟨rfl, rfl⟩
            cases hx : idx N[kk].tx P with
            | some a =>
              have HF := Lib.hid (show refF N[kk].tx P = (a : Int) by unfold refF; rw [hx])
              have hmono : att ≤ a := by
                rcases HAT.out with h1 | ⟨i, hi, hik, hxi⟩
                · omega
                · exact HST.out.mono i kk att a hi hkk hik hxi hx
              have HNW := Lib.hid (show ∃ (i : Nat) (hi : i < N.length), i < kk + 1 ∧ idx N[i].tx P = some a from ⟨kk, hkk, by omega, hx⟩)
              have d56 : decide (0 ≤ (a : Int)) = true := decide_eq_true (by omega)
              have d59 : decide ((a : Int) < (att : Int)) = false := decide_eq_false (by omega)
              have d60 : decide (a < att) = false := decide_eq_false (by omega)
              have d80 : decide ((a : Int) < 0) = false := decide_eq_false (by omega)
              clear hx c0 hmono
              rw [HF.out]
              by_cases hk0 : kk = 0
              · have d62 : decide (0 < (kk : Int)) = false := decide_eq_false (by omega)
                have d63 : decide (0 < kk) = false := decide_eq_false (by omega)
                clear hk0
                go_wp2_with fail
                go_quiet (fail)
                go_wp2_with fail
                go_roundw
                case rel => exact ⟨a, kk + 1, by omega, rfl, by go_num, .inr HNW.out, below_drewN BX.out _⟩
                case measure => simp [RowKit.intOf]; omega
              · have d62 : decide (0 < (kk : Int)) = true := decide_eq_true (by omega)
                have d63 : decide (0 < kk) = true := decide_eq_true (by omega)
                cases u with
                | false =>
                  go_wp2_with fail
                  go_quiet (fail)
                  go_wp2_with fail
                  go_roundw
                  case rel => exact ⟨a, kk + 1, by omega, rfl, by go_num, .inr HNW.out, below_drewN BX.out _⟩
                  case measure => simp [RowKit.intOf]; omega
                | true =>
                  obtain ⟨j, rfl⟩ : ∃ j, kk = j + 1 := ⟨kk - 1, by omega⟩
                  have cj : X.cell? ⟨b7, o7 + j * 4 + 3, none⟩ = some (.bool true) := by rw [(HCX.out j (by omega)).2, HAB.out j hkk HUK.out]
                  have s1 : IntKind.i64.wrap (((j + 1 : Nat) : Int) - 1) = (j : Int) := by rw [show ((j + 1 : Nat) : Int) - 1 = (j : Int) by omega]; exact IntWalk.i64_in _ (by omega)
                  have hj64 : j ≤ 64 := by omega
                  have hjn : j < n7 := by omega
                  have hjn1 : j + 1 < n7 := by omega
                  go_wp2_with fail
                  go_quiet (fail)
                  go_wp2_with fail
                  go_roundw
                  case rel => exact ⟨a, j + 1 + 1, by omega, rfl, by go_num, .inr HNW.out, below_drewN BX.out _⟩
                  case measure => simp [RowKit.intOf]; omega
            | none =>
              have HF := Lib.hid (show refF N[kk].tx P = -1 by unfold refF; rw [hx])
              have HNW := Lib.hid (show att = 0 ∨ ∃ (i : Nat) (hi : i < N.length), i < kk + 1 ∧ idx N[i].tx P = some att from by
                rcases HAT.out with h1 | ⟨i, hi, hik, hxi⟩
                · exact .inl h1
                · exact .inr ⟨i, hi, by omega, hxi⟩)
              have HNE := Lib.hid (HST.out.new kk)
              by_cases hlast : kk + 1 < n7
              · have hk1 : kk + 1 < N.length := by rw [HL7.out]; exact hlast
                have e100 := HNE.out hk1 hx
                rw [HUK.out] at e100
                have c4 := (HCX.out (kk + 1) hk1).2
                generalize N[kk + 1].up = u1 at c4 e100
                clear hx c0 HNE
                rw [HF.out]
                by_cases hk0 : kk = 0
                · have d62 : decide (0 < (kk : Int)) = false := decide_eq_false (by omega)
                  have d63 : decide (0 < kk) = false := decide_eq_false (by omega)
                  clear hk0
                  have d86 : decide ((kk : Int) < (n7 : Int) - 1) = true := decide_eq_true (by omega)
                  have s2 : IntKind.i64.wrap ((n7 : Int) - 1) = (n7 : Int) - 1 := IntWalk.i64_in _ (by omega)
                  have s3 : IntKind.i64.wrap ((kk : Int) + 1) = ((kk + 1 : Nat) : Int) := by rw [Int.natCast_add]; exact IntWalk.i64_in _ (by omega)
                  go_wp2_with fail
                  go_quiet (fail)
                  go_wp2_with fail
                  go_roundw
                  case rel => exact ⟨att, kk + 1, by omega, rfl, by go_num, HNW.out, below_drewN BX.out _⟩
                  case measure => simp [RowKit.intOf]; omega
                · have d62 : decide (0 < (kk : Int)) = true := decide_eq_true (by omega)
                  have d63 : decide (0 < kk) = true := decide_eq_true (by omega)
                  cases u with
                  | false =>
                    have d86 : decide ((kk : Int) < (n7 : Int) - 1) = true := decide_eq_true (by omega)
                    have s2 : IntKind.i64.wrap ((n7 : Int) - 1) = (n7 : Int) - 1 := IntWalk.i64_in _ (by omega)
                    have s3 : IntKind.i64.wrap ((kk : Int) + 1) = ((kk + 1 : Nat) : Int) := by rw [Int.natCast_add]; exact IntWalk.i64_in _ (by omega)
                    go_wp2_with fail
                    go_quiet (fail)
                    go_wp2_with fail
                    go_roundw
                    case rel => exact ⟨att, kk + 1, by omega, rfl, by go_num, HNW.out, below_drewN BX.out _⟩
                    case measure => simp [RowKit.intOf]; omega
                  | true =>
                    obtain ⟨j, rfl⟩ : ∃ j, kk = j + 1 := ⟨kk - 1, by omega⟩
                    have cj : X.cell? ⟨b7, o7 + j * 4 + 3, none⟩ = some (.bool true) := by rw [(HCX.out j (by omega)).2, HAB.out j hkk HUK.out]
                    have s1 : IntKind.i64.wrap (((j + 1 : Nat) : Int) - 1) = (j : Int) := by rw [show ((j + 1 : Nat) : Int) - 1 = (j : Int) by omega]; exact IntWalk.i64_in _ (by omega)
                    have hj64 : j ≤ 64 := by omega
                    have hjn : j < n7 := by omega
                    have hjn1 : j + 1 < n7 := by omega
                    have d86 : decide (((j + 1) : Int) < (n7 : Int) - 1) = true := decide_eq_true (by omega)
                    have s2 : IntKind.i64.wrap ((n7 : Int) - 1) = (n7 : Int) - 1 := IntWalk.i64_in _ (by omega)
                    have s3 : IntKind.i64.wrap (((j + 1) : Int) + 1) = (((j + 1) + 1 : Nat) : Int) := by rw [Int.natCast_add]; exact IntWalk.i64_in _ (by omega)
                    go_wp2_with fail
                    go_quiet (fail)
                    go_wp2_with fail
                    go_roundw
                    case rel => exact ⟨att, j + 1 + 1, by omega, rfl, by go_num, HNW.out, below_drewN BX.out _⟩
                    case measure => simp [RowKit.intOf]; omega
              · clear hx c0 HNE
                rw [HF.out]
                by_cases hk0 : kk = 0
                · have d62 : decide (0 < (kk : Int)) = false := decide_eq_false (by omega)
                  have d63 : decide (0 < kk) = false := decide_eq_false (by omega)
                  clear hk0
                  have d86 : decide ((kk : Int) < (n7 : Int) - 1) = false := decide_eq_false (by omega)
                  have s2 : IntKind.i64.wrap ((n7 : Int) - 1) = (n7 : Int) - 1 := IntWalk.i64_in _ (by omega)
                  go_wp2_with fail
                  go_quiet (fail)
                  go_wp2_with fail
                  go_roundw
                  case rel => exact ⟨att, kk + 1, by omega, rfl, by go_num, HNW.out, below_drewN BX.out _⟩
                  case measure => simp [RowKit.intOf]; omega
                · have d62 : decide (0 < (kk : Int)) = true := decide_eq_true (by omega)
                  have d63 : decide (0 < kk) = true := decide_eq_true (by omega)
                  cases u with
                  | false =>
                    have d86 : decide ((kk : Int) < (n7 : Int) - 1) = false := decide_eq_false (by omega)
                    have s2 : IntKind.i64.wrap ((n7 : Int) - 1) = (n7 : Int) - 1 := IntWalk.i64_in _ (by omega)
                    go_wp2_with fail
                    go_quiet (fail)
                    go_wp2_with fail
                    go_roundw
                    case rel => exact ⟨att, kk + 1, by omega, rfl, by go_num, HNW.out, below_drewN BX.out _⟩
                    case measure => simp [RowKit.intOf]; omega
                  | true =>
                    obtain ⟨j, rfl⟩ : ∃ j, kk = j + 1 := ⟨kk - 1, by omega⟩
                    have cj : X.cell? ⟨b7, o7 + j * 4 + 3, none⟩ = some (.bool true) := by rw [(HCX.out j (by omega)).2, HAB.out j hkk HUK.out]
                    have s1 : IntKind.i64.wrap (((j + 1 : Nat) : Int) - 1) = (j : Int) := by rw [show ((j + 1 : Nat) : Int) - 1 = (j : Int) by omega]; exact IntWalk.i64_in _ (by omega)
                    have hj64 : j ≤ 64 := by omega
                    have hjn : j < n7 := by omega
                    have hjn1 : j + 1 < n7 := by omega
                    have d86 : decide (((j + 1) : Int) < (n7 : Int) - 1) = false := decide_eq_false (by omega)
                    have s2 : IntKind.i64.wrap ((n7 : Int) - 1) = (n7 : Int) - 1 := IntWalk.i64_in _ (by omega)
                    go_wp2_with fail
                    go_quiet (fail)
                    go_wp2_with fail
                    go_roundw
                    case rel => exact ⟨att, j + 1 + 1, by omega, rfl, by go_num, HNW.out, below_drewN BX.out _⟩
                    case measure => simp [RowKit.intOf]; omega
          · have d4 : decide ((kk : Int) < (n7 : Int)) = false := decide_eq_false (by omega)
            have LX := Lib.hid (L5.out.step BX.out)
            have BW := Lib.hid (stepB B5.out BX.out)
            clear R7 R6
            go_wp2_with fail
            go_roundw
            case rel => exact ⟨k + 1, U', D', r0', r1', by omega, by go_num, LX.out, BW.out⟩
            case measure => simp [RowKit.intOf]; omega
      · have d3 : decide ((k : Int) < (n : Int)) = false := decide_eq_false (by omega)
        go_wp2_with fail
        go_ret
        exact ⟨rfl, BK.out⟩
end Go.Proofs.Ytflnjechinfcdaa
