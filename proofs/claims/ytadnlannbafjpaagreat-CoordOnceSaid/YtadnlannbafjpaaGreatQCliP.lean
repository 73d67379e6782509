/- The contracts of errors.Is over numbers of errors, and of a law's Code. -/
import Derived.Test.YtadnlannbafjpaaGreatQBase
import Derived.WalkKit
import Derived.LaidEql
import Derived.Stop.Asserts
import Derived.RowKitTokens
import Derived.WalkLawsBesides
import Derived.Deep.QuietTactic
import Derived.BigQuiet
import Derived.Deep.RegionWith
import Derived.WalkSpells
import Derived.IntWalk
import Derived.Test.YtadnlannbafjpaaGreatQCliC
namespace Go.Proofs.YtadnlannbafjpaaGreat
open Go.RowKit Go.Extern.Stop Go.Stop Go.Extern
section
variable {P : Program} (w : World)
theorem eqlIn_errno (d : Nat) {ti tn : TypeId} {ms : Array (String × TypeId)} {i : TypeInfo} {k : IntKind} (a b : Int)
   (hi : P.underlying ti = some (.interface ms)) (hn : P.underlying tn = some (.int k)) (hinfo : P.info? tn = some i) (hcomp : i.comparable = true) :
   (Op.equalIn (d + 2) ti (.iface tn (.int k a)) (.iface tn (.int k b))).run P w = .ok (a == b) w := by
 simp [Op.equalIn, run_underlying hi, run_underlying hn, typeInfo, hinfo, hcomp]
theorem eql_errno {ti tn : TypeId} {ms : Array (String × TypeId)} {i : TypeInfo} {k : IntKind} (a b : Int)
   (hi : P.underlying ti = some (.interface ms)) (hn : P.underlying tn = some (.int k)) (hinfo : P.info? tn = some i) (hcomp : i.comparable = true) :
   (binOp .eql ti (.iface tn (.int k a)) (.iface tn (.int k b))).run P w = .ok (.bool (a == b)) w := by
 simp only [binOp]
 simp [Op.equal, Op.maxDepth, eqlIn_errno w 9998 a b hi hn hinfo hcomp]
end
abbrev errno (n : Int) : Value := .iface 81 (.int .i64 n)
theorem errno_comp : (Tryz.prog.info? 81).map (·.comparable) = some true := by kernel_rfl
theorem is_typeOf (v : Value) (w : World) : (Extern.ReflectliteType.typeOf #[.iface 81 v]).run Tryz.prog w = .ok (.iface 161 (.agg #[.pointer (some ⟨0, 81, none⟩)])) w := by kernel_rfl
theorem is_comparable (w : World) : ((Extern.ReflectliteType.method fun t => do Extern.Rtype.noPackHeld "Comparable" t; (fun a => Value.bool a.comparable) <$> typeInfo t) #[.agg #[.pointer (some ⟨0, 81, none⟩)]]).run Tryz.prog w = .ok (.bool true) w := by kernel_rfl
theorem is_method (v : Value) (w : World) : (Go.method 369 161 v "Comparable").run Tryz.prog w = .ok (194, v) w := by kernel_rfl
theorem errno_noIs (v : Value) (xT : TypeId) (w : World) : (Instr.typeAssert (.iface 81 v) xT 163 true).run Tryz.prog w = .ok (.tuple #[.nilIface, .bool false]) w := run_typeAssert_lacksB Tryz.underlying163 (by kernel_rfl) (by kernel_rfl) v xT w
theorem errno_noUnwrap (v : Value) (xT : TypeId) (w : World) : (Instr.typeAssert (.iface 81 v) xT 166 true).run Tryz.prog w = .ok (.tuple #[.nilIface, .bool false]) w := run_typeAssert_lacksB Tryz.underlying166 (by kernel_rfl) (by kernel_rfl) v xT w
theorem errno_noUnwraps (v : Value) (xT : TypeId) (w : World) : (Instr.typeAssert (.iface 81 v) xT 168 true).run Tryz.prog w = .ok (.tuple #[.nilIface, .bool false]) w := run_typeAssert_lacksB Tryz.underlying168 (by kernel_rfl) (by kernel_rfl) v xT w
set_option maxHeartbeats 400000 in
theorem is_errno (a b : Int) (w : World) :
   Calls Tryz.prog 28 #[.iface 81 (.int .i64 a), .iface 81 (.int .i64 b)] w fun e w' => e = .returned (.bool (a == b)) ∧ w = w' := by
 obtain ⟨i, hi, hcmp⟩ := Option.map_eq_some_iff.1 errno_comp
 have hT := @run_callFunc_extern Tryz.prog 54 _ Extern.ReflectliteType.typeOf Tryz.func54 (by kernel_rfl) (by kernel_rfl) (by kernel_rfl) (by kernel_rfl)
 have hC := @run_callFunc_extern Tryz.prog 194 _ (Extern.ReflectliteType.method fun t => do Extern.Rtype.noPackHeld "Comparable" t; pure (.bool (← typeInfo t).comparable)) Tryz.func194 (by kernel_rfl) (by kernel_rfl) (by kernel_rfl) (by kernel_rfl)
 have tT := is_typeOf
 have cT := is_comparable
 have mR := is_method
 have nE := errno_noIs
 have uE := errno_noUnwrap
 have vE := errno_noUnwraps
 have heq := eql_errno (P := Tryz.prog) w a b Tryz.underlying28 Tryz.underlying81 hi hcmp
 cases hab : (a == b)
 all_goals
   rw [hab] at heq
   clear hab
   go_enter Tryz.func28, Tryz.ntmps28
   go_wp2
   refine wp_loop_rounds 1 ?_
   rw [rounds_succ]
   go_wp2
   go_ret
   exact ⟨rfl, rfl⟩
def codeB (n : Int) : Bool := decide (1 ≤ n ∧ n ≤ 15)
set_option maxRecDepth 100000 in
set_option maxHeartbeats 400000 in
theorem code_nil (w : World) :
   Calls Tryz.prog 12 #[.nilIface] w fun e w' => e = .returned (.int .i64 0) ∧ w = w' := by
 have hn := run_eql_nil_nil (P := Tryz.prog) w 28 Tryz.underlying28
 go_enter Tryz.func12, Tryz.ntmps12
 go_wp2
 go_ret
 exact ⟨rfl, rfl⟩
set_option maxRecDepth 100000 in
set_option maxHeartbeats 1000000 in
theorem code_errno (n : Int) (h : codeB n = true) (w : World) :
   Calls Tryz.prog 12 #[.iface 81 (.int .i64 n)] w fun e w' => e = .returned (.int .i64 n) ∧ w = w' := by
 have hn := run_eql_held_nil (P := Tryz.prog) w 28 81 (.int .i64 n) Tryz.underlying28
 unfold codeB at h
 simp only [decide_eq_true_eq] at h
 obtain ⟨h1, h2⟩ := h
 go_enter Tryz.func12, Tryz.ntmps12
 go_wp2_with fail
 go_loop [3] (fun i => ∃ k : Nat, 1 ≤ k ∧ (k : Int) ≤ n ∧ i = .int .i64 k) (fun i => (16 - intOf i).toNat)
 case atStart => exact ⟨1, by omega, by omega, rfl⟩
 case round =>
   obtain ⟨k, hk1, hk2, rfl⟩ := hrel
   by_cases hlt : (k : Int) = n
   · have hb : ((n : Int) == (k : Int)) = true := by simp; omega
     go_wp2_with (go_at_call 28; refine (is_errno _ _ _).mono ?_; rintro e w' ⟨rfl, rfl⟩)
     go_ret
     exact ⟨rfl, rfl⟩
   · have hb : ((n : Int) == (k : Int)) = false := by simp; omega
     go_wp2_with (go_at_call 28; refine (is_errno _ _ _).mono ?_; rintro e w' ⟨rfl, rfl⟩)
     go_round
     case rel => exact ⟨k + 1, by omega, by omega, by go_num⟩
     case measure => simp [intOf]; omega
end Go.Proofs.YtadnlannbafjpaaGreat
/- errors.Is, errors.As and a law's Code at a fault (a pointer to an api.Fault behind which a number of an error lies). -/
namespace Go.Proofs.YtadnlannbafjpaaGreat
open Go.RowKit Go.Extern.Stop Go.Stop Go.Extern
end Go.Proofs.YtadnlannbafjpaaGreat
/- errors.As at a target of type **api.Fault, the error a number of an error, or nil; a law's At of these. -/
namespace Go.Proofs.YtadnlannbafjpaaGreat
open Go.RowKit Go.Extern.Stop Go.Stop Go.Extern
set_option linter.unusedVariables false
end Go.Proofs.YtadnlannbafjpaaGreat
/- The contracts of package res that make no texts: Ok, Table, Shard, fault. -/
namespace Go.Proofs.YtadnlannbafjpaaGreat
set_option linter.unusedSimpArgs false
open Go.RowKit
abbrev resV (t r : Int) : Value := .agg #[.int .i64 t, .int .i64 r]
def okR (t r : Int) : Bool := decide (1 ≤ t ∧ t ≤ 250 ∧ 0 ≤ r ∧ r ≤ 250)
theorem okR_yes {t r : Int} (h : okR t r = true) : 1 ≤ t ∧ t ≤ 250 ∧ 0 ≤ r ∧ r ≤ 250 := by unfold okR at h; simpa using h
set_option maxRecDepth 100000 in
set_option maxHeartbeats 1000000 in
theorem rok_any (t r : Int) (w : World) :
   Calls Tryz.prog 88 #[resV t r] w fun e w' => e = .returned (.bool (okR t r)) ∧ w' = w.alloc (.cells #[.int .i64 t, .int .i64 r] 39) := by
 have HR : ∀ b : Bool, okR t r = b → Hid (b = okR t r) := fun b h => h.symm
 cases h1 : decide (1 ≤ t) <;> cases h2 : decide (t ≤ 250) <;> cases h3 : decide (0 ≤ r) <;> cases h4 : decide (r ≤ 250)
 all_goals
   have HQ := HR _ (by unfold okR; simp only [Bool.decide_and, h1, h2, h3, h4]; rfl)
   clear HR
   go_enter Tryz.func88, Tryz.ntmps88
   go_wp2
   go_ret
   exact ⟨ret_bool HQ.out, rfl⟩
theorem rok_yes (t r : Int) (h : okR t r = true) (w : World) :
   Calls Tryz.prog 88 #[resV t r] w fun e w' => e = .returned (.bool true) ∧ w' = w.alloc (.cells #[.int .i64 t, .int .i64 r] 39) :=
 (rok_any t r w).mono fun _ _ ⟨he, hw⟩ => ⟨by rw [he, h], hw⟩
theorem rok_no (t r : Int) (h : okR t r = false) (w : World) :
   Calls Tryz.prog 88 #[resV t r] w fun e w' => e = .returned (.bool false) ∧ w' = w.alloc (.cells #[.int .i64 t, .int .i64 r] 39) :=
 (rok_any t r w).mono fun _ _ ⟨he, hw⟩ => ⟨by rw [he, h], hw⟩
def shardF (t n : Int) : Int := (t - 1) % n + 1
set_option maxRecDepth 100000 in
set_option maxHeartbeats 1000000 in
theorem shard_yes (t r n : Int) (h : okR t r = true) (h1 : 1 ≤ n) (h2 : n ≤ 64) (w : World) :
   Calls Tryz.prog 49 #[resV t r, .int .i64 n] w fun e w' => e = .returned (.tuple #[.int .i64 (shardF t n), .nilIface]) ∧ Below w.heap.size w w' := by
 obtain ⟨a, b, _, _⟩ := okR_yes h
 have H := Lib.hid h; clear h
 have hm := Int.emod_lt_of_pos (t - 1) (show 0 < n by omega)
 have hm0 := Int.emod_nonneg (t - 1) (show n ≠ 0 by omega)
 have d1 : decide (n < 1) = false := by simp; omega
 have d2 : decide (64 < n) = false := by simp; omega
 have d3 : (n == 0) = false := by simp; omega
 have d4 : IntKind.i64.wrap (t - 1) = t - 1 := IntWalk.i64_in _ (by omega)
 unfold shardF
 go_enter Tryz.func49, Tryz.ntmps49
 go_wp2_with (go_at_call 88; refine (rok_yes t r H.out _).mono ?_; rintro e w' ⟨rfl, rfl⟩)
 go_ret2
 refine ⟨rfl, ?_⟩
 repeat (first | exact Below.refl _ _ | refine Below.setCell ?_ (by simp) _ | refine Below.alloc ?_ (by simp <;> omega) _)
set_option maxRecDepth 100000 in
set_option maxHeartbeats 1000000 in
theorem shard_no (t r n : Int) (h : okR t r = false) (w : World) :
   Calls Tryz.prog 49 #[resV t r, .int .i64 n] w fun e w' => e = .returned (.tuple #[.int .i64 0, errno 1]) ∧ Below w.heap.size w w' := by
 have H := Lib.hid h; clear h
 go_enter Tryz.func49, Tryz.ntmps49
 go_wp2_with (go_at_call 88; refine (rok_no t r H.out _).mono ?_; rintro e w' ⟨rfl, rfl⟩)
 go_ret2
 refine ⟨rfl, ?_⟩
 repeat (first | exact Below.refl _ _ | refine Below.setCell ?_ (by simp) _ | refine Below.alloc ?_ (by simp <;> omega) _)
end Go.Proofs.YtadnlannbafjpaaGreat
/- Clients in memory: what they are, and stores into them. -/
namespace Go.Proofs.YtadnlannbafjpaaGreat
open Go.RowKit
set_option linter.unusedVariables false
set_option linter.unusedSimpArgs false
def full (L : List Cl) : List Cl := noCl :: (L ++ List.replicate (8 - L.length) noCl)
theorem full_length {L : List Cl} (h : L.length ≤ 8) : (full L).length = 9 := by simp [full]; omega
theorem full_get {L : List Cl} (h : L.length ≤ 8) {j : Nat} (hj : j < 8) : (full L)[j + 1]? = some (clAt L j) := by
 unfold full clAt
 rw [List.getElem?_cons_succ]
 by_cases hl : j < L.length
 · rw [List.getElem?_append_left hl]; simp [List.getD, hl]
 · rw [List.getElem?_append_right (by omega), List.getElem?_replicate, if_pos (by omega)]
   simp [List.getD, List.getElem?_eq_none (show L.length ≤ j by omega)]
theorem full_at {L : List Cl} (h : L.length ≤ 8) {j : Nat} (hj : j < 8) : clAt (full L) (j + 1) = clAt L j := by
 show (full L).getD (j + 1) noCl = _
 rw [List.getD, full_get h hj]; rfl
theorem full_set {L : List Cl} {k : Nat} (h : k < L.length) (x : Cl) : full (L.set k x) = (full L).set (k + 1) x := by
 unfold full; rw [List.length_set, List.set_cons_succ, List.set_append_left _ _ h]
theorem clAt_set {L : List Cl} {k i : Nat} (h : k < L.length) (x : Cl) : clAt (L.set k x) i = if k = i then x else clAt L i := by
 unfold clAt
 rw [List.getD, List.getElem?_set]
 by_cases e : k = i
 · subst e; simp [h]
 · rw [if_neg e, if_neg e, List.getD]
theorem clAt_mem {L : List Cl} {i : Nat} (h : i < L.length) : clAt L i ∈ L := by rw [clAt_get h]; exact List.getElem_mem h
theorem cls_setA : ∀ {G : List Cl} {j : Nat} (t : Int), j < G.length → (cls G).set (j * 3) (.int .i64 t) = cls (G.set j { clAt G j with tx := t })
 | [], j, t, h => by simp at h
 | c :: r, 0, t, h => by simp [cls, clv, clAt]
 | c :: r, j + 1, t, h => by
   have := cls_setA (G := r) (j := j) t (by simpa using h)
   rw [List.set_cons_succ, show clAt (c :: r) (j + 1) = clAt r j from rfl, show cls (c :: r.set j { clAt r j with tx := t }) = clv c ++ cls (r.set j { clAt r j with tx := t }) from rfl, ← this, show cls (c :: r) = clv c ++ cls r from rfl, show (j + 1) * 3 = j * 3 + 3 by omega]
   simp [clv]
theorem cls_setB : ∀ {G : List Cl} {j : Nat} (d : Bool), j < G.length → (cls G).set (j * 3 + 1) (.bool d) = cls (G.set j { clAt G j with dead := d })
 | [], j, t, h => by simp at h
 | c :: r, 0, t, h => by simp [cls, clv, clAt]
 | c :: r, j + 1, t, h => by
   have := cls_setB (G := r) (j := j) t (by simpa using h)
   rw [List.set_cons_succ, show clAt (c :: r) (j + 1) = clAt r j from rfl, show cls (c :: r.set j { clAt r j with dead := t }) = clv c ++ cls (r.set j { clAt r j with dead := t }) from rfl, ← this, show cls (c :: r) = clv c ++ cls r from rfl, show (j + 1) * 3 + 1 = j * 3 + 1 + 3 by omega]
   simp [clv]
theorem cls_setC : ∀ {G : List Cl} {j : Nat} (t : Int), j < G.length → (cls G).set (j * 3 + 2) (.int .i64 t) = cls (G.set j { clAt G j with since := t })
 | [], j, t, h => by simp at h
 | c :: r, 0, t, h => by simp [cls, clv, clAt]
 | c :: r, j + 1, t, h => by
   have := cls_setC (G := r) (j := j) t (by simpa using h)
   rw [List.set_cons_succ, show clAt (c :: r) (j + 1) = clAt r j from rfl, show cls (c :: r.set j { clAt r j with since := t }) = clv c ++ cls (r.set j { clAt r j with since := t }) from rfl, ← this, show cls (c :: r) = clv c ++ cls r from rfl, show (j + 1) * 3 + 2 = j * 3 + 2 + 3 by omega]
   simp [clv]
def clB (n : Nat) (L : List Cl) : Array Value := (Value.int .i64 (n : Int) :: cls (full L)).toArray
section
variable {n : Nat} {L : List Cl} {k : Nat}
theorem clB_many : (clB n L)[0]? = some (.int .i64 (n : Int)) := by simp [clB]
theorem clB_get (h : L.length ≤ 8) (hk : k < 8) : (clB n L)[1 + (k + 1) * 3]? = some (.int .i64 (clAt L k).tx) ∧ (clB n L)[1 + (k + 1) * 3 + 1]? = some (.bool (clAt L k).dead) ∧ (clB n L)[1 + (k + 1) * 3 + 2]? = some (.int .i64 (clAt L k).since) := by
 have hl := full_length h
 have hg := full_get h hk
 have he : (full L)[k + 1]'(by omega) = clAt L k := by
   have := List.getElem?_eq_getElem (show k + 1 < (full L).length by omega)
   rw [hg] at this; injection this with this; exact this.symm
 have h0 := fm_get clv_length (L := full L) (i := k + 1) (k := 0) (by omega) (by omega)
 have h1 := fm_get clv_length (L := full L) (i := k + 1) (k := 1) (by omega) (by omega)
 have h2 := fm_get clv_length (L := full L) (i := k + 1) (k := 2) (by omega) (by omega)
 rw [he] at h0 h1 h2
 unfold clB
 refine ⟨?_, ?_, ?_⟩
 · rw [List.getElem?_toArray, show 1 + (k + 1) * 3 = (k + 1) * 3 + 0 + 1 by omega, List.getElem?_cons_succ]; exact h0
 · rw [List.getElem?_toArray, show 1 + (k + 1) * 3 + 1 = (k + 1) * 3 + 1 + 1 by omega, List.getElem?_cons_succ]; exact h1
 · rw [List.getElem?_toArray, show 1 + (k + 1) * 3 + 2 = (k + 1) * 3 + 2 + 1 by omega, List.getElem?_cons_succ]; exact h2
theorem clB_tx (h : L.length ≤ 8) (hk : k < L.length) (t : Int) : (clB n L).setIfInBounds (1 + (k + 1) * 3) (.int .i64 t) = clB n (L.set k { clAt L k with tx := t }) := by
 unfold clB
 rw [List.setIfInBounds_toArray, show 1 + (k + 1) * 3 = (k + 1) * 3 + 1 by omega, List.set_cons_succ, cls_setA t (by rw [full_length h]; omega), full_at h (by omega), full_set hk]
theorem clB_dead (h : L.length ≤ 8) (hk : k < L.length) (d : Bool) : (clB n L).setIfInBounds (1 + (k + 1) * 3 + 1) (.bool d) = clB n (L.set k { clAt L k with dead := d }) := by
 unfold clB
 rw [List.setIfInBounds_toArray, show 1 + (k + 1) * 3 + 1 = (k + 1) * 3 + 1 + 1 by omega, List.set_cons_succ, cls_setB d (by rw [full_length h]; omega), full_at h (by omega), full_set hk]
theorem clB_since (h : L.length ≤ 8) (hk : k < L.length) (t : Int) : (clB n L).setIfInBounds (1 + (k + 1) * 3 + 2) (.int .i64 t) = clB n (L.set k { clAt L k with since := t }) := by
 unfold clB
 rw [List.setIfInBounds_toArray, show 1 + (k + 1) * 3 + 2 = (k + 1) * 3 + 2 + 1 by omega, List.set_cons_succ, cls_setC t (by rw [full_length h]; omega), full_at h (by omega), full_set hk]
end
structure ClOk (L : List Cl) : Prop where
 tx : ∀ c ∈ L, 0 ≤ c.tx ∧ c.tx ≤ 1048576
 since : ∀ c ∈ L, c.dead = true → isT c.since = true
 one : ∀ i j, i < L.length → j < L.length → (clAt L i).tx = (clAt L j).tx → 0 < (clAt L i).tx → i = j
theorem ClOk.new (n : Nat) : ClOk (List.replicate n noCl) := by
 have hm : ∀ c ∈ List.replicate n noCl, c = noCl := fun c hc => (List.mem_replicate.1 hc).2
 refine ⟨fun c hc => ?_, fun c hc hd => ?_, fun i j hi hj e h0 => ?_⟩
 · rw [hm c hc]; simp [noCl]
 · rw [hm c hc] at hd; simp [noCl] at hd
 · rw [hm _ (clAt_mem hi)] at h0; simp [noCl] at h0
theorem ClOk.setTx {L : List Cl} (h : ClOk L) {k : Nat} (hk : k < L.length) {t : Int} (ht : 0 ≤ t ∧ t ≤ 1048576) (hn : 0 < t → ofL t L = 0) : ClOk (L.set k { clAt L k with tx := t }) := by
 have hmem : ∀ c ∈ L.set k { clAt L k with tx := t }, c ∈ L ∨ c = { clAt L k with tx := t } := fun c hc => List.mem_or_eq_of_mem_set hc
 have hno : 0 < t → ∀ i, i < L.length → (clAt L i).tx ≠ t := by
   intro h0 i hi e
   have : ∀ {M : List Cl}, ofL t M = 0 → ∀ c ∈ M, c.tx ≠ t := by
     intro M
     induction M with
     | nil => intro _ c hc; cases hc
     | cons a r ih =>
       intro hz c hc hct
       unfold ofL at hz
       split at hz
       · cases hz
       · rename_i hne
         split at hz
         · rename_i hz2
           rcases List.mem_cons.1 hc with rfl | hc
           · exact hne ⟨h0, hct⟩
           · exact ih hz2 c hc hct
         · have := ofL_nonneg t r; omega
   exact this (hn h0) _ (clAt_mem hi) e
 refine ⟨fun c hc => ?_, fun c hc hd => ?_, fun i j hi hj e h0 => ?_⟩
 · rcases hmem c hc with h1 | rfl
   · exact h.tx c h1
   · exact ht
 · rcases hmem c hc with h1 | rfl
   · exact h.since c h1 hd
   · exact h.since (clAt L k) (clAt_mem hk) hd
 · rw [List.length_set] at hi hj
   rw [clAt_set hk, clAt_set hk] at e
   rw [clAt_set hk] at h0
   by_cases ei : k = i
   · by_cases ej : k = j
     · omega
     · rw [if_pos ei, if_neg ej] at e
       rw [if_pos ei] at h0
       exact absurd e.symm (hno h0 j hj)
   · rw [if_neg ei] at e h0
     by_cases ej : k = j
     · rw [if_pos ej] at e
       simp only at e
       exact absurd e (hno (e ▸ h0) i hi)
     · rw [if_neg ej] at e
       exact h.one i j hi hj e h0
theorem ClOk.setDead {L : List Cl} (h : ClOk L) {k : Nat} (hk : k < L.length) {t : Int} (ht : isT t = true) : ClOk (L.set k { clAt L k with dead := true, since := t }) := by
 have hmem : ∀ c ∈ L.set k { clAt L k with dead := true, since := t }, c ∈ L ∨ c = { clAt L k with dead := true, since := t } := fun c hc => List.mem_or_eq_of_mem_set hc
 have htx : ∀ i, (clAt (L.set k { clAt L k with dead := true, since := t }) i).tx = (clAt L i).tx := by
   intro i
   rw [clAt_set hk]
   split
   · rename_i e; subst e; rfl
   · rfl
 refine ⟨fun c hc => ?_, fun c hc hd => ?_, fun i j hi hj e h0 => ?_⟩
 · rcases hmem c hc with h1 | rfl
   · exact h.tx c h1
   · exact h.tx (clAt L k) (clAt_mem hk)
 · rcases hmem c hc with h1 | rfl
   · exact h.since c h1 hd
   · exact ht
 · rw [List.length_set] at hi hj
   rw [htx, htx] at e
   rw [htx] at h0
   exact h.one i j hi hj e h0
structure Cli (w : World) (p n : Nat) (L : List Cl) : Prop where
 box : Blk w p 114 (clB n L)
 len : L.length = n
 lo : 1 ≤ n
 hi : n ≤ 8
 ok : ClOk L
section
variable {w w' : World} {p n : Nat} {L : List Cl}
theorem Cli.len8 (h : Cli w p n L) : L.length ≤ 8 := by rw [h.len]; exact h.hi
theorem Cli.turn {S : Nat → Prop} (h : Cli w p n L) (ht : Turn S w w') (hp : ¬ S p) : Cli w' p n L := ⟨h.box.turn ht hp, h.len, h.lo, h.hi, h.ok⟩
theorem Cli.step (h : Cli w p n L) (hb : Below w.heap.size w w') : Cli w' p n L := ⟨h.box.here hb, h.len, h.lo, h.hi, h.ok⟩
theorem Cli.lt (h : Cli w p n L) : p < w.heap.size := h.box.lt
theorem Cli.many (h : Cli w p n L) : w.cell? ⟨p, 0, none⟩ = some (.int .i64 (n : Int)) := (h.box.cell 0).trans clB_many
theorem Cli.cells (h : Cli w p n L) {j : Nat} (h1 : 1 ≤ j) (h8 : j ≤ 8) : w.cell? ⟨p, 1 + j * 3, none⟩ = some (.int .i64 (clAt L (j - 1)).tx) ∧ w.cell? ⟨p, 1 + j * 3 + 1, none⟩ = some (.bool (clAt L (j - 1)).dead) ∧ w.cell? ⟨p, 1 + j * 3 + 2, none⟩ = some (.int .i64 (clAt L (j - 1)).since) := by
 obtain ⟨i, rfl⟩ : ∃ i, j = i + 1 := ⟨j - 1, by omega⟩
 obtain ⟨a, b, c⟩ := clB_get (n := n) h.len8 (show i < 8 by omega)
 exact ⟨(h.box.cell _).trans a, (h.box.cell _).trans b, (h.box.cell _).trans c⟩
theorem Cli.setTx (h : Cli w p n L) {j : Nat} (h1 : 1 ≤ j) (hn : j ≤ n) {t : Int} (ht : 0 ≤ t ∧ t ≤ 1048576) (hno : 0 < t → ofL t L = 0) :
   Cli (w.setCell ⟨p, 1 + j * 3, none⟩ (.int .i64 t)) p n (L.set (j - 1) { clAt L (j - 1) with tx := t }) := by
 have hl := h.len
 have hb := h.box.set_ (1 + j * 3) (.int .i64 t)
 obtain ⟨i, rfl⟩ : ∃ i, j = i + 1 := ⟨j - 1, by omega⟩
 rw [clB_tx h.len8 (show i < L.length by omega)] at hb
 exact ⟨hb, by rw [List.length_set]; exact h.len, h.lo, h.hi, h.ok.setTx (by omega) ht hno⟩
theorem Cli.setDead (h : Cli w p n L) {j : Nat} (h1 : 1 ≤ j) (hn : j ≤ n) {t : Int} (ht : isT t = true) :
   Cli ((w.setCell ⟨p, 1 + j * 3 + 1, none⟩ (.bool true)).setCell ⟨p, 1 + j * 3 + 2, none⟩ (.int .i64 t)) p n (L.set (j - 1) { clAt L (j - 1) with dead := true, since := t }) := by
 have hl := h.len
 have hb := (h.box.set_ (1 + j * 3 + 1) (.bool true)).set_ (1 + j * 3 + 2) (.int .i64 t)
 obtain ⟨i, rfl⟩ : ∃ i, j = i + 1 := ⟨j - 1, by omega⟩
 have hi : i < L.length := by omega
 rw [clB_dead h.len8 hi, clB_since (by rw [List.length_set]; exact h.len8) (by rw [List.length_set]; exact hi), clAt_set hi, if_pos rfl, List.set_set] at hb
 exact ⟨hb, by rw [List.length_set]; exact h.len, h.lo, h.hi, h.ok.setDead hi ht⟩
end
end Go.Proofs.YtadnlannbafjpaaGreat
