/- A region that draws its order, and whose last operation writes what others of it load. -/
import Derived.Test.YtadnlannbafjpaaGreatQBase
import Derived.Deep.RegionHeld
namespace Go.Proofs.YtadnlannbafjpaaGreat
open Go.RowKit
section
variable {P : Program} {ops : Array Oper} {Q : Exit → Act → World → Prop} {md : Region.Mode} {S : World → Prop} {late : Nat}
def wpTill (P : Program) (md : Region.Mode) (ops : Array Oper) (Q : Exit → Act → World → Prop) (S : World → Prop) (late : Nat) : Nat → Array Bool → Act → World → Prop
 | 0, done, a, w => Region.ready md ops done = [] ∧ Q .normal a w
 | n + 1, done, a, w => (Region.ready md ops done = [] → Q .normal a w) ∧
   ∀ i ∈ Region.ready md ops done, wpOp P ops Q i (fun b v => ((done.setIfInBounds i true).getD late true = false → S v) ∧ wpTill P md ops Q S late n (done.setIfInBounds i true) b v) a w
theorem wpTill.any : ∀ (n : Nat) (done : Array Bool) (a : Act) (w : World), wpTill P md ops Q S late n done a w → wpAny P md ops Q n done a w
 | 0, _, _, _, h => h
 | n + 1, _, _, _, h => ⟨h.1, fun i hi => wpOp_mono (fun _ _ h' => wpTill.any n _ _ _ h'.2) (h.2 i hi)⟩
theorem wpTill_first {i : Nat} {o ol : Oper} {v : Value} (hi : ops[i]? = some o) (hol : ops[late]? = some ol) (hwait : ∃ e ∈ ol.after, Region.binds md e = true ∧ e.on = i) (hne : late ≠ i)
   (hsel : ∀ (j : Nat) (o : Oper) cs b, ops[j]? = some o → o.op ≠ .select cs b) (hQ : ∀ c a w, Q (.panic c) (a.put o.dst v) w → Q (.panic c) a w) :
   ∀ (n : Nat) (done : Array Bool) (a : Act) (w : World), done.getD late true = false →
     (∀ j oj, ops[j]? = some oj → j ≠ i → done.getD j true = false → (∀ e ∈ oj.after, Region.binds md e = true → e.on ≠ i) → o.apart ops oj = true) →
     i ∈ Region.ready md ops done → YieldsIf P ops S o v a → S w → wpTill P md ops Q S late n (done.setIfInBounds i true) (a.put o.dst v) w → wpTill P md ops Q S late (n + 1) done a w := by
 intro n
 induction n with
 | zero =>
   intro done a w _ _ hr hy hS H
   refine ⟨fun h => (by rw [h] at hr; cases hr), fun j hj => ?_⟩
   by_cases hji : j = i
   · subst hji; exact hy.wpOp hi hS ⟨fun _ => hS, H⟩
   · have := ready_mono hj hji
     rw [H.1] at this
     cases this
 | succ n ih =>
   intro done a w hlate hfree hr hy hS H
   refine ⟨fun h => (by rw [h] at hr; cases hr), fun j hj => ?_⟩
   by_cases hji : j = i
   · subst hji; exact hy.wpOp hi hS ⟨fun _ => hS, H⟩
   · have h1 := H.2 j (ready_mono hj hji)
     obtain ⟨hjun, oj, hoj, hall⟩ := mem_ready.1 hj
     have hnot : ∀ e ∈ oj.after, Region.binds md e = true → e.on ≠ i := fun e he hb heq => by
       have h1 := hall e he hb
       have h0 := (mem_ready.1 hr).1
       rw [heq] at h1
       rcases Nat.lt_or_ge i done.size with h' | h'
       · simp [h'] at h0 h1; rw [h0] at h1; cases h1
       · simp [Array.getElem?_eq_none h'] at h1
     have hjl : j ≠ late := fun e => by
       subst e
       rw [hoj] at hol; cases hol
       obtain ⟨e, he, hb, hon⟩ := hwait
       exact hnot e he hb hon
     have hl' : (done.setIfInBounds j true).getD late true = false := by rw [getD_set_ne true hjl]; exact hlate
     have hl'' : ((done.setIfInBounds i true).setIfInBounds j true).getD late true = false := by rw [getD_set_ne true hjl, getD_set_ne true (Ne.symm hne)]; exact hlate
     have h2 := wpOp_putIf hoj (hfree j oj hoj hji hjun hnot) (fun cs b => hsel i o cs b hi) (fun cs b => hsel j oj cs b hoj) hQ hy h1
     refine wpOp_mono (fun b u h3 => ⟨fun _ => h3.2.1 hl'', ih (done.setIfInBounds j true) b u hl' (fun k ok hk hki hun hno => ?_) (ready_mono hr (Ne.symm hji)) h3.1 (h3.2.1 hl'') ?_⟩) h2
     · refine hfree k ok hk hki ?_ hno
       by_cases hjk : j = k
       · subst hjk; exact hjun
       · rw [getD_set_ne true hjk] at hun; exact hun
     · rw [Array.setIfInBounds_comm _ _ hji]
       exact h3.2.2
def waitsB (md : Region.Mode) (ops : Array Oper) (late i : Nat) (done : Array Bool) : Bool :=
 decide (late ≠ i) && ((done.getD late true == false) && (match ops[late]? with | some o => o.after.any (fun e => Region.binds md e && decide (e.on = i)) | none => false))
theorem wpTill_take {i : Nat} {o : Oper} {v : Value} {n : Nat} {done : Array Bool} {a : Act} {w : World} (hi : ops[i]? = some o)
   (hs : Region.noSelect ops = true) (hf : Region.free md ops done i = true) (hr : (Region.ready md ops done).contains i = true) (hw : waitsB md ops late i done = true)
   (hQ : ∀ c a w, Q (.panic c) (a.put o.dst v) w → Q (.panic c) a w) (hy : YieldsIf P ops S o v a) (hS : S w)
   (h : wpTill P md ops Q S late n (done.setIfInBounds i true) (a.put o.dst v) w) : wpTill P md ops Q S late (n + 1) done a w := by
 unfold waitsB at hw
 rw [Bool.and_eq_true, Bool.and_eq_true] at hw
 obtain ⟨h1, h2, h3⟩ := hw
 cases hol : ops[late]? with
 | none => rw [hol] at h3; cases h3
 | some ol =>
   rw [hol] at h3
   obtain ⟨k, hk, hb⟩ := Array.any_eq_true.1 h3
   rw [Bool.and_eq_true] at hb
   exact wpTill_first hi hol ⟨_, Array.getElem_mem hk, hb.1, of_decide_eq_true hb.2⟩ (of_decide_eq_true h1) (Region.noSelect_spec hs) hQ n done a w (by simpa using h2) (Region.free_spec hi hf) (by simpa using hr) hy hS h
def AllTill (P : Program) (md : Region.Mode) (ops : Array Oper) (Q : Exit → Act → World → Prop) (S : World → Prop) (late n : Nat) (done : Array Bool) (a : Act) (w : World) (rs : List Nat) : Prop :=
 ∀ i ∈ rs, wpOp P ops Q i (fun b v => ((done.setIfInBounds i true).getD late true = false → S v) ∧ wpTill P md ops Q S late n (done.setIfInBounds i true) b v) a w
theorem AllTill.nil {n : Nat} {done : Array Bool} {a : Act} {w : World} : AllTill P md ops Q S late n done a w [] := fun _ h => by cases h
theorem AllTill.cons {n : Nat} {done : Array Bool} {a : Act} {w : World} {i : Nat} {o : Oper} {rs : List Nat} (ho : ops[i]? = some o)
   (h : ∀ K : Act → World → Prop, Shut (∀ a w, S w → (S w → wpTill P md ops Q S late n (done.setIfInBounds i true) a w) → K a w) → if Region.wanted o (yielded ops a.tmps) = true then Oper.wp P o a w K Q else K (a.put o.dst undef) w)
   (hs : AllTill P md ops Q S late n done a w rs) : AllTill P md ops Q S late n done a w (i :: rs) := fun j hj => by
 rcases List.mem_cons.1 hj with rfl | hj
 · exact wpOp_step ho (fun K hK => h K (fun a w hS hW => hK a w ⟨fun _ => hS, hW hS⟩))
 · exact hs j hj
theorem AllTill.last {n : Nat} {done : Array Bool} {a : Act} {w : World} {o : Oper} (ho : ops[late]? = some o) (hlt : late < done.size)
   (h : ∀ K : Act → World → Prop, Shut (∀ a w, wpTill P md ops Q S late n (done.setIfInBounds late true) a w → K a w) → if Region.wanted o (yielded ops a.tmps) = true then Oper.wp P o a w K Q else K (a.put o.dst undef) w) :
   AllTill P md ops Q S late n done a w [late] := fun j hj => by
 obtain rfl : j = late := by simpa using hj
 exact wpOp_step ho (fun K hK => h K (fun a w hW => hK a w ⟨fun hf => by simp [hlt] at hf, hW⟩))
theorem AllTill.past {n : Nat} {done : Array Bool} {a : Act} {w : World} {i : Nat} {o : Oper} (ho : ops[i]? = some o) (hd : (done.setIfInBounds i true).getD late true = true)
   (h : ∀ K : Act → World → Prop, Shut (∀ a w, wpTill P md ops Q S late n (done.setIfInBounds i true) a w → K a w) → if Region.wanted o (yielded ops a.tmps) = true then Oper.wp P o a w K Q else K (a.put o.dst undef) w) :
   AllTill P md ops Q S late n done a w [i] := fun j hj => by
 obtain rfl : j = i := by simpa using hj
 exact wpOp_step ho (fun K hK => h K (fun a w hW => hK a w ⟨fun hf => (by rw [hd] at hf; cases hf), hW⟩))
theorem wpTill_ready {rs : List Nat} {n : Nat} {done : Array Bool} {a : Act} {w : World} (hr : Region.ready md ops done = rs) (hne : rs ≠ [])
   (h : AllTill P md ops Q S late n done a w rs) : wpTill P md ops Q S late (n + 1) done a w := ⟨fun h0 => absurd (hr ▸ h0) hne, hr ▸ h⟩
theorem wpTill_done {done : Array Bool} {a : Act} {w : World} (hr : Region.ready md ops done = []) (h : Q .normal a w) : ∀ n, wpTill P md ops Q S late n done a w
 | 0 => ⟨hr, h⟩
 | _ + 1 => ⟨fun _ => h, by rw [hr]; simp⟩
theorem wp_region_till {id : Nat} {a : Act} {w : World} (late : Nat) (S : World → Prop) (hm : P.follows .mixedOrders = true) (hS : S w.drew)
   (h : S w.drew → wpTill P .any ops Q S late ops.size (Array.replicate ops.size false) a w.drew) : (Code.region id ops true).wp P Q a w :=
 wp_region_any hm (wpTill.any _ _ _ _ (h hS))
end
end Go.Proofs.YtadnlannbafjpaaGreat
/- A region whose last operation writes what others load: operations that read no memory. -/
namespace Go.Proofs.YtadnlannbafjpaaGreat
open Go.RowKit
section
variable {P : Program} {ops : Array Oper} {Q : Exit → Act → World → Prop} {md : Region.Mode} {S : World → Prop} {late : Nat}
theorem wpTill_pure_first {i : Nat} {o : Oper} {v : Value} (hi : ops[i]? = some o) (hne : late ≠ i)
   (hsel : ∀ (j : Nat) (o : Oper) cs b, ops[j]? = some o → o.op ≠ .select cs b) (hQ : ∀ c a w, Q (.panic c) (a.put o.dst v) w → Q (.panic c) a w) :
   ∀ (n : Nat) (done : Array Bool) (a : Act) (w : World), (done.getD late true = false → S w) →
     (∀ j oj, ops[j]? = some oj → j ≠ i → done.getD j true = false → (∀ e ∈ oj.after, Region.binds md e = true → e.on ≠ i) → o.apart ops oj = true) →
     i ∈ Region.ready md ops done → YieldsIf P ops (fun _ => True) o v a → wpTill P md ops Q S late n (done.setIfInBounds i true) (a.put o.dst v) w → wpTill P md ops Q S late (n + 1) done a w := by
 intro n
 induction n with
 | zero =>
   intro done a w hS _ hr hy H
   refine ⟨fun h => (by rw [h] at hr; cases hr), fun j hj => ?_⟩
   by_cases hji : j = i
   · subst hji; exact hy.wpOp hi trivial ⟨fun hf => hS (by rwa [getD_set_ne true (Ne.symm hne)] at hf), H⟩
   · have := ready_mono hj hji
     rw [H.1] at this
     cases this
 | succ n ih =>
   intro done a w hS hfree hr hy H
   refine ⟨fun h => (by rw [h] at hr; cases hr), fun j hj => ?_⟩
   by_cases hji : j = i
   · subst hji; exact hy.wpOp hi trivial ⟨fun hf => hS (by rwa [getD_set_ne true (Ne.symm hne)] at hf), H⟩
   · have h1 := H.2 j (ready_mono hj hji)
     obtain ⟨hjun, oj, hoj, hall⟩ := mem_ready.1 hj
     have hnot : ∀ e ∈ oj.after, Region.binds md e = true → e.on ≠ i := fun e he hb heq => by
       have h1 := hall e he hb
       have h0 := (mem_ready.1 hr).1
       rw [heq] at h1
       rcases Nat.lt_or_ge i done.size with h' | h'
       · simp [h'] at h0 h1; rw [h0] at h1; cases h1
       · simp [Array.getElem?_eq_none h'] at h1
     have hSS : ∀ {b : Bool}, (done.setIfInBounds j true).getD late true = b → ((done.setIfInBounds i true).setIfInBounds j true).getD late true = b := fun h => by
       rw [Array.setIfInBounds_comm _ _ (Ne.symm hji), getD_set_ne true (Ne.symm hne)]; exact h
     have h2 := wpOp_putIf hoj (hfree j oj hoj hji hjun hnot) (fun cs b => hsel i o cs b hi) (fun cs b => hsel j oj cs b hoj) hQ hy h1
     refine wpOp_mono (fun b u h3 => ⟨fun hf => h3.2.1 (hSS hf), ih (done.setIfInBounds j true) b u (fun hf => h3.2.1 (hSS hf)) (fun k ok hk hki hun hno => ?_) (ready_mono hr (Ne.symm hji)) h3.1 ?_⟩) h2
     · refine hfree k ok hk hki ?_ hno
       by_cases hjk : j = k
       · subst hjk; exact hjun
       · rw [getD_set_ne true hjk] at hun; exact hun
     · rw [Array.setIfInBounds_comm _ _ hji]
       exact h3.2.2
theorem wpTill_pure {i : Nat} {o : Oper} {v : Value} {n : Nat} {done : Array Bool} {a : Act} {w : World} (hi : ops[i]? = some o)
   (hs : Region.noSelect ops = true) (hf : Region.free md ops done i = true) (hr : (Region.ready md ops done).contains i = true) (hne : decide (late ≠ i) = true)
   (hQ : ∀ c a w, Q (.panic c) (a.put o.dst v) w → Q (.panic c) a w) (hy : YieldsIf P ops (fun _ => True) o v a) (hS : done.getD late true = false → S w)
   (h : wpTill P md ops Q S late n (done.setIfInBounds i true) (a.put o.dst v) w) : wpTill P md ops Q S late (n + 1) done a w :=
 wpTill_pure_first hi (of_decide_eq_true hne) (Region.noSelect_spec hs) hQ n done a w hS (Region.free_spec hi hf) (by simpa using hr) hy h
end
end Go.Proofs.YtadnlannbafjpaaGreat
