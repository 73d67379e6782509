/- A region whose last operation writes what others load: operations that read no memory. -/
import Derived.Test.YtmfoffigmojdcaaGreatHeld
namespace Go.Proofs.YtmfoffigmojdcaaGreat
open Go.RowKit

section
variable {P : Program} {ops : Array Oper} {Q : Exit → Act → World → Prop} {md : Region.Mode} {S : World → Prop} {late : Nat}
/-- An operation that reads no memory may be taken first, whether 'late' waits for it or not, and behind it, too. -/
theorem wpTill_pure_first {i : Nat} {o : Oper} {v : Value} (hi : ops[i]? = some o) (hne : late ≠ i)
    (hsel : ∀ (j : Nat) (o : Oper) cs b, ops[j]? = some o → o.op ≠ .select cs b) (hQ : ∀ c a w, Q (.panic c) (a.put o.dst v) w → Q (.panic c) a w) :
    ∀ (n : Nat) (done : Array Bool) (a : Act) (w : World), (done.getD late true = false → S w) →
      (∀ j oj, ops[j]? = some oj → j ≠ i → done.getD j true = false → (∀ e ∈ oj.after, Region.binds md e = true → e.on ≠ i) → o.apart ops oj = true) →
      i ∈ Region.ready md ops done → YieldsIf P ops (fun _ => True) o v a → wpTill P md ops Q S late n (done.setIfInBounds i true) (a.put o.dst v) w → wpTill P md ops Q S late (n + 1) done a w := by
  intro n
  induction n with
  | zero =>
    intro done a w hS _ hr hy H
    refine ⟨fun h => (by rw [h] at hr; cases hr), fun j hj => ?_⟩
    by_cases hji : j = i
    · subst hji; exact hy.wpOp hi trivial ⟨fun hf => hS (by rwa [getD_set_ne true (Ne.symm hne)] at hf), H⟩
    · have := ready_mono hj hji
      rw [H.1] at this
      cases this
  | succ n ih =>
    intro done a w hS hfree hr hy H
    refine ⟨fun h => (by rw [h] at hr; cases hr), fun j hj => ?_⟩
    by_cases hji : j = i
    · subst hji; exact hy.wpOp hi trivial ⟨fun hf => hS (by rwa [getD_set_ne true (Ne.symm hne)] at hf), H⟩
    · have h1 := H.2 j (ready_mono hj hji)
      obtain ⟨hjun, oj, hoj, hall⟩ := mem_ready.1 hj
      have hnot : ∀ e ∈ oj.after, Region.binds md e = true → e.on ≠ i := fun e he hb heq => by
        have h1 := hall e he hb
        have h0 := (mem_ready.1 hr).1
        rw [heq] at h1
        rcases Nat.lt_or_ge i done.size with h' | h'
        · simp [h'] at h0 h1; rw [h0] at h1; cases h1
        · simp [Array.getElem?_eq_none h'] at h1
      have hSS : ∀ {b : Bool}, (done.setIfInBounds j true).getD late true = b → ((done.setIfInBounds i true).setIfInBounds j true).getD late true = b := fun h => by
        rw [Array.setIfInBounds_comm _ _ (Ne.symm hji), getD_set_ne true (Ne.symm hne)]; exact h
      have h2 := wpOp_putIf hoj (hfree j oj hoj hji hjun hnot) (fun cs b => hsel i o cs b hi) (fun cs b => hsel j oj cs b hoj) hQ hy h1
      refine wpOp_mono (fun b u h3 => ⟨fun hf => h3.2.1 (hSS hf), ih (done.setIfInBounds j true) b u (fun hf => h3.2.1 (hSS hf)) (fun k ok hk hki hun hno => ?_) (ready_mono hr (Ne.symm hji)) h3.1 ?_⟩) h2
      · refine hfree k ok hk hki ?_ hno
        by_cases hjk : j = k
        · subst hjk; exact hjun
        · rw [getD_set_ne true hjk] at hun; exact hun
      · rw [Array.setIfInBounds_comm _ _ hji]
        exact h3.2.2
theorem wpTill_pure {i : Nat} {o : Oper} {v : Value} {n : Nat} {done : Array Bool} {a : Act} {w : World} (hi : ops[i]? = some o)
    (hs : Region.noSelect ops = true) (hf : Region.free md ops done i = true) (hr : (Region.ready md ops done).contains i = true) (hne : decide (late ≠ i) = true)
    (hQ : ∀ c a w, Q (.panic c) (a.put o.dst v) w → Q (.panic c) a w) (hy : YieldsIf P ops (fun _ => True) o v a) (hS : done.getD late true = false → S w)
    (h : wpTill P md ops Q S late n (done.setIfInBounds i true) (a.put o.dst v) w) : wpTill P md ops Q S late (n + 1) done a w :=
  wpTill_pure_first hi (of_decide_eq_true hne) (Region.noSelect_spec hs) hQ n done a w hS (Region.free_spec hi hf) (by simpa using hr) hy h
end
end Go.Proofs.YtmfoffigmojdcaaGreat
