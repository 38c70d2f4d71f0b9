/- A statement of open order, by states: what holds, said by which of its operations are done; one step an operation, whatever else is done. -/
import Derived.OrdersIn
import Derived.OrdersHeld
import Derived.OwnWalkIn
import Derived.WalkKit
import Derived.Test.YtgldieboflmnhaaGreatDoorHeldD
namespace Go.Proofs.YtgldieboflmnhaaGreatDoor
open Go Go.Proofs
section
variable {F : Fence} {n : Nat} {P : Program} {ops : Array Oper} {Q : Exit → Act → World → Prop} {md : Region.Mode}
/-- each operation waits for earlier ones alone -/
def backward (ops : Array Oper) : Bool := (List.range ops.size).all fun i => match ops[i]? with | some o => o.after.all fun e => decide (e.on < i) | none => true
theorem backward_at (h : backward ops = true) {i : Nat} {o : Oper} (ho : ops[i]? = some o) : ∀ e ∈ o.after, e.on < i := by
  intro e he
  unfold backward at h
  rw [List.all_eq_true] at h
  have h1 := h i (List.mem_range.2 (Array.getElem?_eq_some_iff.1 ho).1)
  rw [ho] at h1
  simpa using (Array.all_eq_true'.1 h1) e he
theorem all_done (h : backward ops = true) {l : Array Bool} (hl : l.size = ops.size) (hr : Region.ready md ops l = []) : ∀ i, i < ops.size → l.getD i true = true := by
  intro i
  induction i using Nat.strongRecOn with
  | _ i ih =>
    intro hi
    cases hc : l.getD i true with
    | true => rfl
    | false =>
      exfalso
      have ho : ops[i]? = some ops[i] := by simp [hi]
      have hm : i ∈ Region.ready md ops l := mem_ready.2 ⟨hc, _, ho, fun e he _ => by
        have hlt := backward_at h ho e he
        have := ih e.on hlt (by omega)
        simp [show e.on < l.size by omega] at this ⊢
        exact this⟩
      rw [hr] at hm
      cases hm
/-- the state by what is done -/
def marks (l : Array Bool) : Nat → Bool := fun j => l.getD j false
theorem marks_set (l : Array Bool) (i : Nat) (hi : i < l.size) : marks (l.setIfInBounds i true) = fun j => if j = i then true else marks l j := by
  funext j
  unfold marks
  by_cases h : j = i
  · subst h; simp [hi]
  · simp [h, Array.getElem?_setIfInBounds, Ne.symm h]
theorem anyIn_states {Φ : (Nat → Bool) → Act → World → Prop} (hback : backward ops = true)
    (hstep : ∀ d i o a w, ops[i]? = some o → d i = false → (∀ e ∈ o.after, Region.binds md e = true → d e.on = true) → Φ d a w → wpOpIn F n P ops Q i (fun b u => Φ (fun j => if j = i then true else d j) b u) a w)
    (hdone : ∀ d a w, (∀ i, i < ops.size → d i = true) → Φ d a w → Q .normal a w) :
    ∀ (k : Nat) (l : Array Bool) (a : Act) (w : World), l.size = ops.size → l.toList.count false ≤ k → Φ (marks l) a w → wpAnyIn F n P md ops Q k l a w := by
  have done : ∀ (l : Array Bool) (a : Act) (w : World), l.size = ops.size → Φ (marks l) a w → Region.ready md ops l = [] → Q .normal a w := fun l a w hl hp hr =>
    hdone _ a w (fun i hi => by have := all_done hback hl hr i hi; unfold marks; simp [show i < l.size by omega] at this ⊢; exact this) hp
  intro k
  induction k with
  | zero =>
    intro l a w hl hc hp
    have hr : Region.ready md ops l = [] := by
      rw [List.eq_nil_iff_forall_not_mem]
      intro i hi
      obtain ⟨h1, o, ho, _⟩ := mem_ready.1 hi
      have hlt : i < l.size := by have := (Array.getElem?_eq_some_iff.1 ho).1; omega
      simp [hlt] at h1
      have : false ∈ l.toList := by rw [← h1]; simp
      have := List.count_pos_iff.2 this
      omega
    exact ⟨hr, done l a w hl hp hr⟩
  | succ k ih =>
    intro l a w hl hc hp
    refine ⟨done l a w hl hp, fun i hi => ?_⟩
    obtain ⟨h1, o, ho, he⟩ := mem_ready.1 hi
    have hlt : i < l.size := by have := (Array.getElem?_eq_some_iff.1 ho).1; omega
    have h1' : l[i] = false := by simpa [hlt] using h1
    refine wpOpIn_mono (fun b u hh => ih _ b u (by simpa using hl) ?_ ?_) (hstep (marks l) i o a w ho (by unfold marks; simp [hlt, h1']) (fun e hee hb => he e hee hb) hp)
    · have e1 : (l.setIfInBounds i true).toList = l.toList.set i true := by simp
      rw [e1]
      have e2 : (l.toList.set i true).count false + 1 = l.toList.count false := by
        have hi' : i < l.toList.length := by simpa using hlt
        have e3 : l.toList = l.toList.take i ++ false :: l.toList.drop (i + 1) := by
          rw [show (false : Bool) = l.toList[i] by simp [h1'], List.getElem_cons_drop, List.take_append_drop]
        have e4 : l.toList.set i true = l.toList.take i ++ true :: l.toList.drop (i + 1) := by rw [List.set_eq_take_append_cons_drop, if_pos hi']
        rw [e4]
        conv => rhs; rw [e3]
        simp [List.count_append, List.count_cons]
        omega
      omega
    · rw [marks_set l i hlt]; exact hh
theorem marks_none (k : Nat) : marks (Array.replicate k false) = fun _ => false := by
  funext j
  unfold marks
  by_cases h : j < k <;> simp [h]
theorem region_states {id : Nat} {a : Act} {w : World} {Φ : (Nat → Bool) → Act → World → Prop} (hm : P.follows .mixedOrders = true) (hback : backward ops = true) (h0 : Φ (fun _ => false) a w.drew)
    (hstep : ∀ d i o a w, ops[i]? = some o → d i = false → (∀ e ∈ o.after, Region.binds .any e = true → d e.on = true) → Φ d a w → wpOpIn F n P ops Q i (fun b u => Φ (fun j => if j = i then true else d j) b u) a w)
    (hdone : ∀ d a w, (∀ i, i < ops.size → d i = true) → Φ d a w → Q .normal a w) : (Code.region id ops true).wpIn F n P Q a w :=
  wpIn_region_any hm (anyIn_states hback hstep hdone _ _ _ _ (by simp) (by simp) (by rw [marks_none]; exact h0))
end
end Go.Proofs.YtgldieboflmnhaaGreatDoor
