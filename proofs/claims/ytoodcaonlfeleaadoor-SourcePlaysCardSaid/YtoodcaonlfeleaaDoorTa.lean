/- Operations of a drawn region outside a fence, a line each: one that alone can come, two of which either can. -/
import Derived.Test.YtoodcaonlfeleaaDoorAt
import Derived.Test.YtoodcaonlfeleaaDoorTk7
import Derived.Deep.RegionHeld3
import Derived.KernelRfl
namespace Go.Proofs.YtoodcaonlfeleaaDoor
open Go Go.Proofs
section
variable {P : Program} {ops : Array Oper} {Q : Exit → Act → World → Prop} {md : Region.Mode} {S : World → Prop}
theorem anyH_1 (i : Nat) {o : Oper} {k : Nat} {l l' : Array Bool} {a : Act} {w : World}
    (h : ∀ K : Act → World → Prop, Shut (∀ b u, S u → (S u → wpAnyH P md ops Q S k l' b u) → K b u) → Oper.wp P o a w K Q)
    (ho : ops[i]? = some o := by (simp only [qa, qb, qc]; exact rfl)) (hr : Region.ready md ops l = [i] := by kernel_rfl) (hw : Region.wanted o (yielded ops a.tmps) = true := by rfl)
    (hl : l.setIfInBounds i true = l' := by (first | (simp only [qd, qe, qf]; done) | (simp only [qd, qe, qf]; with_reducible rfl) | with_reducible rfl)) : wpAnyH P md ops Q S (k + 1) l a w := by
  subst hl
  exact wpAnyH_ready hr (by simp) (AllReadyH.cons ho (fun K hK => by rw [if_pos hw]; exact h K hK) AllReadyH.nil)
theorem anyH_2 (i j : Nat) {o oj : Oper} {k : Nat} {l l' l'' : Array Bool} {a : Act} {w : World}
    (h : ∀ K : Act → World → Prop, Shut (∀ b u, S u → (S u → wpAnyH P md ops Q S k l' b u) → K b u) → Oper.wp P o a w K Q)
    (h2 : ∀ K : Act → World → Prop, Shut (∀ b u, S u → (S u → wpAnyH P md ops Q S k l'' b u) → K b u) → Oper.wp P oj a w K Q)
    (ho : ops[i]? = some o := by (simp only [qa, qb, qc]; exact rfl)) (hoj : ops[j]? = some oj := by (simp only [qa, qb, qc]; exact rfl)) (hr : Region.ready md ops l = [i, j] := by kernel_rfl)
    (hw : Region.wanted o (yielded ops a.tmps) = true := by rfl) (hwj : Region.wanted oj (yielded ops a.tmps) = true := by rfl)
    (hl : l.setIfInBounds i true = l' := by (first | (simp only [qd, qe, qf]; done) | (simp only [qd, qe, qf]; with_reducible rfl) | with_reducible rfl))
    (hlj : l.setIfInBounds j true = l'' := by (first | (simp only [qd, qe, qf]; done) | (simp only [qd, qe, qf]; with_reducible rfl) | with_reducible rfl)) : wpAnyH P md ops Q S (k + 1) l a w := by
  subst hl hlj
  exact wpAnyH_ready hr (by simp) (AllReadyH.cons ho (fun K hK => by rw [if_pos hw]; exact h K hK) (AllReadyH.cons hoj (fun K hK => by rw [if_pos hwj]; exact h2 K hK) AllReadyH.nil))
end
section
variable {F : Fence} {n : Nat} {P : Program} {ops : Array Oper} {Q : Exit → Act → World → Prop} {md : Region.Mode} {S : World → Prop} {m : Nat}
/-- in a fence: number i is taken, out of what S says (C); D: what is still to come between it and number m -/
theorem anyM_c (i : Nat) (D : List Nat) {C : World → Prop} {oi : Oper} {v : Value} {k : Nat} {l l' : Array Bool} {a a' : Act} {w : World} (hS : S w) (hc : ∀ u, S u → C u) (h : anyM F n P md ops Q S m k l' a' w)
    (hi : ops[i]? = some oi := by (simp only [qa, qb, qc]; exact rfl))
    (hd : noDefer ops = true := by kernel_rfl) (hs : Region.noSelect ops = true := by kernel_rfl) (hf : Region.free md ops l i = true := by kernel_rfl) (hr : (Region.ready md ops l).contains i = true := by kernel_rfl) (hwt : downD md ops l D i m = true := by kernel_rfl)
    (hQ : ∀ c a w, Q (.panic c) (a.put oi.dst v) w → Q (.panic c) a w := by exact fun _ _ _ h => h)
    (hy : YieldsIf P ops C oi v a := by (refine Or.inl ⟨by rfl, ?_⟩; intro u e0; (try dsimp only at e0); go_simp; (try with_reducible rfl)))
    (hab : ∀ w, oi.about P w a.eval = none := by exact fun _ => rfl)
    (hl : l.setIfInBounds i true = l' := by (first | (simp only [qd, qe, qf]; done) | (simp only [qd, qe, qf]; with_reducible rfl) | with_reducible rfl))
    (ha : a.put oi.dst v = a' := by (first | (simp only [Act.put, qd, qe, qf]; done) | (simp only [Act.put, qd, qe, qf]; with_reducible rfl) | with_reducible rfl)) : anyM F n P md ops Q S m (k + 1) l a w := by
  subst hl ha
  exact anyM_take D hd hi hs hf hr hwt hQ (hy.imp (fun q => ⟨q.1, fun u hu => q.2 u (hc u hu)⟩) id) hab hS h
end
end Go.Proofs.YtoodcaonlfeleaaDoor
