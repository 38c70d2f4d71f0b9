/- Operations of a drawn region inside a fence, a line each: their side conditions are found by their tactics. -/
import Derived.Test.YtoodcaonlfeleaaDoorHeldD
import Derived.Test.YtoodcaonlfeleaaDoorAt
namespace Go.Proofs.YtoodcaonlfeleaaDoor
open Go Go.Proofs
section
variable {F : Fence} {n : Nat} {P : Program} {ops : Array Oper} {Q : Exit → Act → World → Prop} {md : Region.Mode} {S : World → Prop} {m : Nat}
/-- number i is taken; D: what is still to come between it and number m -/
theorem anyM_d (i : Nat) (D : List Nat) {oi : Oper} {v : Value} {k : Nat} {l l' : Array Bool} {a a' : Act} {w : World} (hS : S w) (h : anyM F n P md ops Q S m k l' a' w)
    (hi : ops[i]? = some oi := by (simp only [qa, qb, qc]; exact rfl))
    (hd : noDefer ops = true := by kernel_rfl) (hs : Region.noSelect ops = true := by kernel_rfl) (hf : Region.free md ops l i = true := by kernel_rfl) (hr : (Region.ready md ops l).contains i = true := by kernel_rfl) (hwt : downD md ops l D i m = true := by kernel_rfl)
    (hQ : ∀ c a w, Q (.panic c) (a.put oi.dst v) w → Q (.panic c) a w := by exact fun _ _ _ h => h)
    (hy : YieldsIf P ops S oi v a := by (refine Or.inl ⟨by rfl, ?_⟩; intro w hSw; (try dsimp only at hSw); go_simp; (try with_reducible rfl)))
    (hab : ∀ w, oi.about P w a.eval = none := by exact fun _ => rfl)
    (hl : l.setIfInBounds i true = l' := by (first | (simp only [qd, qe, qf]; done) | (simp only [qd, qe, qf]; with_reducible rfl) | with_reducible rfl))
    (ha : a.put oi.dst v = a' := by (first | (simp only [Act.put, qd, qe, qf]; done) | (simp only [Act.put, qd, qe, qf]; with_reducible rfl) | with_reducible rfl)) : anyM F n P md ops Q S m (k + 1) l a w := by
  subst hl ha
  exact anyM_take D hd hi hs hf hr hwt hQ hy hab hS h
/-- number i, the only one that can come, ahead of m -/
theorem anyM_o (i : Nat) {o : Oper} {k : Nat} {l l' : Array Bool} {a : Act} {w : World} (h : ∀ K : Act → World → Prop, (∀ b u, S u → anyM F n P md ops Q S m k l' b u → K b u) → o.wpIn F n P a w K Q)
    (ho : ops[i]? = some o := by (simp only [qa, qb, qc]; exact rfl)) (hr : Region.ready md ops l = [i] := by kernel_rfl) (hm : i ≠ m := by decide) (hw : Region.wanted o (yielded ops a.tmps) = true := by rfl)
    (hl : l.setIfInBounds i true = l' := by (first | (simp only [qd, qe, qf]; done) | (simp only [qd, qe, qf]; with_reducible rfl) | with_reducible rfl)) : anyM F n P md ops Q S m (k + 1) l a w := by
  subst hl
  exact anyM_only hr hm ho hw h
/-- number m -/
theorem anyM_l {o : Oper} {k : Nat} {l l' : Array Bool} {a : Act} {w : World} (h : ∀ K : Act → World → Prop, (∀ b u, wpAnyIn F n P md ops Q k l' b u → K b u) → o.wpIn F n P a w K Q)
    (ho : ops[m]? = some o := by (simp only [qa, qb, qc]; exact rfl)) (hr : Region.ready md ops l = [m] := by kernel_rfl) (hw : Region.wanted o (yielded ops a.tmps) = true := by rfl)
    (hl : l.setIfInBounds m true = l' := by (first | (simp only [qd, qe, qf]; done) | (simp only [qd, qe, qf]; with_reducible rfl) | with_reducible rfl)) : anyM F n P md ops Q S m (k + 1) l a w := by
  subst hl
  exact anyM_last hr ho hw h
/-- behind m: the only one that can come -/
theorem anyI_o (i : Nat) {o : Oper} {k : Nat} {l l' : Array Bool} {a : Act} {w : World} (h : ∀ K : Act → World → Prop, (∀ b u, wpAnyIn F n P md ops Q k l' b u → K b u) → o.wpIn F n P a w K Q)
    (ho : ops[i]? = some o := by (simp only [qa, qb, qc]; exact rfl)) (hr : Region.ready md ops l = [i] := by kernel_rfl) (hw : Region.wanted o (yielded ops a.tmps) = true := by rfl)
    (hl : l.setIfInBounds i true = l' := by (first | (simp only [qd, qe, qf]; done) | (simp only [qd, qe, qf]; with_reducible rfl) | with_reducible rfl)) : wpAnyIn F n P md ops Q (k + 1) l a w := by
  subst hl
  exact anyIn_only hr ho hw h
end
end Go.Proofs.YtoodcaonlfeleaaDoor
