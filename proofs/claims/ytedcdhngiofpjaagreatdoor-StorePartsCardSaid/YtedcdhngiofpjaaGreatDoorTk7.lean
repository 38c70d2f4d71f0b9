/- A statement of open order inside a round, with calls ahead of the one operation that may write: what only reads may come first where that operation waits for it, through whatever others. -/
import Derived.Test.YtedcdhngiofpjaaGreatDoorHeldIn
import Derived.Test.YtedcdhngiofpjaaGreatDoorAt
namespace Go.Proofs.YtedcdhngiofpjaaGreatDoor
open Go Go.Proofs
section
variable {F : Fence} {n : Nat} {P : Program} {ops : Array Oper} {Q : Exit → Act → World → Prop} {md : Region.Mode} {S : World → Prop} {m : Nat}
/-- all of D is still to come, and each of D but i waits for another one of D -/
def downD (md : Region.Mode) (ops : Array Oper) (l : Array Bool) (D : List Nat) (i m : Nat) : Bool :=
  D.contains m && !(m == i) && D.all fun d => !l.getD d true && (d == i || match ops[d]? with | some o => o.after.any (fun e => Region.binds md e && D.contains e.on) | none => false)
def DownP (md : Region.Mode) (ops : Array Oper) (D : List Nat) (i m : Nat) : Prop := m ∈ D ∧ m ≠ i ∧ ∀ d ∈ D, d ≠ i → ∃ o, ops[d]? = some o ∧ ∃ e ∈ o.after, Region.binds md e = true ∧ e.on ∈ D
theorem downD_spec {l : Array Bool} {D : List Nat} {i : Nat} (h : downD md ops l D i m = true) : DownP md ops D i m ∧ ∀ d ∈ D, l.getD d true = false := by
  unfold downD at h
  rw [Bool.and_eq_true, Bool.and_eq_true] at h
  obtain ⟨⟨h1, h2⟩, h3⟩ := h
  rw [List.all_eq_true] at h3
  refine ⟨⟨by simpa using h1, by simpa using h2, fun d hd hne => ?_⟩, fun d hd => ?_⟩
  · have := h3 d hd
    rw [Bool.and_eq_true, Bool.or_eq_true] at this
    rcases this.2 with h | h
    · exact absurd (by simpa using h) hne
    · cases ho : ops[d]? with
      | none => rw [ho] at h; cases h
      | some o =>
        rw [ho] at h
        obtain ⟨e, he, hb⟩ := Array.any_eq_true'.1 h
        rw [Bool.and_eq_true] at hb
        exact ⟨o, rfl, e, he, hb.1, by simpa using hb.2⟩
  · have := h3 d hd
    rw [Bool.and_eq_true] at this
    simpa using this.1
theorem down_not {l : Array Bool} {D : List Nat} {i d : Nat} (h : DownP md ops D i m) (hu : ∀ d ∈ D, l.getD d true = false) (hd : d ∈ D) (hne : d ≠ i) : d ∉ Region.ready md ops l := fun hr => by
  obtain ⟨_, om, hom, hall⟩ := mem_ready.1 hr
  obtain ⟨o, ho, e, he, hb, hin⟩ := h.2.2 d hd hne
  rw [hom] at ho; cases ho
  have h1 := hall e he hb
  have h0 := hu _ hin
  rcases Nat.lt_or_ge e.on l.size with h' | h'
  · simp [h'] at h0 h1; rw [h0] at h1; cases h1
  · simp [Array.getElem?_eq_none h'] at h1
/-- any order from here on; behind each operation ahead of number m the condition S holds -/
def anyM (F : Fence) (n : Nat) (P : Program) (md : Region.Mode) (ops : Array Oper) (Q : Exit → Act → World → Prop) (S : World → Prop) (m : Nat) : Nat → Array Bool → Act → World → Prop
  | 0, l, a, w => Region.ready md ops l = [] ∧ Q .normal a w
  | k + 1, l, a, w => (Region.ready md ops l = [] → Q .normal a w) ∧ ∀ i ∈ Region.ready md ops l, wpOpIn F n P ops Q i (fun b u => (i = m → wpAnyIn F n P md ops Q k (l.setIfInBounds i true) b u) ∧ (i ≠ m → S u ∧ anyM F n P md ops Q S m k (l.setIfInBounds i true) b u)) a w
theorem anyM_is : ∀ (k : Nat) (l : Array Bool) (a : Act) (w : World), anyM F n P md ops Q S m k l a w → wpAnyIn F n P md ops Q k l a w
  | 0, _, _, _, h => h
  | k + 1, _, _, _, h => ⟨h.1, fun i hi => wpOpIn_mono (fun b u hh => by
      by_cases e : i = m
      · exact hh.1 e
      · exact anyM_is k _ b u (hh.2 e).2) (h.2 i hi)⟩
theorem anyM_firstD {i : Nat} {oi : Oper} {v : Value} {D : List Nat} (hd : noDefer ops = true) (hi : ops[i]? = some oi) (hsel : ∀ (j : Nat) (o : Oper) cs b, ops[j]? = some o → o.op ≠ .select cs b)
    (hQ : ∀ c a w, Q (.panic c) (a.put oi.dst v) w → Q (.panic c) a w) (hD : DownP md ops D i m) : ∀ (k : Nat) (l : Array Bool) (a : Act) (w : World),
      (∀ j oj, ops[j]? = some oj → j ≠ i → l.getD j true = false → (∀ e ∈ oj.after, Region.binds md e = true → e.on ≠ i) → oi.apart ops oj = true) →
      (∀ d ∈ D, l.getD d true = false) →
      i ∈ Region.ready md ops l → ReadsIn P ops S oi v a → S w → anyM F n P md ops Q S m k (l.setIfInBounds i true) (a.put oi.dst v) w → anyM F n P md ops Q S m (k + 1) l a w
  | 0, l, a, w, _, _, hr, hy, hS, H => by
    refine ⟨fun h => (by rw [h] at hr; cases hr), fun j hj => ?_⟩
    by_cases e : j = i
    · subst e; exact reads_go hd hi hy hS ⟨fun e' => absurd e'.symm hD.2.1, fun _ => ⟨hS, H⟩⟩
    · have := ready_mono hj e; rw [H.1] at this; cases this
  | k + 1, l, a, w, hfree, hu, hr, hy, hS, H => by
    refine ⟨fun h => (by rw [h] at hr; cases hr), fun j hj => ?_⟩
    by_cases e : j = i
    · subst e; exact reads_go hd hi hy hS ⟨fun e' => absurd e'.symm hD.2.1, fun _ => ⟨hS, H⟩⟩
    · have hjD : j ∉ D := fun hjD => down_not hD hu hjD e hj
      have hjm : j ≠ m := fun e' => hjD (by rw [e']; exact hD.1)
      obtain ⟨un, oj, hoj, hall⟩ := mem_ready.1 hj
      have hnot : ∀ e ∈ oj.after, Region.binds md e = true → e.on ≠ i := fun ed he hb heq => by
        have h1 := hall ed he hb
        have h0 := (mem_ready.1 hr).1
        rw [heq] at h1
        rcases Nat.lt_or_ge i l.size with h' | h'
        · simp [h'] at h0 h1; rw [h0] at h1; cases h1
        · simp [Array.getElem?_eq_none h'] at h1
      have h2 := reads_past hd hoj (hfree j oj hoj e un hnot) (fun cs b => hsel i oi cs b hi) (fun cs b => hsel j oj cs b hoj) hQ hy (H.2 j (ready_mono hj e))
      refine wpOpIn_mono (fun b u h3 => ?_) h2
      obtain ⟨hSu, h4⟩ := h3.2.2 hjm
      refine ⟨fun e' => absurd e' hjm, fun _ => ⟨hSu, anyM_firstD hd hi hsel hQ hD k (l.setIfInBounds j true) b u ?_ ?_ (ready_mono hr (Ne.symm e)) h3.1 hSu ?_⟩⟩
      · intro q oq hq hqi unq hno
        refine hfree q oq hq hqi ?_ hno
        by_cases hjq : j = q
        · subst hjq; exact un
        · rw [getD_set_ne true hjq] at unq; exact unq
      · intro d hdD
        rw [getD_set_ne true (show j ≠ d from fun e' => hjD (by rw [e']; exact hdD))]
        exact hu d hdD
      · rw [Array.setIfInBounds_comm _ _ e]; exact h4
theorem anyM_take {i : Nat} {oi : Oper} {v : Value} {k : Nat} {l : Array Bool} {a : Act} {w : World} (D : List Nat) (hd : noDefer ops = true) (hi : ops[i]? = some oi) (hs : Region.noSelect ops = true) (hf : Region.free md ops l i = true) (hr : (Region.ready md ops l).contains i = true) (hwt : downD md ops l D i m = true)
    (hQ : ∀ c a w, Q (.panic c) (a.put oi.dst v) w → Q (.panic c) a w) (hy : YieldsIf P ops S oi v a) (hab : ∀ w, oi.about P w a.eval = none) (hS : S w) (h : anyM F n P md ops Q S m k (l.setIfInBounds i true) (a.put oi.dst v) w) : anyM F n P md ops Q S m (k + 1) l a w :=
  anyM_firstD hd hi (Region.noSelect_spec hs) hQ (downD_spec hwt).1 k l a w (Region.free_spec hi hf) (downD_spec hwt).2 (by simpa using hr) ⟨hy, hab⟩ hS h
/-- only number i can come now, ahead of m, and it is wanted -/
theorem anyM_only {i : Nat} {o : Oper} {k : Nat} {l : Array Bool} {a : Act} {w : World} (hr : Region.ready md ops l = [i]) (hm : i ≠ m) (ho : ops[i]? = some o) (hw : Region.wanted o (yielded ops a.tmps) = true)
    (h : ∀ K : Act → World → Prop, (∀ b u, S u → anyM F n P md ops Q S m k (l.setIfInBounds i true) b u → K b u) → o.wpIn F n P a w K Q) : anyM F n P md ops Q S m (k + 1) l a w :=
  ⟨fun h0 => (by rw [hr] at h0; cases h0), fun j hj => by
    rw [hr] at hj
    obtain rfl := List.mem_singleton.1 hj
    unfold wpOpIn
    simp only [ho]
    rw [if_pos hw]
    exact h _ (fun b u hs hh => ⟨fun e => absurd e hm, fun _ => ⟨hs, hh⟩⟩)⟩
/-- number m itself -/
theorem anyM_last {o : Oper} {k : Nat} {l : Array Bool} {a : Act} {w : World} (hr : Region.ready md ops l = [m]) (ho : ops[m]? = some o) (hw : Region.wanted o (yielded ops a.tmps) = true)
    (h : ∀ K : Act → World → Prop, (∀ b u, wpAnyIn F n P md ops Q k (l.setIfInBounds m true) b u → K b u) → o.wpIn F n P a w K Q) : anyM F n P md ops Q S m (k + 1) l a w :=
  ⟨fun h0 => (by rw [hr] at h0; cases h0), fun j hj => by
    rw [hr] at hj
    obtain rfl := List.mem_singleton.1 hj
    unfold wpOpIn
    simp only [ho]
    rw [if_pos hw]
    exact h _ (fun b u hh => ⟨fun _ => hh, fun e => absurd rfl e⟩)⟩
/-- number m itself, not wanted -/
theorem anyM_past {o : Oper} {k : Nat} {l : Array Bool} {a : Act} {w : World} (hr : Region.ready md ops l = [m]) (ho : ops[m]? = some o) (hw : Region.wanted o (yielded ops a.tmps) = false) (hab : o.about P w a.eval = none)
    (h : wpAnyIn F n P md ops Q k (l.setIfInBounds m true) (a.put o.dst undef) w) : anyM F n P md ops Q S m (k + 1) l a w :=
  ⟨fun h0 => (by rw [hr] at h0; cases h0), fun j hj => by
    rw [hr] at hj
    obtain rfl := List.mem_singleton.1 hj
    refine wpOpIn_step ho (fun K' hK' => ?_)
    rw [if_neg (by rw [hw]; exact Bool.false_ne_true)]
    exact ⟨fun f hf => (by rw [hab] at hf; cases hf), hK' _ _ ⟨fun _ => h, fun e => absurd rfl e⟩⟩⟩
/-- behind m: only number i can come -/
theorem anyIn_only {i : Nat} {o : Oper} {k : Nat} {l : Array Bool} {a : Act} {w : World} (hr : Region.ready md ops l = [i]) (ho : ops[i]? = some o) (hw : Region.wanted o (yielded ops a.tmps) = true)
    (h : ∀ K : Act → World → Prop, (∀ b u, wpAnyIn F n P md ops Q k (l.setIfInBounds i true) b u → K b u) → o.wpIn F n P a w K Q) : wpAnyIn F n P md ops Q (k + 1) l a w :=
  ⟨fun h0 => (by rw [hr] at h0; cases h0), fun j hj => by
    rw [hr] at hj
    obtain rfl := List.mem_singleton.1 hj
    unfold wpOpIn
    simp only [ho]
    rw [if_pos hw]
    exact h _ (fun b u hh => hh)⟩
theorem anyIn_skip {i : Nat} {o : Oper} {k : Nat} {l : Array Bool} {a : Act} {w : World} (hr : Region.ready md ops l = [i]) (ho : ops[i]? = some o) (hw : Region.wanted o (yielded ops a.tmps) = false) (hab : o.about P w a.eval = none)
    (h : wpAnyIn F n P md ops Q k (l.setIfInBounds i true) (a.put o.dst undef) w) : wpAnyIn F n P md ops Q (k + 1) l a w :=
  ⟨fun h0 => (by rw [hr] at h0; cases h0), fun j hj => by
    rw [hr] at hj
    obtain rfl := List.mem_singleton.1 hj
    refine wpOpIn_step ho (fun K' hK' => ?_)
    rw [if_neg (by rw [hw]; exact Bool.false_ne_true)]
    exact ⟨fun f hf => (by rw [hab] at hf; cases hf), hK' _ _ h⟩⟩
theorem anyIn_done {l : Array Bool} {a : Act} {w : World} (hr : Region.ready md ops l = []) (h : Q .normal a w) : ∀ k, wpAnyIn F n P md ops Q k l a w
  | 0 => ⟨hr, h⟩
  | _ + 1 => ⟨fun _ => h, fun i hi => by rw [hr] at hi; cases hi⟩
theorem region_anyM {id : Nat} {a : Act} {w : World} (S : World → Prop) (m : Nat) (hm : P.follows .mixedOrders = true) (h : S w.drew → anyM F n P .any ops Q S m ops.size (Array.replicate ops.size false) a w.drew) (hS : S w.drew) : (Code.region id ops true).wpIn F n P Q a w :=
  wpIn_region_any hm (anyM_is _ _ _ _ (h hS))
end
end Go.Proofs.YtedcdhngiofpjaaGreatDoor
/- Operations of a drawn region inside a fence, a line each: their side conditions are found by their tactics. -/
namespace Go.Proofs.YtedcdhngiofpjaaGreatDoor
open Go Go.Proofs
section
variable {F : Fence} {n : Nat} {P : Program} {ops : Array Oper} {Q : Exit → Act → World → Prop} {md : Region.Mode} {S : World → Prop} {m : Nat}
/-- number i is taken; D: what is still to come between it and number m -/
theorem anyM_d (i : Nat) (D : List Nat) {oi : Oper} {v : Value} {k : Nat} {l l' : Array Bool} {a a' : Act} {w : World} (hS : S w) (h : anyM F n P md ops Q S m k l' a' w)
    (hi : ops[i]? = some oi := by (simp only [qa, qb, qc]; exact rfl))
    (hd : noDefer ops = true := by kernel_rfl) (hs : Region.noSelect ops = true := by kernel_rfl) (hf : Region.free md ops l i = true := by kernel_rfl) (hr : (Region.ready md ops l).contains i = true := by kernel_rfl) (hwt : downD md ops l D i m = true := by kernel_rfl)
    (hQ : ∀ c a w, Q (.panic c) (a.put oi.dst v) w → Q (.panic c) a w := by exact fun _ _ _ h => h)
    (hy : YieldsIf P ops S oi v a := by (refine Or.inl ⟨by rfl, ?_⟩; intro w hSw; (try dsimp only at hSw); go_simp; (try with_reducible rfl)))
    (hab : ∀ w, oi.about P w a.eval = none := by exact fun _ => rfl)
    (hl : l.setIfInBounds i true = l' := by (first | (simp only [qd, qe, qf]; done) | (simp only [qd, qe, qf]; with_reducible rfl) | with_reducible rfl))
    (ha : a.put oi.dst v = a' := by (first | (simp only [Act.put, qd, qe, qf]; done) | (simp only [Act.put, qd, qe, qf]; with_reducible rfl) | with_reducible rfl)) : anyM F n P md ops Q S m (k + 1) l a w := by
  subst hl ha
  exact anyM_take D hd hi hs hf hr hwt hQ hy hab hS h
/-- number i, the only one that can come, ahead of m -/
theorem anyM_o (i : Nat) {o : Oper} {k : Nat} {l l' : Array Bool} {a : Act} {w : World} (h : ∀ K : Act → World → Prop, (∀ b u, S u → anyM F n P md ops Q S m k l' b u → K b u) → o.wpIn F n P a w K Q)
    (ho : ops[i]? = some o := by (simp only [qa, qb, qc]; exact rfl)) (hr : Region.ready md ops l = [i] := by kernel_rfl) (hm : i ≠ m := by decide) (hw : Region.wanted o (yielded ops a.tmps) = true := by rfl)
    (hl : l.setIfInBounds i true = l' := by (first | (simp only [qd, qe, qf]; done) | (simp only [qd, qe, qf]; with_reducible rfl) | with_reducible rfl)) : anyM F n P md ops Q S m (k + 1) l a w := by
  subst hl
  exact anyM_only hr hm ho hw h
/-- number m -/
theorem anyM_l {o : Oper} {k : Nat} {l l' : Array Bool} {a : Act} {w : World} (h : ∀ K : Act → World → Prop, (∀ b u, wpAnyIn F n P md ops Q k l' b u → K b u) → o.wpIn F n P a w K Q)
    (ho : ops[m]? = some o := by (simp only [qa, qb, qc]; exact rfl)) (hr : Region.ready md ops l = [m] := by kernel_rfl) (hw : Region.wanted o (yielded ops a.tmps) = true := by rfl)
    (hl : l.setIfInBounds m true = l' := by (first | (simp only [qd, qe, qf]; done) | (simp only [qd, qe, qf]; with_reducible rfl) | with_reducible rfl)) : anyM F n P md ops Q S m (k + 1) l a w := by
  subst hl
  exact anyM_last hr ho hw h
/-- behind m: the only one that can come -/
theorem anyI_o (i : Nat) {o : Oper} {k : Nat} {l l' : Array Bool} {a : Act} {w : World} (h : ∀ K : Act → World → Prop, (∀ b u, wpAnyIn F n P md ops Q k l' b u → K b u) → o.wpIn F n P a w K Q)
    (ho : ops[i]? = some o := by (simp only [qa, qb, qc]; exact rfl)) (hr : Region.ready md ops l = [i] := by kernel_rfl) (hw : Region.wanted o (yielded ops a.tmps) = true := by rfl)
    (hl : l.setIfInBounds i true = l' := by (first | (simp only [qd, qe, qf]; done) | (simp only [qd, qe, qf]; with_reducible rfl) | with_reducible rfl)) : wpAnyIn F n P md ops Q (k + 1) l a w := by
  subst hl
  exact anyIn_only hr ho hw h
end
end Go.Proofs.YtedcdhngiofpjaaGreatDoor
