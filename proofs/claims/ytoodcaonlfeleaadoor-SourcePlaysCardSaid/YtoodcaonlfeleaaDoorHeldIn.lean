/- A statement of open order inside a round of a loop over a function: what only reads may come first; one operation, which waits for all, may write. -/
import Derived.OrdersIn
import Derived.OrdersHeld
import Derived.OwnWalkIn
import Derived.WalkKit
import Derived.Test.YtoodcaonlfeleaaDoorProg
namespace Go.Proofs.YtoodcaonlfeleaaDoor
open Go Go.Proofs
section
variable {F : Fence} {n : Nat} {P : Program} {ops : Array Oper} {Q : Exit → Act → World → Prop} {md : Region.Mode} {S : World → Prop} {m : Nat}
def noDefer (ops : Array Oper) : Bool := ops.all fun o => match o.op with | .defer _ => false | _ => true
theorem noDefer_at (h : noDefer ops = true) {j : Nat} {o : Oper} (ho : ops[j]? = some o) : ∀ c, o.op ≠ .defer c := fun c e => by
  have hm := Array.all_eq_true'.1 h o (Array.mem_of_getElem? ho)
  rw [e] at hm
  exact Bool.false_ne_true hm
/-- whatever the world, as long as S holds: this value, and no call of a function -/
def ReadsIn (P : Program) (ops : Array Oper) (S : World → Prop) (o : Oper) (v : Value) (a : Act) : Prop := YieldsIf P ops S o v a ∧ ∀ w, o.about P w a.eval = none
/-- any order from here on; behind each operation but number m the condition S holds -/
def anyL (F : Fence) (n : Nat) (P : Program) (md : Region.Mode) (ops : Array Oper) (Q : Exit → Act → World → Prop) (S : World → Prop) (m : Nat) : Nat → Array Bool → Act → World → Prop
  | 0, l, a, w => Region.ready md ops l = [] ∧ Q .normal a w
  | k + 1, l, a, w => (Region.ready md ops l = [] → Q .normal a w) ∧ ∀ i ∈ Region.ready md ops l, wpOpIn F n P ops Q i (fun b u => (i = m ∨ S u) ∧ anyL F n P md ops Q S m k (l.setIfInBounds i true) b u) a w
theorem anyL_is : ∀ (k : Nat) (l : Array Bool) (a : Act) (w : World), anyL F n P md ops Q S m k l a w → wpAnyIn F n P md ops Q k l a w
  | 0, _, _, _, h => h
  | k + 1, _, _, _, h => ⟨h.1, fun i hi => wpOpIn_mono (fun b u hh => anyL_is k _ b u hh.2) (h.2 i hi)⟩
theorem reads_go {i : Nat} {o : Oper} {v : Value} {a : Act} {w : World} {K : Act → World → Prop} (hd : noDefer ops = true) (hi : ops[i]? = some o) (hy : ReadsIn P ops S o v a) (hS : S w) (h : K (a.put o.dst v) w) : wpOpIn F n P ops Q i K a w := by
  refine wpOpIn_step hi (fun K' hK' => ?_)
  rcases hy.1 with ⟨hw, hv⟩ | ⟨hw, rfl⟩
  · rw [if_pos hw]
    refine ⟨fun f hf => (by rw [hy.2 w] at hf; cases hf), ?_⟩
    rw [Oper.semAt_plain F _ _ (noDefer_at hd hi), hv w hS]
    exact hK' _ _ h
  · rw [if_neg (by rw [hw]; exact Bool.false_ne_true)]
    exact ⟨fun f hf => (by rw [hy.2 w] at hf; cases hf), hK' _ _ h⟩
theorem reads_stay {o : Oper} {v : Value} {a b : Act} (hy : ReadsIn P ops S o v a) (he : execOp b.eval o = execOp a.eval o) (hw : Region.wanted o (yielded ops b.tmps) = Region.wanted o (yielded ops a.tmps)) (hb : ∀ w, o.about P w b.eval = o.about P w a.eval) : ReadsIn P ops S o v b :=
  ⟨hy.1.of_same he hw, fun w => (hb w).trans (hy.2 w)⟩
theorem reads_past {j : Nat} {oi oj : Oper} {v : Value} {K : Act → World → Prop} {a : Act} {w : World} (hd : noDefer ops = true) (hj : ops[j]? = some oj) (hap : oi.apart ops oj = true)
    (si : ∀ cs b, oi.op ≠ .select cs b) (sj : ∀ cs b, oj.op ≠ .select cs b) (hQ : ∀ c a w, Q (.panic c) (a.put oi.dst v) w → Q (.panic c) a w)
    (hy : ReadsIn P ops S oi v a) (h : wpOpIn F n P ops Q j K (a.put oi.dst v) w) : wpOpIn F n P ops Q j (fun b u => ReadsIn P ops S oi v b ∧ K (b.put oi.dst v) u) a w := by
  obtain ⟨p1, p2, p3⟩ := Oper.apart_spec hap
  have st0 : ∀ b : Act, ReadsIn P ops S oi v b → ∀ u, ReadsIn P ops S oi v (b.put oj.dst u) := fun b hb u => reads_stay hb (execOp_put oi si b oj.dst u p3) (wanted_put oi b oj.dst u p3) (fun w => about_put oi w b oj.dst u p3)
  have st : ∀ u, ReadsIn P ops S oi v (a.put oj.dst u) := fun u => st0 a hy u
  have swap : ∀ u, (a.put oj.dst u).put oi.dst v = (a.put oi.dst v).put oj.dst u := fun u => (Act.put_comm a v u p2).symm
  have hpl := noDefer_at hd hj
  unfold wpOpIn at h ⊢
  simp only [hj] at h ⊢
  rw [wanted_put oj a oi.dst v p1, about_put oj w a oi.dst v p1] at h
  by_cases hw : Region.wanted oj (yielded ops a.tmps) = true
  · rw [if_pos hw] at h ⊢
    obtain ⟨g1, g2⟩ := h
    refine ⟨by rwa [about_put oj w a oi.dst v p1] at g1, ?_⟩
    rw [Oper.semAt_plain F _ _ hpl, execOp_put oj sj a oi.dst v p1] at g2
    rw [Oper.semAt_plain F _ _ hpl]
    revert g2
    cases (execOp a.eval oj).run P w with
    | ok x u =>
      cases x with
      | value y => intro g; exact ⟨st y, by rw [swap]; exact g⟩
      | skip => intro g; exact ⟨st undef, by rw [swap]; exact g⟩
      | defer d =>
        intro g
        refine ⟨st0 { a with defers := d :: a.defers } (reads_stay hy rfl rfl (fun _ => rfl)) undef, ?_⟩
        have e := Act.put_comm { a with defers := d :: a.defers } v undef p2
        rw [← e, ← Act.put_defers]
        exact g
      | enter f args =>
        intro g
        refine ⟨g.1, g.2.mono fun e u' he => ?_⟩
        cases e with
        | returned y => exact ⟨st y, by rw [swap]; exact he⟩
        | panicked c => exact hQ _ _ _ he
        | outgrown => exact he
      | row r args => intro g; exact ⟨g.1, RowsIn.mono g.2 fun y u' he => ⟨st y, by rw [swap]; exact he⟩⟩
      | round l f t s b =>
        intro g
        refine ⟨g.1, RoundIn.mono g.2 fun e u' he => ?_⟩
        cases e with
        | returned y => exact ⟨st y, by rw [swap]; exact he⟩
        | panicked c => exact hQ _ _ _ he
        | outgrown => exact he
      | _ => intro g; exact g
    | halt x u =>
      cases x with
      | panic y => intro g; exact hQ _ _ _ g
      | _ => intro g; exact g
  · rw [if_neg hw] at h ⊢
    exact ⟨h.1, st undef, by rw [swap]; exact h.2⟩
/-- number m waits for number i itself -/
def waits (md : Region.Mode) (ops : Array Oper) (m i : Nat) : Bool := match ops[m]? with | some o => o.after.any (fun e => Region.binds md e && e.on == i) | none => true
theorem waits_not {l : Array Bool} {i : Nat} (hw : waits md ops m i = true) (hi : i ∈ Region.ready md ops l) : m ∉ Region.ready md ops l := fun hm => by
  obtain ⟨_, om, hom, hall⟩ := mem_ready.1 hm
  unfold waits at hw
  rw [hom] at hw
  obtain ⟨e, he, hb⟩ := Array.any_eq_true'.1 hw
  rw [Bool.and_eq_true, beq_iff_eq] at hb
  have h1 := hall e he hb.1
  have h0 := (mem_ready.1 hi).1
  rw [hb.2] at h1
  rcases Nat.lt_or_ge i l.size with h' | h'
  · simp [h'] at h0 h1; rw [h0] at h1; cases h1
  · simp [Array.getElem?_eq_none h'] at h1
theorem anyL_first {i : Nat} {oi : Oper} {v : Value} (hd : noDefer ops = true) (hi : ops[i]? = some oi) (hsel : ∀ (j : Nat) (o : Oper) cs b, ops[j]? = some o → o.op ≠ .select cs b)
    (hQ : ∀ c a w, Q (.panic c) (a.put oi.dst v) w → Q (.panic c) a w) (hwt : waits md ops m i = true) : ∀ (k : Nat) (l : Array Bool) (a : Act) (w : World),
      (∀ j oj, ops[j]? = some oj → j ≠ i → l.getD j true = false → (∀ e ∈ oj.after, Region.binds md e = true → e.on ≠ i) → oi.apart ops oj = true) →
      i ∈ Region.ready md ops l → ReadsIn P ops S oi v a → S w → anyL F n P md ops Q S m k (l.setIfInBounds i true) (a.put oi.dst v) w → anyL F n P md ops Q S m (k + 1) l a w
  | 0, l, a, w, _, hr, hy, hS, H => by
    refine ⟨fun h => (by rw [h] at hr; cases hr), fun j hj => ?_⟩
    by_cases e : j = i
    · subst e; exact reads_go hd hi hy hS ⟨.inr hS, H⟩
    · have := ready_mono hj e; rw [H.1] at this; cases this
  | k + 1, l, a, w, hfree, hr, hy, hS, H => by
    refine ⟨fun h => (by rw [h] at hr; cases hr), fun j hj => ?_⟩
    by_cases e : j = i
    · subst e; exact reads_go hd hi hy hS ⟨.inr hS, H⟩
    · have hjm : j ≠ m := fun e' => waits_not hwt hr (e' ▸ hj)
      obtain ⟨un, oj, hoj, hall⟩ := mem_ready.1 hj
      have hnot : ∀ e ∈ oj.after, Region.binds md e = true → e.on ≠ i := fun ed he hb heq => by
        have h1 := hall ed he hb
        have h0 := (mem_ready.1 hr).1
        rw [heq] at h1
        rcases Nat.lt_or_ge i l.size with h' | h'
        · simp [h'] at h0 h1; rw [h0] at h1; cases h1
        · simp [Array.getElem?_eq_none h'] at h1
      have h2 := reads_past hd hoj (hfree j oj hoj e un hnot) (fun cs b => hsel i oi cs b hi) (fun cs b => hsel j oj cs b hoj) hQ hy (H.2 j (ready_mono hj e))
      refine wpOpIn_mono (fun b u h3 => ?_) h2
      have hSu : S u := h3.2.1.resolve_left hjm
      refine ⟨.inr hSu, anyL_first hd hi hsel hQ hwt k (l.setIfInBounds j true) b u ?_ (ready_mono hr (Ne.symm e)) h3.1 hSu ?_⟩
      · intro q oq hq hqi unq hno
        refine hfree q oq hq hqi ?_ hno
        by_cases hjq : j = q
        · subst hjq; exact un
        · rw [getD_set_ne true hjq] at unq; exact unq
      · rw [Array.setIfInBounds_comm _ _ e]; exact h3.2.2
theorem anyL_take {i : Nat} {oi : Oper} {v : Value} {k : Nat} {l : Array Bool} {a : Act} {w : World} (hd : noDefer ops = true) (hi : ops[i]? = some oi) (hs : Region.noSelect ops = true) (hf : Region.free md ops l i = true) (hr : (Region.ready md ops l).contains i = true) (hwt : waits md ops m i = true)
    (hQ : ∀ c a w, Q (.panic c) (a.put oi.dst v) w → Q (.panic c) a w) (hy : YieldsIf P ops S oi v a) (hab : ∀ w, oi.about P w a.eval = none) (hS : S w) (h : anyL F n P md ops Q S m k (l.setIfInBounds i true) (a.put oi.dst v) w) : anyL F n P md ops Q S m (k + 1) l a w :=
  anyL_first hd hi (Region.noSelect_spec hs) hQ hwt k l a w (Region.free_spec hi hf) (by simpa using hr) ⟨hy, hab⟩ hS h
/-- all that is left: number m -/
theorem anyL_last {o : Oper} {k : Nat} {l : Array Bool} {a : Act} {w : World} (hr : Region.ready md ops l = [m]) (ho : ops[m]? = some o) (hw : Region.wanted o (yielded ops a.tmps) = true)
    (h : ∀ K : Act → World → Prop, (∀ b u, anyL F n P md ops Q S m k (l.setIfInBounds m true) b u → K b u) → o.wpIn F n P a w K Q) : anyL F n P md ops Q S m (k + 1) l a w :=
  ⟨fun h0 => (by rw [hr] at h0; cases h0), fun i hi => by
    rw [hr] at hi
    obtain rfl := List.mem_singleton.1 hi
    unfold wpOpIn
    simp only [ho]
    rw [if_pos hw]
    exact h _ (fun b u hh => ⟨.inl trivial, hh⟩)⟩
theorem anyL_done {l : Array Bool} {a : Act} {w : World} (hr : Region.ready md ops l = []) (h : Q .normal a w) : ∀ k, anyL F n P md ops Q S m k l a w
  | 0 => ⟨hr, h⟩
  | _ + 1 => ⟨fun _ => h, fun i hi => by rw [hr] at hi; cases hi⟩
theorem region_anyL {id : Nat} {a : Act} {w : World} (S : World → Prop) (m : Nat) (hm : P.follows .mixedOrders = true) (h : S w.drew → anyL F n P .any ops Q S m ops.size (Array.replicate ops.size false) a w.drew) (hS : S w.drew) : (Code.region id ops true).wpIn F n P Q a w :=
  wpIn_region_any hm (anyL_is _ _ _ _ (h hS))
end
end Go.Proofs.YtoodcaonlfeleaaDoor
