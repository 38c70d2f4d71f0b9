/- Operations by hand, inside a fence: the append of a string. -/
import Derived.OwnWalkIn
import Derived.Lib.AppendStr
import Derived.Laws.IdiomStrings
import Derived.Lib.BufStepsIn
import Derived.Lib.OthersKept
import Derived.Lib.ItoaNum
import Derived.RangeFuncBox
import Derived.RangeFuncNested
import Derived.OrdersIn
import Derived.OrdersHeld
import Derived.WalkKit
import Derived.Test.YthdoniefjmphaaaGreatDoorProg
import Derived.RangeFuncBound
import Derived.RangeFuncCalls
import Derived.RangeFuncLeaves
namespace Go.Proofs.YthdoniefjmphaaaGreatDoor
open Go Go.Proofs Go.RowKit Go.Lib
set_option maxRecDepth 100000
theorem oper_append_string {F : Fence} {n : Nat} {P : Program} {Q : Exit → Act → World → Prop} {o : Oper} {a : Act} {w : World} {K : Act → World → Prop} (s x : Operand) (t u : TypeId)
  (ho : o.op = .call { callee := .builtin .append, args := #[s, x], argTypes := #[t, u] }) {v v' : Value} {st : ByteArray} {w' : World} (hs : a.eval s = v) (hx : a.eval x = .string st)
  (hr : (Builtin.append_ #[t, u] o.type #[v, .string st]).run P w = .ok v' w') (hK : K (a.put o.dst v') w') : o.wpIn F n P a w K Q := by
 unfold Oper.wpIn;refine ⟨?_, ?_⟩
 ·
  simp [Oper.about, ho, resolve, Target.leads, Sem.run_pure]
 ·
  rw [Oper.semAt_plain F _ _ (by rw [ho]; intro c hc'; cases hc')];simp [execOp, ho, resolve, invoke, builtin, hs, hx, hr, Result.andThen];exact hK
theorem own_some {w : World} {base e n : Nat} {v : Value} {xs : List Value} (h : w.ownsRow base e 1 v n xs) (hn : 0 < n) : ∃ g cap, v = .slice (some ⟨g, 0, none⟩) n cap := by
 rcases h.2 with ⟨_, h⟩ | ⟨g, cap, cur, hv, _⟩
 ·
  omega
 ·
  exact ⟨g, cap, hv⟩
theorem heap_grow {w1 w2 : World} {b n Bx : Nat} {tB T : TypeId} {v1 : Value} {xs : List Value} {cs : Array Value} (own1 : w1.ownsRow b tB 1 v1 n xs) (g : w1.grownBy w2 v1.ownBlock) (hT : T ≠ tB) (bx : w1.heap[Bx]? = some (.cells cs T (0, 0))) : w2.heap[Bx]? = some (.cells cs T (0, 0)) := by
 refine (g.block Bx (Array.getElem?_eq_some_iff.1 bx).1 (fun e' => ?_)).trans bx;rcases own1.2 with ⟨rfl, _⟩ | ⟨gg, cap, cur, rfl, _, hgb, _⟩
 ·
  simp [Value.ownBlock] at e'
 ·
  obtain rfl : gg = Bx := by simpa [Value.ownBlock, eq_comm] using e'
  rw [hgb] at bx;cases bx
  exact hT rfl
theorem strCells_mk (l : List UInt8) : strCells ⟨l.toArray⟩ = byteCells l := by
 unfold strCells byteCells;simp
theorem str_of_row {P : Program} {w : World} {base n : Nat} {src dst e : TypeId} {v : Value} {l : List UInt8} (h : w.ownsRow base e 1 v n (byteCells l)) (hs : P.underlying src = some (.slice e)) (he : P.underlying e = some (.int .u8)) (hd : P.underlying dst = some .string) : (convert src dst v).run P w = .ok (.string ⟨l.toArray⟩) w := by
 have hl : n = l.length := by have := h.1; simp [byteCells] at this; omega
 subst hl;have hc := fun g => World.ownsRow.cells h (g := g)
 rcases h.2 with ⟨rfl, hn⟩ | ⟨g, cap, cur, rfl, _⟩
 ·
  obtain rfl : l = [] := List.eq_nil_of_length_eq_zero hn;rw [run_convert_bytes_string w src dst e none 0 0 hs he hd]; rfl
 ·
  exact run_convert_bytes_back w src dst e ⟨g, 0, none⟩ cap l hs he hd (fun j hj => hc g rfl j _ (by simp [byteCells]; exact ⟨_, List.getElem?_eq_getElem hj, rfl⟩))
structure FW (w W w2 : World) (tS tU tB : TypeId) (v v2 : Value) (S' : List UInt8) (L : Nat) : Prop where
 b3 : Boxed w2 w.heap.size tS v
 b4 : Boxed w2 (w.heap.size + 1) tU (.int .u64 (L : Int))
 own : w2.ownsRow (w.heap.size + 2) tB 1 v2 S'.length (byteCells S')
 bel : Below w.heap.size w w2
 ko : KeepsOthers W w2
 kw : KeepsWalks W w2
end Go.Proofs.YthdoniefjmphaaaGreatDoor
namespace Go.Proofs.YthdoniefjmphaaaGreatDoor
open Go Go.Proofs
section
variable {F : Fence} {n : Nat} {P : Program} {ops : Array Oper} {Q : Exit → Act → World → Prop} {md : Region.Mode} {S : World → Prop} {m : Nat}
def noDefer (ops : Array Oper) : Bool := ops.all fun o => match o.op with | .defer _ => false | _ => true
theorem noDefer_at (h : noDefer ops = true) {j : Nat} {o : Oper} (ho : ops[j]? = some o) : ∀ c, o.op ≠ .defer c := fun c e => by
 have hm := Array.all_eq_true'.1 h o (Array.mem_of_getElem? ho);rw [e] at hm;exact Bool.false_ne_true hm
def ReadsIn (P : Program) (ops : Array Oper) (S : World → Prop) (o : Oper) (v : Value) (a : Act) : Prop := YieldsIf P ops S o v a ∧ ∀ w, o.about P w a.eval = none
theorem reads_go {i : Nat} {o : Oper} {v : Value} {a : Act} {w : World} {K : Act → World → Prop} (hd : noDefer ops = true) (hi : ops[i]? = some o) (hy : ReadsIn P ops S o v a) (hS : S w) (h : K (a.put o.dst v) w) : wpOpIn F n P ops Q i K a w := by
 refine wpOpIn_step hi (fun K' hK' => ?_);rcases hy.1 with ⟨hw, hv⟩ | ⟨hw, rfl⟩
 ·
  rw [if_pos hw];refine ⟨fun f hf => (by rw [hy.2 w] at hf; cases hf), ?_⟩;rw [Oper.semAt_plain F _ _ (noDefer_at hd hi), hv w hS];exact hK' _ _ h
 ·
  rw [if_neg (by rw [hw]; exact Bool.false_ne_true)];exact ⟨fun f hf => (by rw [hy.2 w] at hf; cases hf), hK' _ _ h⟩
theorem reads_stay {o : Oper} {v : Value} {a b : Act} (hy : ReadsIn P ops S o v a) (he : execOp b.eval o = execOp a.eval o) (hw : Region.wanted o (yielded ops b.tmps) = Region.wanted o (yielded ops a.tmps)) (hb : ∀ w, o.about P w b.eval = o.about P w a.eval) : ReadsIn P ops S o v b :=
 ⟨hy.1.of_same he hw, fun w => (hb w).trans (hy.2 w)⟩
theorem reads_past {j : Nat} {oi oj : Oper} {v : Value} {K : Act → World → Prop} {a : Act} {w : World} (hd : noDefer ops = true) (hj : ops[j]? = some oj) (hap : oi.apart ops oj = true)
  (si : ∀ cs b, oi.op ≠ .select cs b) (sj : ∀ cs b, oj.op ≠ .select cs b) (hQ : ∀ c a w, Q (.panic c) (a.put oi.dst v) w → Q (.panic c) a w)
  (hy : ReadsIn P ops S oi v a) (h : wpOpIn F n P ops Q j K (a.put oi.dst v) w) : wpOpIn F n P ops Q j (fun b u => ReadsIn P ops S oi v b ∧ K (b.put oi.dst v) u) a w := by
 obtain ⟨p1, p2, p3⟩ := Oper.apart_spec hap;have st0 : ∀ b : Act, ReadsIn P ops S oi v b → ∀ u, ReadsIn P ops S oi v (b.put oj.dst u) := fun b hb u => reads_stay hb (execOp_put oi si b oj.dst u p3) (wanted_put oi b oj.dst u p3) (fun w => about_put oi w b oj.dst u p3)
 have st : ∀ u, ReadsIn P ops S oi v (a.put oj.dst u) := fun u => st0 a hy u
 have swap : ∀ u, (a.put oj.dst u).put oi.dst v = (a.put oi.dst v).put oj.dst u := fun u => (Act.put_comm a v u p2).symm
 have hpl := noDefer_at hd hj;unfold wpOpIn at h ⊢;simp only [hj] at h ⊢;rw [wanted_put oj a oi.dst v p1, about_put oj w a oi.dst v p1] at h;by_cases hw : Region.wanted oj (yielded ops a.tmps) = true
 ·
  rw [if_pos hw] at h ⊢;obtain ⟨g1, g2⟩ := h;refine ⟨by rwa [about_put oj w a oi.dst v p1] at g1, ?_⟩;rw [Oper.semAt_plain F _ _ hpl, execOp_put oj sj a oi.dst v p1] at g2;rw [Oper.semAt_plain F _ _ hpl];revert g2;cases (execOp a.eval oj).run P w with
  | ok x u =>
   cases x with
   | value y => intro g; exact ⟨st y, by rw [swap]; exact g⟩
   | skip => intro g; exact ⟨st undef, by rw [swap]; exact g⟩
   | defer d =>
    intro g;refine ⟨st0 { a with defers := d :: a.defers } (reads_stay hy rfl rfl (fun _ => rfl)) undef, ?_⟩;have e := Act.put_comm { a with defers := d :: a.defers } v undef p2;rw [← e, ← Act.put_defers];exact g
   | enter f args =>
    intro g;refine ⟨g.1, g.2.mono fun e u' he => ?_⟩;cases e with
    | returned y => exact ⟨st y, by rw [swap]; exact he⟩
    | panicked c => exact hQ _ _ _ he
    | outgrown => exact he
   | row r args => intro g; exact ⟨g.1, RowsIn.mono g.2 fun y u' he => ⟨st y, by rw [swap]; exact he⟩⟩
   | round l f t s b =>
    intro g;refine ⟨g.1, RoundIn.mono g.2 fun e u' he => ?_⟩;cases e with
    | returned y => exact ⟨st y, by rw [swap]; exact he⟩
    | panicked c => exact hQ _ _ _ he
    | outgrown => exact he
   | _ => intro g; exact g
  | halt x u =>
   cases x with
   | panic y => intro g; exact hQ _ _ _ g
   | _ => intro g; exact g
 ·
  rw [if_neg hw] at h ⊢;exact ⟨h.1, st undef, by rw [swap]; exact h.2⟩
def waits (md : Region.Mode) (ops : Array Oper) (m i : Nat) : Bool := match ops[m]? with | some o => o.after.any (fun e => Region.binds md e && e.on == i) | none => true
end
end Go.Proofs.YthdoniefjmphaaaGreatDoor
namespace Go.Proofs.YthdoniefjmphaaaGreatDoor
open Go Go.Proofs
section
variable {F : Fence} {n : Nat} {P : Program} {ops : Array Oper} {Q : Exit → Act → World → Prop} {md : Region.Mode} {S : World → Prop} {m : Nat}
def downD (md : Region.Mode) (ops : Array Oper) (l : Array Bool) (D : List Nat) (i m : Nat) : Bool :=
 D.contains m && !(m == i) && D.all fun d => !l.getD d true && (d == i || match ops[d]? with | some o => o.after.any (fun e => Region.binds md e && D.contains e.on) | none => false)
def DownP (md : Region.Mode) (ops : Array Oper) (D : List Nat) (i m : Nat) : Prop := m ∈ D ∧ m ≠ i ∧ ∀ d ∈ D, d ≠ i → ∃ o, ops[d]? = some o ∧ ∃ e ∈ o.after, Region.binds md e = true ∧ e.on ∈ D
theorem downD_spec {l : Array Bool} {D : List Nat} {i : Nat} (h : downD md ops l D i m = true) : DownP md ops D i m ∧ ∀ d ∈ D, l.getD d true = false := by
 unfold downD at h;rw [Bool.and_eq_true, Bool.and_eq_true] at h;obtain ⟨⟨h1, h2⟩, h3⟩ := h;rw [List.all_eq_true] at h3;refine ⟨⟨by simpa using h1, by simpa using h2, fun d hd hne => ?_⟩, fun d hd => ?_⟩
 ·
  have := h3 d hd;rw [Bool.and_eq_true, Bool.or_eq_true] at this;rcases this.2 with h | h
  ·
   exact absurd (by simpa using h) hne
  ·
   cases ho : ops[d]? with
   | none => rw [ho] at h; cases h
   | some o =>
    rw [ho] at h;obtain ⟨e, he, hb⟩ := Array.any_eq_true'.1 h;rw [Bool.and_eq_true] at hb;exact ⟨o, rfl, e, he, hb.1, by simpa using hb.2⟩
 ·
  have := h3 d hd;rw [Bool.and_eq_true] at this;simpa using this.1
theorem down_not {l : Array Bool} {D : List Nat} {i d : Nat} (h : DownP md ops D i m) (hu : ∀ d ∈ D, l.getD d true = false) (hd : d ∈ D) (hne : d ≠ i) : d ∉ Region.ready md ops l := fun hr => by
 obtain ⟨_, om, hom, hall⟩ := mem_ready.1 hr;obtain ⟨o, ho, e, he, hb, hin⟩ := h.2.2 d hd hne;rw [hom] at ho; cases ho;have h1 := hall e he hb;have h0 := hu _ hin;rcases Nat.lt_or_ge e.on l.size with h' | h'
 ·
  simp [h'] at h0 h1; rw [h0] at h1; cases h1
 ·
  simp [Array.getElem?_eq_none h'] at h1
def anyM (F : Fence) (n : Nat) (P : Program) (md : Region.Mode) (ops : Array Oper) (Q : Exit → Act → World → Prop) (S : World → Prop) (m : Nat) : Nat → Array Bool → Act → World → Prop
 | 0, l, a, w => Region.ready md ops l = [] ∧ Q .normal a w
 | k + 1, l, a, w => (Region.ready md ops l = [] → Q .normal a w) ∧ ∀ i ∈ Region.ready md ops l, wpOpIn F n P ops Q i (fun b u => (i = m → wpAnyIn F n P md ops Q k (l.setIfInBounds i true) b u) ∧ (i ≠ m → S u ∧ anyM F n P md ops Q S m k (l.setIfInBounds i true) b u)) a w
theorem anyM_is : ∀ (k : Nat) (l : Array Bool) (a : Act) (w : World), anyM F n P md ops Q S m k l a w → wpAnyIn F n P md ops Q k l a w
 | 0, _, _, _, h => h
 | k + 1, _, _, _, h => ⟨h.1, fun i hi => wpOpIn_mono (fun b u hh => by
   by_cases e : i = m
   ·
    exact hh.1 e
   ·
    exact anyM_is k _ b u (hh.2 e).2) (h.2 i hi)⟩
theorem anyM_firstD {i : Nat} {oi : Oper} {v : Value} {D : List Nat} (hd : noDefer ops = true) (hi : ops[i]? = some oi) (hsel : ∀ (j : Nat) (o : Oper) cs b, ops[j]? = some o → o.op ≠ .select cs b)
  (hQ : ∀ c a w, Q (.panic c) (a.put oi.dst v) w → Q (.panic c) a w) (hD : DownP md ops D i m) : ∀ (k : Nat) (l : Array Bool) (a : Act) (w : World),
   (∀ j oj, ops[j]? = some oj → j ≠ i → l.getD j true = false → (∀ e ∈ oj.after, Region.binds md e = true → e.on ≠ i) → oi.apart ops oj = true) →
   (∀ d ∈ D, l.getD d true = false) →
   i ∈ Region.ready md ops l → ReadsIn P ops S oi v a → S w → anyM F n P md ops Q S m k (l.setIfInBounds i true) (a.put oi.dst v) w → anyM F n P md ops Q S m (k + 1) l a w
 | 0, l, a, w, _, _, hr, hy, hS, H => by
  refine ⟨fun h => (by rw [h] at hr; cases hr), fun j hj => ?_⟩;by_cases e : j = i
  ·
   subst e; exact reads_go hd hi hy hS ⟨fun e' => absurd e'.symm hD.2.1, fun _ => ⟨hS, H⟩⟩
  ·
   have := ready_mono hj e; rw [H.1] at this; cases this
 | k + 1, l, a, w, hfree, hu, hr, hy, hS, H => by
  refine ⟨fun h => (by rw [h] at hr; cases hr), fun j hj => ?_⟩;by_cases e : j = i
  ·
   subst e; exact reads_go hd hi hy hS ⟨fun e' => absurd e'.symm hD.2.1, fun _ => ⟨hS, H⟩⟩
  ·
   have hjD : j ∉ D := fun hjD => down_not hD hu hjD e hj
   have hjm : j ≠ m := fun e' => hjD (by rw [e']; exact hD.1)
   obtain ⟨un, oj, hoj, hall⟩ := mem_ready.1 hj;have hnot : ∀ e ∈ oj.after, Region.binds md e = true → e.on ≠ i := fun ed he hb heq => by
    have h1 := hall ed he hb;have h0 := (mem_ready.1 hr).1;rw [heq] at h1;rcases Nat.lt_or_ge i l.size with h' | h'
    ·
     simp [h'] at h0 h1; rw [h0] at h1; cases h1
    ·
     simp [Array.getElem?_eq_none h'] at h1
   have h2 := reads_past hd hoj (hfree j oj hoj e un hnot) (fun cs b => hsel i oi cs b hi) (fun cs b => hsel j oj cs b hoj) hQ hy (H.2 j (ready_mono hj e));refine wpOpIn_mono (fun b u h3 => ?_) h2;obtain ⟨hSu, h4⟩ := h3.2.2 hjm;refine ⟨fun e' => absurd e' hjm, fun _ => ⟨hSu, anyM_firstD hd hi hsel hQ hD k (l.setIfInBounds j true) b u ?_ ?_ (ready_mono hr (Ne.symm e)) h3.1 hSu ?_⟩⟩
   ·
    intro q oq hq hqi unq hno;refine hfree q oq hq hqi ?_ hno;by_cases hjq : j = q
    ·
     subst hjq; exact un
    ·
     rw [getD_set_ne true hjq] at unq; exact unq
   ·
    intro d hdD;rw [getD_set_ne true (show j ≠ d from fun e' => hjD (by rw [e']; exact hdD))];exact hu d hdD
   ·
    rw [Array.setIfInBounds_comm _ _ e]; exact h4
theorem anyM_take {i : Nat} {oi : Oper} {v : Value} {k : Nat} {l : Array Bool} {a : Act} {w : World} (D : List Nat) (hd : noDefer ops = true) (hi : ops[i]? = some oi) (hs : Region.noSelect ops = true) (hf : Region.free md ops l i = true) (hr : (Region.ready md ops l).contains i = true) (hwt : downD md ops l D i m = true)
  (hQ : ∀ c a w, Q (.panic c) (a.put oi.dst v) w → Q (.panic c) a w) (hy : YieldsIf P ops S oi v a) (hab : ∀ w, oi.about P w a.eval = none) (hS : S w) (h : anyM F n P md ops Q S m k (l.setIfInBounds i true) (a.put oi.dst v) w) : anyM F n P md ops Q S m (k + 1) l a w :=
 anyM_firstD hd hi (Region.noSelect_spec hs) hQ (downD_spec hwt).1 k l a w (Region.free_spec hi hf) (downD_spec hwt).2 (by simpa using hr) ⟨hy, hab⟩ hS h
theorem anyM_only {i : Nat} {o : Oper} {k : Nat} {l : Array Bool} {a : Act} {w : World} (hr : Region.ready md ops l = [i]) (hm : i ≠ m) (ho : ops[i]? = some o) (hw : Region.wanted o (yielded ops a.tmps) = true)
  (h : ∀ K : Act → World → Prop, (∀ b u, S u → anyM F n P md ops Q S m k (l.setIfInBounds i true) b u → K b u) → o.wpIn F n P a w K Q) : anyM F n P md ops Q S m (k + 1) l a w :=
 ⟨fun h0 => (by rw [hr] at h0; cases h0), fun j hj => by
  rw [hr] at hj;obtain rfl := List.mem_singleton.1 hj;unfold wpOpIn;simp only [ho];rw [if_pos hw];exact h _ (fun b u hs hh => ⟨fun e => absurd e hm, fun _ => ⟨hs, hh⟩⟩)⟩
theorem anyM_last {o : Oper} {k : Nat} {l : Array Bool} {a : Act} {w : World} (hr : Region.ready md ops l = [m]) (ho : ops[m]? = some o) (hw : Region.wanted o (yielded ops a.tmps) = true)
  (h : ∀ K : Act → World → Prop, (∀ b u, wpAnyIn F n P md ops Q k (l.setIfInBounds m true) b u → K b u) → o.wpIn F n P a w K Q) : anyM F n P md ops Q S m (k + 1) l a w :=
 ⟨fun h0 => (by rw [hr] at h0; cases h0), fun j hj => by
  rw [hr] at hj;obtain rfl := List.mem_singleton.1 hj;unfold wpOpIn;simp only [ho];rw [if_pos hw];exact h _ (fun b u hh => ⟨fun _ => hh, fun e => absurd rfl e⟩)⟩
theorem anyIn_only {i : Nat} {o : Oper} {k : Nat} {l : Array Bool} {a : Act} {w : World} (hr : Region.ready md ops l = [i]) (ho : ops[i]? = some o) (hw : Region.wanted o (yielded ops a.tmps) = true)
  (h : ∀ K : Act → World → Prop, (∀ b u, wpAnyIn F n P md ops Q k (l.setIfInBounds i true) b u → K b u) → o.wpIn F n P a w K Q) : wpAnyIn F n P md ops Q (k + 1) l a w :=
 ⟨fun h0 => (by rw [hr] at h0; cases h0), fun j hj => by
  rw [hr] at hj;obtain rfl := List.mem_singleton.1 hj;unfold wpOpIn;simp only [ho];rw [if_pos hw];exact h _ (fun b u hh => hh)⟩
theorem anyIn_done {l : Array Bool} {a : Act} {w : World} (hr : Region.ready md ops l = []) (h : Q .normal a w) : ∀ k, wpAnyIn F n P md ops Q k l a w
 | 0 => ⟨hr, h⟩
 | _ + 1 => ⟨fun _ => h, fun i hi => by rw [hr] at hi; cases hi⟩
theorem region_anyM {id : Nat} {a : Act} {w : World} (S : World → Prop) (m : Nat) (hm : P.follows .mixedOrders = true) (h : S w.drew → anyM F n P .any ops Q S m ops.size (Array.replicate ops.size false) a w.drew) (hS : S w.drew) : (Code.region id ops true).wpIn F n P Q a w :=
 wpIn_region_any hm (anyM_is _ _ _ _ (h hS))
end
end Go.Proofs.YthdoniefjmphaaaGreatDoor
namespace Go.Proofs.YthdoniefjmphaaaGreatDoor
open Go Go.Proofs Go.RowKit
def SeqStopsB {α : Type} (F : Fence) (n : Nat) (P : Program) (g : Nat) (lb : Array Value) (encs : α → Array Value) (Kp : World → World → Prop) (S Sp : List α → Prop) (N : Nat) (w : World) : Prop :=
 ∀ (l : Nat) (J Jx : List α → World → Prop) (W : World), Below w.heap.size w W → (∀ s A B, J s A → Below W.heap.size A B → J s B) →
  (∀ pre x W1, J pre W1 → pre.length < N → YieldAt F (n - 1) P l (encs x) W1 fun e W' =>
   (e = .returned (.bool true) ∧ J (pre ++ [x]) W' ∧ Kp W1 W') ∨ (e = .returned (.bool false) ∧ Jx (pre ++ [x]) W')) →
  J [] W →
  CallsIn F n P g (#[.func (.yield l) #[] #[]] ++ lb) W fun e W' => (∃ v, e = .returned v) ∧ ((∃ xs, S xs ∧ J xs W') ∨ (∃ pre, Sp pre ∧ Jx pre W'))
variable {F : Fence} {n : Nat} {P : Program}
theorem below_put {B : Nat} {W : World} {l : Nat} (o : Obj) (h : B ≤ l) : Below B W (W.putObj l o) := ⟨rfl, rfl, rfl, by simp, fun k hk => World.putObj_heap_other (by omega)⟩
theorem rangeB {α : Type} {g : Operand} {ps : Array Tmp} {assign body : Code} {Q : Exit → Act → World → Prop} {a : Act} {w : World}
  (hro : F.round = none) (h1 : 1 ≤ n) {gf : Nat} {lb : Array Value} (hg : a.eval g = .func (.func gf) #[] lb) (hFg : F.fn gf) (eg : ∀ args w, (callFunc gf args).run P w = .ok (.enter gf args) w)
  {encs : α → Array Value} {Kp : World → World → Prop} {S Sp : List α → Prop} {N : Nat} {w0 : World} (hseq : SeqStopsB F (n - 1) P gf lb encs Kp S Sp N w0)
  (hKt : ∀ {A B C : World}, Kp A B → Kp B C → Kp A C) (hKb : ∀ (W : World) (l : Nat) (o o' : Obj), w.heap.size ≤ l → W.heap[l]? = some o → o.isCells = false → Kp W (W.putObj l o')) (hb0 : Below w0.heap.size w0 w) (hps : ∀ x, (encs x).size = ps.size)
  (I : List α → World → Prop) (Ix : Code → List α → World → Prop) (hI : ∀ s A B, I s A → Below w.heap.size A B → I s B) (hIx : ∀ c s A B, Ix c s A → Below w.heap.size A B → Ix c s B) (h0 : I [] w) (IA : List α → α → Act → World → Prop) (hIA : ∀ s x a' A B, IA s x a' A → Below w.heap.size A B → IA s x a' B)
  (hassign : ∀ (l : Nat) (pre : List α) (x : α) (W : World) (K : Act → World → Prop), I pre W → (∀ a' W', KeepsFrom w.heap.size W W' → Kp W W' → IA pre x a' W' → K a' W') →
   assign.wpIn (F.inRound l) (n - 1 - 1) P (Exit.then K (fun _ _ _ => False)) { tmps := (ps.zip (encs x)).foldl (fun t (p, v) => t.setIfInBounds p v) a.tmps, defers := [] } W)
  (hbody : ∀ (l : Nat) (pre : List α) (x : α) (a' : Act) (W : World), IA pre x a' W → pre.length < N → body.wpIn (F.inRound l) (n - 1 - 1) P (ownPostG w.heap.size Kp I Ix (pre ++ [x]) W) a' W)
  (hdone : ∀ (D : Nat) (xs : List α) (W : World), w.heap.size ≤ D → S xs → I xs W → W.heap[D]? = some (.deferred (some [])) → Q .normal { a with defers := { target := .collected D, args := #[] } :: a.defers } W)
  (hstop : ∀ (D : Nat) (c : Code) (pre : List α) (W : World), w.heap.size ≤ D → Sp pre → Ix c pre W → W.heap[D]? = some (.deferred (some [])) → c.wpIn F n P Q { a with defers := { target := .collected D, args := #[] } :: a.defers } W) :
  (Code.rangeFunc g ps assign body).wpIn F n P Q a w := by
 refine wpIn_rangeFunc ?_;intro fn hfn;rw [hro];obtain ⟨rec, hrec⟩ : ∃ rec : LoopState → Option Code → Loop, rec = fun st pe => { state := st, pending := pe, fn, tmps := a.tmps, params := ps, assign, body, defers := w.heap.size } := ⟨_, rfl⟩
 obtain ⟨W1, hW1⟩ : ∃ W1, (w.alloc (.deferred (some []))).alloc (.loop (rec .ready none)) = W1 := ⟨_, rfl⟩;have hs1 : W1.heap.size = w.heap.size + 1 + 1 := by rw [← hW1]; simp
 have hL1 : W1.heap[w.heap.size + 1]? = some (.loop (rec .ready none)) := by
  rw [← hW1]; have := World.alloc_heap_new (w.alloc (.deferred (some []))) (.loop (rec .ready none)); rwa [World.size_alloc] at this
 have hK1 : W1.heap[w.heap.size]? = some (.deferred (some [])) := by
  rw [← hW1]; exact (Below.heap_alloc _ _ _ (by simp)).trans (World.alloc_heap_new w _)
 have hbw : Below w.heap.size w W1 := by rw [← hW1]; exact ((Below.refl _ w).alloc (Nat.le_refl _) _).alloc (by simp) _
 have hI1 : I [] W1 := hI _ _ _ h0 hbw;have hb1 : Below w0.heap.size w0 W1 := hb0.trans (hbw.mono hb0.size);refine ⟨w.heap.size + 1, [{ target := .collected w.heap.size, args := #[] }], W1, { target := .fn (.func gf) lb, args := #[.func (.yield (w.heap.size + 1)) #[] #[]] }, W1, gf,
  #[.func (.yield (w.heap.size + 1)) #[] #[]] ++ lb, W1, ?_, ?_, ?_, ?_, fun _ => h1, ?_⟩
 ·
  rw [← hW1, hrec]; exact run_enterLoop_outer _ _ _ _ _
 ·
  simp only [resolve, hg];simp [go_sem]
 ·
  intro f' hf'; simp [Target.leads] at hf'; subst hf'; exact hFg
 ·
  simp [invoke, go_sem, eg]
 ·
  refine (hseq (w.heap.size + 1)
   (fun pre W => I pre W ∧ W.heap[w.heap.size + 1]? = some (.loop (rec .ready none)) ∧ W.heap[w.heap.size]? = some (.deferred (some [])))
   (fun pre W => ∃ c, Ix c pre W ∧ W.heap[w.heap.size + 1]? = some (.loop (rec .done (some c))) ∧ W.heap[w.heap.size]? = some (.deferred (some [])))
   W1 hb1
   (fun s A B hs hb => ⟨hI s A B hs.1 (hb.mono (by omega)), (hb.block _ (by omega)).trans hs.2.1, (hb.block _ (by omega)).trans hs.2.2⟩)
   ?_ ⟨hI1, hL1, hK1⟩).mono ?_
  ·
   rintro pre x W ⟨hi, hl, hk⟩ hlen;have hy := run_yield (P := P) (args := encs x) hl (by rw [hrec]; exact hps x);rw [hrec] at hy;refine ⟨fn, _, assign, body, hy, roundIn_of_wpIn hfn (hassign _ pre x W _ hi ?_)⟩;clear hy;intro a' Wa hkfa hkpa hia;have hla := hkfa.same _ _ (by omega) hl rfl;have hka := hkfa.same _ _ (Nat.le_refl _) hk rfl;have hlt : w.heap.size + 1 < Wa.heap.size := (Array.getElem?_eq_some_iff.1 hla).1;refine ⟨_, run_beginRound hla (by rw [hrec]), ?_⟩;obtain ⟨W2, hW2⟩ : ∃ W2, Wa.putObj (w.heap.size + 1) (.loop { rec .ready none with state := .busy }) = W2 := ⟨_, rfl⟩;rw [hW2];have hl2 : W2.heap[w.heap.size + 1]? = some (.loop { rec .ready none with state := .busy }) := by rw [← hW2]; exact World.putObj_heap_same hlt
   have hk2 : W2.heap[w.heap.size]? = some (.deferred (some [])) := by rw [← hW2]; exact (World.putObj_heap_other (by omega)).trans hka
   have hw2 : Kp Wa W2 := by rw [← hW2]; exact hKb _ _ _ _ (by omega) hla rfl
   have hi2 : IA pre x a' W2 := by rw [← hW2]; exact hIA _ _ _ _ _ hia (below_put _ (by omega))
   refine wpIn_mono (hbody _ pre x a' W2 hi2 hlen) ?_;have fin : ∀ (jump : Option Code) (W3 : World), KeepsFrom w.heap.size W2 W3 →
     (Instr.endRound (w.heap.size + 1) jump).run P W3 = .ok (.bool jump.isNone) (W3.putObj (w.heap.size + 1) (.loop (rec (if jump.isNone then .ready else .done) jump))) ∧
     W3.heap[w.heap.size + 1]? = some (.loop { rec .ready none with state := .busy }) ∧
     (W3.putObj (w.heap.size + 1) (.loop (rec (if jump.isNone then .ready else .done) jump))).heap[w.heap.size + 1]? = some (.loop (rec (if jump.isNone then .ready else .done) jump)) ∧
     (W3.putObj (w.heap.size + 1) (.loop (rec (if jump.isNone then .ready else .done) jump))).heap[w.heap.size]? = some (.deferred (some [])) := fun jump W3 hk3 => by
    have hl3 := hk3.same _ _ (by omega) hl2 rfl;have := run_endRound (P := P) jump hl3;rw [hrec] at this ⊢;exact ⟨this, by rw [hrec] at hl3; exact hl3, World.putObj_heap_same (Array.getElem?_eq_some_iff.1 hl3).1, (World.putObj_heap_other (by omega)).trans (hk3.same _ _ (Nat.le_refl _) hk2 rfl)⟩
   rintro e a3 W3 hp;cases e with
   | normal =>
    obtain ⟨hk3, hkp3, hi3⟩ := hp;obtain ⟨hr, hl3, hl4, hk4⟩ := fin none W3 hk3;exact ⟨_, _, hr, .inl ⟨rfl, ⟨hI _ _ _ hi3 (below_put _ (by omega)), hl4, hk4⟩, hKt hkpa (hKt (hKt hw2 hkp3) (hKb _ _ _ _ (by omega) hl3 rfl))⟩⟩
   | ret =>
    obtain ⟨hk3, hi3⟩ := hp;obtain ⟨hr, hl3, hl4, hk4⟩ := fin (some .ret) W3 hk3;exact ⟨_, _, hr, .inr ⟨rfl, .ret, hIx _ _ _ _ hi3 (below_put _ (by omega)), hl4, hk4⟩⟩
   | exit id =>
    obtain ⟨hk3, hi3⟩ := hp;obtain ⟨hr, hl3, hl4, hk4⟩ := fin (some (.exit id)) W3 hk3;exact ⟨_, _, hr, .inr ⟨rfl, .exit id, hIx _ _ _ _ hi3 (below_put _ (by omega)), hl4, hk4⟩⟩
   | goto t =>
    obtain ⟨hk3, hi3⟩ := hp;obtain ⟨hr, hl3, hl4, hk4⟩ := fin (some (.goto t)) W3 hk3;exact ⟨_, _, hr, .inr ⟨rfl, .goto t, hIx _ _ _ _ hi3 (below_put _ (by omega)), hl4, hk4⟩⟩
   | panic ch => exact hp.elim
   | outgrown => exact hp.elim
  ·
   rintro e W2 ⟨⟨v, rfl⟩, (⟨xs, hS, hi, hl, hk⟩ | ⟨pre, hSp, c, hi, hl, hk⟩)⟩
   ·
    exact ⟨none, _, by have := run_endLoop (P := P) hl (by rw [hrec]; simp); rw [hrec] at this; exact this, hdone _ xs _ (Nat.le_refl _) hS (hI _ _ _ hi (below_put _ (by omega))) ((World.putObj_heap_other (by omega)).trans hk)⟩
   ·
    exact ⟨some c, _, by have := run_endLoop (P := P) hl (by rw [hrec]; simp); rw [hrec] at this; exact this, hstop _ c pre _ (Nat.le_refl _) hSp (hIx _ _ _ _ hi (below_put _ (by omega))) ((World.putObj_heap_other (by omega)).trans hk)⟩
end Go.Proofs.YthdoniefjmphaaaGreatDoor
