/- label.Text. -/
import Derived.Test.YtmcmgmpgmbljiaaDoorVals
import Derived.Test.YtmcmgmpgmbljiaaDoorEsc
import Derived.Test.YtmcmgmpgmbljiaaDoorOps
import Derived.OneCell
namespace Go.Proofs.YtmcmgmpgmbljiaaDoor
open Go Go.Proofs Go.RowKit Go.Shelf
set_option maxRecDepth 100000
attribute [local go_sem] Oper.semAt_some
def Blk (W : World) (B : Nat) (cs : Array Value) (T : TypeId) : Prop := W.heap[B]? = some (.cells cs T (0, 0))
theorem blk_own {β : Type} (B : Nat) (T : TypeId) (cs : Array Value) : Own (fun (_ : β) W => Blk W B cs T) := fun s X Y row hs hg hrow =>
  (hg.block B (Array.getElem?_eq_some_iff.1 hs).1 (fun e' => by obtain ⟨o, ho, hc⟩ := hrow B e'.symm; rw [show X.heap[B]? = _ from hs] at ho; cases ho; cases hc)).trans hs
theorem wpListIn_append_str {F : Fence} {n' : Nat} {P : Program} {ops : Array Oper} {rest : List Oper} {o : Oper} {a : Act} {Q : Exit → Act → World → Prop} (w : World) (hgd : o.guard = none) (sl x : Operand) (t u : TypeId)
    (ho : o.op = .call { callee := .builtin .append, args := #[sl, x], argTypes := #[t, u] })
    (base : Nat) (e : TypeId) (i : TypeInfo) (ht : P.underlying t = some (.slice e)) (hu : P.underlying u = some .string) (hi : P.info? e = some i) (hz : i.zero = some (.int .u8 0))
    (hsize : i.size = 1) (hby : i.bytes = 1)
    (v : Value) (n : Nat) (xs : List Value) (hs : a.eval sl = v) (hown : w.ownsRow base e 1 v n xs) (s : ByteArray) (hx : a.eval x = .string s)
    (h63 : n + s.size ≤ maxLen) (hbytes : n + s.size ≤ 140737488355328) (hbase : base ≤ w.heap.size)
    (h : ∀ v' w', w'.ownsRow base e 1 v' (n + s.size) (xs ++ Lib.strCells s) → w.grownBy w' v.ownBlock → wpListIn F n' P ops Q rest (a.put o.dst v') w') : wpListIn F n' P ops Q (o :: rest) a w := by
  refine wpListIn_plain hgd fun K hK => ?_
  obtain ⟨v', w', hr, h2, h3, _⟩ := Lib.run_append_own_string (P := P) w base t u o.type e i ht hu hi hz hsize hby v n xs hown s h63 hbytes hbase
  exact oper_append_string sl x t u ho hs hx hr (hK _ _ (h v' w' h2 h3))
def labT (x : Lab) : List UInt8 := x.1 ++ [61, 34] ++ escR x.2 ++ [34]
def lStep (s : List UInt8 × List UInt8) (x : SLab) : List UInt8 × List UInt8 := (s.1 ++ s.2 ++ labT x.1, [44])
/-- the text of the labels gone through, and what stands ahead of the next one -/
def runS (pre : List SLab) : List UInt8 × List UInt8 := pre.foldl lStep ([123], [])
theorem runS_snoc (pre : List SLab) (x : SLab) : runS (pre ++ [x]) = ((runS pre).1 ++ (runS pre).2 ++ labT x.1, [44]) := by
  unfold runS; rw [List.foldl_append]; rfl
theorem labT_len (x : SLab) : (labT x.1).length ≤ 603 := by
  unfold labT
  have := escR_len x.1.2
  have h1 := x.2.1
  have h2 := x.2.2
  simp only [List.length_append, List.length_cons, List.length_nil]
  omega
theorem runS_len (pre : List SLab) : (runS pre).1.length ≤ 1 + 604 * pre.length ∧ (runS pre).2.length ≤ 1 := by
  have g : ∀ (l : List SLab) (s : List UInt8 × List UInt8), s.2.length ≤ 1 → (l.foldl lStep s).1.length ≤ s.1.length + 604 * l.length ∧ (l.foldl lStep s).2.length ≤ 1 := by
    intro l
    induction l with
    | nil => intro s h2; exact ⟨by simp, h2⟩
    | cons x t ih =>
      intro s h2
      rw [List.foldl_cons]
      obtain ⟨a, b⟩ := ih (lStep s x) (by unfold lStep; simp)
      have hl := labT_len x
      have e : (lStep s x).1.length ≤ s.1.length + 604 := by unfold lStep; simp only [List.length_append]; omega
      rw [List.length_cons]
      exact ⟨by omega, b⟩
  have := g pre ([123], []) (by simp)
  simpa [runS] using this
/-- in a round that began at W0: the boxes, the row of bytes, what is kept -/
structure PS (w W0 W : World) (vb v : Value) (S ah : List UInt8) (Bx : Nat) (cs : Array Value) : Prop where
  bt : Boxed W (w.heap.size + 1) 74 vb
  ba : Boxed W (w.heap.size + 1 + 1) 9 (.string ⟨ah.toArray⟩)
  bx : Blk W Bx cs 55
  own : W.ownsRow w.heap.size 5 1 v S.length (Lib.byteCells S)
  bel : Below w.heap.size w W
  bel0 : Below w.heap.size W0 W
  ko : KeepsOthers W0 W
theorem PS.grow {w W0 W W1 : World} {vb v v' : Value} {S S' ah : List UInt8} {Bx n' : Nat} {cs : Array Value} (h : PS w W0 W vb v S ah Bx cs) (g : W.grownBy W1 v.ownBlock) (own : W1.ownsRow w.heap.size 5 1 v' n' (Lib.byteCells S')) (hn : n' = S'.length) : PS w W0 W1 vb v' S' ah Bx cs := by
  subst hn
  have hk : ∀ i, v.ownBlock = some i → w.heap.size ≤ i := by
    intro i e
    rcases h.own.2 with ⟨rfl, _⟩ | ⟨gg, cap, cur, rfl, hb, hgb, _⟩
    · simp [Value.ownBlock] at e
    · obtain rfl : gg = i := by simpa [Value.ownBlock] using e
      exact hb
  refine ⟨h.bt.kept g (h.bt.not_row (by decide) h.own), h.ba.kept g (h.ba.not_row (by decide) h.own), heap_grow h.own g (by decide) h.bx, own, h.bel.grown g h.bel.size hk, h.bel0.grown g (by have := h.bt.lt; omega) hk, h.ko.trans (KeepsOthers.of_grownBy g fun j o ej hj => ?_)⟩
  rcases h.own.2 with ⟨rfl, _⟩ | ⟨gg, cap, cur, rfl, _, hgb, _⟩
  · simp [Value.ownBlock] at ej
  · obtain rfl : gg = j := by simpa [Value.ownBlock] using ej
    rw [hgb] at hj; cases hj; rfl
theorem PS.alloc {w W0 W : World} {vb v : Value} {S ah : List UInt8} {Bx : Nat} {cs : Array Value} (h : PS w W0 W vb v S ah Bx cs) (o : Obj) : PS w W0 (W.alloc o) vb v S ah Bx cs :=
  ⟨h.bt.alloc o, h.ba.alloc o, (Below.heap_alloc W o Bx (Array.getElem?_eq_some_iff.1 h.bx).1).trans h.bx, h.own.alloc o, h.bel.alloc h.bel.size o, h.bel0.alloc (by have := h.bt.lt; omega) o, h.ko.trans (KeepsOthers.alloc _ _)⟩
theorem PS.esc {w W0 W W1 : World} {vb v v' : Value} {S S' ah : List UInt8} {Bx : Nat} {cs : Array Value} (h : PS w W0 W vb v S ah Bx cs) (e : EW W w.heap.size v' S' W1) : PS w W0 W1 vb v' S' ah Bx cs :=
  ⟨boxed_others e.oth h.bt (by decide), boxed_others e.oth h.ba (by decide), e.oth Bx _ h.bx (by simp) (fun c fz e' => by simp at e'), e.own, h.bel.trans e.bel, h.bel0.trans e.bel, h.ko.trans (kept_others e.oth e.bel.size)⟩
theorem PS.ew {w W0 W : World} {vb v : Value} {S ah : List UInt8} {Bx : Nat} {cs : Array Value} (h : PS w W0 W vb v S ah Bx cs) : EW W w.heap.size v S W :=
  ⟨h.own, Below.refl _ _, Lib.OthersKept.refl _ _ _, by have := h.bt.lt; omega⟩
theorem PS.store {w W0 W : World} {vb v : Value} {S ah : List UInt8} {Bx : Nat} {cs : Array Value} (h : PS w W0 W vb v S ah Bx cs) (hB : w.heap.size + 1 + 1 < Bx) : PS w W0 (W.setCell ⟨w.heap.size + 1, 0, none⟩ v) v v S ah Bx cs :=
  ⟨h.bt.set v, h.ba.other (by omega) _, by rw [Blk, Below.heap_setCell _ _ _ _ (by show Bx ≠ w.heap.size + 1; omega)]; exact h.bx, ownsRow_setCell_other h.own (h.bt.not_row (by decide) h.own).symm _, h.bel.setCell (by simp) _, h.bel0.setCell (by simp) _, h.ko.trans (KeepsOthers.setCell _ _ _)⟩
theorem bapp (a b : List UInt8) : ((⟨a.toArray⟩ : ByteArray) ++ ⟨b.toArray⟩) = ⟨(a ++ b).toArray⟩ := by
  apply ByteArray.ext; simp
theorem row_at {w : World} {base e n : Nat} {v : Value} {xs : List Value} (h : w.ownsRow base e 1 v n xs) : ∀ i, v.ownBlock = some i → base ≤ i ∧ ∃ c fz, w.heap[i]? = some (.cells c e fz) := by
  intro i e'
  rcases h.2 with ⟨rfl, _⟩ | ⟨gg, cap, cur, rfl, hb, hgb, _⟩
  · simp [Value.ownBlock] at e'
  · obtain rfl : gg = i := by simpa [Value.ownBlock] using e'
    exact ⟨hb, _, _, hgb⟩
theorem bcells_app (a b : List UInt8) : Lib.byteCells (a ++ b) = Lib.byteCells a ++ Lib.byteCells b := by simp [Lib.byteCells]
end Go.Proofs.YtmcmgmpgmbljiaaDoor
