/- Operations by hand, inside a fence: the append of a string. -/
import Derived.OwnWalkIn
import Derived.Lib.AppendStr
import Derived.Laws.IdiomStrings
import Derived.Lib.BufStepsIn
import Derived.Lib.OthersKept
import Derived.Lib.ItoaNum
import Derived.RangeFuncBox
import Derived.RangeFuncNested
namespace Go.Proofs.Yteddlpcnefogpaa
open Go Go.Proofs Go.RowKit Go.Lib
set_option maxRecDepth 100000
theorem oper_append_string {F : Fence} {n : Nat} {P : Program} {Q : Exit → Act → World → Prop} {o : Oper} {a : Act} {w : World} {K : Act → World → Prop} (s x : Operand) (t u : TypeId)
    (ho : o.op = .call { callee := .builtin .append, args := #[s, x], argTypes := #[t, u] }) {v v' : Value} {st : ByteArray} {w' : World} (hs : a.eval s = v) (hx : a.eval x = .string st)
    (hr : (Builtin.append_ #[t, u] o.type #[v, .string st]).run P w = .ok v' w') (hK : K (a.put o.dst v') w') : o.wpIn F n P a w K Q := by
  unfold Oper.wpIn
  refine ⟨?_, ?_⟩
  · simp [Oper.about, ho, resolve, Target.leads, Sem.run_pure]
  · rw [Oper.semAt_plain F _ _ (by rw [ho]; intro c hc'; cases hc')]
    simp [execOp, ho, resolve, invoke, builtin, hs, hx, hr, Result.andThen]
    exact hK
theorem own_some {w : World} {base e n : Nat} {v : Value} {xs : List Value} (h : w.ownsRow base e 1 v n xs) (hn : 0 < n) : ∃ g cap, v = .slice (some ⟨g, 0, none⟩) n cap := by
  rcases h.2 with ⟨_, h⟩ | ⟨g, cap, cur, hv, _⟩
  · omega
  · exact ⟨g, cap, hv⟩
theorem kept_others {e : TypeId} {w w' : World} (h : OthersKept e none w w') (hs : w.heap.size ≤ w'.heap.size) : KeepsOthers w w' :=
  ⟨hs, fun k o hk hc => h k o hk (by simp) (fun c fz e' => by subst e'; cases hc)⟩
theorem boxed_others {e : TypeId} {w w' : World} (h : OthersKept e none w w') {B : Nat} {t : TypeId} {v : Value} (hb : Boxed w B t v) (hne : t ≠ e) : Boxed w' B t v :=
  h B _ hb (by simp) (fun c fz e' => by injection e' with _ h2; exact hne h2)
theorem heap_grow {w1 w2 : World} {b n Bx : Nat} {tB T : TypeId} {v1 : Value} {xs : List Value} {cs : Array Value} (own1 : w1.ownsRow b tB 1 v1 n xs) (g : w1.grownBy w2 v1.ownBlock) (hT : T ≠ tB) (bx : w1.heap[Bx]? = some (.cells cs T (0, 0))) : w2.heap[Bx]? = some (.cells cs T (0, 0)) := by
  refine (g.block Bx (Array.getElem?_eq_some_iff.1 bx).1 (fun e' => ?_)).trans bx
  rcases own1.2 with ⟨rfl, _⟩ | ⟨gg, cap, cur, rfl, _, hgb, _⟩
  · simp [Value.ownBlock] at e'
  · obtain rfl : gg = Bx := by simpa [Value.ownBlock, eq_comm] using e'
    rw [hgb] at bx
    cases bx
    exact hT rfl
theorem strCells_mk (l : List UInt8) : strCells ⟨l.toArray⟩ = byteCells l := by
  unfold strCells byteCells
  simp
theorem str_of_row {P : Program} {w : World} {base n : Nat} {src dst e : TypeId} {v : Value} {l : List UInt8} (h : w.ownsRow base e 1 v n (byteCells l)) (hs : P.underlying src = some (.slice e)) (he : P.underlying e = some (.int .u8)) (hd : P.underlying dst = some .string) : (convert src dst v).run P w = .ok (.string ⟨l.toArray⟩) w := by
  have hl : n = l.length := by have := h.1; simp [byteCells] at this; omega
  subst hl
  have hc := fun g => World.ownsRow.cells h (g := g)
  rcases h.2 with ⟨rfl, hn⟩ | ⟨g, cap, cur, rfl, _⟩
  · obtain rfl : l = [] := List.eq_nil_of_length_eq_zero hn
    rw [run_convert_bytes_string w src dst e none 0 0 hs he hd]; rfl
  · exact run_convert_bytes_back w src dst e ⟨g, 0, none⟩ cap l hs he hd (fun j hj => hc g rfl j _ (by simp [byteCells]; exact ⟨_, List.getElem?_eq_getElem hj, rfl⟩))
theorem decPos (n : Nat) : 0 < (decDigits n).length := by
  rw [decDigits]; split <;> simp
theorem decLen (n : Nat) : n < 18446744073709551616 → (decDigits n).length ≤ 20 := by
  have h : ∀ k n : Nat, 1 ≤ k → n < 10 ^ k → (decDigits n).length ≤ k := by
    intro k
    induction k with
    | zero => intro n h _; omega
    | succ k ih =>
      intro n _ hn
      rw [decDigits]
      split
      · simp
      · rename_i h10
        rw [List.length_append]
        have hk : 1 ≤ k := by
          rcases Nat.eq_zero_or_pos k with h0 | h0
          · subst h0; simp at hn; omega
          · exact h0
        have := ih (n / 10) hk (by rw [Nat.pow_succ] at hn; omega)
        simp; omega
  intro hn
  exact h 20 n (by omega) (by have : (10 : Nat) ^ 20 = 100000000000000000000 := by decide
                              omega)
/-- the world behind AppendUint and the append, ahead of the stores -/
structure FW (w W w2 : World) (tS tU tB : TypeId) (v v2 : Value) (S' : List UInt8) (L : Nat) : Prop where
  b3 : Boxed w2 w.heap.size tS v
  b4 : Boxed w2 (w.heap.size + 1) tU (.int .u64 (L : Int))
  own : w2.ownsRow (w.heap.size + 2) tB 1 v2 S'.length (byteCells S')
  bel : Below w.heap.size w w2
  ko : KeepsOthers W w2
  kw : KeepsWalks W w2
theorem fin_world {w W w1 w2 : World} {tS tU tB : TypeId} {v v1 v2 : Value} {S D wd : List UInt8} {L : Nat} (hS : tS ≠ tB) (hU : tU ≠ tB)
    (hB : Below w.heap.size w W) (hv1 : Boxed w1 w.heap.size tS v) (hl1 : Boxed w1 (w.heap.size + 1) tU (.int .u64 (L : Int)))
    (bel1 : Below (w.heap.size + 2) W.drew w1) (kept1 : OthersKept tB none W.drew w1)
    (own1 : w1.ownsRow (w.heap.size + 2) tB 1 v1 (S.length + D.length) (byteCells S ++ byteCells D))
    (own2 : w2.ownsRow (w.heap.size + 2) tB 1 v2 (S.length + D.length + (⟨wd.toArray⟩ : ByteArray).size) (byteCells S ++ byteCells D ++ strCells ⟨wd.toArray⟩))
    (g : w1.grownBy w2 v1.ownBlock) : FW w W w2 tS tU tB v v2 (S ++ D ++ wd) L := by
  have k1 : KeepsOthers W w1 := ⟨bel1.size, fun i o hi hc => (kept_others (w := W.drew) kept1 bel1.size).2 i o hi hc⟩
  have k2 : KeepsOthers w1 w2 := KeepsOthers.of_grownBy g (fun j o ej hj => by
    rcases own1.2 with ⟨rfl, _⟩ | ⟨gg, cap, cur, rfl, _, hgb, _⟩
    · simp [Value.ownBlock] at ej
    · obtain rfl : gg = j := by simpa [Value.ownBlock] using ej
      rw [hgb] at hj; cases hj; rfl)
  have k : KeepsOthers W w2 := k1.trans k2
  refine ⟨hv1.kept g (hv1.not_row hS own1), hl1.kept g (hl1.not_row hU own1), ?_, ?_, k, ⟨k.1, fun i o hi hw => k.2 i o hi (Obj.not_cells_of_walk hw)⟩⟩
  · have e : byteCells (S ++ D ++ wd) = byteCells S ++ byteCells D ++ strCells ⟨wd.toArray⟩ := by rw [strCells_mk]; simp [byteCells]
    have e2 : (S ++ D ++ wd).length = S.length + D.length + (⟨wd.toArray⟩ : ByteArray).size := by
      rw [List.length_append, List.length_append]; rfl
    rw [e, e2]; exact own2
  · have q : Below w.heap.size w w1 := Below.trans (Below.drew hB) (bel1.mono (by omega))
    refine q.grown g q.size (fun i e => ?_)
    rcases own1.2 with ⟨rfl, _⟩ | ⟨gg, cap, cur, rfl, hb, _, _⟩
    · simp [Value.ownBlock] at e
    · obtain rfl : gg = i := by simpa [Value.ownBlock] using e
      omega
end Go.Proofs.Yteddlpcnefogpaa
