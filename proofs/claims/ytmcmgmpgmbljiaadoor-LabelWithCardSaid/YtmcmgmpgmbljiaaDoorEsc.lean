/- A text escaped; a row of bytes that a call owns. -/
import Derived.Test.YtmcmgmpgmbljiaaDoorName
import Derived.Lib.AppendStr
import Derived.Laws.IdiomStrings
import Derived.Lib.OthersKept
import Derived.Lib.UnsafeStr
import Derived.Laws.AppendOwn
import Derived.Maps.AppendAt
import Derived.RangeFuncBox
namespace Go.Proofs.YtmcmgmpgmbljiaaDoor
open Go Go.Proofs Go.RowKit Go.Shelf Go.Lib
set_option maxRecDepth 100000
theorem info_u8 : (Tryd.prog.info? 5).map (fun i => (i.zero, i.size, i.bytes)) = some (some (.int .u8 0), 1, 1) := by kernel_rfl
def escC (c : UInt8) : List UInt8 := if c.toNat = 34 ∨ c.toNat = 92 then [92, c] else [c]
def escR (l : List UInt8) : List UInt8 := l.flatMap escC
theorem escR_snoc (l : List UInt8) (c : UInt8) : escR (l ++ [c]) = escR l ++ escC c := by unfold escR; simp
theorem escC_len (c : UInt8) : (escC c).length ≤ 2 := by unfold escC; split <;> simp
theorem escR_len (l : List UInt8) : (escR l).length ≤ 2 * l.length := by
  induction l with
  | nil => simp [escR]
  | cons c t ih =>
    have := escC_len c
    unfold escR at *
    rw [List.flatMap_cons, List.length_append, List.length_cons]
    omega
/-- a row of bytes that the call owns, in a world that came of w -/
structure EW (w : World) (base : Nat) (v : Value) (S : List UInt8) (W : World) : Prop where
  own : W.ownsRow base 5 1 v S.length (byteCells S)
  bel : Below base w W
  oth : OthersKept 5 none w W
  ge : base ≤ W.heap.size
theorem EW.app {w W W' : World} {base : Nat} {v v' : Value} {S X : List UInt8} (h : EW w base v S W) (o : Obj) (own : W'.ownsRow base 5 1 v' (S.length + X.length) (byteCells S ++ byteCells X)) (g : (W.alloc o).grownBy W' v.ownBlock) : EW w base v' (S ++ X) W' := by
  have hk : ∀ i, v.ownBlock = some i → base ≤ i ∧ ∃ c fz, (W.alloc o).heap[i]? = some (.cells c 5 fz) := by
    intro i e
    rcases h.own.2 with ⟨rfl, _⟩ | ⟨gg, cap, cur, rfl, hb, hgb, _⟩
    · simp [Value.ownBlock] at e
    · obtain rfl : gg = i := by simpa [Value.ownBlock] using e
      exact ⟨hb, _, _, (Below.heap_alloc W o gg (Array.getElem?_eq_some_iff.1 hgb).1).trans hgb⟩
  refine ⟨?_, (h.bel.alloc h.ge o).grown g (by have := h.ge; simp; omega) (fun i e => (hk i e).1), (h.oth.alloc o).grown g (fun i e => (hk i e).2), ?_⟩
  · rw [List.length_append, show byteCells (S ++ X) = byteCells S ++ byteCells X by simp [byteCells]]; exact own
  · have := g.size; have := h.ge; simp at *; omega
end Go.Proofs.YtmcmgmpgmbljiaaDoor
