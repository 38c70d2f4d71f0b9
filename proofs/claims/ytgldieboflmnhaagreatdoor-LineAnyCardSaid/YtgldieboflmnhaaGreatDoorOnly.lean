/- slices.AppendSeq, slices.Collect of labels; label.Only, label.Without. -/
import Derived.Test.YtgldieboflmnhaaGreatDoorPicked
import Derived.Test.YtgldieboflmnhaaGreatDoorParse
namespace Go.Proofs.YtgldieboflmnhaaGreatDoor
open Go Go.Proofs Go.RowKit Go.Shelf
set_option maxRecDepth 100000
attribute [local go_sem] Oper.semAt_some
theorem row_at2 {w : World} {base e k n : Nat} {v : Value} {xs : List Value} (h : w.ownsRow base e k v n xs) : ∀ i, v.ownBlock = some i → ∃ c fz, w.heap[i]? = some (.cells c e fz) := by
  intro i e'
  rcases h.2 with ⟨rfl, _⟩ | ⟨gg, cap, cur, rfl, hb, hgb, _⟩
  · simp [Value.ownBlock] at e'
  · obtain rfl : gg = i := by simpa [Value.ownBlock] using e'
    exact ⟨_, _, hgb⟩
theorem row_base {W : World} {base base' : Nat} {e : TypeId} {size : Nat} {v : Value} {k : Nat} {xs : List Value} (h : W.ownsRow base e size v k xs) (hb : base' ≤ base) : W.ownsRow base' e size v k xs := by
  obtain ⟨h1, h2 | ⟨g, cap, cur, e1, e2, r⟩⟩ := h
  · exact ⟨h1, .inl h2⟩
  · exact ⟨h1, .inr ⟨g, cap, cur, e1, Nat.le_trans hb e2, r⟩⟩
/-- a slice of labels in memory of the call's own -/
def NewLabs (w : World) (zs : List SLab) (e : Ending) (w' : World) : Prop := ∃ v, e = .returned v ∧ w'.ownsRow w.heap.size 45 2 v zs.length (labC zs) ∧ Below w.heap.size w w'
end Go.Proofs.YtgldieboflmnhaaGreatDoor
