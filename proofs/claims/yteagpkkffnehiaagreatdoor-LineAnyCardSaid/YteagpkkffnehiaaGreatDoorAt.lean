/- A variable of the call's own that lies in a block: what its cells hold, that they may be written; kept behind calls, new blocks, draws and stores. It speaks of no program. -/
import Derived.WalkKit
import Derived.WalkSpells
import Derived.Deep.RegionHeld3
import Derived.Laws.Rows
namespace Go.Proofs.YteagpkkffnehiaaGreatDoor
open Go Go.Proofs Go.RowKit

structure At (w : World) (b : Nat) (l : List Value) : Prop where
  lt : b < w.heap.size
  cell : ∀ j v, l[j]? = some v → w.cell? ⟨b, j, none⟩ = some v
  free : ∀ j v, l[j]? = some v → w.frozen? ⟨b, j, none⟩ = false

theorem At.below {w wx : World} {b : Nat} {l : List Value} (h : At w b l) (hb : Below w.heap.size w wx) : At wx b l :=
  ⟨Nat.lt_of_lt_of_le h.lt hb.size, fun j v hv => (hb.cell (p := ⟨b, j, none⟩) h.lt).trans (h.cell j v hv), fun j v hv => (hb.frozen (p := ⟨b, j, none⟩) h.lt).trans (h.free j v hv)⟩
theorem At.drew {w : World} {b : Nat} {l : List Value} (h : At w b l) : At w.drew b l := ⟨h.lt, h.cell, h.free⟩
theorem At.alloc {w : World} {b : Nat} {l : List Value} (h : At w b l) (o : Obj) : At (w.alloc o) b l :=
  h.below ((Below.refl _ _).alloc (Nat.le_refl _) _)
theorem At.new (w : World) (cs : Array Value) (T : TypeId) : At (w.alloc (.cells cs T)) w.heap.size cs.toList := by
  have hh := heap_alloc_new w (.cells cs T)
  refine ⟨by simp, fun j v hv => ?_, fun j v hv => ?_⟩
  · have e : cs[j]? = some v := by simpa using hv
    show (match (w.alloc (.cells cs T)).heap[w.heap.size]? with | some (.cells c _ _) => c[j]? | _ => none) = some v
    rw [hh]; exact e
  · show (match (w.alloc (.cells cs T)).heap[w.heap.size]? with | some (.cells _ _ (lo, hi)) => decide (lo ≤ j) && decide (j < hi) | _ => false) = false
    rw [hh]; simp
theorem At.of_block {w : World} {b : Nat} {cs : Array Value} {T : TypeId} (hh : w.heap[b]? = some (.cells cs T (0, 0))) : At w b cs.toList := by
  refine ⟨?_, fun j v hv => ?_, fun j v hv => ?_⟩
  · rcases Nat.lt_or_ge b w.heap.size with h | h
    · exact h
    · rw [Array.getElem?_eq_none h] at hh; cases hh
  · have e : cs[j]? = some v := by simpa using hv
    show (match w.heap[b]? with | some (.cells c _ _) => c[j]? | _ => none) = some v
    rw [hh]; exact e
  · show (match w.heap[b]? with | some (.cells _ _ (lo, hi)) => decide (lo ≤ j) && decide (j < hi) | _ => false) = false
    rw [hh]; simp
theorem At.set {w : World} {b : Nat} {l : List Value} (h : At w b l) (j : Nat) (x : Value) : At (w.setCell ⟨b, j, none⟩ x) b (l.set j x) := by
  refine ⟨by simpa using h.lt, fun i v hv => ?_, fun i v hv => ?_⟩
  · by_cases e : i = j
    · subst e
      by_cases hl : i < l.length
      · have h0 := h.cell i l[i] (by simp [hl])
        rw [World.cell?_setCell_same _ _ _ h0]
        simpa [hl] using hv
      · rw [List.getElem?_eq_none (by simp; omega)] at hv; cases hv
    · rw [World.cell?_setCell_other _ _ _ _ (by intro hh; have := congrArg Addr.off hh; simp at this; omega)]
      exact h.cell i v (by rw [List.getElem?_set_ne (by omega)] at hv; exact hv)
  · have hl : i < l.length := by
      have := List.getElem?_eq_some_iff.1 hv; obtain ⟨hh, _⟩ := this; simpa using hh
    have := h.free i l[i] (by simp [hl])
    simpa using this
theorem At.far {w : World} {b : Nat} {l : List Value} (h : At w b l) {b' j : Nat} (hne : b' ≠ b) (x : Value) : At (w.setCell ⟨b', j, none⟩ x) b l := by
  refine ⟨by simpa using h.lt, fun i v hv => ?_, fun i v hv => ?_⟩
  · rw [World.cell?_setCell_far _ _ _ _ hne]; exact h.cell i v hv
  · have := h.free i v hv
    simpa using this
/-- A variable of n cells, whatever they hold. -/
def OwnN (n : Nat) (w : World) (b : Nat) : Prop := ∃ l : List Value, l.length = n ∧ At w b l
theorem At.own {w : World} {b : Nat} {l : List Value} (h : At w b l) : OwnN l.length w b := ⟨l, rfl, h⟩
theorem OwnN.below {n : Nat} {w wx : World} {b : Nat} (h : OwnN n w b) (hb : Below w.heap.size w wx) : OwnN n wx b := by
  obtain ⟨l, hl, h⟩ := h; exact ⟨l, hl, h.below hb⟩
theorem OwnN.drew {n : Nat} {w : World} {b : Nat} (h : OwnN n w b) : OwnN n w.drew b := by
  obtain ⟨l, hl, h⟩ := h; exact ⟨l, hl, h.drew⟩
theorem OwnN.set {n : Nat} {w : World} {b : Nat} (h : OwnN n w b) (j : Nat) (x : Value) : OwnN n (w.setCell ⟨b, j, none⟩ x) b := by
  obtain ⟨l, hl, h⟩ := h; exact ⟨l.set j x, by simp [hl], h.set j x⟩
theorem OwnN.alloc {n : Nat} {w : World} {b : Nat} (h : OwnN n w b) (o : Obj) : OwnN n (w.alloc o) b := by
  obtain ⟨l, hl, h⟩ := h; exact ⟨l, hl, h.alloc o⟩
theorem OwnN.one {w : World} {b : Nat} (h : OwnN 1 w b) : ∃ v0, At w b [v0] := by
  obtain ⟨l, hl, h⟩ := h
  match l, hl with
  | [v0], _ => exact ⟨v0, h⟩
theorem OwnN.two {w : World} {b : Nat} (h : OwnN 2 w b) : ∃ v0 v1, At w b [v0, v1] := by
  obtain ⟨l, hl, h⟩ := h
  match l, hl with
  | [v0, v1], _ => exact ⟨v0, v1, h⟩
theorem below_then {w W w1 : World} (h : Below w.heap.size w W) (hb : Below W.heap.size W w1) : Below w.heap.size w w1 := h.trans (hb.mono h.size)
theorem below_new {w W : World} (h : Below w.heap.size w W) (o : Obj) : Below w.heap.size w (W.alloc o) := h.alloc h.size o
theorem below_cells {w : World} (o : Obj) : Below w.heap.size w (w.alloc o) := (Below.refl _ _).alloc (Nat.le_refl _) o
/-- What lies below a world's size and is read only. -/
theorem below_cell {w w1 wx : World} {b j : Nat} {v : Value} (h : w.cell? ⟨b, j, none⟩ = some v) (hb : Below w.heap.size w w1) (hx : w1 = wx) : wx.cell? ⟨b, j, none⟩ = some v := by
  subst hx
  exact (hb.cell (p := ⟨b, j, none⟩) (World.block_lt_of_cell? w ⟨b, j, none⟩ h)).trans h
end Go.Proofs.YteagpkkffnehiaaGreatDoor
