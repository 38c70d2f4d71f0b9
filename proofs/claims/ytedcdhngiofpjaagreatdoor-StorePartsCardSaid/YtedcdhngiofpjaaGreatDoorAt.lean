/- A variable of the call's own that lies in a block: what its cells hold, that they may be written; kept behind calls, new blocks, draws and stores. It speaks of no program. -/
import Derived.WalkKit
import Derived.WalkSpells
import Derived.Deep.RegionHeld3
import Derived.Laws.Rows
namespace Go.Proofs.YtedcdhngiofpjaaGreatDoor
open Go Go.Proofs Go.RowKit

structure At (w : World) (b : Nat) (l : List Value) : Prop where
  lt : b < w.heap.size
  cell : ∀ j v, l[j]? = some v → w.cell? ⟨b, j, none⟩ = some v
  free : ∀ j v, l[j]? = some v → w.frozen? ⟨b, j, none⟩ = false

theorem At.below {w wx : World} {b : Nat} {l : List Value} (h : At w b l) (hb : Below w.heap.size w wx) : At wx b l :=
  ⟨Nat.lt_of_lt_of_le h.lt hb.size, fun j v hv => (hb.cell (p := ⟨b, j, none⟩) h.lt).trans (h.cell j v hv), fun j v hv => (hb.frozen (p := ⟨b, j, none⟩) h.lt).trans (h.free j v hv)⟩
theorem At.drew {w : World} {b : Nat} {l : List Value} (h : At w b l) : At w.drew b l := ⟨h.lt, h.cell, h.free⟩
theorem At.alloc {w : World} {b : Nat} {l : List Value} (h : At w b l) (o : Obj) : At (w.alloc o) b l :=
  h.below ((Below.refl _ _).alloc (Nat.le_refl _) _)
theorem At.new (w : World) (cs : Array Value) (T : TypeId) : At (w.alloc (.cells cs T)) w.heap.size cs.toList := by
  have hh := heap_alloc_new w (.cells cs T)
  refine ⟨by simp, fun j v hv => ?_, fun j v hv => ?_⟩
  · have e : cs[j]? = some v := by simpa using hv
    show (match (w.alloc (.cells cs T)).heap[w.heap.size]? with | some (.cells c _ _) => c[j]? | _ => none) = some v
    rw [hh]; exact e
  · show (match (w.alloc (.cells cs T)).heap[w.heap.size]? with | some (.cells _ _ (lo, hi)) => decide (lo ≤ j) && decide (j < hi) | _ => false) = false
    rw [hh]; simp
theorem At.of_block {w : World} {b : Nat} {cs : Array Value} {T : TypeId} (hh : w.heap[b]? = some (.cells cs T (0, 0))) : At w b cs.toList := by
  refine ⟨?_, fun j v hv => ?_, fun j v hv => ?_⟩
  · rcases Nat.lt_or_ge b w.heap.size with h | h
    · exact h
    · rw [Array.getElem?_eq_none h] at hh; cases hh
  · have e : cs[j]? = some v := by simpa using hv
    show (match w.heap[b]? with | some (.cells c _ _) => c[j]? | _ => none) = some v
    rw [hh]; exact e
  · show (match w.heap[b]? with | some (.cells _ _ (lo, hi)) => decide (lo ≤ j) && decide (j < hi) | _ => false) = false
    rw [hh]; simp
theorem At.set {w : World} {b : Nat} {l : List Value} (h : At w b l) (j : Nat) (x : Value) : At (w.setCell ⟨b, j, none⟩ x) b (l.set j x) := by
  refine ⟨by simpa using h.lt, fun i v hv => ?_, fun i v hv => ?_⟩
  · by_cases e : i = j
    · subst e
      by_cases hl : i < l.length
      · have h0 := h.cell i l[i] (by simp [hl])
        rw [World.cell?_setCell_same _ _ _ h0]
        simpa [hl] using hv
      · rw [List.getElem?_eq_none (by simp; omega)] at hv; cases hv
    · rw [World.cell?_setCell_other _ _ _ _ (by intro hh; have := congrArg Addr.off hh; simp at this; omega)]
      exact h.cell i v (by rw [List.getElem?_set_ne (by omega)] at hv; exact hv)
  · have hl : i < l.length := by
      have := List.getElem?_eq_some_iff.1 hv; obtain ⟨hh, _⟩ := this; simpa using hh
    have := h.free i l[i] (by simp [hl])
    simpa using this
theorem At.far {w : World} {b : Nat} {l : List Value} (h : At w b l) {b' j : Nat} (hne : b' ≠ b) (x : Value) : At (w.setCell ⟨b', j, none⟩ x) b l := by
  refine ⟨by simpa using h.lt, fun i v hv => ?_, fun i v hv => ?_⟩
  · rw [World.cell?_setCell_far _ _ _ _ hne]; exact h.cell i v hv
  · have := h.free i v hv
    simpa using this
-- squeezed
theorem qa {α : Type} {l : List α} {i : Nat} : l.toArray[i]? = l[i]? := List.getElem?_toArray
theorem qb {α : Type} {x : α} {l : List α} {i : Nat} : (x :: l)[i + 1]? = l[i]? := List.getElem?_cons_succ
theorem qc {α : Type} {x : α} {l : List α} : (x :: l)[0]? = some x := List.getElem?_cons_zero
theorem qd {α : Type} {l : List α} {i : Nat} {x : α} : l.toArray.setIfInBounds i x = (l.set i x).toArray := List.setIfInBounds_toArray ..
theorem qe {α : Type} {x y : α} {l : List α} : (x :: l).set 0 y = y :: l := List.set_cons_zero
theorem qf {α : Type} {x y : α} {l : List α} {i : Nat} : (x :: l).set (i + 1) y = x :: l.set i y := List.set_cons_succ
theorem At.f1 {w : World} {b : Nat} {v0 : Value} (h : At w b [v0]) : w.cell? ⟨b, 0, none⟩ = some v0 ∧ w.frozen? ⟨b, 0, none⟩ = false ∧ b < w.heap.size := ⟨h.cell 0 _ rfl, h.free 0 _ rfl, h.lt⟩
theorem At.f2 {w : World} {b : Nat} {v0 v1 : Value} (h : At w b [v0, v1]) : w.cell? ⟨b, 0, none⟩ = some v0 ∧ w.frozen? ⟨b, 0, none⟩ = false ∧ w.cell? ⟨b, 1, none⟩ = some v1 ∧ w.frozen? ⟨b, 1, none⟩ = false ∧ b < w.heap.size := ⟨h.cell 0 _ rfl, h.free 0 _ rfl, h.cell 1 _ rfl, h.free 1 _ rfl, h.lt⟩
theorem At.f3 {w : World} {b : Nat} {v0 v1 v2 : Value} (h : At w b [v0, v1, v2]) : w.cell? ⟨b, 0, none⟩ = some v0 ∧ w.frozen? ⟨b, 0, none⟩ = false ∧ w.cell? ⟨b, 1, none⟩ = some v1 ∧ w.frozen? ⟨b, 1, none⟩ = false ∧ w.cell? ⟨b, 2, none⟩ = some v2 ∧ w.frozen? ⟨b, 2, none⟩ = false ∧ b < w.heap.size := ⟨h.cell 0 _ rfl, h.free 0 _ rfl, h.cell 1 _ rfl, h.free 1 _ rfl, h.cell 2 _ rfl, h.free 2 _ rfl, h.lt⟩
theorem At.f4 {w : World} {b : Nat} {v0 v1 v2 v3 : Value} (h : At w b [v0, v1, v2, v3]) : w.cell? ⟨b, 0, none⟩ = some v0 ∧ w.frozen? ⟨b, 0, none⟩ = false ∧ w.cell? ⟨b, 1, none⟩ = some v1 ∧ w.frozen? ⟨b, 1, none⟩ = false ∧ w.cell? ⟨b, 2, none⟩ = some v2 ∧ w.frozen? ⟨b, 2, none⟩ = false ∧ w.cell? ⟨b, 3, none⟩ = some v3 ∧ w.frozen? ⟨b, 3, none⟩ = false ∧ b < w.heap.size := ⟨h.cell 0 _ rfl, h.free 0 _ rfl, h.cell 1 _ rfl, h.free 1 _ rfl, h.cell 2 _ rfl, h.free 2 _ rfl, h.cell 3 _ rfl, h.free 3 _ rfl, h.lt⟩
theorem At.f5 {w : World} {b : Nat} {v0 v1 v2 v3 v4 : Value} (h : At w b [v0, v1, v2, v3, v4]) : w.cell? ⟨b, 0, none⟩ = some v0 ∧ w.frozen? ⟨b, 0, none⟩ = false ∧ w.cell? ⟨b, 1, none⟩ = some v1 ∧ w.frozen? ⟨b, 1, none⟩ = false ∧ w.cell? ⟨b, 2, none⟩ = some v2 ∧ w.frozen? ⟨b, 2, none⟩ = false ∧ w.cell? ⟨b, 3, none⟩ = some v3 ∧ w.frozen? ⟨b, 3, none⟩ = false ∧ w.cell? ⟨b, 4, none⟩ = some v4 ∧ w.frozen? ⟨b, 4, none⟩ = false ∧ b < w.heap.size := ⟨h.cell 0 _ rfl, h.free 0 _ rfl, h.cell 1 _ rfl, h.free 1 _ rfl, h.cell 2 _ rfl, h.free 2 _ rfl, h.cell 3 _ rfl, h.free 3 _ rfl, h.cell 4 _ rfl, h.free 4 _ rfl, h.lt⟩
theorem At.f6 {w : World} {b : Nat} {v0 v1 v2 v3 v4 v5 : Value} (h : At w b [v0, v1, v2, v3, v4, v5]) : w.cell? ⟨b, 0, none⟩ = some v0 ∧ w.frozen? ⟨b, 0, none⟩ = false ∧ w.cell? ⟨b, 1, none⟩ = some v1 ∧ w.frozen? ⟨b, 1, none⟩ = false ∧ w.cell? ⟨b, 2, none⟩ = some v2 ∧ w.frozen? ⟨b, 2, none⟩ = false ∧ w.cell? ⟨b, 3, none⟩ = some v3 ∧ w.frozen? ⟨b, 3, none⟩ = false ∧ w.cell? ⟨b, 4, none⟩ = some v4 ∧ w.frozen? ⟨b, 4, none⟩ = false ∧ w.cell? ⟨b, 5, none⟩ = some v5 ∧ w.frozen? ⟨b, 5, none⟩ = false ∧ b < w.heap.size := ⟨h.cell 0 _ rfl, h.free 0 _ rfl, h.cell 1 _ rfl, h.free 1 _ rfl, h.cell 2 _ rfl, h.free 2 _ rfl, h.cell 3 _ rfl, h.free 3 _ rfl, h.cell 4 _ rfl, h.free 4 _ rfl, h.cell 5 _ rfl, h.free 5 _ rfl, h.lt⟩
theorem At.f7 {w : World} {b : Nat} {v0 v1 v2 v3 v4 v5 v6 : Value} (h : At w b [v0, v1, v2, v3, v4, v5, v6]) : w.cell? ⟨b, 0, none⟩ = some v0 ∧ w.frozen? ⟨b, 0, none⟩ = false ∧ w.cell? ⟨b, 1, none⟩ = some v1 ∧ w.frozen? ⟨b, 1, none⟩ = false ∧ w.cell? ⟨b, 2, none⟩ = some v2 ∧ w.frozen? ⟨b, 2, none⟩ = false ∧ w.cell? ⟨b, 3, none⟩ = some v3 ∧ w.frozen? ⟨b, 3, none⟩ = false ∧ w.cell? ⟨b, 4, none⟩ = some v4 ∧ w.frozen? ⟨b, 4, none⟩ = false ∧ w.cell? ⟨b, 5, none⟩ = some v5 ∧ w.frozen? ⟨b, 5, none⟩ = false ∧ w.cell? ⟨b, 6, none⟩ = some v6 ∧ w.frozen? ⟨b, 6, none⟩ = false ∧ b < w.heap.size := ⟨h.cell 0 _ rfl, h.free 0 _ rfl, h.cell 1 _ rfl, h.free 1 _ rfl, h.cell 2 _ rfl, h.free 2 _ rfl, h.cell 3 _ rfl, h.free 3 _ rfl, h.cell 4 _ rfl, h.free 4 _ rfl, h.cell 5 _ rfl, h.free 5 _ rfl, h.cell 6 _ rfl, h.free 6 _ rfl, h.lt⟩
theorem At.f8 {w : World} {b : Nat} {v0 v1 v2 v3 v4 v5 v6 v7 : Value} (h : At w b [v0, v1, v2, v3, v4, v5, v6, v7]) : w.cell? ⟨b, 0, none⟩ = some v0 ∧ w.frozen? ⟨b, 0, none⟩ = false ∧ w.cell? ⟨b, 1, none⟩ = some v1 ∧ w.frozen? ⟨b, 1, none⟩ = false ∧ w.cell? ⟨b, 2, none⟩ = some v2 ∧ w.frozen? ⟨b, 2, none⟩ = false ∧ w.cell? ⟨b, 3, none⟩ = some v3 ∧ w.frozen? ⟨b, 3, none⟩ = false ∧ w.cell? ⟨b, 4, none⟩ = some v4 ∧ w.frozen? ⟨b, 4, none⟩ = false ∧ w.cell? ⟨b, 5, none⟩ = some v5 ∧ w.frozen? ⟨b, 5, none⟩ = false ∧ w.cell? ⟨b, 6, none⟩ = some v6 ∧ w.frozen? ⟨b, 6, none⟩ = false ∧ w.cell? ⟨b, 7, none⟩ = some v7 ∧ w.frozen? ⟨b, 7, none⟩ = false ∧ b < w.heap.size := ⟨h.cell 0 _ rfl, h.free 0 _ rfl, h.cell 1 _ rfl, h.free 1 _ rfl, h.cell 2 _ rfl, h.free 2 _ rfl, h.cell 3 _ rfl, h.free 3 _ rfl, h.cell 4 _ rfl, h.free 4 _ rfl, h.cell 5 _ rfl, h.free 5 _ rfl, h.cell 6 _ rfl, h.free 6 _ rfl, h.cell 7 _ rfl, h.free 7 _ rfl, h.lt⟩
theorem At.f9 {w : World} {b : Nat} {v0 v1 v2 v3 v4 v5 v6 v7 v8 : Value} (h : At w b [v0, v1, v2, v3, v4, v5, v6, v7, v8]) : w.cell? ⟨b, 0, none⟩ = some v0 ∧ w.frozen? ⟨b, 0, none⟩ = false ∧ w.cell? ⟨b, 1, none⟩ = some v1 ∧ w.frozen? ⟨b, 1, none⟩ = false ∧ w.cell? ⟨b, 2, none⟩ = some v2 ∧ w.frozen? ⟨b, 2, none⟩ = false ∧ w.cell? ⟨b, 3, none⟩ = some v3 ∧ w.frozen? ⟨b, 3, none⟩ = false ∧ w.cell? ⟨b, 4, none⟩ = some v4 ∧ w.frozen? ⟨b, 4, none⟩ = false ∧ w.cell? ⟨b, 5, none⟩ = some v5 ∧ w.frozen? ⟨b, 5, none⟩ = false ∧ w.cell? ⟨b, 6, none⟩ = some v6 ∧ w.frozen? ⟨b, 6, none⟩ = false ∧ w.cell? ⟨b, 7, none⟩ = some v7 ∧ w.frozen? ⟨b, 7, none⟩ = false ∧ w.cell? ⟨b, 8, none⟩ = some v8 ∧ w.frozen? ⟨b, 8, none⟩ = false ∧ b < w.heap.size := ⟨h.cell 0 _ rfl, h.free 0 _ rfl, h.cell 1 _ rfl, h.free 1 _ rfl, h.cell 2 _ rfl, h.free 2 _ rfl, h.cell 3 _ rfl, h.free 3 _ rfl, h.cell 4 _ rfl, h.free 4 _ rfl, h.cell 5 _ rfl, h.free 5 _ rfl, h.cell 6 _ rfl, h.free 6 _ rfl, h.cell 7 _ rfl, h.free 7 _ rfl, h.cell 8 _ rfl, h.free 8 _ rfl, h.lt⟩
theorem At.f10 {w : World} {b : Nat} {v0 v1 v2 v3 v4 v5 v6 v7 v8 v9 : Value} (h : At w b [v0, v1, v2, v3, v4, v5, v6, v7, v8, v9]) : w.cell? ⟨b, 0, none⟩ = some v0 ∧ w.frozen? ⟨b, 0, none⟩ = false ∧ w.cell? ⟨b, 1, none⟩ = some v1 ∧ w.frozen? ⟨b, 1, none⟩ = false ∧ w.cell? ⟨b, 2, none⟩ = some v2 ∧ w.frozen? ⟨b, 2, none⟩ = false ∧ w.cell? ⟨b, 3, none⟩ = some v3 ∧ w.frozen? ⟨b, 3, none⟩ = false ∧ w.cell? ⟨b, 4, none⟩ = some v4 ∧ w.frozen? ⟨b, 4, none⟩ = false ∧ w.cell? ⟨b, 5, none⟩ = some v5 ∧ w.frozen? ⟨b, 5, none⟩ = false ∧ w.cell? ⟨b, 6, none⟩ = some v6 ∧ w.frozen? ⟨b, 6, none⟩ = false ∧ w.cell? ⟨b, 7, none⟩ = some v7 ∧ w.frozen? ⟨b, 7, none⟩ = false ∧ w.cell? ⟨b, 8, none⟩ = some v8 ∧ w.frozen? ⟨b, 8, none⟩ = false ∧ w.cell? ⟨b, 9, none⟩ = some v9 ∧ w.frozen? ⟨b, 9, none⟩ = false ∧ b < w.heap.size := ⟨h.cell 0 _ rfl, h.free 0 _ rfl, h.cell 1 _ rfl, h.free 1 _ rfl, h.cell 2 _ rfl, h.free 2 _ rfl, h.cell 3 _ rfl, h.free 3 _ rfl, h.cell 4 _ rfl, h.free 4 _ rfl, h.cell 5 _ rfl, h.free 5 _ rfl, h.cell 6 _ rfl, h.free 6 _ rfl, h.cell 7 _ rfl, h.free 7 _ rfl, h.cell 8 _ rfl, h.free 8 _ rfl, h.cell 9 _ rfl, h.free 9 _ rfl, h.lt⟩
theorem At.f11 {w : World} {b : Nat} {v0 v1 v2 v3 v4 v5 v6 v7 v8 v9 v10 : Value} (h : At w b [v0, v1, v2, v3, v4, v5, v6, v7, v8, v9, v10]) : w.cell? ⟨b, 0, none⟩ = some v0 ∧ w.frozen? ⟨b, 0, none⟩ = false ∧ w.cell? ⟨b, 1, none⟩ = some v1 ∧ w.frozen? ⟨b, 1, none⟩ = false ∧ w.cell? ⟨b, 2, none⟩ = some v2 ∧ w.frozen? ⟨b, 2, none⟩ = false ∧ w.cell? ⟨b, 3, none⟩ = some v3 ∧ w.frozen? ⟨b, 3, none⟩ = false ∧ w.cell? ⟨b, 4, none⟩ = some v4 ∧ w.frozen? ⟨b, 4, none⟩ = false ∧ w.cell? ⟨b, 5, none⟩ = some v5 ∧ w.frozen? ⟨b, 5, none⟩ = false ∧ w.cell? ⟨b, 6, none⟩ = some v6 ∧ w.frozen? ⟨b, 6, none⟩ = false ∧ w.cell? ⟨b, 7, none⟩ = some v7 ∧ w.frozen? ⟨b, 7, none⟩ = false ∧ w.cell? ⟨b, 8, none⟩ = some v8 ∧ w.frozen? ⟨b, 8, none⟩ = false ∧ w.cell? ⟨b, 9, none⟩ = some v9 ∧ w.frozen? ⟨b, 9, none⟩ = false ∧ w.cell? ⟨b, 10, none⟩ = some v10 ∧ w.frozen? ⟨b, 10, none⟩ = false ∧ b < w.heap.size := ⟨h.cell 0 _ rfl, h.free 0 _ rfl, h.cell 1 _ rfl, h.free 1 _ rfl, h.cell 2 _ rfl, h.free 2 _ rfl, h.cell 3 _ rfl, h.free 3 _ rfl, h.cell 4 _ rfl, h.free 4 _ rfl, h.cell 5 _ rfl, h.free 5 _ rfl, h.cell 6 _ rfl, h.free 6 _ rfl, h.cell 7 _ rfl, h.free 7 _ rfl, h.cell 8 _ rfl, h.free 8 _ rfl, h.cell 9 _ rfl, h.free 9 _ rfl, h.cell 10 _ rfl, h.free 10 _ rfl, h.lt⟩
theorem At.f12 {w : World} {b : Nat} {v0 v1 v2 v3 v4 v5 v6 v7 v8 v9 v10 v11 : Value} (h : At w b [v0, v1, v2, v3, v4, v5, v6, v7, v8, v9, v10, v11]) : w.cell? ⟨b, 0, none⟩ = some v0 ∧ w.frozen? ⟨b, 0, none⟩ = false ∧ w.cell? ⟨b, 1, none⟩ = some v1 ∧ w.frozen? ⟨b, 1, none⟩ = false ∧ w.cell? ⟨b, 2, none⟩ = some v2 ∧ w.frozen? ⟨b, 2, none⟩ = false ∧ w.cell? ⟨b, 3, none⟩ = some v3 ∧ w.frozen? ⟨b, 3, none⟩ = false ∧ w.cell? ⟨b, 4, none⟩ = some v4 ∧ w.frozen? ⟨b, 4, none⟩ = false ∧ w.cell? ⟨b, 5, none⟩ = some v5 ∧ w.frozen? ⟨b, 5, none⟩ = false ∧ w.cell? ⟨b, 6, none⟩ = some v6 ∧ w.frozen? ⟨b, 6, none⟩ = false ∧ w.cell? ⟨b, 7, none⟩ = some v7 ∧ w.frozen? ⟨b, 7, none⟩ = false ∧ w.cell? ⟨b, 8, none⟩ = some v8 ∧ w.frozen? ⟨b, 8, none⟩ = false ∧ w.cell? ⟨b, 9, none⟩ = some v9 ∧ w.frozen? ⟨b, 9, none⟩ = false ∧ w.cell? ⟨b, 10, none⟩ = some v10 ∧ w.frozen? ⟨b, 10, none⟩ = false ∧ w.cell? ⟨b, 11, none⟩ = some v11 ∧ w.frozen? ⟨b, 11, none⟩ = false ∧ b < w.heap.size := ⟨h.cell 0 _ rfl, h.free 0 _ rfl, h.cell 1 _ rfl, h.free 1 _ rfl, h.cell 2 _ rfl, h.free 2 _ rfl, h.cell 3 _ rfl, h.free 3 _ rfl, h.cell 4 _ rfl, h.free 4 _ rfl, h.cell 5 _ rfl, h.free 5 _ rfl, h.cell 6 _ rfl, h.free 6 _ rfl, h.cell 7 _ rfl, h.free 7 _ rfl, h.cell 8 _ rfl, h.free 8 _ rfl, h.cell 9 _ rfl, h.free 9 _ rfl, h.cell 10 _ rfl, h.free 10 _ rfl, h.cell 11 _ rfl, h.free 11 _ rfl, h.lt⟩
theorem At.f13 {w : World} {b : Nat} {v0 v1 v2 v3 v4 v5 v6 v7 v8 v9 v10 v11 v12 : Value} (h : At w b [v0, v1, v2, v3, v4, v5, v6, v7, v8, v9, v10, v11, v12]) : w.cell? ⟨b, 0, none⟩ = some v0 ∧ w.frozen? ⟨b, 0, none⟩ = false ∧ w.cell? ⟨b, 1, none⟩ = some v1 ∧ w.frozen? ⟨b, 1, none⟩ = false ∧ w.cell? ⟨b, 2, none⟩ = some v2 ∧ w.frozen? ⟨b, 2, none⟩ = false ∧ w.cell? ⟨b, 3, none⟩ = some v3 ∧ w.frozen? ⟨b, 3, none⟩ = false ∧ w.cell? ⟨b, 4, none⟩ = some v4 ∧ w.frozen? ⟨b, 4, none⟩ = false ∧ w.cell? ⟨b, 5, none⟩ = some v5 ∧ w.frozen? ⟨b, 5, none⟩ = false ∧ w.cell? ⟨b, 6, none⟩ = some v6 ∧ w.frozen? ⟨b, 6, none⟩ = false ∧ w.cell? ⟨b, 7, none⟩ = some v7 ∧ w.frozen? ⟨b, 7, none⟩ = false ∧ w.cell? ⟨b, 8, none⟩ = some v8 ∧ w.frozen? ⟨b, 8, none⟩ = false ∧ w.cell? ⟨b, 9, none⟩ = some v9 ∧ w.frozen? ⟨b, 9, none⟩ = false ∧ w.cell? ⟨b, 10, none⟩ = some v10 ∧ w.frozen? ⟨b, 10, none⟩ = false ∧ w.cell? ⟨b, 11, none⟩ = some v11 ∧ w.frozen? ⟨b, 11, none⟩ = false ∧ w.cell? ⟨b, 12, none⟩ = some v12 ∧ w.frozen? ⟨b, 12, none⟩ = false ∧ b < w.heap.size := ⟨h.cell 0 _ rfl, h.free 0 _ rfl, h.cell 1 _ rfl, h.free 1 _ rfl, h.cell 2 _ rfl, h.free 2 _ rfl, h.cell 3 _ rfl, h.free 3 _ rfl, h.cell 4 _ rfl, h.free 4 _ rfl, h.cell 5 _ rfl, h.free 5 _ rfl, h.cell 6 _ rfl, h.free 6 _ rfl, h.cell 7 _ rfl, h.free 7 _ rfl, h.cell 8 _ rfl, h.free 8 _ rfl, h.cell 9 _ rfl, h.free 9 _ rfl, h.cell 10 _ rfl, h.free 10 _ rfl, h.cell 11 _ rfl, h.free 11 _ rfl, h.cell 12 _ rfl, h.free 12 _ rfl, h.lt⟩
theorem At.fars4 {w : World} {b : Nat} {l : List Value} (h : At w b l) (a : Nat) (hne : a ≠ b) (v0 v1 v2 v3 : Value) : At ((((w.setCell ⟨a, 0, none⟩ v0).setCell ⟨a, 1, none⟩ v1).setCell ⟨a, 2, none⟩ v2).setCell ⟨a, 3, none⟩ v3) b l := ((((h.far (b' := a) (j := 0) hne v0).far (b' := a) (j := 1) hne v1).far (b' := a) (j := 2) hne v2).far (b' := a) (j := 3) hne v3)
theorem At.puts4 {w : World} {b : Nat} {x0 x1 x2 x3 : Value} (h : At w b [x0, x1, x2, x3]) (v0 v1 v2 v3 : Value) : At ((((w.setCell ⟨b, 0, none⟩ v0).setCell ⟨b, 1, none⟩ v1).setCell ⟨b, 2, none⟩ v2).setCell ⟨b, 3, none⟩ v3) b [v0, v1, v2, v3] := ((((h.set 0 v0).set 1 v1).set 2 v2).set 3 v3)
theorem At.fars9 {w : World} {b : Nat} {l : List Value} (h : At w b l) (a : Nat) (hne : a ≠ b) (v0 v1 v2 v3 v4 v5 v6 v7 v8 : Value) : At (((((((((w.setCell ⟨a, 0, none⟩ v0).setCell ⟨a, 1, none⟩ v1).setCell ⟨a, 2, none⟩ v2).setCell ⟨a, 3, none⟩ v3).setCell ⟨a, 4, none⟩ v4).setCell ⟨a, 5, none⟩ v5).setCell ⟨a, 6, none⟩ v6).setCell ⟨a, 7, none⟩ v7).setCell ⟨a, 8, none⟩ v8) b l := (((((((((h.far (b' := a) (j := 0) hne v0).far (b' := a) (j := 1) hne v1).far (b' := a) (j := 2) hne v2).far (b' := a) (j := 3) hne v3).far (b' := a) (j := 4) hne v4).far (b' := a) (j := 5) hne v5).far (b' := a) (j := 6) hne v6).far (b' := a) (j := 7) hne v7).far (b' := a) (j := 8) hne v8)
theorem At.puts9 {w : World} {b : Nat} {x0 x1 x2 x3 x4 x5 x6 x7 x8 : Value} (h : At w b [x0, x1, x2, x3, x4, x5, x6, x7, x8]) (v0 v1 v2 v3 v4 v5 v6 v7 v8 : Value) : At (((((((((w.setCell ⟨b, 0, none⟩ v0).setCell ⟨b, 1, none⟩ v1).setCell ⟨b, 2, none⟩ v2).setCell ⟨b, 3, none⟩ v3).setCell ⟨b, 4, none⟩ v4).setCell ⟨b, 5, none⟩ v5).setCell ⟨b, 6, none⟩ v6).setCell ⟨b, 7, none⟩ v7).setCell ⟨b, 8, none⟩ v8) b [v0, v1, v2, v3, v4, v5, v6, v7, v8] := (((((((((h.set 0 v0).set 1 v1).set 2 v2).set 3 v3).set 4 v4).set 5 v5).set 6 v6).set 7 v7).set 8 v8)
/-- A variable of n cells, whatever they hold. -/
def OwnN (n : Nat) (w : World) (b : Nat) : Prop := ∃ l : List Value, l.length = n ∧ At w b l
theorem At.own {w : World} {b : Nat} {l : List Value} (h : At w b l) : OwnN l.length w b := ⟨l, rfl, h⟩
theorem OwnN.below {n : Nat} {w wx : World} {b : Nat} (h : OwnN n w b) (hb : Below w.heap.size w wx) : OwnN n wx b := by
  obtain ⟨l, hl, h⟩ := h; exact ⟨l, hl, h.below hb⟩
theorem OwnN.drew {n : Nat} {w : World} {b : Nat} (h : OwnN n w b) : OwnN n w.drew b := by
  obtain ⟨l, hl, h⟩ := h; exact ⟨l, hl, h.drew⟩
theorem OwnN.set {n : Nat} {w : World} {b : Nat} (h : OwnN n w b) (j : Nat) (x : Value) : OwnN n (w.setCell ⟨b, j, none⟩ x) b := by
  obtain ⟨l, hl, h⟩ := h; exact ⟨l.set j x, by simp [hl], h.set j x⟩
theorem OwnN.alloc {n : Nat} {w : World} {b : Nat} (h : OwnN n w b) (o : Obj) : OwnN n (w.alloc o) b := by
  obtain ⟨l, hl, h⟩ := h; exact ⟨l, hl, h.alloc o⟩
theorem OwnN.one {w : World} {b : Nat} (h : OwnN 1 w b) : ∃ v0, At w b [v0] := by
  obtain ⟨l, hl, h⟩ := h
  match l, hl with
  | [v0], _ => exact ⟨v0, h⟩
theorem OwnN.two {w : World} {b : Nat} (h : OwnN 2 w b) : ∃ v0 v1, At w b [v0, v1] := by
  obtain ⟨l, hl, h⟩ := h
  match l, hl with
  | [v0, v1], _ => exact ⟨v0, v1, h⟩
theorem below_then {w W w1 : World} (h : Below w.heap.size w W) (hb : Below W.heap.size W w1) : Below w.heap.size w w1 := h.trans (hb.mono h.size)
theorem below_new {w W : World} (h : Below w.heap.size w W) (o : Obj) : Below w.heap.size w (W.alloc o) := h.alloc h.size o
theorem below_cells {w : World} (o : Obj) : Below w.heap.size w (w.alloc o) := (Below.refl _ _).alloc (Nat.le_refl _) o
/-- What lies below a world's size and is read only. -/
theorem below_cell {w w1 wx : World} {b j : Nat} {v : Value} (h : w.cell? ⟨b, j, none⟩ = some v) (hb : Below w.heap.size w w1) (hx : w1 = wx) : wx.cell? ⟨b, j, none⟩ = some v := by
  subst hx
  exact (hb.cell (p := ⟨b, j, none⟩) (World.block_lt_of_cell? w ⟨b, j, none⟩ h)).trans h
section
variable {P : Program} {ops : Array Oper} {Q : Exit → Act → World → Prop} {md : Region.Mode} {S : World → Prop}
theorem tkH (i : Nat) {oi : Oper} {v : Value} {k : Nat} {l l' : Array Bool} {a a' : Act} {w : World} (hS : S w) (h : wpAnyH P md ops Q S k l' a' w)
    (hi : ops[i]? = some oi := by (simp only [qa, qb, qc]; exact rfl))
    (hs : Region.noSelect ops = true := by kernel_rfl) (hf : Region.free md ops l i = true := by kernel_rfl) (hr : (Region.ready md ops l).contains i = true := by kernel_rfl)
    (hQ : ∀ c a w, Q (.panic c) (a.put oi.dst v) w → Q (.panic c) a w := by exact fun _ _ _ h => h)
    (hy : YieldsIf P ops S oi v a := by (refine Or.inl ⟨by rfl, ?_⟩; intro u hSw; go_simp; (try with_reducible rfl)))
    (hl : l.setIfInBounds i true = l' := by (first | (simp only [qd, qe, qf]; done) | (simp only [qd, qe, qf]; with_reducible rfl) | with_reducible rfl))
    (ha : a.put oi.dst v = a' := by (first | (simp only [Act.put, qd, qe, qf]; done) | (simp only [Act.put, qd, qe, qf]; with_reducible rfl) | with_reducible rfl)) : wpAnyH P md ops Q S (k + 1) l a w := by
  subst hl ha
  exact wpAnyH_take hi hs hf hr hQ hy hS h
theorem tkS (i : Nat) {oi : Oper} {k : Nat} {l l' : Array Bool} {a a' : Act} {w : World} (hS : S w) (h : wpAnyH P md ops Q S k l' a' w)
    (hi : ops[i]? = some oi := by (simp only [qa, qb, qc]; exact rfl))
    (hs : Region.noSelect ops = true := by kernel_rfl) (hf : Region.free md ops l i = true := by kernel_rfl) (hr : (Region.ready md ops l).contains i = true := by kernel_rfl)
    (hQ : ∀ c a w, Q (.panic c) (a.put oi.dst undef) w → Q (.panic c) a w := by exact fun _ _ _ h => h)
    (hy : YieldsIf P ops S oi undef a := by exact Or.inr ⟨by rfl, rfl⟩)
    (hl : l.setIfInBounds i true = l' := by (first | (simp only [qd, qe, qf]; done) | (simp only [qd, qe, qf]; with_reducible rfl) | with_reducible rfl))
    (ha : a.put oi.dst undef = a' := by (first | (simp only [Act.put, qd, qe, qf]; done) | (simp only [Act.put, qd, qe, qf]; with_reducible rfl) | with_reducible rfl)) : wpAnyH P md ops Q S (k + 1) l a w := by
  subst hl ha
  exact wpAnyH_take hi hs hf hr hQ hy hS h
theorem tkC (i : Nat) {C : World → Prop} {oi : Oper} {v : Value} {k : Nat} {l l' : Array Bool} {a a' : Act} {w : World} (hS : S w) (hc : ∀ u, S u → C u) (h : wpAnyH P md ops Q S k l' a' w)
    (hi : ops[i]? = some oi := by (simp only [qa, qb, qc]; exact rfl))
    (hs : Region.noSelect ops = true := by kernel_rfl) (hf : Region.free md ops l i = true := by kernel_rfl) (hr : (Region.ready md ops l).contains i = true := by kernel_rfl)
    (hQ : ∀ c a w, Q (.panic c) (a.put oi.dst v) w → Q (.panic c) a w := by exact fun _ _ _ h => h)
    (hy : YieldsIf P ops C oi v a := by (refine Or.inl ⟨by rfl, ?_⟩; intro u e0; (try dsimp only at e0); go_simp; (try with_reducible rfl)))
    (hl : l.setIfInBounds i true = l' := by (first | (simp only [qd, qe, qf]; done) | (simp only [qd, qe, qf]; with_reducible rfl) | with_reducible rfl))
    (ha : a.put oi.dst v = a' := by (first | (simp only [Act.put, qd, qe, qf]; done) | (simp only [Act.put, qd, qe, qf]; with_reducible rfl) | with_reducible rfl)) : wpAnyH P md ops Q S (k + 1) l a w := by
  subst hl ha
  exact wpAnyH_take hi hs hf hr hQ (hy.imp (fun q => ⟨q.1, fun u hu => q.2 u (hc u hu)⟩) id) hS h
end
theorem At.nw (w : World) (l : List Value) (T : TypeId) : At (w.alloc (.cells l.toArray T)) w.heap.size l := At.new w l.toArray T
theorem At.nwb (b : Nat) (w : World) (l : List Value) (T : TypeId) (h : w.heap.size = b := by simp) : At (w.alloc (.cells l.toArray T)) b l := h ▸ At.new w l.toArray T
end Go.Proofs.YtedcdhngiofpjaaGreatDoor
