/- The law's helpers: what is left of a tail; known. -/
import Derived.Test.YteddlpcnefogpaaDkH
import Derived.Lib.SlBytesConst
namespace Go.Proofs.Yteddlpcnefogpaa
open Go Go.Proofs Go.RowKit Go.Shelf
set_option maxRecDepth 100000
theorem DkAt.grow {base : Nat} {w w' : World} {b : Nat} {v : Value} {d : Dk} (h : DkAt base w b v d) (g : w.grownBy w' none) : DkAt base w' b v d := h.kept g (by simp) (fun _ _ => by simp)
theorem DkAt.new {base : Nat} {w : World} {b : Nat} {v : Value} {d : Dk} (h : DkAt base w b v d) (o : Obj) : DkAt base (w.alloc o) b v d := h.grow (World.grownBy_alloc w o none)
theorem grow_nil {w w' : World} (g : w.grownBy w' (Value.slice none 0 0).ownBlock) : w.grownBy w' none := ⟨g.os, g.tape, g.output, g.size, fun k hk _ => g.block k hk (fun e => by simp [Value.ownBlock] at e)⟩
/-- two disks, apart from each other -/
structure Two (base base' : Nat) (w : World) (b : Nat) (v : Value) (d : Dk) (b' : Nat) (v' : Value) (d' : Dk) : Prop where
  one : DkAt base w b v d
  two : DkAt base' w b' v' d'
  ne : b ≠ b'
  n1 : v.ownBlock ≠ some b'
  n2 : v'.ownBlock ≠ some b
  n3 : ∀ g, v'.ownBlock = some g → v.ownBlock ≠ some g
theorem Two.op {base base' : Nat} {w w1 : World} {b : Nat} {v v1 : Value} {d d1 : Dk} {b' : Nat} {v' : Value} {d' : Dk} (h : Two base base' w b v d b' v' d') (t : DTo w w1 b v v1) (D : DkAt base w1 b v1 d1) : Two base base' w1 b v1 d1 b' v' d' :=
  ⟨D, h.two.far t h.ne.symm h.n1 h.n2 (fun g e => h.n3 g e), h.ne, fun e => by
    rcases t.new _ e with q | q
    · exact h.n1 q
    · have := h.two.lt; omega, h.n2, fun g e q => by
    rcases t.new _ q with q | q
    · exact h.n3 g e q
    · have := (World.ownsRow.lt h.two.own g e).2; omega⟩
theorem Two.grow {base base' : Nat} {w w1 : World} {b : Nat} {v : Value} {d : Dk} {b' : Nat} {v' : Value} {d' : Dk} (h : Two base base' w b v d b' v' d') (g : w.grownBy w1 none) : Two base base' w1 b v d b' v' d' :=
  ⟨h.one.grow g, h.two.grow g, h.ne, h.n1, h.n2, h.n3⟩
theorem Two.new {base base' : Nat} {w : World} {b : Nat} {v : Value} {d : Dk} {b' : Nat} {v' : Value} {d' : Dk} (h : Two base base' w b v d b' v' d') (o : Obj) : Two base base' (w.alloc o) b v d b' v' d' := h.grow (World.grownBy_alloc w o none)
theorem Two.drewN {base base' : Nat} {w : World} {b : Nat} {v : Value} {d : Dk} {b' : Nat} {v' : Value} {d' : Dk} (h : Two base base' w b v d b' v' d') (q : Nat) : Two base base' (w.drewN q) b v d b' v' d' :=
  ⟨h.one.drewN q, h.two.drewN q, h.ne, h.n1, h.n2, h.n3⟩
/-- a disk and one that was made beside it -/
theorem Two.made {base : Nat} {w w1 : World} {b : Nat} {v : Value} {d : Dk} {b' : Nat} {v' : Value} {d' : Dk} (h : DkAt base w b v d) (g : w.grownBy w1 none) (k : DkAt w.heap.size w1 b' v' d') : Two base w.heap.size w1 b v d b' v' d' :=
  ⟨h.grow g, k, by have := h.lt; have := k.ge; omega, fun e => by have := (World.ownsRow.lt h.own _ e).2; have := k.ge; omega, fun e => by have := (World.ownsRow.lt k.own _ e).1; have := h.lt; omega, fun g e q => by have := (World.ownsRow.lt k.own _ e).1; have := (World.ownsRow.lt h.own _ q).2; omega⟩
/-- bytes that were just laid -/
theorem bys_new (w : World) (l : List UInt8) (cs : Array Value) (n c : Nat) (fz : Nat × Nat) (hc : cs = (l.map byV).toArray) (hn : n = l.length) : Bys (w.alloc (.cells cs 5 fz)) (.slice (some ⟨w.heap.size, 0, none⟩) n c) l := by
  subst hc hn
  refine .inr ⟨w.heap.size, 0, c, rfl, by simp, fun j x hj => ?_⟩
  have h := heap_alloc_new w (.cells (l.map byV).toArray 5 fz)
  simp only [World.cell?, h]
  simp [hj]
theorem text_of_row {base : Nat} {w : World} {v : Value} {l : List UInt8} (h : w.ownsRow base 5 1 v l.length (Lib.byteCells l)) : (convert 22 9 v).run Try.prog w = .ok (.string ⟨l.toArray⟩) w :=
  str_of_row h Try.underlying22 Try.underlying5 Try.underlying9
end Go.Proofs.Yteddlpcnefogpaa
