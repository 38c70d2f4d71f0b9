/- regex's reader in memory: what it holds, what a call of it keeps. -/
import Derived.Test.YtcfdpbbpdnpnnaaDoorJoin
import Derived.Test.YtcfdpbbpdnpnnaaDoorNot
namespace Go.Proofs.YtcfdpbbpdnpnnaaDoor
open Go Go.Proofs Go.RowKit Go.Shelf
set_option maxRecDepth 100000
/-- a piece as a value -/
def pceV (x : Rx.Pce) : Value := .agg #[.int .u64 (word x.first 0), .int .u64 (word x.first 1), .int .u64 (word x.first 2), .int .u64 (word x.first 3), .int .u64 (word x.last 0), .int .u64 (word x.last 1), .int .u64 (word x.last 2), .int .u64 (word x.last 3), .bool x.none]
def pceC (x : Rx.Pce) : List Value := [.int .u64 (word x.first 0), .int .u64 (word x.first 1), .int .u64 (word x.first 2), .int .u64 (word x.first 3), .int .u64 (word x.last 0), .int .u64 (word x.last 1), .int .u64 (word x.last 2), .int .u64 (word x.last 3), .bool x.none]
abbrev zeroP : Rx.Pce := ⟨0, 0, false⟩
theorem word_zero (i : Nat) : word 0 i = 0 := by unfold word wordN; simp
theorem pceV_zero : pceV zeroP = .agg #[.int .u64 0, .int .u64 0, .int .u64 0, .int .u64 0, .int .u64 0, .int .u64 0, .int .u64 0, .int .u64 0, .bool false] := by
  unfold pceV; simp only [word_zero]
theorem setV_zero : setV 0 = .agg #[.int .u64 0, .int .u64 0, .int .u64 0, .int .u64 0] := by
  unfold setV; simp only [word_zero]
abbrev rowV (g m cap : Nat) : Value := .slice (some ⟨g, 0, none⟩) m cap
theorem grown_set {w W : World} {row : Option Nat} (h : w.grownBy W row) {p : Addr} (hp : w.heap.size ≤ p.block) (u : Value) : w.grownBy (W.setCell p u) row :=
  ⟨h.os, h.tape, h.output, by simpa using h.size, fun k hk hr => (Below.heap_setCell _ _ _ _ (by omega)).trans (h.block k hk hr)⟩
theorem grown_alloc {w W : World} {row : Option Nat} (h : w.grownBy W row) (o : Obj) : w.grownBy (W.alloc o) row := grown_trans h (World.grownBy_alloc W o row)
theorem grown_drew {w W : World} {row : Option Nat} (h : w.grownBy W row) : w.grownBy W.drew row := ⟨h.os, h.tape, h.output, h.size, h.block⟩
theorem NetR.setCell {base g m cap b j : Nat} {w : World} {n : Rx.Nt} (h : NetR base w (rowV g m cap) n) (hb : g ≠ b) (h1 : 1 ≠ b) (u : Value) : NetR base (w.setCell ⟨b, j, none⟩ u) (rowV g m cap) n :=
  h.same (by simp) (fun x e => by cases e; exact Below.heap_setCell _ _ _ _ hb) (Below.heap_setCell _ _ _ _ h1)
theorem NetR.drew {base : Nat} {w : World} {v : Value} {n : Rx.Nt} (h : NetR base w v n) : NetR base w.drew v n := h.below (Below.refl _ _).drew
theorem NetR.grown {base g m cap b : Nat} {w w' : World} {n n' : Rx.Nt} (h : NetR base w (rowV g m cap) n) (hg : w.grownBy w' (some b)) (hb : g ≠ b) (h1 : 1 ≠ b) : NetR base w' (rowV g m cap) n :=
  h.same hg.size (fun x e => by cases e; exact hg.block _ (h.lt g rfl).2 (fun e2 => hb (by cases e2; rfl))) (hg.block _ h.tab.lt (fun e2 => h1 (by cases e2; rfl)))
theorem sor_w (a b : Nat) (w : World) :
    Calls Tryd.prog 41 #[.agg #[.int .u64 (word a 0), .int .u64 (word a 1), .int .u64 (word a 2), .int .u64 (word a 3)], .agg #[.int .u64 (word b 0), .int .u64 (word b 1), .int .u64 (word b 2), .int .u64 (word b 3)]] w fun e w' => e = .returned (.agg #[.int .u64 (word (a ||| b) 0), .int .u64 (word (a ||| b) 1), .int .u64 (word (a ||| b) 2), .int .u64 (word (a ||| b) 3)]) ∧ Below w.heap.size w w' := sor_any a b w
/-- the reader at block b: its text, its place, its net in row g -/
structure Rd (base b g cap : Nat) (s : ByteArray) (l : List UInt8) (k : Nat) (n : Rx.Nt) (w : World) : Prop where
  txt : s.data.toList = l
  ll : l.length ≤ 64
  kl : k ≤ l.length
  cells : At w b [.string s, .int .i64 (k : Int), rowV g n.length cap]
  net : NetR base w (rowV g n.length cap) n
  pos : 0 < n.length
  bg : b ≠ g
  b1 : b ≠ 1
/-- what a call of the reader keeps: all but the reader's block and its net's row -/
structure Kp (b g : Nat) (w : World) (g' : Nat) (w' : World) : Prop where
  os : w'.os = w.os
  tape : w'.tape = w.tape
  output : w'.output = w.output
  size : w.heap.size ≤ w'.heap.size
  block : ∀ k, k < w.heap.size → k ≠ b → k ≠ g → w'.heap[k]? = w.heap[k]?
  row : g' = g ∨ w.heap.size ≤ g'
theorem Kp.refl (b g : Nat) (w : World) : Kp b g w g w := ⟨rfl, rfl, rfl, Nat.le_refl _, fun _ _ _ _ => rfl, .inl rfl⟩
theorem Kp.trans {b g g1 g2 : Nat} {w w1 w2 : World} (h : Kp b g w g1 w1) (k : Kp b g1 w1 g2 w2) : Kp b g w g2 w2 :=
  ⟨k.os.trans h.os, k.tape.trans h.tape, k.output.trans h.output, Nat.le_trans h.size k.size,
    fun i hi h1 h2 => (k.block i (Nat.lt_of_lt_of_le hi h.size) h1 (fun e => by rcases h.row with r | r <;> omega)).trans (h.block i hi h1 h2),
    by have := h.size; rcases h.row with r | r <;> rcases k.row with q | q <;> first | (left; omega) | (right; omega)⟩
theorem Kp.below {b g g1 : Nat} {w w1 w2 : World} (h : Kp b g w g1 w1) (k : Below w1.heap.size w1 w2) : Kp b g w g1 w2 :=
  h.trans ⟨k.os, k.tape, k.output, k.size, fun i hi _ _ => k.block i hi, .inl rfl⟩
theorem Kp.grown {b g g1 : Nat} {w w1 w2 : World} (h : Kp b g w g1 w1) (k : w1.grownBy w2 (some g1)) : Kp b g w g1 w2 :=
  h.trans ⟨k.os, k.tape, k.output, k.size, fun i hi _ h2 => k.block i hi (fun e => h2 (by cases e; rfl)), .inl rfl⟩
theorem Kp.alloc {b g g1 : Nat} {w w1 : World} (h : Kp b g w g1 w1) (o : Obj) : Kp b g w g1 (w1.alloc o) := h.below ((Below.refl _ _).alloc (Nat.le_refl _) o)
theorem Kp.drew {b g g1 : Nat} {w w1 : World} (h : Kp b g w g1 w1) : Kp b g w g1 w1.drew := h.below (Below.refl _ _).drew
theorem Kp.setCell {b g g1 : Nat} {w w1 : World} (h : Kp b g w g1 w1) {p : Addr} (hp : w.heap.size ≤ p.block ∨ p.block = b) (u : Value) : Kp b g w g1 (w1.setCell p u) :=
  ⟨h.os, h.tape, h.output, by simpa using h.size, fun i hi h1 h2 => (Below.heap_setCell _ _ _ _ (by rcases hp with q | q <;> omega)).trans (h.block i hi h1 h2), h.row⟩
/-- a block of cells that is neither the reader's nor its row -/
theorem At.kp {b g g1 c : Nat} {w w1 : World} {l : List Value} (h : At w c l) (k : Kp b g w g1 w1) (hb : c ≠ b) (hg : c ≠ g) : At w1 c l := by
  have hk := k.block c h.lt hb hg
  exact ⟨Nat.lt_of_lt_of_le h.lt k.size, fun j v hj => (World.cell?_of_block (a := ⟨c, j, none⟩) hk).trans (h.cell j v hj), fun j v hj => (World.frozen?_of_block (a := ⟨c, j, none⟩) hk).trans (h.free j v hj)⟩
section
variable {base b g cap k : Nat} {s : ByteArray} {l : List UInt8} {n : Rx.Nt} {w : World}
theorem Rd.below {w' : World} (h : Rd base b g cap s l k n w) (hb : Below w.heap.size w w') : Rd base b g cap s l k n w' :=
  ⟨h.txt, h.ll, h.kl, h.cells.below hb, h.net.below hb, h.pos, h.bg, h.b1⟩
theorem Rd.alloc (h : Rd base b g cap s l k n w) (o : Obj) : Rd base b g cap s l k n (w.alloc o) := h.below ((Below.refl _ _).alloc (Nat.le_refl _) o)
theorem Rd.drew (h : Rd base b g cap s l k n w) : Rd base b g cap s l k n w.drew := h.below (Below.refl _ _).drew
/-- a store elsewhere -/
theorem Rd.far (h : Rd base b g cap s l k n w) {c : Nat} (j : Nat) (hb : c ≠ b) (hg : c ≠ g) (h1 : c ≠ 1) (u : Value) : Rd base b g cap s l k n (w.setCell ⟨c, j, none⟩ u) :=
  ⟨h.txt, h.ll, h.kl, h.cells.far hb u, h.net.setCell (fun e => hg e.symm) (fun e => h1 e.symm) u, h.pos, h.bg, h.b1⟩
/-- the place turned -/
theorem Rd.move (h : Rd base b g cap s l k n w) {k' : Nat} (hk : k' ≤ l.length) : Rd base b g cap s l k' n (w.setCell ⟨b, 1, none⟩ (.int .i64 (k' : Int))) :=
  ⟨h.txt, h.ll, hk, h.cells.set 1 _, h.net.setCell (fun e => h.bg e.symm) (fun e => h.b1 e.symm) _, h.pos, h.bg, h.b1⟩
theorem Rd.lt (h : Rd base b g cap s l k n w) : b < w.heap.size ∧ g < w.heap.size ∧ 1 < w.heap.size := ⟨h.cells.lt, (h.net.lt g rfl).2, h.net.tab.lt⟩
/-- behind a call that writes to the row alone -/
theorem Rd.rows {w' : World} {n' : Rx.Nt} (h : Rd base b g cap s l k n w) (hg : w.grownBy w' (some g)) (hl : n'.length = n.length) (hn : NetR base w' (rowV g n.length cap) n') : Rd base b g cap s l k n' w' :=
  ⟨h.txt, h.ll, h.kl, by rw [hl]; exact grown_at hg h.cells (fun e => h.bg (by cases e; rfl)), by rw [hl]; exact hn, by rw [hl]; exact h.pos, h.bg, h.b1⟩
end
theorem kp_append {b g g1 : Nat} {w w1 : World} (h : w.grownBy w1 (some g)) (hor : some g = some g1 ∨ g1 = w.heap.size) : Kp b g w g1 w1 :=
  ⟨h.os, h.tape, h.output, h.size, fun i hi _ h2 => h.block i hi (fun e => h2 (Option.some.inj e)), by rcases hor with e | e; exact .inl (Option.some.inj e).symm; exact .inr (by omega)⟩
theorem kp_row {b g g1 : Nat} {w w1 : World} (h : Kp b g w g1 w1) : g1 = g ∨ w.heap.size ≤ g1 := h.row
/-- the reader behind the store of its longer net -/
theorem Rd.grow {base b g cap g1 cap1 k : Nat} {s : ByteArray} {l : List UInt8} {n : Rx.Nt} {w w1 : World} {e : Nat × Nat} (R : Rd base b g cap s l k n w) (hl : n.length ≤ 90)
    (hown : w1.ownsRow base 47 8 (rowV g1 (n.length + 1) cap1) (n.length + 1) (cellsN n ++ nodeV e)) (hg : w.grownBy w1 (some g)) (hor : some g = some g1 ∨ g1 = w.heap.size) :
    Rd base b g1 cap1 s l k (n ++ [e]) (w1.setCell ⟨b, 2, none⟩ (rowV g1 (n.length + 1) cap1)) ∧ At w1 b [.string s, .int .i64 (k : Int), rowV g n.length cap] ∧ b ≠ g1 := by
  have hlt := R.lt
  have hbg1 : b ≠ g1 := by have := R.bg; rcases hor with e1 | e1; rw [← Option.some.inj e1]; exact this; omega
  have hb1 := R.b1
  have ht1 : g1 ≠ 1 := by
    rcases hor with e1 | e1
    · intro e2; exact R.net.nt (by rw [Value.ownBlock, Option.some.inj e1, e2])
    · omega
  have hne : (n ++ [e]).length = n.length + 1 := by simp
  have hc : cellsN (n ++ [e]) = cellsN n ++ nodeV e := by rw [cellsN_append]; simp [cellsN]
  have hA : At w1 b [.string s, .int .i64 (k : Int), rowV g n.length cap] := grown_at hg R.cells (fun e2 => R.bg (Option.some.inj e2).symm)
  have hN : NetR base w1 (rowV g1 (n.length + 1) cap1) (n ++ [e]) :=
    ⟨by rw [hne, hc]; exact hown, R.net.tab.of_block hg.size (hg.block _ hlt.2.2 (fun e2 => R.net.nt (by rw [Value.ownBlock]; exact e2.symm))), fun e2 => ht1 (Option.some.inj e2), by rw [hne]; omega⟩
  refine ⟨⟨R.txt, R.ll, R.kl, ?_, ?_, by rw [hne]; omega, hbg1, hb1⟩, hA, hbg1⟩
  · rw [hne]; exact hA.set 2 _
  · rw [hne]; exact hN.setCell (fun e2 => hbg1 e2.symm) (fun e2 => hb1 e2.symm) _
/-- what a call that turns the reader answers: v; the reader stands at j, its net is n' -/
def GP (base b g : Nat) (w : World) (s : ByteArray) (l : List UInt8) (v : Value) (j : Nat) (n' : Rx.Nt) (e : Ending) (w' : World) : Prop :=
  ∃ g' cap', e = .returned v ∧ Rd base b g' cap' s l j n' w' ∧ Kp b g w g' w'
/-- what a call that reads a part answers -/
def PP (base b g : Nat) (w : World) (s : ByteArray) (l : List UInt8) (n : Rx.Nt) (r : Rx.Res Rx.Pt) (e : Ending) (w' : World) : Prop := match r with
  | .ok p j => ∃ g' cap', e = .returned (.tuple #[pceV (Rx.build p n).1, .int .i64 0]) ∧ Rd base b g' cap' s l j (Rx.build p n).2 w' ∧ Kp b g w g' w'
  | .bad er j => ∃ g' cap' n' x, e = .returned (.tuple #[pceV x, .int .i64 (er : Int)]) ∧ n.length ≤ n'.length ∧ Rd base b g' cap' s l j n' w' ∧ Kp b g w g' w'
-- squeezed
theorem grown_sets4 {w W : World} {row : Option Nat} (h : w.grownBy W row) (a : Nat) (hp : w.heap.size ≤ a) (v0 v1 v2 v3 : Value) : w.grownBy ((((W.setCell ⟨a, 0, none⟩ v0).setCell ⟨a, 1, none⟩ v1).setCell ⟨a, 2, none⟩ v2).setCell ⟨a, 3, none⟩ v3) row := (grown_set (grown_set (grown_set (grown_set h (p := ⟨a, 0, none⟩) hp v0) (p := ⟨a, 1, none⟩) hp v1) (p := ⟨a, 2, none⟩) hp v2) (p := ⟨a, 3, none⟩) hp v3)
theorem NetR.sets4 {base g m cap : Nat} {w : World} {n : Rx.Nt} (h : NetR base w (rowV g m cap) n) (a : Nat) (h1 : g ≠ a) (h2 : 1 ≠ a) (v0 v1 v2 v3 : Value) : NetR base ((((w.setCell ⟨a, 0, none⟩ v0).setCell ⟨a, 1, none⟩ v1).setCell ⟨a, 2, none⟩ v2).setCell ⟨a, 3, none⟩ v3) (rowV g m cap) n := ((((h.setCell (b := a) (j := 0) h1 h2 v0).setCell (b := a) (j := 1) h1 h2 v1).setCell (b := a) (j := 2) h1 h2 v2).setCell (b := a) (j := 3) h1 h2 v3)
theorem Kp.sets4 {b g g1 : Nat} {w w1 : World} (h : Kp b g w g1 w1) (a : Nat) (hp : w.heap.size ≤ a ∨ a = b) (v0 v1 v2 v3 : Value) : Kp b g w g1 ((((w1.setCell ⟨a, 0, none⟩ v0).setCell ⟨a, 1, none⟩ v1).setCell ⟨a, 2, none⟩ v2).setCell ⟨a, 3, none⟩ v3) := ((((h.setCell (p := ⟨a, 0, none⟩) hp v0).setCell (p := ⟨a, 1, none⟩) hp v1).setCell (p := ⟨a, 2, none⟩) hp v2).setCell (p := ⟨a, 3, none⟩) hp v3)
theorem Rd.fars4 {base b g cap k : Nat} {s : ByteArray} {l : List UInt8} {n : Rx.Nt} {w : World} (h : Rd base b g cap s l k n w) (a : Nat) (h1 : a ≠ b) (h2 : a ≠ g) (h3 : a ≠ 1) (v0 v1 v2 v3 : Value) : Rd base b g cap s l k n ((((w.setCell ⟨a, 0, none⟩ v0).setCell ⟨a, 1, none⟩ v1).setCell ⟨a, 2, none⟩ v2).setCell ⟨a, 3, none⟩ v3) := ((((h.far (c := a) 0 h1 h2 h3 v0).far (c := a) 1 h1 h2 h3 v1).far (c := a) 2 h1 h2 h3 v2).far (c := a) 3 h1 h2 h3 v3)
theorem grown_sets9 {w W : World} {row : Option Nat} (h : w.grownBy W row) (a : Nat) (hp : w.heap.size ≤ a) (v0 v1 v2 v3 v4 v5 v6 v7 v8 : Value) : w.grownBy (((((((((W.setCell ⟨a, 0, none⟩ v0).setCell ⟨a, 1, none⟩ v1).setCell ⟨a, 2, none⟩ v2).setCell ⟨a, 3, none⟩ v3).setCell ⟨a, 4, none⟩ v4).setCell ⟨a, 5, none⟩ v5).setCell ⟨a, 6, none⟩ v6).setCell ⟨a, 7, none⟩ v7).setCell ⟨a, 8, none⟩ v8) row := (grown_set (grown_set (grown_set (grown_set (grown_set (grown_set (grown_set (grown_set (grown_set h (p := ⟨a, 0, none⟩) hp v0) (p := ⟨a, 1, none⟩) hp v1) (p := ⟨a, 2, none⟩) hp v2) (p := ⟨a, 3, none⟩) hp v3) (p := ⟨a, 4, none⟩) hp v4) (p := ⟨a, 5, none⟩) hp v5) (p := ⟨a, 6, none⟩) hp v6) (p := ⟨a, 7, none⟩) hp v7) (p := ⟨a, 8, none⟩) hp v8)
theorem NetR.sets9 {base g m cap : Nat} {w : World} {n : Rx.Nt} (h : NetR base w (rowV g m cap) n) (a : Nat) (h1 : g ≠ a) (h2 : 1 ≠ a) (v0 v1 v2 v3 v4 v5 v6 v7 v8 : Value) : NetR base (((((((((w.setCell ⟨a, 0, none⟩ v0).setCell ⟨a, 1, none⟩ v1).setCell ⟨a, 2, none⟩ v2).setCell ⟨a, 3, none⟩ v3).setCell ⟨a, 4, none⟩ v4).setCell ⟨a, 5, none⟩ v5).setCell ⟨a, 6, none⟩ v6).setCell ⟨a, 7, none⟩ v7).setCell ⟨a, 8, none⟩ v8) (rowV g m cap) n := (((((((((h.setCell (b := a) (j := 0) h1 h2 v0).setCell (b := a) (j := 1) h1 h2 v1).setCell (b := a) (j := 2) h1 h2 v2).setCell (b := a) (j := 3) h1 h2 v3).setCell (b := a) (j := 4) h1 h2 v4).setCell (b := a) (j := 5) h1 h2 v5).setCell (b := a) (j := 6) h1 h2 v6).setCell (b := a) (j := 7) h1 h2 v7).setCell (b := a) (j := 8) h1 h2 v8)
theorem Kp.sets9 {b g g1 : Nat} {w w1 : World} (h : Kp b g w g1 w1) (a : Nat) (hp : w.heap.size ≤ a ∨ a = b) (v0 v1 v2 v3 v4 v5 v6 v7 v8 : Value) : Kp b g w g1 (((((((((w1.setCell ⟨a, 0, none⟩ v0).setCell ⟨a, 1, none⟩ v1).setCell ⟨a, 2, none⟩ v2).setCell ⟨a, 3, none⟩ v3).setCell ⟨a, 4, none⟩ v4).setCell ⟨a, 5, none⟩ v5).setCell ⟨a, 6, none⟩ v6).setCell ⟨a, 7, none⟩ v7).setCell ⟨a, 8, none⟩ v8) := (((((((((h.setCell (p := ⟨a, 0, none⟩) hp v0).setCell (p := ⟨a, 1, none⟩) hp v1).setCell (p := ⟨a, 2, none⟩) hp v2).setCell (p := ⟨a, 3, none⟩) hp v3).setCell (p := ⟨a, 4, none⟩) hp v4).setCell (p := ⟨a, 5, none⟩) hp v5).setCell (p := ⟨a, 6, none⟩) hp v6).setCell (p := ⟨a, 7, none⟩) hp v7).setCell (p := ⟨a, 8, none⟩) hp v8)
theorem Rd.fars9 {base b g cap k : Nat} {s : ByteArray} {l : List UInt8} {n : Rx.Nt} {w : World} (h : Rd base b g cap s l k n w) (a : Nat) (h1 : a ≠ b) (h2 : a ≠ g) (h3 : a ≠ 1) (v0 v1 v2 v3 v4 v5 v6 v7 v8 : Value) : Rd base b g cap s l k n (((((((((w.setCell ⟨a, 0, none⟩ v0).setCell ⟨a, 1, none⟩ v1).setCell ⟨a, 2, none⟩ v2).setCell ⟨a, 3, none⟩ v3).setCell ⟨a, 4, none⟩ v4).setCell ⟨a, 5, none⟩ v5).setCell ⟨a, 6, none⟩ v6).setCell ⟨a, 7, none⟩ v7).setCell ⟨a, 8, none⟩ v8) := (((((((((h.far (c := a) 0 h1 h2 h3 v0).far (c := a) 1 h1 h2 h3 v1).far (c := a) 2 h1 h2 h3 v2).far (c := a) 3 h1 h2 h3 v3).far (c := a) 4 h1 h2 h3 v4).far (c := a) 5 h1 h2 h3 v5).far (c := a) 6 h1 h2 h3 v6).far (c := a) 7 h1 h2 h3 v7).far (c := a) 8 h1 h2 h3 v8)
theorem _root_.Go.RowKit.Below.sets4 {n : Nat} {w W : World} (h : Below n w W) (a : Nat) (hp : n ≤ a) (v0 v1 v2 v3 : Value) : Below n w ((((W.setCell ⟨a, 0, none⟩ v0).setCell ⟨a, 1, none⟩ v1).setCell ⟨a, 2, none⟩ v2).setCell ⟨a, 3, none⟩ v3) := ((((h.setCell (p := ⟨a, 0, none⟩) hp v0).setCell (p := ⟨a, 1, none⟩) hp v1).setCell (p := ⟨a, 2, none⟩) hp v2).setCell (p := ⟨a, 3, none⟩) hp v3)
theorem _root_.Go.RowKit.Below.sets9 {n : Nat} {w W : World} (h : Below n w W) (a : Nat) (hp : n ≤ a) (v0 v1 v2 v3 v4 v5 v6 v7 v8 : Value) : Below n w (((((((((W.setCell ⟨a, 0, none⟩ v0).setCell ⟨a, 1, none⟩ v1).setCell ⟨a, 2, none⟩ v2).setCell ⟨a, 3, none⟩ v3).setCell ⟨a, 4, none⟩ v4).setCell ⟨a, 5, none⟩ v5).setCell ⟨a, 6, none⟩ v6).setCell ⟨a, 7, none⟩ v7).setCell ⟨a, 8, none⟩ v8) := (((((((((h.setCell (p := ⟨a, 0, none⟩) hp v0).setCell (p := ⟨a, 1, none⟩) hp v1).setCell (p := ⟨a, 2, none⟩) hp v2).setCell (p := ⟨a, 3, none⟩) hp v3).setCell (p := ⟨a, 4, none⟩) hp v4).setCell (p := ⟨a, 5, none⟩) hp v5).setCell (p := ⟨a, 6, none⟩) hp v6).setCell (p := ⟨a, 7, none⟩) hp v7).setCell (p := ⟨a, 8, none⟩) hp v8)
theorem Rd.f {base b g cap k : Nat} {s : ByteArray} {l : List UInt8} {n : Rx.Nt} {w : World} (R : Rd base b g cap s l k n w) : w.cell? ⟨b, 0, none⟩ = some (.string s) ∧ w.cell? ⟨b, 1, none⟩ = some (.int .i64 (k : Int)) ∧ w.cell? ⟨b, 2, none⟩ = some (rowV g n.length cap) ∧ w.frozen? ⟨b, 1, none⟩ = false ∧ w.frozen? ⟨b, 2, none⟩ = false ∧ b < w.heap.size ∧ g < w.heap.size ∧ k ≤ l.length :=
  ⟨R.cells.cell 0 _ rfl, R.cells.cell 1 _ rfl, R.cells.cell 2 _ rfl, R.cells.free 1 _ rfl, R.cells.free 2 _ rfl, R.lt.1, R.lt.2.1, R.kl⟩
end Go.Proofs.YtcfdpbbpdnpnnaaDoor
