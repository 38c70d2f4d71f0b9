/- The reference's reader of patterns in memory, and its nodes; fail, one. -/
import Derived.Test.YthdoniefjmphaaaGreatDoorNet
import Derived.Test.YthdoniefjmphaaaGreatDoorPars
import Derived.Deep.QuietTactic
import Derived.BigQuiet
import Derived.WalkLawsBesides
namespace Go.Proofs.YthdoniefjmphaaaGreatDoor
open Go Go.Proofs Go.RowKit Go.Shelf
set_option maxRecDepth 100000
attribute [local go_sem] cell_set
structure Pa (b : Nat) (s : ByteArray) (l : List UInt8) (z dz bad pos : Int) (k dp : Nat) (w : World) : Prop where
 txt : s.data.toList = l
 ll : l.length ≤ 64
 kl : k ≤ l.length
 hk : z = (k : Int)
 hd : dz = (dp : Int)
 dl : dp ≤ 20
 cells : At w b [.string s, .int .i64 z, .int .i64 dz, .int .i64 bad, .int .i64 pos]
structure Kq (b : Nat) (w w' : World) : Prop where
 os : w'.os = w.os
 tape : w'.tape = w.tape
 output : w'.output = w.output
 size : w.heap.size ≤ w'.heap.size
 block : ∀ k, k < w.heap.size → k ≠ b → w'.heap[k]? = w.heap[k]?
theorem Kq.refl (b : Nat) (w : World) : Kq b w w := ⟨rfl, rfl, rfl, Nat.le_refl _, fun _ _ _ => rfl⟩
theorem Kq.trans {b : Nat} {w w1 w2 : World} (h : Kq b w w1) (k : Kq b w1 w2) : Kq b w w2 :=
 ⟨k.os.trans h.os, k.tape.trans h.tape, k.output.trans h.output, Nat.le_trans h.size k.size, fun i hi h1 => (k.block i (Nat.lt_of_lt_of_le hi h.size) h1).trans (h.block i hi h1)⟩
theorem Kq.below {b : Nat} {w w1 w2 : World} (h : Kq b w w1) (k : Below w1.heap.size w1 w2) : Kq b w w2 :=
 h.trans ⟨k.os, k.tape, k.output, k.size, fun i hi _ => k.block i hi⟩
theorem Kq.later {b : Nat} {w w1 w2 : World} (h : Kq b w w1) (k : Below w.heap.size w1 w2) : Kq b w w2 :=
 ⟨k.os.trans h.os, k.tape.trans h.tape, k.output.trans h.output, Nat.le_trans h.size k.size, fun i hi h1 => (k.block i hi).trans (h.block i hi h1)⟩
theorem Kq.grown {b : Nat} {w w1 w2 : World} {row : Option Nat} (h : Kq b w w1) (k : w1.grownBy w2 row) (hr : ∀ g, row = some g → w.heap.size ≤ g) : Kq b w w2 :=
 ⟨k.os.trans h.os, k.tape.trans h.tape, k.output.trans h.output, Nat.le_trans h.size k.size, fun i hi h1 => (k.block i (Nat.lt_of_lt_of_le hi h.size) (fun e => by have := hr i e.symm; omega)).trans (h.block i hi h1)⟩
theorem Kq.alloc {b : Nat} {w w1 : World} (h : Kq b w w1) (o : Obj) : Kq b w (w1.alloc o) := h.below ((Below.refl _ _).alloc (Nat.le_refl _) o)
theorem Kq.drew {b : Nat} {w w1 : World} (h : Kq b w w1) : Kq b w w1.drew := h.below (Below.refl _ _).drew
theorem rxbelow_dN {B : Nat} {w v : World} (h : Below B w v) (q : Nat) : Below B w (v.drewN q) := ⟨h.os, h.tape, h.output, h.size, h.block⟩
theorem Kq.drewN {b : Nat} {w w1 : World} (h : Kq b w w1) (q : Nat) : Kq b w (w1.drewN q) := ⟨h.os, h.tape, h.output, h.size, h.block⟩
theorem At.drewN {w : World} {b : Nat} {l : List Value} (h : At w b l) (q : Nat) : At (w.drewN q) b l := ⟨h.lt, h.cell, h.free⟩
theorem Kq.setCell {b : Nat} {w w1 : World} (h : Kq b w w1) {p : Addr} (hp : w.heap.size ≤ p.block ∨ p.block = b) (u : Value) : Kq b w (w1.setCell p u) :=
 ⟨h.os, h.tape, h.output, by simpa using h.size, fun i hi h1 => (Below.heap_setCell _ _ _ _ (by rcases hp with q | q <;> omega)).trans (h.block i hi h1)⟩
theorem At.kq {b c : Nat} {w w1 : World} {l : List Value} (h : At w c l) (k : Kq b w w1) (hb : c ≠ b) : At w1 c l := by
 have hk := k.block c h.lt hb;exact ⟨Nat.lt_of_lt_of_le h.lt k.size, fun j v hj => (World.cell?_of_block (a := ⟨c, j, none⟩) hk).trans (h.cell j v hj), fun j v hj => (World.frozen?_of_block (a := ⟨c, j, none⟩) hk).trans (h.free j v hj)⟩
section
variable {b : Nat} {s : ByteArray} {l : List UInt8} {z dz bad pos : Int} {k dp : Nat} {w : World}
theorem Pa.below {w' : World} (h : Pa b s l z dz bad pos k dp w) (hb : Below w.heap.size w w') : Pa b s l z dz bad pos k dp w' := ⟨h.txt, h.ll, h.kl, h.hk, h.hd, h.dl, h.cells.below hb⟩
theorem Pa.alloc (h : Pa b s l z dz bad pos k dp w) (o : Obj) : Pa b s l z dz bad pos k dp (w.alloc o) := h.below ((Below.refl _ _).alloc (Nat.le_refl _) o)
theorem Pa.drew (h : Pa b s l z dz bad pos k dp w) : Pa b s l z dz bad pos k dp w.drew := h.below (Below.refl _ _).drew
theorem Pa.drewN (h : Pa b s l z dz bad pos k dp w) (q : Nat) : Pa b s l z dz bad pos k dp (w.drewN q) := ⟨h.txt, h.ll, h.kl, h.hk, h.hd, h.dl, h.cells.drewN q⟩
theorem Pa.far (h : Pa b s l z dz bad pos k dp w) {c : Nat} (j : Nat) (hb : c ≠ b) (u : Value) : Pa b s l z dz bad pos k dp (w.setCell ⟨c, j, none⟩ u) := ⟨h.txt, h.ll, h.kl, h.hk, h.hd, h.dl, h.cells.far hb u⟩
theorem Pa.move (h : Pa b s l z dz bad pos k dp w) {z' : Int} {k' : Nat} (hk : z' = (k' : Int)) (hl : k' ≤ l.length) : Pa b s l z' dz bad pos k' dp (w.setCell ⟨b, 1, none⟩ (.int .i64 z')) := ⟨h.txt, h.ll, hl, hk, h.hd, h.dl, h.cells.set 1 _⟩
theorem Pa.deep (h : Pa b s l z dz bad pos k dp w) {d' : Int} {dp' : Nat} (hd : d' = (dp' : Int)) (hl : dp' ≤ 20) : Pa b s l z d' bad pos k dp' (w.setCell ⟨b, 2, none⟩ (.int .i64 d')) := ⟨h.txt, h.ll, h.kl, h.hk, hd, hl, h.cells.set 2 _⟩
theorem Pa.fails (h : Pa b s l z dz bad pos k dp w) (x y : Int) : Pa b s l z dz x y k dp ((w.setCell ⟨b, 3, none⟩ (.int .i64 x)).setCell ⟨b, 4, none⟩ (.int .i64 y)) := ⟨h.txt, h.ll, h.kl, h.hk, h.hd, h.dl, (h.cells.set 3 _).set 4 _⟩
theorem Pa.kq {c : Nat} {w' : World} (h : Pa b s l z dz bad pos k dp w) (q : Kq c w w') (hb : b ≠ c) : Pa b s l z dz bad pos k dp w' := ⟨h.txt, h.ll, h.kl, h.hk, h.hd, h.dl, h.cells.kq q hb⟩
end
theorem pfail_any (b : Nat) (s : ByteArray) (l : List UInt8) (z dz pos : Int) (k dp : Nat) (er at_ : Int) (w : World) (R : Pa b s l z dz 0 pos k dp w) :
  Calls Tryz.prog 38 #[.pointer (some ⟨b, 0, none⟩), .int .i64 er, .int .i64 at_] w fun e w' => e = .returned (.tuple #[]) ∧ Pa b s l z dz er at_ k dp w' ∧ Kq b w w' := by
 have a3 := R.cells.cell 3 _ rfl;have z3 := R.cells.free 3 _ rfl;have z4 := R.cells.free 4 _ rfl;have a4 := R.cells.cell 4 _ rfl;have nR := R.cells.lt;go_enter Tryz.func38, Tryz.ntmps38
 go_wp2
 exact bodyPost_end (results_none rfl _ _ _) rfl ⟨rfl, R.fails er at_, ((Kq.refl b w).setCell (.inr rfl) _).setCell (.inr rfl) _⟩
structure Nd where
 o : Int
 n : Bool
 sa : Option Addr
 sl : Nat
 sc : Nat
 ka : Option Addr
 kl : Nat
 kc : Nat
def ndV (x : Nd) : Value := .agg #[.int .u8 x.o, .bool x.n, .slice x.sa x.sl x.sc, .slice x.ka x.kl x.kc]
def ndC (x : Nd) : List Value := [.int .u8 x.o, .bool x.n, .slice x.sa x.sl x.sc, .slice x.ka x.kl x.kc]
def nd0 : Nd := ⟨0, false, none, 0, 0, none, 0, 0⟩
def SetIs (S : Nat → Prop) (w : World) (a : Option Addr) (n : Nat) (rs : List (Nat × Nat)) : Prop :=
 n = rs.length ∧ (0 < n ∧ n ≤ 70) ∧ ∃ g, a = some ⟨g, 0, none⟩ ∧ S g ∧ ∀ j r, rs[j]? = some r → w.cell? ⟨g, j * 2, none⟩ = some (.int .u8 (r.1 : Int)) ∧ w.cell? ⟨g, j * 2 + 1, none⟩ = some (.int .u8 (r.2 : Int))
def NodeIs (S : Nat → Prop) (w : World) : Nat → Nd → Rx.Pt → Prop
 | 0, _, _ => False
 | d + 1, x, p =>
  (∃ rs, x.o = 99 ∧ SetIs S w x.sa x.sl rs ∧ (∀ r ∈ rs, r.2 ≤ 126) ∧ p = .leaf (Rx.maskB x.n rs)) ∨
  (x.o = 46 ∧ p = .leaf Rx.fullM) ∨
  (∃ (ps : List Rx.Pt) (g : Nat), (x.o = 124 ∧ p = ps.foldl .alt .nil ∨ x.o = 38 ∧ p = ps.foldl .seq .eps) ∧ x.ka = some ⟨g, 0, none⟩ ∧ x.kl = ps.length ∧ 0 < ps.length ∧ ps.length ≤ 64 ∧ S g ∧
   ∀ j q, ps[j]? = some q → ∃ y, NodeIs S w d y q ∧ ∀ i v, (ndC y)[i]? = some v → w.cell? ⟨g, j * 4 + i, none⟩ = some v) ∨
  (∃ (q : Rx.Pt) (g : Nat), (x.o = 42 ∧ p = .star q ∨ x.o = 43 ∧ p = .plus q ∨ x.o = 63 ∧ p = .opt q) ∧ x.ka = some ⟨g, 0, none⟩ ∧ x.kl = 1 ∧ S g ∧
   ∃ y, NodeIs S w d y q ∧ ∀ i v, (ndC y)[i]? = some v → w.cell? ⟨g, i, none⟩ = some v)
theorem SetIs.keep {S S' : Nat → Prop} {w w' : World} {a : Option Addr} {n : Nat} {rs : List (Nat × Nat)} (h : SetIs S w a n rs) (hS : ∀ g, S g → S' g) (hw : ∀ g, S g → w'.heap[g]? = w.heap[g]?) : SetIs S' w' a n rs := by
 obtain ⟨h1, h2, g, e, hg, hc⟩ := h;exact ⟨h1, h2, g, e, hS g hg, fun j r hr => ⟨(World.cell?_of_block (a := ⟨g, j * 2, none⟩) (hw g hg)).trans (hc j r hr).1, (World.cell?_of_block (a := ⟨g, j * 2 + 1, none⟩) (hw g hg)).trans (hc j r hr).2⟩⟩
theorem NodeIs.keep {S S' : Nat → Prop} {w w' : World} (hS : ∀ g, S g → S' g) (hw : ∀ g, S g → w'.heap[g]? = w.heap[g]?) : ∀ (d : Nat) {x : Nd} {p : Rx.Pt}, NodeIs S w d x p → NodeIs S' w' d x p := by
 intro d;induction d with
 | zero => intro x p h; exact h.elim
 | succ d ih =>
  intro x p h;rcases h with ⟨rs, h1, h2, h3, h4⟩ | h | ⟨ps, g, h1, h2, h3, h4, h5, h6, h7⟩ | ⟨q, g, h1, h2, h3, h4, y, h5, h6⟩
  ·
   exact Or.inl ⟨rs, h1, h2.keep hS hw, h3, h4⟩
  ·
   exact Or.inr (Or.inl h)
  ·
   refine Or.inr (Or.inr (Or.inl ⟨ps, g, h1, h2, h3, h4, h5, hS g h6, fun j q hq => ?_⟩));obtain ⟨y, k1, k2⟩ := h7 j q hq;exact ⟨y, ih k1, fun i v hv => (World.cell?_of_block (a := ⟨g, j * 4 + i, none⟩) (hw g h6)).trans (k2 i v hv)⟩
  ·
   exact Or.inr (Or.inr (Or.inr ⟨q, g, h1, h2, h3, hS g h4, y, ih h5, fun i v hv => (World.cell?_of_block (a := ⟨g, i, none⟩) (hw g h4)).trans (h6 i v hv)⟩))
theorem NodeIs.up {S : Nat → Prop} {w : World} : ∀ (d : Nat) {x : Nd} {p : Rx.Pt}, NodeIs S w d x p → NodeIs S w (d + 1) x p := by
 intro d;induction d with
 | zero => intro x p h; exact h.elim
 | succ d ih =>
  intro x p h;rcases h with h | h | ⟨ps, g, h1, h2, h3, h4, h5, h6, h7⟩ | ⟨q, g, h1, h2, h3, h4, y, h5, h6⟩
  ·
   exact Or.inl h
  ·
   exact Or.inr (Or.inl h)
  ·
   refine Or.inr (Or.inr (Or.inl ⟨ps, g, h1, h2, h3, h4, h5, h6, fun j q hq => ?_⟩));obtain ⟨y, k1, k2⟩ := h7 j q hq;exact ⟨y, ih k1, k2⟩
  ·
   exact Or.inr (Or.inr (Or.inr ⟨q, g, h1, h2, h3, h4, y, ih h5, h6⟩))
theorem NodeIs.le {S : Nat → Prop} {w : World} {d d' : Nat} (hd : d ≤ d') {x : Nd} {p : Rx.Pt} (h : NodeIs S w d x p) : NodeIs S w d' x p := by
 obtain ⟨m, rfl⟩ : ∃ m, d' = d + m := ⟨d' - d, by omega⟩;induction m with
 | zero => exact h
 | succ m ih => exact (ih (by omega)).up
structure Kx (lo hi : Nat) (u w : World) : Prop where
 le : hi ≤ w.heap.size
 same : ∀ x, lo ≤ x → x < hi → w.heap[x]? = u.heap[x]?
theorem Kx.refl (lo : Nat) (w : World) : Kx lo w.heap.size w w := ⟨Nat.le_refl _, fun _ _ _ => rfl⟩
theorem Kx.below {lo hi : Nat} {u w w' : World} (h : Kx lo hi u w) (hb : Below w.heap.size w w') : Kx lo hi u w' :=
 ⟨Nat.le_trans h.le hb.size, fun x h1 h2 => (hb.block x (Nat.lt_of_lt_of_le h2 h.le)).trans (h.same x h1 h2)⟩
theorem Kx.alloc {lo hi : Nat} {u w : World} (h : Kx lo hi u w) (o : Obj) : Kx lo hi u (w.alloc o) := h.below ((Below.refl _ _).alloc (Nat.le_refl _) o)
theorem Kx.drewN {lo hi : Nat} {u w : World} (h : Kx lo hi u w) (q : Nat) : Kx lo hi u (w.drewN q) := h.below (rxbelow_dN (Below.refl _ _) q)
theorem Kx.kq {lo hi b : Nat} {u w w' : World} (h : Kx lo hi u w) (k : Kq b w w') (hb : b < lo ∨ hi ≤ b) : Kx lo hi u w' :=
 ⟨Nat.le_trans h.le k.size, fun x h1 h2 => (k.block x (Nat.lt_of_lt_of_le h2 h.le) (by omega)).trans (h.same x h1 h2)⟩
theorem Kx.grown {lo hi : Nat} {u w w' : World} {row : Option Nat} (h : Kx lo hi u w) (k : w.grownBy w' row) (hr : ∀ g, row = some g → g < lo ∨ hi ≤ g) : Kx lo hi u w' :=
 ⟨Nat.le_trans h.le k.size, fun x h1 h2 => (k.block x (Nat.lt_of_lt_of_le h2 h.le) (fun e => by have := hr x e.symm; omega)).trans (h.same x h1 h2)⟩
theorem Kx.setCell {lo hi : Nat} {u w : World} (h : Kx lo hi u w) {p : Addr} (hp : p.block < lo ∨ hi ≤ p.block) (v : Value) : Kx lo hi u (w.setCell p v) :=
 ⟨by simpa using h.le, fun x h1 h2 => (Below.heap_setCell _ _ _ _ (by omega)).trans (h.same x h1 h2)⟩
theorem Kq.sets4 {b : Nat} {w w1 : World} (h : Kq b w w1) (a : Nat) (hp : w.heap.size ≤ a ∨ a = b) (v0 v1 v2 v3 : Value) : Kq b w ((((w1.setCell ⟨a, 0, none⟩ v0).setCell ⟨a, 1, none⟩ v1).setCell ⟨a, 2, none⟩ v2).setCell ⟨a, 3, none⟩ v3) := ((((h.setCell (p := ⟨a, 0, none⟩) hp v0).setCell (p := ⟨a, 1, none⟩) hp v1).setCell (p := ⟨a, 2, none⟩) hp v2).setCell (p := ⟨a, 3, none⟩) hp v3)
theorem Kx.sets4 {lo hi : Nat} {u w : World} (h : Kx lo hi u w) (a : Nat) (hp : a < lo ∨ hi ≤ a) (v0 v1 v2 v3 : Value) : Kx lo hi u ((((w.setCell ⟨a, 0, none⟩ v0).setCell ⟨a, 1, none⟩ v1).setCell ⟨a, 2, none⟩ v2).setCell ⟨a, 3, none⟩ v3) := ((((h.setCell (p := ⟨a, 0, none⟩) hp v0).setCell (p := ⟨a, 1, none⟩) hp v1).setCell (p := ⟨a, 2, none⟩) hp v2).setCell (p := ⟨a, 3, none⟩) hp v3)
theorem Pa.fars4 {b : Nat} {s : ByteArray} {l : List UInt8} {z dz bad pos : Int} {k dp : Nat} {w : World} (h : Pa b s l z dz bad pos k dp w) (a : Nat) (h1 : a ≠ b) (v0 v1 v2 v3 : Value) : Pa b s l z dz bad pos k dp ((((w.setCell ⟨a, 0, none⟩ v0).setCell ⟨a, 1, none⟩ v1).setCell ⟨a, 2, none⟩ v2).setCell ⟨a, 3, none⟩ v3) := ((((h.far (c := a) 0 h1 v0).far (c := a) 1 h1 v1).far (c := a) 2 h1 v2).far (c := a) 3 h1 v3)
theorem Kq.sets9 {b : Nat} {w w1 : World} (h : Kq b w w1) (a : Nat) (hp : w.heap.size ≤ a ∨ a = b) (v0 v1 v2 v3 v4 v5 v6 v7 v8 : Value) : Kq b w (((((((((w1.setCell ⟨a, 0, none⟩ v0).setCell ⟨a, 1, none⟩ v1).setCell ⟨a, 2, none⟩ v2).setCell ⟨a, 3, none⟩ v3).setCell ⟨a, 4, none⟩ v4).setCell ⟨a, 5, none⟩ v5).setCell ⟨a, 6, none⟩ v6).setCell ⟨a, 7, none⟩ v7).setCell ⟨a, 8, none⟩ v8) := (((((((((h.setCell (p := ⟨a, 0, none⟩) hp v0).setCell (p := ⟨a, 1, none⟩) hp v1).setCell (p := ⟨a, 2, none⟩) hp v2).setCell (p := ⟨a, 3, none⟩) hp v3).setCell (p := ⟨a, 4, none⟩) hp v4).setCell (p := ⟨a, 5, none⟩) hp v5).setCell (p := ⟨a, 6, none⟩) hp v6).setCell (p := ⟨a, 7, none⟩) hp v7).setCell (p := ⟨a, 8, none⟩) hp v8)
theorem Kx.sets9 {lo hi : Nat} {u w : World} (h : Kx lo hi u w) (a : Nat) (hp : a < lo ∨ hi ≤ a) (v0 v1 v2 v3 v4 v5 v6 v7 v8 : Value) : Kx lo hi u (((((((((w.setCell ⟨a, 0, none⟩ v0).setCell ⟨a, 1, none⟩ v1).setCell ⟨a, 2, none⟩ v2).setCell ⟨a, 3, none⟩ v3).setCell ⟨a, 4, none⟩ v4).setCell ⟨a, 5, none⟩ v5).setCell ⟨a, 6, none⟩ v6).setCell ⟨a, 7, none⟩ v7).setCell ⟨a, 8, none⟩ v8) := (((((((((h.setCell (p := ⟨a, 0, none⟩) hp v0).setCell (p := ⟨a, 1, none⟩) hp v1).setCell (p := ⟨a, 2, none⟩) hp v2).setCell (p := ⟨a, 3, none⟩) hp v3).setCell (p := ⟨a, 4, none⟩) hp v4).setCell (p := ⟨a, 5, none⟩) hp v5).setCell (p := ⟨a, 6, none⟩) hp v6).setCell (p := ⟨a, 7, none⟩) hp v7).setCell (p := ⟨a, 8, none⟩) hp v8)
theorem Pa.fars9 {b : Nat} {s : ByteArray} {l : List UInt8} {z dz bad pos : Int} {k dp : Nat} {w : World} (h : Pa b s l z dz bad pos k dp w) (a : Nat) (h1 : a ≠ b) (v0 v1 v2 v3 v4 v5 v6 v7 v8 : Value) : Pa b s l z dz bad pos k dp (((((((((w.setCell ⟨a, 0, none⟩ v0).setCell ⟨a, 1, none⟩ v1).setCell ⟨a, 2, none⟩ v2).setCell ⟨a, 3, none⟩ v3).setCell ⟨a, 4, none⟩ v4).setCell ⟨a, 5, none⟩ v5).setCell ⟨a, 6, none⟩ v6).setCell ⟨a, 7, none⟩ v7).setCell ⟨a, 8, none⟩ v8) := (((((((((h.far (c := a) 0 h1 v0).far (c := a) 1 h1 v1).far (c := a) 2 h1 v2).far (c := a) 3 h1 v3).far (c := a) 4 h1 v4).far (c := a) 5 h1 v5).far (c := a) 6 h1 v6).far (c := a) 7 h1 v7).far (c := a) 8 h1 v8)
theorem Pa.f {b : Nat} {s : ByteArray} {l : List UInt8} {z dz bad pos : Int} {k dp : Nat} {w : World} (R : Pa b s l z dz bad pos k dp w) : w.cell? ⟨b, 0, none⟩ = some (.string s) ∧ w.cell? ⟨b, 1, none⟩ = some (.int .i64 z) ∧ w.cell? ⟨b, 2, none⟩ = some (.int .i64 dz) ∧ w.cell? ⟨b, 3, none⟩ = some (.int .i64 bad) ∧ w.cell? ⟨b, 4, none⟩ = some (.int .i64 pos) ∧ w.frozen? ⟨b, 1, none⟩ = false ∧ w.frozen? ⟨b, 2, none⟩ = false ∧ b < w.heap.size :=
 ⟨R.cells.cell 0 _ rfl, R.cells.cell 1 _ rfl, R.cells.cell 2 _ rfl, R.cells.cell 3 _ rfl, R.cells.cell 4 _ rfl, R.cells.free 1 _ rfl, R.cells.free 2 _ rfl, R.cells.lt⟩
def Rng (a b : World) (x : Nat) : Prop := a.heap.size ≤ x ∧ x < b.heap.size
theorem rone_any (c : Nat) (w : World) :
  Calls Tryz.prog 86 #[.int .u8 (c : Int)] w fun e w' => e = .returned (ndV ⟨99, false, some ⟨w.heap.size + 1, 0, none⟩, 1, 1, none, 0, 0⟩) ∧ Below w.heap.size w w' ∧ w'.heap.size = w.heap.size + 2 ∧ SetIs (Rng w w') w' (some ⟨w.heap.size + 1, 0, none⟩) 1 [(c, c)] := by
 go_enter Tryz.func86, Tryz.ntmps86
 go_wp2
 have D := At.new (w.alloc (nC 99 false (some ⟨w.heap.size + 1, 0, none⟩) 1 1 none 0 0)) #[.int .u8 (c : Int), .int .u8 (c : Int)] 147;have E := (At.new w #[.int .u8 99, .bool false, .slice (some ⟨w.heap.size + 1, 0, none⟩) 1 1, .slice none 0 0] 55).alloc (.cells #[.int .u8 (c : Int), .int .u8 (c : Int)] 147);have aE0 := E.cell 0 _ rfl;have aE1 := E.cell 1 _ rfl;have aE2 := E.cell 2 _ rfl;have aE3 := E.cell 3 _ rfl;refine bodyPost_ret (by simp [results, Tryz.results86, go_sem, aE0, aE1, aE2, aE3]; try rfl) rfl ?_;refine ⟨rfl, by go_grown, by simp, rfl, ⟨by decide, by decide⟩, w.heap.size + 1, rfl, ⟨by omega, by simp⟩, fun j r hj => ?_⟩
 match j, hj with
 | 0, hj =>
  cases hj
  exact ⟨by simp, by simp⟩
 | j + 1, hj => cases hj
end Go.Proofs.YthdoniefjmphaaaGreatDoor
