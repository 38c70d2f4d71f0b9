/- A disk in memory: a struct and its row; what is asked of it; Cut. -/
import Derived.Test.YteddlpcnefogpaaDkD
import Derived.Test.YteddlpcnefogpaaTk7
import Derived.BigQuiet
import Derived.Deep.QuietTactic
namespace Go.Proofs.Yteddlpcnefogpaa
open Go Go.Proofs Go.RowKit Go.Shelf
set_option maxRecDepth 100000
attribute [local go_sem] Oper.semAt_some
/-- a disk: its bytes, how many are kept; off; which op is armed, what it leaves; how many ops told OK -/
structure Dk where
  row : List UInt8
  kept : Nat
  off : Bool
  armed : Int
  leave : Int
  ops : Int
/-- no number of it is great -/
structure Dk.Fits (d : Dk) : Prop where
  len : d.row.length ≤ 549755813888
  kept : d.kept ≤ d.row.length
  arm0 : 0 ≤ d.armed
  arm1 : d.armed ≤ 9223372036854775807
  lv0 : -9223372036854775808 ≤ d.leave
  lv1 : d.leave ≤ 9223372036854775807
  ops0 : 0 ≤ d.ops
  ops1 : d.ops ≤ 4611686018427387904
def dkC (v : Value) (d : Dk) : List Value := [v, .int .i64 (d.kept : Int), .bool d.off, .int .i64 d.armed, .int .i64 d.leave, .int .i64 d.ops]
structure DkAt (base : Nat) (w : World) (b : Nat) (v : Value) (d : Dk) : Prop where
  ge : base ≤ b
  blk : w.heap[b]? = some (.cells (dkC v d).toArray 67 (0, 0))
  own : w.ownsRow base 5 1 v d.row.length (Lib.byteCells d.row)
  fits : d.Fits
theorem DkAt.lt {base : Nat} {w : World} {b : Nat} {v : Value} {d : Dk} (h : DkAt base w b v d) : b < w.heap.size := (Array.getElem?_eq_some_iff.1 h.blk).1
theorem DkAt.at {base : Nat} {w : World} {b : Nat} {v : Value} {d : Dk} (h : DkAt base w b v d) : At w b (dkC v d) := At.of_block h.blk
theorem DkAt.not_row {base : Nat} {w : World} {b : Nat} {v : Value} {d : Dk} (h : DkAt base w b v d) : v.ownBlock ≠ some b := by
  intro e
  rcases h.own.2 with ⟨rfl, _⟩ | ⟨g, cap, cur, rfl, _, hg, _⟩
  · simp [Value.ownBlock] at e
  · obtain rfl : g = b := by simpa [Value.ownBlock] using e
    have := hg.symm.trans h.blk
    simp at this
theorem grownBy_set (w : World) (b j : Nat) (x : Value) : w.grownBy (w.setCell ⟨b, j, none⟩ x) (some b) := ⟨rfl, rfl, rfl, by simp [World.setCell], fun k _ hk => Below.heap_setCell _ _ _ k (fun e => hk (by rw [e]))⟩
/-- from w to w' only the disk at b, its row's block, may have turned; the row's block is the old one, or new -/
structure DTo (w w' : World) (b : Nat) (v v' : Value) : Prop where
  os : w'.os = w.os
  tape : w'.tape = w.tape
  output : w'.output = w.output
  size : w.heap.size ≤ w'.heap.size
  block : ∀ k, k < w.heap.size → k ≠ b → v.ownBlock ≠ some k → w'.heap[k]? = w.heap[k]?
  new : ∀ g, v'.ownBlock = some g → v.ownBlock = some g ∨ w.heap.size ≤ g
theorem DTo.refl (w : World) (b : Nat) (v : Value) : DTo w w b v v := ⟨rfl, rfl, rfl, Nat.le_refl _, fun _ _ _ _ => rfl, fun _ e => .inl e⟩
theorem DTo.trans {w w1 w2 : World} {b : Nat} {v v1 v2 : Value} (h : DTo w w1 b v v1) (k : DTo w1 w2 b v1 v2) : DTo w w2 b v v2 :=
  ⟨k.os.trans h.os, k.tape.trans h.tape, k.output.trans h.output, Nat.le_trans h.size k.size, fun i hi hb hv => (k.block i (Nat.lt_of_lt_of_le hi h.size) hb (fun e => by
    rcases h.new i e with q | q
    · exact hv q
    · omega)).trans (h.block i hi hb hv), fun g e => by
    rcases k.new g e with q | q
    · exact h.new g q
    · exact .inr (Nat.le_trans h.size q)⟩
theorem DTo.grown {w w' : World} {b : Nat} {v v' : Value} (h : w.grownBy w' v.ownBlock) (hn : ∀ g, v'.ownBlock = some g → v.ownBlock = some g ∨ w.heap.size ≤ g) : DTo w w' b v v' :=
  ⟨h.os, h.tape, h.output, h.size, fun k hk _ hv => h.block k hk (fun e => hv e.symm), hn⟩
theorem DTo.set {w : World} {b j : Nat} {v : Value} {x : Value} : DTo w (w.setCell ⟨b, j, none⟩ x) b v v :=
  ⟨rfl, rfl, rfl, by simp [World.setCell], fun k _ hk _ => Below.heap_setCell _ _ _ k hk, fun _ e => .inl e⟩
theorem DTo.val {w w' : World} {b : Nat} {v v1 v2 : Value} (h : DTo w w' b v v1) (e : v2.ownBlock = v1.ownBlock) : DTo w w' b v v2 := ⟨h.os, h.tape, h.output, h.size, h.block, fun g q => h.new g (e ▸ q)⟩
theorem DTo.below {w w' : World} {b B : Nat} {v v' : Value} (h : DTo w w' b v v') (hb : B ≤ b) (hs : B ≤ w.heap.size) (hv : ∀ g, v.ownBlock = some g → B ≤ g) : Below B w w' :=
  ⟨h.os, h.tape, h.output, h.size, fun k hk => h.block k (by omega) (by omega) (fun e => by have := hv k e; omega)⟩
theorem DkAt.below {base : Nat} {w w' : World} {b : Nat} {v v' : Value} {d : Dk} (h : DkAt base w b v d) (t : DTo w w' b v v') : Below base w w' :=
  t.below h.ge (Nat.le_of_lt (Nat.lt_of_le_of_lt h.ge h.lt)) (fun g e => (World.ownsRow.lt h.own g e).1)
/-- what is kept of another disk -/
theorem DkAt.kept {base : Nat} {w w' : World} {b : Nat} {v : Value} {d : Dk} (h : DkAt base w b v d) {r : Option Nat} (hg : w.grownBy w' r) (hb : r ≠ some b) (hv : ∀ g, v.ownBlock = some g → r ≠ some g) : DkAt base w' b v d :=
  ⟨h.ge, (hg.block b h.lt (fun e => hb e.symm)).trans h.blk, h.own.kept hg (by
    rcases q : v.ownBlock with _ | g
    · exact .inl rfl
    · exact .inr (fun e => hv g q e.symm)), h.fits⟩
theorem DkAt.far {base : Nat} {w w' : World} {b b' : Nat} {v u u' : Value} {d : Dk} (h : DkAt base w b v d) (t : DTo w w' b' u u') (hb : b ≠ b') (hu : u.ownBlock ≠ some b) (hv : v.ownBlock ≠ some b') (hvu : ∀ g, v.ownBlock = some g → u.ownBlock ≠ some g) : DkAt base w' b v d := by
  refine ⟨h.ge, (t.block b h.lt hb hu).trans h.blk, ⟨h.own.1, ?_⟩, h.fits⟩
  rcases h.own.2 with hn | ⟨g, cap, cur, rfl, hbg, hgg, rest⟩
  · exact .inl hn
  · exact .inr ⟨g, cap, cur, rfl, hbg, (t.block g (Array.getElem?_eq_some_iff.1 hgg).1 (fun e => hv (by rw [← e]; rfl)) (hvu g rfl)).trans hgg, rest⟩
theorem DkAt.drewN {base : Nat} {w : World} {b : Nat} {v : Value} {d : Dk} (h : DkAt base w b v d) (q : Nat) : DkAt base (w.drewN q) b v d := ⟨h.ge, h.blk, h.own, h.fits⟩
theorem tail_any (base b : Nat) (v : Value) (d : Dk) (w : World) (h : DkAt base w b v d) :
    Calls Try.prog 35 #[.pointer (some ⟨b, 0, none⟩)] w fun e w' => e = .returned (.int .i64 (((d.row.length - d.kept : Nat)) : Int)) ∧ ∃ q, w' = w.drewN q := by
  obtain ⟨va, vc, rfl⟩ : ∃ a cap, v = .slice a d.row.length cap := by
    rcases h.own.2 with ⟨rfl, h0⟩ | ⟨g, cap, cur, rfl, _⟩
    · rw [h0]; exact ⟨_, _, rfl⟩
    · exact ⟨_, _, rfl⟩
  have hA := h.at.f6
  have hk := h.fits.kept
  have hl := h.fits.len
  have e1 : wrap64 ((d.row.length : Int) - (d.kept : Int)) = (d.row.length : Int) - (d.kept : Int) := by unfold wrap64; omega
  have e2 : IntKind.i64.wrap ((d.row.length : Int) - (d.kept : Int)) = (d.row.length : Int) - (d.kept : Int) := by rw [IntKind.wrap_i64]; omega
  have HE : Hid (((d.row.length - d.kept : Nat) : Int) = (d.row.length : Int) - (d.kept : Int)) := by show _ = _; omega
  clear h hk hl
  go_enter Try.func35, Try.ntmps35
  go_wp2
  go_quiet (fail)
  all_goals go_wp2
  all_goals (go_ret; exact ⟨by rw [HE.out]; rfl, _, rfl⟩)
theorem off_any (base b : Nat) (v : Value) (d : Dk) (w : World) (h : DkAt base w b v d) :
    Calls Try.prog 20 #[.pointer (some ⟨b, 0, none⟩)] w fun e w' => e = .returned (.bool d.off) ∧ w = w' := by
  have hA := h.at.f6
  clear h
  go_enter Try.func20, Try.ntmps20
  go_wp2
  go_ret
  exact ⟨rfl, rfl⟩
theorem len_any (base b : Nat) (v : Value) (d : Dk) (w : World) (h : DkAt base w b v d) :
    Calls Try.prog 26 #[.pointer (some ⟨b, 0, none⟩)] w fun e w' => e = .returned (.int .i64 (d.row.length : Int)) ∧ w = w' := by
  obtain ⟨va, vc, rfl⟩ : ∃ a cap, v = .slice a d.row.length cap := by
    rcases h.own.2 with ⟨rfl, h0⟩ | ⟨g, cap, cur, rfl, _⟩
    · rw [h0]; exact ⟨_, _, rfl⟩
    · exact ⟨_, _, rfl⟩
  have hA := h.at.f6
  clear h
  go_enter Try.func26, Try.ntmps26
  go_wp2
  go_ret
  exact ⟨rfl, rfl⟩
theorem on_any (base b : Nat) (v : Value) (d : Dk) (w : World) (h : DkAt base w b v d) :
    Calls Try.prog 24 #[.pointer (some ⟨b, 0, none⟩)] w fun e w' => e = .returned (.tuple #[]) ∧ DkAt base w' b v { d with off := false } ∧ DTo w w' b v v := by
  have hA := h.at.f6
  have HP : Hid (DkAt base (w.setCell ⟨b, 2, none⟩ (.bool false)) b v { d with off := false } ∧ DTo w (w.setCell ⟨b, 2, none⟩ (.bool false)) b v v) :=
    ⟨⟨h.ge, blk_set h.blk 2 _, h.own.kept (grownBy_set w b 2 _) (.inr h.not_row), ⟨h.fits.len, h.fits.kept, h.fits.arm0, h.fits.arm1, h.fits.lv0, h.fits.lv1, h.fits.ops0, h.fits.ops1⟩⟩, DTo.set⟩
  clear h
  go_enter Try.func24, Try.ntmps24
  go_wp2
  first
    | (go_end0; exact ⟨rfl, HP.out⟩)
    | (go_ret; exact ⟨rfl, HP.out⟩)
end Go.Proofs.Yteddlpcnefogpaa
