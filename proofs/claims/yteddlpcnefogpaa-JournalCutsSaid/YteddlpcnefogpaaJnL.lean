/- A log in memory; Len, down, left, Sync. -/
import Derived.Test.YteddlpcnefogpaaJsm
namespace Go.Proofs.Yteddlpcnefogpaa
open Go Go.Proofs Go.RowKit Go.Shelf
set_option maxRecDepth 100000
abbrev lgC (b : Nat) (n c : Int) : Array Value := #[.pointer (some ⟨b, 0, none⟩), .int .i64 n, .int .i64 c]
/-- a log: its disk, the disk's size as it left it, how many records -/
structure LgAt (base : Nat) (w : World) (lb b : Nat) (v : Value) (d : Dk) (n c : Int) : Prop where
  dk : DkAt base w b v d
  blk : w.heap[lb]? = some (.cells (lgC b n c) 70 (0, 0))
  ge : base ≤ lb
theorem LgAt.ne {base : Nat} {w : World} {lb b : Nat} {v : Value} {d : Dk} {n c : Int} (h : LgAt base w lb b v d n c) : lb ≠ b ∧ v.ownBlock ≠ some lb := by
  constructor
  · rintro rfl
    have := h.blk.symm.trans h.dk.blk
    simp at this
  · intro e
    rcases h.dk.own.2 with ⟨rfl, _⟩ | ⟨g, cap, cur, rfl, _, hg, _⟩
    · simp [Value.ownBlock] at e
    · obtain rfl : g = lb := by simpa [Value.ownBlock] using e
      have := hg.symm.trans h.blk
      simp at this
theorem LgAt.at {base : Nat} {w : World} {lb b : Nat} {v : Value} {d : Dk} {n c : Int} (h : LgAt base w lb b v d n c) : At w lb [.pointer (some ⟨b, 0, none⟩), .int .i64 n, .int .i64 c] := At.of_block h.blk
theorem LgAt.lt {base : Nat} {w : World} {lb b : Nat} {v : Value} {d : Dk} {n c : Int} (h : LgAt base w lb b v d n c) : lb < w.heap.size := (Array.getElem?_eq_some_iff.1 h.blk).1
theorem LgAt.grow {base : Nat} {w w' : World} {lb b : Nat} {v : Value} {d : Dk} {n c : Int} (h : LgAt base w lb b v d n c) (g : w.grownBy w' none) : LgAt base w' lb b v d n c :=
  ⟨h.dk.grow g, (g.block lb h.lt (by simp)).trans h.blk, h.ge⟩
theorem LgAt.new {base : Nat} {w : World} {lb b : Nat} {v : Value} {d : Dk} {n c : Int} (h : LgAt base w lb b v d n c) (o : Obj) : LgAt base (w.alloc o) lb b v d n c := h.grow (World.grownBy_alloc w o none)
theorem LgAt.drewN {base : Nat} {w : World} {lb b : Nat} {v : Value} {d : Dk} {n c : Int} (h : LgAt base w lb b v d n c) (q : Nat) : LgAt base (w.drewN q) lb b v d n c := ⟨h.dk.drewN q, h.blk, h.ge⟩
theorem LgAt.op {base : Nat} {w w' : World} {lb b : Nat} {v v' : Value} {d d' : Dk} {n c : Int} (h : LgAt base w lb b v d n c) (t : DTo w w' b v v') (D : DkAt base w' b v' d') : LgAt base w' lb b v' d' n c :=
  ⟨D, (t.block lb h.lt h.ne.1 h.ne.2).trans h.blk, h.ge⟩
/-- only the log, its disk, the disk's row may have turned -/
structure LTo (w w' : World) (lb b : Nat) (v v' : Value) : Prop where
  os : w'.os = w.os
  tape : w'.tape = w.tape
  output : w'.output = w.output
  size : w.heap.size ≤ w'.heap.size
  block : ∀ k, k < w.heap.size → k ≠ lb → k ≠ b → v.ownBlock ≠ some k → w'.heap[k]? = w.heap[k]?
  new : ∀ g, v'.ownBlock = some g → v.ownBlock = some g ∨ w.heap.size ≤ g
theorem LTo.refl (w : World) (lb b : Nat) (v : Value) : LTo w w lb b v v := ⟨rfl, rfl, rfl, Nat.le_refl _, fun _ _ _ _ _ => rfl, fun _ e => .inl e⟩
theorem LTo.of {w w' : World} {b : Nat} {v v' : Value} (h : DTo w w' b v v') (lb : Nat) : LTo w w' lb b v v' := ⟨h.os, h.tape, h.output, h.size, fun k h1 _ h2 h3 => h.block k h1 h2 h3, h.new⟩
theorem LTo.trans {w w1 w2 : World} {lb b : Nat} {v v1 v2 : Value} (h : LTo w w1 lb b v v1) (k : LTo w1 w2 lb b v1 v2) : LTo w w2 lb b v v2 :=
  ⟨k.os.trans h.os, k.tape.trans h.tape, k.output.trans h.output, Nat.le_trans h.size k.size, fun i hi hl hb hv => (k.block i (Nat.lt_of_lt_of_le hi h.size) hl hb (fun e => by
    rcases h.new i e with q | q
    · exact hv q
    · omega)).trans (h.block i hi hl hb hv), fun g e => by
    rcases k.new g e with q | q
    · exact h.new g q
    · exact .inr (Nat.le_trans h.size q)⟩
theorem LTo.grown {w w' : World} {lb b : Nat} {v : Value} (h : w.grownBy w' none) : LTo w w' lb b v v := ⟨h.os, h.tape, h.output, h.size, fun k hk _ _ _ => h.block k hk (by simp), fun _ e => .inl e⟩
theorem LTo.set {w : World} {lb b j : Nat} {v x : Value} : LTo w (w.setCell ⟨lb, j, none⟩ x) lb b v v :=
  ⟨rfl, rfl, rfl, by simp [World.setCell], fun k _ hk _ _ => Below.heap_setCell _ _ _ k hk, fun _ e => .inl e⟩
theorem LTo.below {base : Nat} {w w' : World} {lb b : Nat} {v v' : Value} {d : Dk} {n c : Int} (t : LTo w w' lb b v v') (h : LgAt base w lb b v d n c) : Below base w w' :=
  ⟨t.os, t.tape, t.output, t.size, fun k hk => t.block k (by have := h.lt; have := h.ge; omega) (by have := h.ge; omega) (by have := h.dk.ge; omega) (fun e => by have := (World.ownsRow.lt h.dk.own k e).1; omega)⟩
/-- a row of the reference's records lies as it lay -/
theorem LTo.row {base B : Nat} {w w' : World} {lb b : Nat} {v v' vv : Value} {d : Dk} {n c : Int} {rs : List Rec} (t : LTo w w' lb b v v') (h : LgAt base w lb b v d n c) (hr : RRs B w vv rs) : RRs B w' vv rs := by
  refine ⟨hr.1, hr.2.imp id (fun ⟨g, cap, cur, q1, q2, q3, q4⟩ => ⟨g, cap, cur, q1, q2, (t.block g (Array.getElem?_eq_some_iff.1 q3).1 ?_ ?_ ?_).trans q3, q4⟩)⟩
  · rintro rfl
    have := q3.symm.trans h.blk
    simp at this
  · rintro rfl
    have := q3.symm.trans h.dk.blk
    simp at this
  · intro e
    rcases h.dk.own.2 with ⟨rfl, _⟩ | ⟨g', cap', cur', rfl, _, hg, _⟩
    · simp [Value.ownBlock] at e
    · obtain rfl : g' = g := by simpa [Value.ownBlock] using e
      have := hg.symm.trans q3
      simp at this
theorem llen_any (base lb b : Nat) (v : Value) (d : Dk) (n c : Int) (w : World) (h : LgAt base w lb b v d n c) :
    Calls Try.prog 14 #[.pointer (some ⟨lb, 0, none⟩)] w fun e w' => e = .returned (.int .i64 c) ∧ w = w' := by
  have hA := h.at.f3
  clear h
  go_enter Try.func14, Try.ntmps14
  go_wp2
  go_ret
  exact ⟨rfl, rfl⟩
theorem down_any (base lb b : Nat) (v : Value) (d : Dk) (n c : Int) (w : World) (h : LgAt base w lb b v d n c) :
    Calls Try.prog 30 #[.pointer (some ⟨lb, 0, none⟩)] w fun e w' => e = .returned (.bool d.off) ∧ w = w' := by
  have hA := h.at.f3
  have HO := Lib.hid (off_any base b v d w h.dk)
  clear h
  go_enter Try.func30, Try.ntmps30
  go_wp2_with fail
  refine HO.out.mono ?_
  rintro e w1 ⟨rfl, rfl⟩
  go_wp2
  go_ret
  exact ⟨rfl, rfl⟩
/-- how it is left -/
def LeftPost (base lb b : Nat) (v : Value) (d : Dk) (n c : Int) (e1 n1 c1 : Int) (w : World) (e : Ending) (w' : World) : Prop :=
  e = .returned (.int .i64 e1) ∧ LgAt base w' lb b v d (if e1 = 0 then n1 else n) (if e1 = 0 then c1 else c) ∧ LTo w w' lb b v v
theorem left_any (base lb b : Nat) (v : Value) (d : Dk) (n c e1 n1 c1 : Int) (w : World) (h : LgAt base w lb b v d n c) :
    Calls Try.prog 32 #[.pointer (some ⟨lb, 0, none⟩), .int .i64 e1, .int .i64 n1, .int .i64 c1] w (LeftPost base lb b v d n c e1 n1 c1 w) := by
  by_cases he : e1 = 0
  · subst he
    have hA := h.at.f3
    have hg : w.grownBy ((w.setCell ⟨lb, 1, none⟩ (.int .i64 n1)).setCell ⟨lb, 2, none⟩ (.int .i64 c1)) (some lb) := grownBy_trans (grownBy_set w lb 1 _) (grownBy_set _ lb 2 _) (fun g e => .inl e)
    have HP : Hid (LeftPost base lb b v d n c 0 n1 c1 w (.returned (.int .i64 0)) ((w.setCell ⟨lb, 1, none⟩ (.int .i64 n1)).setCell ⟨lb, 2, none⟩ (.int .i64 c1))) := by
      refine ⟨rfl, ⟨h.dk.kept hg (by intro e; cases e; exact h.ne.1 rfl) (fun g e q => by cases q; exact h.ne.2 e), ?_, h.ge⟩, LTo.set.trans LTo.set⟩
      exact blk_set (blk_set h.blk 1 _) 2 _
    clear h hg
    go_enter Try.func32, Try.ntmps32
    go_wp2
    go_ret
    exact HP.out
  · have HP : Hid (LeftPost base lb b v d n c e1 n1 c1 w (.returned (.int .i64 e1)) w) := by
      refine ⟨rfl, ?_, LTo.refl _ _ _ _⟩
      rw [if_neg he, if_neg he]; exact h
    have q : (e1 == 0) = false := by simpa using he
    clear h he
    go_enter Try.func32, Try.ntmps32
    go_wp2
    go_ret
    exact HP.out
theorem lsync_any (base lb b : Nat) (v : Value) (d : Dk) (n c : Int) (w : World) (h : LgAt base w lb b v d n c) (hops : d.ops < 4611686018427387904) :
    Calls Try.prog 22 #[.pointer (some ⟨lb, 0, none⟩)] w (OpPost base b v d.sync w) := by
  have hA := h.at.f3
  have HD := Lib.hid (down_any base lb b v d n c w h)
  by_cases ho : d.off = true
  · have e : d.sync = (13, d) := by unfold Dk.sync Dk.fin; rw [if_pos ho]; rfl
    have HP : Hid (OpPost base b v d.sync w (.returned (.int .i64 13)) w) := by rw [e]; exact ⟨rfl, v, h.dk, DTo.refl _ _ _⟩
    rw [ho] at HD
    clear h e
    go_enter Try.func22, Try.ntmps22
    go_wp2_with fail
    refine HD.out.mono ?_
    rintro e w1 ⟨rfl, rfl⟩
    go_wp2
    go_ret
    exact HP.out
  · have ho' : d.off = false := by simpa using ho
    rw [ho'] at HD
    have HS := Lib.hid (sync_any base b v d w h.dk hops)
    clear h ho ho'
    generalize d.sync = R at HS ⊢
    go_enter Try.func22, Try.ntmps22
    go_wp2_with fail
    refine HD.out.mono ?_
    rintro e w1 ⟨rfl, rfl⟩
    go_wp2_with fail
    refine HS.out.mono ?_
    rintro e w1 ⟨rfl, hp⟩
    have HP : Hid (OpPost base b v R w (.returned (.int .i64 R.1)) w1) := ⟨rfl, hp⟩
    clear hp HS HD
    go_wp2
    go_ret
    exact HP.out
end Go.Proofs.Yteddlpcnefogpaa
