/- hist: rows of 65 counts in memory, taken and laid whole. -/
import Derived.Laws.Rows
import Derived.Laws.Tables
import Derived.WalkKit
import Derived.OwnWalkIn
import Derived.Test.YtohmliockehbkaaAt
import Derived.Test.YtohmliockehbkaaProg
namespace Go.Proofs.Ytohmliockehbkaa
open Go Go.Proofs Go.RowKit
set_option maxRecDepth 100000
def hc (h : List Int) : Array Value := (h.map (Value.int .i64)).toArray
theorem hc_size (h : List Int) : (hc h).size = h.length := by simp [hc]
theorem hc_get (h : List Int) (i : Nat) : (hc h)[i]? = (h[i]?).map (Value.int .i64) := by simp [hc]
theorem hc_one (h : List Int) : (hc h).all (·.oneCell') = true := by
  rw [Array.all_eq_true_iff_forall_mem]
  intro x hx
  simp only [hc, List.mem_toArray, List.mem_map] at hx
  obtain ⟨_, _, rfl⟩ := hx
  rfl
theorem hc_set (h : List Int) (i : Nat) (x : Int) : (hc h).setIfInBounds i (.int .i64 x) = hc (h.set i x) := by
  simp [hc, List.map_set]
/-- a row of counts lies in a block of its own -/
structure HAt (T : TypeId) (w : World) (b : Nat) (h : List Int) : Prop where
  blk : w.heap[b]? = some (.cells (hc h) T (0, 0))
  len : h.length = 65
section
variable {T : TypeId} {w wx : World} {b : Nat} {h : List Int}
theorem HAt.lt (H : HAt T w b h) : b < w.heap.size := (Array.getElem?_eq_some_iff.1 H.blk).1
theorem HAt.cell (H : HAt T w b h) {i : Nat} {x : Int} (hx : h[i]? = some x) : w.cell? ⟨b, i, none⟩ = some (.int .i64 x) := by
  rw [cell_of_row w b i _ _ _ H.blk, hc_get, hx]; rfl
theorem HAt.cell0 (H : HAt T w b h) {i : Nat} (hi : i < 65) : w.cell? ⟨b, i, none⟩ = some (.int .i64 (h.getD i 0)) := by
  have := H.len
  exact H.cell (by rw [List.getD_eq_getElem?_getD, List.getElem?_eq_getElem (by omega)]; rfl)
theorem HAt.free (H : HAt T w b h) (i : Nat) : w.frozen? ⟨b, i, none⟩ = false := frozen_of_row w b i _ _ H.blk
theorem HAt.keep (H : HAt T w b h) (e : wx.heap[b]? = w.heap[b]?) : HAt T wx b h := ⟨e.trans H.blk, H.len⟩
theorem HAt.below (H : HAt T w b h) (hb : Below w.heap.size w wx) : HAt T wx b h := H.keep (hb.block b H.lt)
theorem HAt.alloc (H : HAt T w b h) (o : Obj) : HAt T (w.alloc o) b h := H.keep (Below.heap_alloc w o b H.lt)
theorem HAt.drew (H : HAt T w b h) : HAt T w.drew b h := ⟨H.blk, H.len⟩
theorem HAt.far (H : HAt T w b h) {a j : Nat} (hne : b ≠ a) (v : Value) : HAt T (w.setCell ⟨a, j, none⟩ v) b h := H.keep (Below.heap_setCell w ⟨a, j, none⟩ v b hne)
theorem HAt.set (H : HAt T w b h) (i : Nat) (x : Int) : HAt T (w.setCell ⟨b, i, none⟩ (.int .i64 x)) b (h.set i x) :=
  ⟨by rw [heap_setCell_same w b i _ _ _ H.blk, hc_set], by simpa using H.len⟩
theorem HAt.farRow (H : HAt T w b h) {a : Nat} (hne : b ≠ a) (c : Array Value) : HAt T (w.setRow a c) b h := H.keep (setRow_other w a b c hne)
theorem HAt.row (H : HAt T w b h) {g : List Int} (hg : g.length = 65) : HAt T (w.setRow b (hc g)) b g := ⟨setRow_heap w b _ _ _ _ H.blk, hg⟩
end
theorem hat_new (w : World) (T : TypeId) {h : List Int} (hl : h.length = 65) : HAt T (w.alloc (.cells (hc h) T)) w.heap.size h := ⟨heap_alloc_new w _, hl⟩
theorem below_row {n : Nat} {w wx : World} {b : Nat} (hb : Below n w wx) (hn : n ≤ b) (c : Array Value) : Below n w (wx.setRow b c) :=
  ⟨hb.os, hb.tape, hb.output, by rw [setRow_size]; exact hb.size, fun k hk => (setRow_other wx b k c (by omega)).trans (hb.block k hk)⟩
/-- the two types of 65 numbers -/
structure Row65 (U : TypeId) : Prop where
  und : Try.prog.underlying U = some (.array 65 2)
  info : (Try.prog.info? U).map (·.size) = some 65
theorem rowH : Row65 25 := ⟨by kernel_rfl, by kernel_rfl⟩
theorem rowR : Row65 24 := ⟨by kernel_rfl, by kernel_rfl⟩
section
variable {ops : Array Oper} {rest : List Oper} {o : Oper} {a : Act} {w : World} {Q : Exit → Act → World → Prop} {U T : TypeId} {x y : Operand} {b : Nat} {h g : List Int}
theorem Row65.size (R : Row65 U) (hl : h.length = 65) : (Try.prog.info? U).map (·.size) = some (hc h).size := by rw [hc_size, hl]; exact R.info
theorem ld_row (R : Row65 U) (H : HAt T w b h) (hgd : o.guard = none) (ho : o.op = .load U x) (hx : a.eval x = .pointer (some ⟨b, 0, none⟩))
    (k : wpList Try.prog ops Q rest (a.put o.dst (.agg (hc h))) w) : wpList Try.prog ops Q (o :: rest) a w :=
  wpList_load_row hgd U x ho b hx T (hc h) (0, 0) _ H.blk R.und rfl (R.size H.len) k
theorem st_row (R : Row65 U) (H : HAt T w b h) (hgd : o.guard = none) (ho : o.op = .store U x y) (hx : a.eval x = .pointer (some ⟨b, 0, none⟩)) (hy : a.eval y = .agg (hc g)) (hg : g.length = 65)
    (k : wpList Try.prog ops Q rest (a.put o.dst undef) (w.setRow b (hc g))) : wpList Try.prog ops Q (o :: rest) a w :=
  wpList_store_row hgd U x y ho b (hc g) hx hy T (hc h) H.blk (R.size hg) (by rw [hc_size, hc_size, H.len, hg]) (hc_one g) k
/-- the walk stops behind it -/
theorem stS_row (R : Row65 U) (H : HAt T w b h) (hgd : o.guard = none) (ho : o.op = .store U x y) (hx : a.eval x = .pointer (some ⟨b, 0, none⟩)) (hy : a.eval y = .agg (hc g)) (hg : g.length = 65)
    (k : ∀ w2, w2 = w.setRow b (hc g) → wpList Try.prog ops Q rest (a.put o.dst undef) w2) : wpList Try.prog ops Q (o :: rest) a w :=
  st_row R H hgd ho hx hy hg (k _ rfl)
theorem ldG_row (R : Row65 U) (H : HAt T w b h) (hw : Region.wanted o (yielded ops a.tmps) = true) (ho : o.op = .load U x) (hx : a.eval x = .pointer (some ⟨b, 0, none⟩))
    (k : wpList Try.prog ops Q rest (a.put o.dst (.agg (hc h))) w) : wpList Try.prog ops Q (o :: rest) a w := by
  unfold wpList
  rw [if_pos hw]
  exact .inl (wp_load_row U x ho b hx T (hc h) (0, 0) _ H.blk R.und rfl (R.size H.len) k)
variable {F : Fence} {n : Nat}
theorem ldI_row (R : Row65 U) (H : HAt T w b h) (hgd : o.guard = none) (ho : o.op = .load U x) (hx : a.eval x = .pointer (some ⟨b, 0, none⟩))
    (k : wpListIn F n Try.prog ops Q rest (a.put o.dst (.agg (hc h))) w) : wpListIn F n Try.prog ops Q (o :: rest) a w := by
  refine wpListIn_plain hgd fun K hK => ?_
  unfold Oper.wpIn
  refine ⟨by simp [Oper.about, ho], ?_⟩
  rw [Oper.semAt_plain F _ _ (by rw [ho]; intro c hc'; cases hc')]
  simp only [execOp, ho, hx, Instr.loadAt, Instr.sureAddr, Sem.run_bind, Sem.run_pure, Result.andThen_ok, run_loadVar_row w b T U (hc h) (0, 0) _ H.blk R.und rfl (R.size H.len)]
  exact hK _ _ k
theorem stI_row (R : Row65 U) (H : HAt T w b h) (hgd : o.guard = none) (ho : o.op = .store U x y) (hx : a.eval x = .pointer (some ⟨b, 0, none⟩)) (hy : a.eval y = .agg (hc g)) (hg : g.length = 65)
    (k : wpListIn F n Try.prog ops Q rest (a.put o.dst undef) (w.setRow b (hc g))) : wpListIn F n Try.prog ops Q (o :: rest) a w := by
  refine wpListIn_plain hgd fun K hK => ?_
  unfold Oper.wpIn
  refine ⟨by simp [Oper.about, ho], ?_⟩
  rw [Oper.semAt_plain F _ _ (by rw [ho]; intro c hc'; cases hc')]
  simp only [execOp, ho, hx, hy, Instr.storeAt, Instr.sureAddr, Sem.run_bind, Sem.run_pure, Result.andThen_ok, run_storeVar_row w b T U (hc h) (hc g) H.blk (R.size hg) (by rw [hc_size, hc_size, H.len, hg]) (hc_one g)]
  exact hK _ _ k
end
def zs65 : List Int := List.replicate 65 0
theorem zs65_len : zs65.length = 65 := by simp [zs65]
theorem zeroH : ∀ w, (zeroValue 25).run Try.prog w = .ok (.agg (hc zs65)) w := fun w => by kernel_rfl
theorem zeroR : ∀ w, (zeroValue 24).run Try.prog w = .ok (.agg (hc zs65)) w := fun w => by kernel_rfl
theorem hc_ne {h : List Int} (hl : h.length = 65) : hc h ≠ #[] := by
  intro e
  have := hc_size h
  rw [e, hl] at this
  cases this
end Go.Proofs.Ytohmliockehbkaa
