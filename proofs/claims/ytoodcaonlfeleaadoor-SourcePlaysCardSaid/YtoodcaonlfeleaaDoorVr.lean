/- Rows of values in memory, taken and laid whole, or a part of them. -/
import Derived.Laws.Rows
import Derived.Laws.Tables
import Derived.Deep.MidRow
import Derived.WalkKit
import Derived.OwnWalkIn
import Derived.Test.YtoodcaonlfeleaaDoorAt
import Derived.Test.YtoodcaonlfeleaaDoorProg
namespace Go.Proofs.YtoodcaonlfeleaaDoor
open Go Go.Proofs Go.RowKit
set_option maxRecDepth 100000
/-- so many cells, each of them one -/
structure RC (n : Nat) (c : List Value) : Prop where
  len : c.length = n
  one : ∀ v ∈ c, v.oneCell' = true
/-- a row lies in a block of its own -/
structure VAt (T : TypeId) (w : World) (b : Nat) (c : List Value) : Prop where
  blk : w.heap[b]? = some (.cells c.toArray T (0, 0))
section
variable {T : TypeId} {w wx : World} {b : Nat} {c : List Value}
theorem VAt.lt (H : VAt T w b c) : b < w.heap.size := (Array.getElem?_eq_some_iff.1 H.blk).1
theorem VAt.cell (H : VAt T w b c) {i : Nat} {x : Value} (hx : c[i]? = some x) : w.cell? ⟨b, i, none⟩ = some x := by
  rw [cell_of_row w b i _ _ _ H.blk, List.getElem?_toArray, hx]
theorem VAt.free (H : VAt T w b c) (i : Nat) : w.frozen? ⟨b, i, none⟩ = false := frozen_of_row w b i _ _ H.blk
theorem VAt.keep (H : VAt T w b c) (e : wx.heap[b]? = w.heap[b]?) : VAt T wx b c := ⟨e.trans H.blk⟩
theorem VAt.below (H : VAt T w b c) (hb : Below w.heap.size w wx) : VAt T wx b c := H.keep (hb.block b H.lt)
theorem VAt.grown (H : VAt T w b c) {r : Option Nat} (hb : w.grownBy wx r) (hn : r ≠ some b) : VAt T wx b c := H.keep (hb.block b H.lt (fun e => hn e.symm))
theorem VAt.alloc (H : VAt T w b c) (o : Obj) : VAt T (w.alloc o) b c := H.keep (Below.heap_alloc w o b H.lt)
theorem VAt.drew (H : VAt T w b c) : VAt T w.drew b c := ⟨H.blk⟩
theorem VAt.far (H : VAt T w b c) {a j : Nat} (hne : b ≠ a) (v : Value) : VAt T (w.setCell ⟨a, j, none⟩ v) b c := H.keep (Below.heap_setCell w ⟨a, j, none⟩ v b hne)
theorem VAt.set (H : VAt T w b c) (i : Nat) (x : Value) : VAt T (w.setCell ⟨b, i, none⟩ x) b (c.set i x) :=
  ⟨by rw [heap_setCell_same w b i _ _ _ H.blk, List.setIfInBounds_toArray]⟩
theorem VAt.farRow (H : VAt T w b c) {a : Nat} (hne : b ≠ a) (d : Array Value) : VAt T (w.setRow a d) b c := H.keep (setRow_other w a b d hne)
theorem VAt.row (H : VAt T w b c) (d : List Value) : VAt T (w.setRow b d.toArray) b d := ⟨setRow_heap w b _ _ _ _ H.blk⟩
theorem VAt.toAt (H : VAt T w b c) : At w b c := by have := At.of_block H.blk; simpa using this
end
theorem vat_new (w : World) (T : TypeId) (c : List Value) : VAt T (w.alloc (.cells c.toArray T)) w.heap.size c := ⟨heap_alloc_new w _⟩
theorem below_row {n : Nat} {w wx : World} {b : Nat} (hb : Below n w wx) (hn : n ≤ b) (c : Array Value) : Below n w (wx.setRow b c) :=
  ⟨hb.os, hb.tape, hb.output, by rw [setRow_size]; exact hb.size, fun k hk => (setRow_other wx b k c (by omega)).trans (hb.block k hk)⟩
theorem wr64 {n : Int} (h : -9223372036854775808 ≤ n) (k : n ≤ 9223372036854775807) : wrap64 n = n := by rw [wrap64]; omega
theorem cell_set {w : World} {p : Addr} {v : Value} (h : (w.cell? p).isSome = true) : (w.setCell p v).cell? p = some v := by
  obtain ⟨u, hu⟩ := Option.isSome_iff_exists.1 h
  exact World.cell?_setCell_same _ _ _ hu
/-- a type of so many cells -/
structure RowT (U : TypeId) (n : Nat) : Prop where
  ex : ∃ d, Tryd.prog.underlying U = some d ∧ d.isRow = true
  info : (Tryd.prog.info? U).map (·.size) = some n
section
variable {ops : Array Oper} {rest : List Oper} {o : Oper} {a : Act} {w : World} {Q : Exit → Act → World → Prop} {U T : TypeId} {x y : Operand} {b n off : Nat} {c g : List Value}
theorem RowT.size (R : RowT U n) (hl : RC n c) : (Tryd.prog.info? U).map (·.size) = some c.toArray.size := by rw [List.size_toArray, hl.len]; exact R.info
theorem rc_one (h : RC n c) : c.toArray.all (·.oneCell') = true := Array.all_eq_true_iff_forall_mem.2 (fun v hv => h.one v (by simpa using hv))
theorem ld_v (R : RowT U n) (hl : RC n c) (H : VAt T w b c) (hgd : o.guard = none) (ho : o.op = .load U x) (hx : a.eval x = .pointer (some ⟨b, 0, none⟩))
    (k : wpList Tryd.prog ops Q rest (a.put o.dst (.agg c.toArray)) w) : wpList Tryd.prog ops Q (o :: rest) a w := by
  obtain ⟨d, hu, hr⟩ := R.ex
  exact wpList_load_row hgd U x ho b hx T c.toArray (0, 0) _ H.blk hu (by cases d <;> simp_all [TypeDesc.isRow]) (R.size hl) k
theorem st_v (R : RowT U n) (hl : RC n c) (hg : RC n g) (H : VAt T w b c) (hgd : o.guard = none) (ho : o.op = .store U x y) (hx : a.eval x = .pointer (some ⟨b, 0, none⟩)) (hy : a.eval y = .agg g.toArray)
    (k : wpList Tryd.prog ops Q rest (a.put o.dst undef) (w.setRow b g.toArray)) : wpList Tryd.prog ops Q (o :: rest) a w :=
  wpList_store_row hgd U x y ho b g.toArray hx hy T c.toArray H.blk (R.size hg) (by simp [hl.len, hg.len]) (rc_one hg) k
theorem ld_m (R : RowT U n) (hc : w.rangeAt b off c) (hl : c.length = n) (hgd : o.guard = none) (ho : o.op = .load U x) (hx : a.eval x = .pointer (some ⟨b, off, none⟩))
    (k : wpList Tryd.prog ops Q rest (a.put o.dst (.agg c.toArray)) w) : wpList Tryd.prog ops Q (o :: rest) a w := by
  obtain ⟨d, hu, hr⟩ := R.ex
  exact wpList_load_mid hgd U x ho b off hx c d hc hu hr (by rw [hl]; exact R.info) k
theorem ldY_v {C : World → Prop} (hC : ∀ u, C u → VAt T u b c) (R : RowT U n) (hl : RC n c) (hw : Region.wanted o (yielded ops a.tmps) = true) (ho : o.op = .load U x) (hx : a.eval x = .pointer (some ⟨b, 0, none⟩)) :
    YieldsIf Tryd.prog ops C o (.agg c.toArray) a := by
  obtain ⟨d, hu, hr⟩ := R.ex
  refine .inl ⟨hw, fun w hw => ?_⟩
  have H := hC w hw
  unfold execOp
  simp only [ho, hx, Instr.loadAt, Instr.sureAddr, Sem.run_bind, Sem.run_pure, Result.andThen_ok, run_loadVar_row w b _ _ c.toArray (0, 0) d H.blk hu (by cases d <;> simp_all [TypeDesc.isRow]) (R.size hl)]
variable {F : Fence} {m : Nat}
theorem ldI_v (R : RowT U n) (hl : RC n c) (H : VAt T w b c) (hgd : o.guard = none) (ho : o.op = .load U x) (hx : a.eval x = .pointer (some ⟨b, 0, none⟩))
    (k : wpListIn F m Tryd.prog ops Q rest (a.put o.dst (.agg c.toArray)) w) : wpListIn F m Tryd.prog ops Q (o :: rest) a w := by
  obtain ⟨d, hu, hr⟩ := R.ex
  refine wpListIn_plain hgd fun K hK => ?_
  unfold Oper.wpIn
  refine ⟨by simp [Oper.about, ho], ?_⟩
  rw [Oper.semAt_plain F _ _ (by rw [ho]; intro c hc'; cases hc')]
  simp only [execOp, ho, hx, Instr.loadAt, Instr.sureAddr, Sem.run_bind, Sem.run_pure, Result.andThen_ok, run_loadVar_row w b T U c.toArray (0, 0) d H.blk hu (by cases d <;> simp_all [TypeDesc.isRow]) (R.size hl)]
  exact hK _ _ k
theorem ldI_m (R : RowT U n) (hc : w.rangeAt b off c) (hl : c.length = n) (hgd : o.guard = none) (ho : o.op = .load U x) (hx : a.eval x = .pointer (some ⟨b, off, none⟩))
    (k : wpListIn F m Tryd.prog ops Q rest (a.put o.dst (.agg c.toArray)) w) : wpListIn F m Tryd.prog ops Q (o :: rest) a w := by
  obtain ⟨d, hu, hr⟩ := R.ex
  refine wpListIn_plain hgd fun K hK => ?_
  unfold Oper.wpIn
  refine ⟨by simp [Oper.about, ho], ?_⟩
  rw [Oper.semAt_plain F _ _ (by rw [ho]; intro c hc'; cases hc')]
  simp only [execOp, ho, hx, Instr.loadAt, Instr.sureAddr, Sem.run_bind, Sem.run_pure, Result.andThen_ok, run_loadVar_mid w b off U c d hc hu hr (by rw [hl]; exact R.info)]
  exact hK _ _ k
theorem stI_v (R : RowT U n) (hl : RC n c) (hg : RC n g) (H : VAt T w b c) (hgd : o.guard = none) (ho : o.op = .store U x y) (hx : a.eval x = .pointer (some ⟨b, 0, none⟩)) (hy : a.eval y = .agg g.toArray)
    (k : wpListIn F m Tryd.prog ops Q rest (a.put o.dst undef) (w.setRow b g.toArray)) : wpListIn F m Tryd.prog ops Q (o :: rest) a w := by
  refine wpListIn_plain hgd fun K hK => ?_
  unfold Oper.wpIn
  refine ⟨by simp [Oper.about, ho], ?_⟩
  rw [Oper.semAt_plain F _ _ (by rw [ho]; intro c hc'; cases hc')]
  simp only [execOp, ho, hx, hy, Instr.storeAt, Instr.sureAddr, Sem.run_bind, Sem.run_pure, Result.andThen_ok, run_storeVar_row w b T U c.toArray g.toArray H.blk (R.size hg) (by simp [hl.len, hg.len]) (rc_one hg)]
  exact hK _ _ k
end
theorem res_v {fn : Func} {p : Tmp} {U T : TypeId} {n g : Nat} {c : List Value} {w : World} {tmps : Array Value} (h : fn.results = #[.cell p U]) (hp : tmps.getD p undef = .pointer (some ⟨g, 0, none⟩)) (R : RowT U n) (hl : RC n c) (H : VAt T w g c) :
    (results fn tmps).run Tryd.prog w = .ok (.agg c.toArray) w := by
  obtain ⟨d, hu, hr⟩ := R.ex
  exact results_cell_row h tmps w g T c.toArray (0, 0) d hp H.blk hu (by cases d <;> simp_all [TypeDesc.isRow]) (R.size hl)
theorem res_vt {fn : Func} {p q : Tmp} {U T : TypeId} {n g : Nat} {c : List Value} {w : World} {tmps : Array Value} {v : Value} (h : fn.results = #[.cell p U, .tmp q]) (hp : tmps.getD p undef = .pointer (some ⟨g, 0, none⟩)) (hv : tmps.getD q undef = v) (R : RowT U n) (hl : RC n c) (H : VAt T w g c) :
    (results fn tmps).run Tryd.prog w = .ok (.tuple #[.agg c.toArray, v]) w := by
  obtain ⟨d, hu, hr⟩ := R.ex
  have hp' : tmps[p]?.getD undef = .pointer (some ⟨g, 0, none⟩) := by simpa using hp
  have hv' : tmps[q]?.getD undef = v := by simpa using hv
  simp [results, h, hp', hv', asAddr, run_loadVar_row w g T U c.toArray (0, 0) d H.blk hu (by cases d <;> simp_all [TypeDesc.isRow]) (R.size hl)]
/-- the cells of a list of alike pieces -/
theorem flat_len {α : Type} (f : α → List Value) (n : Nat) (hf : ∀ x, (f x).length = n) (l : List α) : (l.flatMap f).length = l.length * n := by
  induction l with
  | nil => simp
  | cons a t ih => rw [List.flatMap_cons, List.length_append, ih, hf, List.length_cons, Nat.succ_mul]; omega
theorem flat_at {α : Type} (f : α → List Value) (n : Nat) (hf : ∀ x, (f x).length = n) : ∀ (l : List α) (i : Nat) (x : α), l[i]? = some x → ∀ j v, (f x)[j]? = some v → (l.flatMap f)[i * n + j]? = some v := by
  intro l
  induction l with
  | nil => intro i x h; simp at h
  | cons a t ih =>
    intro i x h j v hv
    have hj : j < n := by have := (List.getElem?_eq_some_iff.1 hv).1; rwa [hf] at this
    rw [List.flatMap_cons]
    cases i with
    | zero =>
      obtain rfl : a = x := by simpa using h
      rw [List.getElem?_append_left (by rw [hf]; omega), Nat.zero_mul, Nat.zero_add]; exact hv
    | succ i =>
      rw [List.getElem?_append_right (by rw [hf, Nat.succ_mul]; omega), hf, show (i + 1) * n + j - n = i * n + j by rw [Nat.succ_mul]; omega]
      exact ih i x (by simpa using h) j v hv
theorem flat_set {α : Type} (f : α → List Value) (n : Nat) (hf : ∀ x, (f x).length = n) : ∀ (l : List α) (i : Nat) (x y : α), l[i]? = some x → ∀ j v, j < n → f y = (f x).set j v → (l.flatMap f).set (i * n + j) v = (l.set i y).flatMap f := by
  intro l
  induction l with
  | nil => intro i x y h; simp at h
  | cons a t ih =>
    intro i x y h j v hj hy
    rw [List.flatMap_cons]
    cases i with
    | zero =>
      obtain rfl : a = x := by simpa using h
      rw [List.set_append_left _ _ (by rw [hf]; omega), Nat.zero_mul, Nat.zero_add, List.set_cons_zero, List.flatMap_cons, hy]
    | succ i =>
      rw [List.set_append_right _ _ (by rw [hf, Nat.succ_mul]; omega), hf, show (i + 1) * n + j - n = i * n + j by rw [Nat.succ_mul]; omega, List.set_cons_succ, List.flatMap_cons, ih i x y (by simpa using h) j v hj hy]
end Go.Proofs.YtoodcaonlfeleaaDoor
