/- Package pane: Value. -/
import Derived.Test.YtkhlpbipkkbghaaPaB
namespace Go.Proofs.Ytkhlpbipkkbghaa
open Go Go.Proofs Go.RowKit Go.Shelf
set_option maxRecDepth 100000
attribute [local go_sem] cell_set Oper.semAt_some
/-- what lies in memory while Value goes -/
structure VS (p : Pn) (w u : World) : Prop where
  P : At u w.heap.size [.int .i64 p.c, .int .i64 p.h, .int .u64 p.l, .int .i64 p.mn, .int .i64 p.mx, .int .i64 p.t, .int .i64 p.s, .int .i64 p.q, .int .i64 p.v]
  B : Below w.heap.size w u
theorem VS.drew {p : Pn} {w u : World} (h : VS p w u) : VS p w u.drew := ⟨h.P.drew, h.B.drew⟩
theorem VS.below {p : Pn} {w u u' : World} (h : VS p w u) (hb : Below u.heap.size u u') : VS p w u' := ⟨h.P.below hb, below_then h.B hb⟩
theorem VS.far {p : Pn} {w u : World} (h : VS p w u) (j : Nat) (v : Value) : VS p w (u.setCell ⟨w.heap.size + 1, j, none⟩ v) := ⟨h.P.far (by omega) v, h.B.setCell (by dsimp only; omega) v⟩
set_option maxHeartbeats 4000000 in
theorem pval_none (p : Pn) (h : p.c < 1) (f : Int) (w : World) : Calls Try.prog 12 #[p.V, .int .i64 f] w fun e w' => e = .returned (valV ((0, 0, 0, false))) ∧ Below w.heap.size w w' := by
  have N1 := Lib.hid (fun W => none_any p W)
  rw [decide_eq_true h] at N1
  clear h
  unfold Pn.V valV at *
  dsimp only
  go_enter Try.func12, Try.ntmps12
  go_wp2_with fail
  refine (N1.out _).mono ?_
  rintro e w1 ⟨rfl, hb1⟩
  have DP : At w1 (w.heap.size) [.int .i64 p.c, .int .i64 p.h, .int .u64 p.l, .int .i64 p.mn, .int .i64 p.mx, .int .i64 p.t, .int .i64 p.s, .int .i64 p.q, .int .i64 p.v] := by have h := ((At.new (w) #[.int .i64 p.c, .int .i64 p.h, .int .u64 p.l, .int .i64 p.mn, .int .i64 p.mx, .int .i64 p.t, .int .i64 p.s, .int .i64 p.q, .int .i64 p.v] 29).alloc (.cells #[.int .i64 0, .int .u64 0] 27)).below hb1; simpa using h
  have DR : At w1 (w.heap.size + 1) [.int .i64 0, .int .u64 0] := by have h := (At.new ((w).alloc (.cells #[.int .i64 p.c, .int .i64 p.h, .int .u64 p.l, .int .i64 p.mn, .int .i64 p.mx, .int .i64 p.t, .int .i64 p.s, .int .i64 p.q, .int .i64 p.v] 29)) #[.int .i64 0, .int .u64 0] 27).below hb1; simpa using h
  have B : Below w.heap.size w w1 := below_then (below_new (below_new (Below.refl _ _) (.cells #[.int .i64 p.c, .int .i64 p.h, .int .u64 p.l, .int .i64 p.mn, .int .i64 p.mx, .int .i64 p.t, .int .i64 p.s, .int .i64 p.q, .int .i64 p.v] 29)) (.cells #[.int .i64 0, .int .u64 0] 27)) hb1
  clear hb1
  have aP0 := DP.cell 0 _ rfl
  have aP1 := DP.cell 1 _ rfl
  have aP2 := DP.cell 2 _ rfl
  have aP3 := DP.cell 3 _ rfl
  have aP4 := DP.cell 4 _ rfl
  have aP5 := DP.cell 5 _ rfl
  have aP6 := DP.cell 6 _ rfl
  have aP7 := DP.cell 7 _ rfl
  have aP8 := DP.cell 8 _ rfl
  have nP := DP.lt
  have aR0 := DR.cell 0 _ rfl
  have zR0 := DR.free 0 _ rfl
  have aR1 := DR.cell 1 _ rfl
  have zR1 := DR.free 1 _ rfl
  have nR := DR.lt
  go_wp2
  refine bodyPost_ret (by simp [results, Try.results12, go_sem, aR0, aR1, nR]; try rfl) rfl ?_
  exact ⟨rfl, by go_grown⟩
set_option maxHeartbeats 4000000 in
theorem pval_other (p : Pn) (h : ¬ p.c < 1) (f : Int) (k1 : f ≠ 1) (k2 : f ≠ 2) (k3 : f ≠ 3) (k4 : f ≠ 4) (k5 : f ≠ 5) (k6 : f ≠ 6) (w : World) : Calls Try.prog 12 #[p.V, .int .i64 f] w fun e w' => e = .returned (valV ((0, 0, 0, false))) ∧ Below w.heap.size w w' := by
  have N1 := Lib.hid (fun W => none_any p W)
  rw [decide_eq_false h] at N1
  clear h
  have m1 : (f == 1) = false := beq_false_of_ne k1
  have m2 : (f == 2) = false := beq_false_of_ne k2
  have m3 : (f == 3) = false := beq_false_of_ne k3
  have m4 : (f == 4) = false := beq_false_of_ne k4
  have m5 : (f == 5) = false := beq_false_of_ne k5
  have m6 : (f == 6) = false := beq_false_of_ne k6
  clear k1 k2 k3 k4 k5 k6
  unfold Pn.V valV at *
  dsimp only
  go_enter Try.func12, Try.ntmps12
  go_wp2_with fail
  refine (N1.out _).mono ?_
  rintro e w1 ⟨rfl, hb1⟩
  have DP : At w1 (w.heap.size) [.int .i64 p.c, .int .i64 p.h, .int .u64 p.l, .int .i64 p.mn, .int .i64 p.mx, .int .i64 p.t, .int .i64 p.s, .int .i64 p.q, .int .i64 p.v] := by have h := ((At.new (w) #[.int .i64 p.c, .int .i64 p.h, .int .u64 p.l, .int .i64 p.mn, .int .i64 p.mx, .int .i64 p.t, .int .i64 p.s, .int .i64 p.q, .int .i64 p.v] 29).alloc (.cells #[.int .i64 0, .int .u64 0] 27)).below hb1; simpa using h
  have DR : At w1 (w.heap.size + 1) [.int .i64 0, .int .u64 0] := by have h := (At.new ((w).alloc (.cells #[.int .i64 p.c, .int .i64 p.h, .int .u64 p.l, .int .i64 p.mn, .int .i64 p.mx, .int .i64 p.t, .int .i64 p.s, .int .i64 p.q, .int .i64 p.v] 29)) #[.int .i64 0, .int .u64 0] 27).below hb1; simpa using h
  have B : Below w.heap.size w w1 := below_then (below_new (below_new (Below.refl _ _) (.cells #[.int .i64 p.c, .int .i64 p.h, .int .u64 p.l, .int .i64 p.mn, .int .i64 p.mx, .int .i64 p.t, .int .i64 p.s, .int .i64 p.q, .int .i64 p.v] 29)) (.cells #[.int .i64 0, .int .u64 0] 27)) hb1
  clear hb1
  have aP0 := DP.cell 0 _ rfl
  have aP1 := DP.cell 1 _ rfl
  have aP2 := DP.cell 2 _ rfl
  have aP3 := DP.cell 3 _ rfl
  have aP4 := DP.cell 4 _ rfl
  have aP5 := DP.cell 5 _ rfl
  have aP6 := DP.cell 6 _ rfl
  have aP7 := DP.cell 7 _ rfl
  have aP8 := DP.cell 8 _ rfl
  have nP := DP.lt
  have aR0 := DR.cell 0 _ rfl
  have zR0 := DR.free 0 _ rfl
  have aR1 := DR.cell 1 _ rfl
  have zR1 := DR.free 1 _ rfl
  have nR := DR.lt
  go_wp2
  refine bodyPost_ret (by simp [results, Try.results12, go_sem, aR0, aR1, nR]; try rfl) rfl ?_
  exact ⟨rfl, by go_grown⟩
set_option maxHeartbeats 4000000 in
theorem pval_f1 (p : Pn) (h : ¬ p.c < 1) (hx : I64 p.c) (w : World) : Calls Try.prog 12 #[p.V, .int .i64 1] w fun e w' => e = .returned (valV (hiS p.c, loS p.c, 1, true)) ∧ Below w.heap.size w w' := by
  have N1 := Lib.hid (fun W => none_any p W)
  rw [decide_eq_false h] at N1
  clear h
  have OF := Lib.hid (fun W => Of_any p.c (hiS p.c) (loS p.c) hx (Bd.one (x := ⟨p.c, 0, 0, 0⟩) hx).i (val_hl _) W)
  generalize hiS p.c = h0 at *
  generalize loS p.c = l0 at *
  clear hx
  unfold Pn.V valV at *
  dsimp only
  go_enter Try.func12, Try.ntmps12
  go_wp2_with fail
  refine (N1.out _).mono ?_
  rintro e w1 ⟨rfl, hb1⟩
  have DP : At w1 (w.heap.size) [.int .i64 p.c, .int .i64 p.h, .int .u64 p.l, .int .i64 p.mn, .int .i64 p.mx, .int .i64 p.t, .int .i64 p.s, .int .i64 p.q, .int .i64 p.v] := by have h := ((At.new (w) #[.int .i64 p.c, .int .i64 p.h, .int .u64 p.l, .int .i64 p.mn, .int .i64 p.mx, .int .i64 p.t, .int .i64 p.s, .int .i64 p.q, .int .i64 p.v] 29).alloc (.cells #[.int .i64 0, .int .u64 0] 27)).below hb1; simpa using h
  have DR : At w1 (w.heap.size + 1) [.int .i64 0, .int .u64 0] := by have h := (At.new ((w).alloc (.cells #[.int .i64 p.c, .int .i64 p.h, .int .u64 p.l, .int .i64 p.mn, .int .i64 p.mx, .int .i64 p.t, .int .i64 p.s, .int .i64 p.q, .int .i64 p.v] 29)) #[.int .i64 0, .int .u64 0] 27).below hb1; simpa using h
  have B : Below w.heap.size w w1 := below_then (below_new (below_new (Below.refl _ _) (.cells #[.int .i64 p.c, .int .i64 p.h, .int .u64 p.l, .int .i64 p.mn, .int .i64 p.mx, .int .i64 p.t, .int .i64 p.s, .int .i64 p.q, .int .i64 p.v] 29)) (.cells #[.int .i64 0, .int .u64 0] 27)) hb1
  clear hb1
  have aP0 := DP.cell 0 _ rfl
  have aP1 := DP.cell 1 _ rfl
  have aP2 := DP.cell 2 _ rfl
  have aP3 := DP.cell 3 _ rfl
  have aP4 := DP.cell 4 _ rfl
  have aP5 := DP.cell 5 _ rfl
  have aP6 := DP.cell 6 _ rfl
  have aP7 := DP.cell 7 _ rfl
  have aP8 := DP.cell 8 _ rfl
  have nP := DP.lt
  have aR0 := DR.cell 0 _ rfl
  have zR0 := DR.free 0 _ rfl
  have aR1 := DR.cell 1 _ rfl
  have zR1 := DR.free 1 _ rfl
  have nR := DR.lt
  go_wp2_with fail
  refine (OF.out _).mono ?_
  rintro e w2 ⟨rfl, hb2⟩
  clear aP0 aP1 aP2 aP3 aP4 aP5 aP6 aP7 aP8 nP aR0 zR0 aR1 zR1 nR
  have DP := DP.below hb2
  have DR := DR.below hb2
  have B : Below w.heap.size w w2 := below_then (B) hb2
  clear hb2
  have aP0 := DP.cell 0 _ rfl
  have aP1 := DP.cell 1 _ rfl
  have aP2 := DP.cell 2 _ rfl
  have aP3 := DP.cell 3 _ rfl
  have aP4 := DP.cell 4 _ rfl
  have aP5 := DP.cell 5 _ rfl
  have aP6 := DP.cell 6 _ rfl
  have aP7 := DP.cell 7 _ rfl
  have aP8 := DP.cell 8 _ rfl
  have nP := DP.lt
  have aR0 := DR.cell 0 _ rfl
  have zR0 := DR.free 0 _ rfl
  have aR1 := DR.cell 1 _ rfl
  have zR1 := DR.free 1 _ rfl
  have nR := DR.lt
  go_wp2
  refine bodyPost_ret (by simp [results, Try.results12, go_sem, aR0, aR1, nR]; try rfl) rfl ?_
  exact ⟨rfl, by go_grown⟩
set_option maxHeartbeats 4000000 in
theorem pval_f3 (p : Pn) (h : ¬ p.c < 1) (hx : I64 p.mn) (w : World) : Calls Try.prog 12 #[p.V, .int .i64 3] w fun e w' => e = .returned (valV (hiS p.mn, loS p.mn, 1, true)) ∧ Below w.heap.size w w' := by
  have N1 := Lib.hid (fun W => none_any p W)
  rw [decide_eq_false h] at N1
  clear h
  have OF := Lib.hid (fun W => Of_any p.mn (hiS p.mn) (loS p.mn) hx (Bd.one (x := ⟨p.mn, 0, 0, 0⟩) hx).i (val_hl _) W)
  generalize hiS p.mn = h0 at *
  generalize loS p.mn = l0 at *
  clear hx
  unfold Pn.V valV at *
  dsimp only
  go_enter Try.func12, Try.ntmps12
  go_wp2_with fail
  refine (N1.out _).mono ?_
  rintro e w1 ⟨rfl, hb1⟩
  have DP : At w1 (w.heap.size) [.int .i64 p.c, .int .i64 p.h, .int .u64 p.l, .int .i64 p.mn, .int .i64 p.mx, .int .i64 p.t, .int .i64 p.s, .int .i64 p.q, .int .i64 p.v] := by have h := ((At.new (w) #[.int .i64 p.c, .int .i64 p.h, .int .u64 p.l, .int .i64 p.mn, .int .i64 p.mx, .int .i64 p.t, .int .i64 p.s, .int .i64 p.q, .int .i64 p.v] 29).alloc (.cells #[.int .i64 0, .int .u64 0] 27)).below hb1; simpa using h
  have DR : At w1 (w.heap.size + 1) [.int .i64 0, .int .u64 0] := by have h := (At.new ((w).alloc (.cells #[.int .i64 p.c, .int .i64 p.h, .int .u64 p.l, .int .i64 p.mn, .int .i64 p.mx, .int .i64 p.t, .int .i64 p.s, .int .i64 p.q, .int .i64 p.v] 29)) #[.int .i64 0, .int .u64 0] 27).below hb1; simpa using h
  have B : Below w.heap.size w w1 := below_then (below_new (below_new (Below.refl _ _) (.cells #[.int .i64 p.c, .int .i64 p.h, .int .u64 p.l, .int .i64 p.mn, .int .i64 p.mx, .int .i64 p.t, .int .i64 p.s, .int .i64 p.q, .int .i64 p.v] 29)) (.cells #[.int .i64 0, .int .u64 0] 27)) hb1
  clear hb1
  have aP0 := DP.cell 0 _ rfl
  have aP1 := DP.cell 1 _ rfl
  have aP2 := DP.cell 2 _ rfl
  have aP3 := DP.cell 3 _ rfl
  have aP4 := DP.cell 4 _ rfl
  have aP5 := DP.cell 5 _ rfl
  have aP6 := DP.cell 6 _ rfl
  have aP7 := DP.cell 7 _ rfl
  have aP8 := DP.cell 8 _ rfl
  have nP := DP.lt
  have aR0 := DR.cell 0 _ rfl
  have zR0 := DR.free 0 _ rfl
  have aR1 := DR.cell 1 _ rfl
  have zR1 := DR.free 1 _ rfl
  have nR := DR.lt
  go_wp2_with fail
  refine (OF.out _).mono ?_
  rintro e w2 ⟨rfl, hb2⟩
  clear aP0 aP1 aP2 aP3 aP4 aP5 aP6 aP7 aP8 nP aR0 zR0 aR1 zR1 nR
  have DP := DP.below hb2
  have DR := DR.below hb2
  have B : Below w.heap.size w w2 := below_then (B) hb2
  clear hb2
  have aP0 := DP.cell 0 _ rfl
  have aP1 := DP.cell 1 _ rfl
  have aP2 := DP.cell 2 _ rfl
  have aP3 := DP.cell 3 _ rfl
  have aP4 := DP.cell 4 _ rfl
  have aP5 := DP.cell 5 _ rfl
  have aP6 := DP.cell 6 _ rfl
  have aP7 := DP.cell 7 _ rfl
  have aP8 := DP.cell 8 _ rfl
  have nP := DP.lt
  have aR0 := DR.cell 0 _ rfl
  have zR0 := DR.free 0 _ rfl
  have aR1 := DR.cell 1 _ rfl
  have zR1 := DR.free 1 _ rfl
  have nR := DR.lt
  go_wp2
  refine bodyPost_ret (by simp [results, Try.results12, go_sem, aR0, aR1, nR]; try rfl) rfl ?_
  exact ⟨rfl, by go_grown⟩
set_option maxHeartbeats 4000000 in
theorem pval_f4 (p : Pn) (h : ¬ p.c < 1) (hx : I64 p.mx) (w : World) : Calls Try.prog 12 #[p.V, .int .i64 4] w fun e w' => e = .returned (valV (hiS p.mx, loS p.mx, 1, true)) ∧ Below w.heap.size w w' := by
  have N1 := Lib.hid (fun W => none_any p W)
  rw [decide_eq_false h] at N1
  clear h
  have OF := Lib.hid (fun W => Of_any p.mx (hiS p.mx) (loS p.mx) hx (Bd.one (x := ⟨p.mx, 0, 0, 0⟩) hx).i (val_hl _) W)
  generalize hiS p.mx = h0 at *
  generalize loS p.mx = l0 at *
  clear hx
  unfold Pn.V valV at *
  dsimp only
  go_enter Try.func12, Try.ntmps12
  go_wp2_with fail
  refine (N1.out _).mono ?_
  rintro e w1 ⟨rfl, hb1⟩
  have DP : At w1 (w.heap.size) [.int .i64 p.c, .int .i64 p.h, .int .u64 p.l, .int .i64 p.mn, .int .i64 p.mx, .int .i64 p.t, .int .i64 p.s, .int .i64 p.q, .int .i64 p.v] := by have h := ((At.new (w) #[.int .i64 p.c, .int .i64 p.h, .int .u64 p.l, .int .i64 p.mn, .int .i64 p.mx, .int .i64 p.t, .int .i64 p.s, .int .i64 p.q, .int .i64 p.v] 29).alloc (.cells #[.int .i64 0, .int .u64 0] 27)).below hb1; simpa using h
  have DR : At w1 (w.heap.size + 1) [.int .i64 0, .int .u64 0] := by have h := (At.new ((w).alloc (.cells #[.int .i64 p.c, .int .i64 p.h, .int .u64 p.l, .int .i64 p.mn, .int .i64 p.mx, .int .i64 p.t, .int .i64 p.s, .int .i64 p.q, .int .i64 p.v] 29)) #[.int .i64 0, .int .u64 0] 27).below hb1; simpa using h
  have B : Below w.heap.size w w1 := below_then (below_new (below_new (Below.refl _ _) (.cells #[.int .i64 p.c, .int .i64 p.h, .int .u64 p.l, .int .i64 p.mn, .int .i64 p.mx, .int .i64 p.t, .int .i64 p.s, .int .i64 p.q, .int .i64 p.v] 29)) (.cells #[.int .i64 0, .int .u64 0] 27)) hb1
  clear hb1
  have aP0 := DP.cell 0 _ rfl
  have aP1 := DP.cell 1 _ rfl
  have aP2 := DP.cell 2 _ rfl
  have aP3 := DP.cell 3 _ rfl
  have aP4 := DP.cell 4 _ rfl
  have aP5 := DP.cell 5 _ rfl
  have aP6 := DP.cell 6 _ rfl
  have aP7 := DP.cell 7 _ rfl
  have aP8 := DP.cell 8 _ rfl
  have nP := DP.lt
  have aR0 := DR.cell 0 _ rfl
  have zR0 := DR.free 0 _ rfl
  have aR1 := DR.cell 1 _ rfl
  have zR1 := DR.free 1 _ rfl
  have nR := DR.lt
  go_wp2_with fail
  refine (OF.out _).mono ?_
  rintro e w2 ⟨rfl, hb2⟩
  clear aP0 aP1 aP2 aP3 aP4 aP5 aP6 aP7 aP8 nP aR0 zR0 aR1 zR1 nR
  have DP := DP.below hb2
  have DR := DR.below hb2
  have B : Below w.heap.size w w2 := below_then (B) hb2
  clear hb2
  have aP0 := DP.cell 0 _ rfl
  have aP1 := DP.cell 1 _ rfl
  have aP2 := DP.cell 2 _ rfl
  have aP3 := DP.cell 3 _ rfl
  have aP4 := DP.cell 4 _ rfl
  have aP5 := DP.cell 5 _ rfl
  have aP6 := DP.cell 6 _ rfl
  have aP7 := DP.cell 7 _ rfl
  have aP8 := DP.cell 8 _ rfl
  have nP := DP.lt
  have aR0 := DR.cell 0 _ rfl
  have zR0 := DR.free 0 _ rfl
  have aR1 := DR.cell 1 _ rfl
  have zR1 := DR.free 1 _ rfl
  have nR := DR.lt
  go_wp2
  refine bodyPost_ret (by simp [results, Try.results12, go_sem, aR0, aR1, nR]; try rfl) rfl ?_
  exact ⟨rfl, by go_grown⟩
set_option maxHeartbeats 4000000 in
theorem pval_f6 (p : Pn) (h : ¬ p.c < 1) (hx : I64 p.v) (w : World) : Calls Try.prog 12 #[p.V, .int .i64 6] w fun e w' => e = .returned (valV (hiS p.v, loS p.v, 1, true)) ∧ Below w.heap.size w w' := by
  have N1 := Lib.hid (fun W => none_any p W)
  rw [decide_eq_false h] at N1
  clear h
  have OF := Lib.hid (fun W => Of_any p.v (hiS p.v) (loS p.v) hx (Bd.one (x := ⟨p.v, 0, 0, 0⟩) hx).i (val_hl _) W)
  generalize hiS p.v = h0 at *
  generalize loS p.v = l0 at *
  clear hx
  unfold Pn.V valV at *
  dsimp only
  go_enter Try.func12, Try.ntmps12
  go_wp2_with fail
  refine (N1.out _).mono ?_
  rintro e w1 ⟨rfl, hb1⟩
  have DP : At w1 (w.heap.size) [.int .i64 p.c, .int .i64 p.h, .int .u64 p.l, .int .i64 p.mn, .int .i64 p.mx, .int .i64 p.t, .int .i64 p.s, .int .i64 p.q, .int .i64 p.v] := by have h := ((At.new (w) #[.int .i64 p.c, .int .i64 p.h, .int .u64 p.l, .int .i64 p.mn, .int .i64 p.mx, .int .i64 p.t, .int .i64 p.s, .int .i64 p.q, .int .i64 p.v] 29).alloc (.cells #[.int .i64 0, .int .u64 0] 27)).below hb1; simpa using h
  have DR : At w1 (w.heap.size + 1) [.int .i64 0, .int .u64 0] := by have h := (At.new ((w).alloc (.cells #[.int .i64 p.c, .int .i64 p.h, .int .u64 p.l, .int .i64 p.mn, .int .i64 p.mx, .int .i64 p.t, .int .i64 p.s, .int .i64 p.q, .int .i64 p.v] 29)) #[.int .i64 0, .int .u64 0] 27).below hb1; simpa using h
  have B : Below w.heap.size w w1 := below_then (below_new (below_new (Below.refl _ _) (.cells #[.int .i64 p.c, .int .i64 p.h, .int .u64 p.l, .int .i64 p.mn, .int .i64 p.mx, .int .i64 p.t, .int .i64 p.s, .int .i64 p.q, .int .i64 p.v] 29)) (.cells #[.int .i64 0, .int .u64 0] 27)) hb1
  clear hb1
  have aP0 := DP.cell 0 _ rfl
  have aP1 := DP.cell 1 _ rfl
  have aP2 := DP.cell 2 _ rfl
  have aP3 := DP.cell 3 _ rfl
  have aP4 := DP.cell 4 _ rfl
  have aP5 := DP.cell 5 _ rfl
  have aP6 := DP.cell 6 _ rfl
  have aP7 := DP.cell 7 _ rfl
  have aP8 := DP.cell 8 _ rfl
  have nP := DP.lt
  have aR0 := DR.cell 0 _ rfl
  have zR0 := DR.free 0 _ rfl
  have aR1 := DR.cell 1 _ rfl
  have zR1 := DR.free 1 _ rfl
  have nR := DR.lt
  go_wp2_with fail
  refine (OF.out _).mono ?_
  rintro e w2 ⟨rfl, hb2⟩
  clear aP0 aP1 aP2 aP3 aP4 aP5 aP6 aP7 aP8 nP aR0 zR0 aR1 zR1 nR
  have DP := DP.below hb2
  have DR := DR.below hb2
  have B : Below w.heap.size w w2 := below_then (B) hb2
  clear hb2
  have aP0 := DP.cell 0 _ rfl
  have aP1 := DP.cell 1 _ rfl
  have aP2 := DP.cell 2 _ rfl
  have aP3 := DP.cell 3 _ rfl
  have aP4 := DP.cell 4 _ rfl
  have aP5 := DP.cell 5 _ rfl
  have aP6 := DP.cell 6 _ rfl
  have aP7 := DP.cell 7 _ rfl
  have aP8 := DP.cell 8 _ rfl
  have nP := DP.lt
  have aR0 := DR.cell 0 _ rfl
  have zR0 := DR.free 0 _ rfl
  have aR1 := DR.cell 1 _ rfl
  have zR1 := DR.free 1 _ rfl
  have nR := DR.lt
  go_wp2
  refine bodyPost_ret (by simp [results, Try.results12, go_sem, aR0, aR1, nR]; try rfl) rfl ?_
  exact ⟨rfl, by go_grown⟩
set_option maxHeartbeats 4000000 in
theorem pval_f2 (p : Pn) (h : ¬ p.c < 1) (w : World) : Calls Try.prog 12 #[p.V, .int .i64 2] w fun e w' => e = .returned (valV (p.h, p.l, 1, true)) ∧ Below w.heap.size w w' := by
  have N1 := Lib.hid (fun W => none_any p W)
  rw [decide_eq_false h] at N1
  clear h
  unfold Pn.V valV at *
  dsimp only
  go_enter Try.func12, Try.ntmps12
  go_wp2_with fail
  refine (N1.out _).mono ?_
  rintro e w1 ⟨rfl, hb1⟩
  have DP : At w1 (w.heap.size) [.int .i64 p.c, .int .i64 p.h, .int .u64 p.l, .int .i64 p.mn, .int .i64 p.mx, .int .i64 p.t, .int .i64 p.s, .int .i64 p.q, .int .i64 p.v] := by have h := ((At.new (w) #[.int .i64 p.c, .int .i64 p.h, .int .u64 p.l, .int .i64 p.mn, .int .i64 p.mx, .int .i64 p.t, .int .i64 p.s, .int .i64 p.q, .int .i64 p.v] 29).alloc (.cells #[.int .i64 0, .int .u64 0] 27)).below hb1; simpa using h
  have DR : At w1 (w.heap.size + 1) [.int .i64 0, .int .u64 0] := by have h := (At.new ((w).alloc (.cells #[.int .i64 p.c, .int .i64 p.h, .int .u64 p.l, .int .i64 p.mn, .int .i64 p.mx, .int .i64 p.t, .int .i64 p.s, .int .i64 p.q, .int .i64 p.v] 29)) #[.int .i64 0, .int .u64 0] 27).below hb1; simpa using h
  have B : Below w.heap.size w w1 := below_then (below_new (below_new (Below.refl _ _) (.cells #[.int .i64 p.c, .int .i64 p.h, .int .u64 p.l, .int .i64 p.mn, .int .i64 p.mx, .int .i64 p.t, .int .i64 p.s, .int .i64 p.q, .int .i64 p.v] 29)) (.cells #[.int .i64 0, .int .u64 0] 27)) hb1
  clear hb1
  have aP0 := DP.cell 0 _ rfl
  have aP1 := DP.cell 1 _ rfl
  have aP2 := DP.cell 2 _ rfl
  have aP3 := DP.cell 3 _ rfl
  have aP4 := DP.cell 4 _ rfl
  have aP5 := DP.cell 5 _ rfl
  have aP6 := DP.cell 6 _ rfl
  have aP7 := DP.cell 7 _ rfl
  have aP8 := DP.cell 8 _ rfl
  have nP := DP.lt
  have aR0 := DR.cell 0 _ rfl
  have zR0 := DR.free 0 _ rfl
  have aR1 := DR.cell 1 _ rfl
  have zR1 := DR.free 1 _ rfl
  have nR := DR.lt
  go_wp2
  refine bodyPost_ret (by simp [results, Try.results12, go_sem, aR0, aR1, nR]; try rfl) rfl ?_
  exact ⟨rfl, by go_grown⟩
set_option maxHeartbeats 4000000 in
theorem pval_f5 (p : Pn) (h : ¬ p.c < 1) (w : World) : Calls Try.prog 12 #[p.V, .int .i64 5] w fun e w' => e = .returned (valV (p.h, p.l, p.c, true)) ∧ Below w.heap.size w w' := by
  have N1 := Lib.hid (fun W => none_any p W)
  rw [decide_eq_false h] at N1
  clear h
  unfold Pn.V valV at *
  dsimp only
  go_enter Try.func12, Try.ntmps12
  go_wp2_with fail
  refine (N1.out _).mono ?_
  rintro e w1 ⟨rfl, hb1⟩
  have DP : At w1 (w.heap.size) [.int .i64 p.c, .int .i64 p.h, .int .u64 p.l, .int .i64 p.mn, .int .i64 p.mx, .int .i64 p.t, .int .i64 p.s, .int .i64 p.q, .int .i64 p.v] := by have h := ((At.new (w) #[.int .i64 p.c, .int .i64 p.h, .int .u64 p.l, .int .i64 p.mn, .int .i64 p.mx, .int .i64 p.t, .int .i64 p.s, .int .i64 p.q, .int .i64 p.v] 29).alloc (.cells #[.int .i64 0, .int .u64 0] 27)).below hb1; simpa using h
  have DR : At w1 (w.heap.size + 1) [.int .i64 0, .int .u64 0] := by have h := (At.new ((w).alloc (.cells #[.int .i64 p.c, .int .i64 p.h, .int .u64 p.l, .int .i64 p.mn, .int .i64 p.mx, .int .i64 p.t, .int .i64 p.s, .int .i64 p.q, .int .i64 p.v] 29)) #[.int .i64 0, .int .u64 0] 27).below hb1; simpa using h
  have B : Below w.heap.size w w1 := below_then (below_new (below_new (Below.refl _ _) (.cells #[.int .i64 p.c, .int .i64 p.h, .int .u64 p.l, .int .i64 p.mn, .int .i64 p.mx, .int .i64 p.t, .int .i64 p.s, .int .i64 p.q, .int .i64 p.v] 29)) (.cells #[.int .i64 0, .int .u64 0] 27)) hb1
  clear hb1
  have aP0 := DP.cell 0 _ rfl
  have aP1 := DP.cell 1 _ rfl
  have aP2 := DP.cell 2 _ rfl
  have aP3 := DP.cell 3 _ rfl
  have aP4 := DP.cell 4 _ rfl
  have aP5 := DP.cell 5 _ rfl
  have aP6 := DP.cell 6 _ rfl
  have aP7 := DP.cell 7 _ rfl
  have aP8 := DP.cell 8 _ rfl
  have nP := DP.lt
  have aR0 := DR.cell 0 _ rfl
  have zR0 := DR.free 0 _ rfl
  have aR1 := DR.cell 1 _ rfl
  have zR1 := DR.free 1 _ rfl
  have nR := DR.lt
  go_wp2_with fail
  have hM : VS p w w1 := ⟨DP, B⟩
  have DR0 := DR.drew
  clear DP DR B aP0 aP1 aP2 aP3 aP4 aP5 aP6 aP7 aP8 nP aR0 zR0 aR1 zR1 nR
  refine wp_region_held_drew (S := VS p w) (by kernel_rfl) hM.drew (fun hS => ?_)
  generalize w1.drew = w0 at *
  clear hM
  refine tkC 0 hS (fun u h => h.P.f9) ?_
  refine tkC 1 hS (fun u h => h.P.f9) ?_
  refine tkC 2 hS (fun u h => h.P.f9) ?_
  refine tkC 3 hS (fun u h => h.P.f9) ?_
  refine anyH_1 4 (fun K hK => ?_)
  have fR := DR0.f2
  go_simp
  have DR2 := (DR0.set 0 (.int .i64 p.h)).set 1 (.int .u64 p.l)
  simp only [qd, qe, qf] at DR2
  have hM2 := (hS.far 0 (.int .i64 p.h)).far 1 (.int .u64 p.l)
  clear fR hS DR0
  generalize (w0.setCell ⟨w.heap.size + 1, 0, none⟩ (.int .i64 p.h)).setCell ⟨w.heap.size + 1, 1, none⟩ (.int .u64 p.l) = w2 at *
  refine hK.out _ _ hM2 (fun hS => ?_)
  clear hK K hM2
  refine tkC 5 hS (fun u h => h.P.f9) ?_
  refine tkC 6 hS (fun u h => h.P.f9) ?_
  refine wpAnyH_done (by kernel_rfl) ?_ _
  have fR := DR2.f2
  have B := hS.B
  go_wp2
  refine bodyPost_ret (by simp [results, Try.results12, go_sem, fR]; try rfl) rfl ⟨rfl, B⟩
theorem pval_any {n : Nat} (p : Pn) (hp : Bd n p) (hn : n ≤ 1000000) (f : Int) (w : World) : Calls Try.prog 12 #[p.V, .int .i64 f] w fun e w' => e = .returned (valV (pvalR p f)) ∧ Below w.heap.size w w' := by
  unfold pvalR
  by_cases h : p.c < 1
  · rw [if_pos h]; exact pval_none p h f w
  rw [if_neg h]
  by_cases k1 : f = 1
  · subst k1; rw [if_pos rfl]; exact pval_f1 p h (by rw [hp.c]; unfold I64; omega) w
  rw [if_neg k1]
  by_cases k2 : f = 2
  · subst k2; rw [if_pos rfl]; exact pval_f2 p h w
  rw [if_neg k2]
  by_cases k3 : f = 3
  · subst k3; rw [if_pos rfl]; exact pval_f3 p h hp.mn w
  rw [if_neg k3]
  by_cases k4 : f = 4
  · subst k4; rw [if_pos rfl]; exact pval_f4 p h hp.mx w
  rw [if_neg k4]
  by_cases k5 : f = 5
  · subst k5; rw [if_pos rfl]; exact pval_f5 p h w
  rw [if_neg k5]
  by_cases k6 : f = 6
  · subst k6; rw [if_pos rfl]; exact pval_f6 p h hp.v w
  rw [if_neg k6]
  exact pval_other p h f k1 k2 k3 k4 k5 k6 w
end Go.Proofs.Ytkhlpbipkkbghaa
