/- The reference: Value. -/
import Derived.Test.YtkhlpbipkkbghaaPrA
import Derived.Test.YtkhlpbipkkbghaaPaV
namespace Go.Proofs.Ytkhlpbipkkbghaa
open Go Go.Proofs Go.RowKit Go.Shelf
set_option maxRecDepth 100000
attribute [local go_sem] cell_set Oper.semAt_some
set_option maxHeartbeats 4000000 in
theorem rval_none (p : Pn) (h : p.c = 0) (f : Int) (w : World) : Calls Try.prog 13 #[p.V, .int .i64 f] w fun e w' => e = .returned (valV ((0, 0, 0, false))) ∧ Below w.heap.size w w' := by
  have n1 : (p.c == 0) = true := by rw [beq_iff_eq]; omega
  clear h
  unfold Pn.V valV at *
  dsimp only
  go_enter Try.func13, Try.ntmps13
  go_wp2
  go_returns
  exact ⟨rfl, by go_grown⟩
set_option maxHeartbeats 4000000 in
theorem rval_other (p : Pn) (h : ¬ p.c = 0) (f : Int) (k1 : f ≠ 1) (k2 : f ≠ 2) (k3 : f ≠ 3) (k4 : f ≠ 4) (k5 : f ≠ 5) (k6 : f ≠ 6) (w : World) : Calls Try.prog 13 #[p.V, .int .i64 f] w fun e w' => e = .returned (valV ((0, 0, 0, false))) ∧ Below w.heap.size w w' := by
  have n1 : (p.c == 0) = false := by rw [beq_eq_false_iff_ne]; omega
  clear h
  have m1 : (f == 1) = false := beq_false_of_ne k1
  have m2 : (f == 2) = false := beq_false_of_ne k2
  have m3 : (f == 3) = false := beq_false_of_ne k3
  have m4 : (f == 4) = false := beq_false_of_ne k4
  have m5 : (f == 5) = false := beq_false_of_ne k5
  have m6 : (f == 6) = false := beq_false_of_ne k6
  clear k1 k2 k3 k4 k5 k6
  unfold Pn.V valV at *
  dsimp only
  go_enter Try.func13, Try.ntmps13
  go_wp2
  go_returns
  exact ⟨rfl, by go_grown⟩
set_option maxHeartbeats 4000000 in
theorem rval_f1 (p : Pn) (h : ¬ p.c = 0) (hx : I64 p.c) (w : World) : Calls Try.prog 13 #[p.V, .int .i64 1] w fun e w' => e = .returned (valV (hiS p.c, loS p.c, 1, true)) ∧ Below w.heap.size w w' := by
  have n1 : (p.c == 0) = false := by rw [beq_eq_false_iff_ne]; omega
  clear h
  have OF := Lib.hid (fun W => rof1_any p.c hx W)
  generalize hiS p.c = h0 at *
  generalize loS p.c = l0 at *
  clear hx
  unfold Pn.V valV at *
  dsimp only
  go_enter Try.func13, Try.ntmps13
  go_wp2_with fail
  refine (OF.out _).mono ?_
  rintro e w1 ⟨rfl, hb1⟩
  have DP : At w1 (w.heap.size) [.int .i64 p.c, .int .i64 p.h, .int .u64 p.l, .int .i64 p.mn, .int .i64 p.mx, .int .i64 p.t, .int .i64 p.s, .int .i64 p.q, .int .i64 p.v] := by have h := ((At.new (w) #[.int .i64 p.c, .int .i64 p.h, .int .u64 p.l, .int .i64 p.mn, .int .i64 p.mx, .int .i64 p.t, .int .i64 p.s, .int .i64 p.q, .int .i64 p.v] 33).alloc (.cells #[.int .i64 0, .int .u64 0] 31)).below hb1; simpa using h
  have DR : At w1 (w.heap.size + 1) [.int .i64 0, .int .u64 0] := by have h := (At.new ((w).alloc (.cells #[.int .i64 p.c, .int .i64 p.h, .int .u64 p.l, .int .i64 p.mn, .int .i64 p.mx, .int .i64 p.t, .int .i64 p.s, .int .i64 p.q, .int .i64 p.v] 33)) #[.int .i64 0, .int .u64 0] 31).below hb1; simpa using h
  have B : Below w.heap.size w w1 := below_then (below_new (below_new (Below.refl _ _) (.cells #[.int .i64 p.c, .int .i64 p.h, .int .u64 p.l, .int .i64 p.mn, .int .i64 p.mx, .int .i64 p.t, .int .i64 p.s, .int .i64 p.q, .int .i64 p.v] 33)) (.cells #[.int .i64 0, .int .u64 0] 31)) hb1
  clear hb1
  have aP0 := DP.cell 0 _ rfl
  have aP1 := DP.cell 1 _ rfl
  have aP2 := DP.cell 2 _ rfl
  have aP3 := DP.cell 3 _ rfl
  have aP4 := DP.cell 4 _ rfl
  have aP5 := DP.cell 5 _ rfl
  have aP6 := DP.cell 6 _ rfl
  have aP7 := DP.cell 7 _ rfl
  have aP8 := DP.cell 8 _ rfl
  have nP := DP.lt
  have aR0 := DR.cell 0 _ rfl
  have zR0 := DR.free 0 _ rfl
  have aR1 := DR.cell 1 _ rfl
  have zR1 := DR.free 1 _ rfl
  have nR := DR.lt
  go_wp2
  refine bodyPost_ret (by simp [results, Try.results13, go_sem, aR0, aR1, nR]; try rfl) rfl ?_
  exact ⟨rfl, by go_grown⟩
set_option maxHeartbeats 4000000 in
theorem rval_f3 (p : Pn) (h : ¬ p.c = 0) (hx : I64 p.mn) (w : World) : Calls Try.prog 13 #[p.V, .int .i64 3] w fun e w' => e = .returned (valV (hiS p.mn, loS p.mn, 1, true)) ∧ Below w.heap.size w w' := by
  have n1 : (p.c == 0) = false := by rw [beq_eq_false_iff_ne]; omega
  clear h
  have OF := Lib.hid (fun W => rof1_any p.mn hx W)
  generalize hiS p.mn = h0 at *
  generalize loS p.mn = l0 at *
  clear hx
  unfold Pn.V valV at *
  dsimp only
  go_enter Try.func13, Try.ntmps13
  go_wp2_with fail
  refine (OF.out _).mono ?_
  rintro e w1 ⟨rfl, hb1⟩
  have DP : At w1 (w.heap.size) [.int .i64 p.c, .int .i64 p.h, .int .u64 p.l, .int .i64 p.mn, .int .i64 p.mx, .int .i64 p.t, .int .i64 p.s, .int .i64 p.q, .int .i64 p.v] := by have h := ((At.new (w) #[.int .i64 p.c, .int .i64 p.h, .int .u64 p.l, .int .i64 p.mn, .int .i64 p.mx, .int .i64 p.t, .int .i64 p.s, .int .i64 p.q, .int .i64 p.v] 33).alloc (.cells #[.int .i64 0, .int .u64 0] 31)).below hb1; simpa using h
  have DR : At w1 (w.heap.size + 1) [.int .i64 0, .int .u64 0] := by have h := (At.new ((w).alloc (.cells #[.int .i64 p.c, .int .i64 p.h, .int .u64 p.l, .int .i64 p.mn, .int .i64 p.mx, .int .i64 p.t, .int .i64 p.s, .int .i64 p.q, .int .i64 p.v] 33)) #[.int .i64 0, .int .u64 0] 31).below hb1; simpa using h
  have B : Below w.heap.size w w1 := below_then (below_new (below_new (Below.refl _ _) (.cells #[.int .i64 p.c, .int .i64 p.h, .int .u64 p.l, .int .i64 p.mn, .int .i64 p.mx, .int .i64 p.t, .int .i64 p.s, .int .i64 p.q, .int .i64 p.v] 33)) (.cells #[.int .i64 0, .int .u64 0] 31)) hb1
  clear hb1
  have aP0 := DP.cell 0 _ rfl
  have aP1 := DP.cell 1 _ rfl
  have aP2 := DP.cell 2 _ rfl
  have aP3 := DP.cell 3 _ rfl
  have aP4 := DP.cell 4 _ rfl
  have aP5 := DP.cell 5 _ rfl
  have aP6 := DP.cell 6 _ rfl
  have aP7 := DP.cell 7 _ rfl
  have aP8 := DP.cell 8 _ rfl
  have nP := DP.lt
  have aR0 := DR.cell 0 _ rfl
  have zR0 := DR.free 0 _ rfl
  have aR1 := DR.cell 1 _ rfl
  have zR1 := DR.free 1 _ rfl
  have nR := DR.lt
  go_wp2
  refine bodyPost_ret (by simp [results, Try.results13, go_sem, aR0, aR1, nR]; try rfl) rfl ?_
  exact ⟨rfl, by go_grown⟩
set_option maxHeartbeats 4000000 in
theorem rval_f4 (p : Pn) (h : ¬ p.c = 0) (hx : I64 p.mx) (w : World) : Calls Try.prog 13 #[p.V, .int .i64 4] w fun e w' => e = .returned (valV (hiS p.mx, loS p.mx, 1, true)) ∧ Below w.heap.size w w' := by
  have n1 : (p.c == 0) = false := by rw [beq_eq_false_iff_ne]; omega
  clear h
  have OF := Lib.hid (fun W => rof1_any p.mx hx W)
  generalize hiS p.mx = h0 at *
  generalize loS p.mx = l0 at *
  clear hx
  unfold Pn.V valV at *
  dsimp only
  go_enter Try.func13, Try.ntmps13
  go_wp2_with fail
  refine (OF.out _).mono ?_
  rintro e w1 ⟨rfl, hb1⟩
  have DP : At w1 (w.heap.size) [.int .i64 p.c, .int .i64 p.h, .int .u64 p.l, .int .i64 p.mn, .int .i64 p.mx, .int .i64 p.t, .int .i64 p.s, .int .i64 p.q, .int .i64 p.v] := by have h := ((At.new (w) #[.int .i64 p.c, .int .i64 p.h, .int .u64 p.l, .int .i64 p.mn, .int .i64 p.mx, .int .i64 p.t, .int .i64 p.s, .int .i64 p.q, .int .i64 p.v] 33).alloc (.cells #[.int .i64 0, .int .u64 0] 31)).below hb1; simpa using h
  have DR : At w1 (w.heap.size + 1) [.int .i64 0, .int .u64 0] := by have h := (At.new ((w).alloc (.cells #[.int .i64 p.c, .int .i64 p.h, .int .u64 p.l, .int .i64 p.mn, .int .i64 p.mx, .int .i64 p.t, .int .i64 p.s, .int .i64 p.q, .int .i64 p.v] 33)) #[.int .i64 0, .int .u64 0] 31).below hb1; simpa using h
  have B : Below w.heap.size w w1 := below_then (below_new (below_new (Below.refl _ _) (.cells #[.int .i64 p.c, .int .i64 p.h, .int .u64 p.l, .int .i64 p.mn, .int .i64 p.mx, .int .i64 p.t, .int .i64 p.s, .int .i64 p.q, .int .i64 p.v] 33)) (.cells #[.int .i64 0, .int .u64 0] 31)) hb1
  clear hb1
  have aP0 := DP.cell 0 _ rfl
  have aP1 := DP.cell 1 _ rfl
  have aP2 := DP.cell 2 _ rfl
  have aP3 := DP.cell 3 _ rfl
  have aP4 := DP.cell 4 _ rfl
  have aP5 := DP.cell 5 _ rfl
  have aP6 := DP.cell 6 _ rfl
  have aP7 := DP.cell 7 _ rfl
  have aP8 := DP.cell 8 _ rfl
  have nP := DP.lt
  have aR0 := DR.cell 0 _ rfl
  have zR0 := DR.free 0 _ rfl
  have aR1 := DR.cell 1 _ rfl
  have zR1 := DR.free 1 _ rfl
  have nR := DR.lt
  go_wp2
  refine bodyPost_ret (by simp [results, Try.results13, go_sem, aR0, aR1, nR]; try rfl) rfl ?_
  exact ⟨rfl, by go_grown⟩
set_option maxHeartbeats 4000000 in
theorem rval_f6 (p : Pn) (h : ¬ p.c = 0) (hx : I64 p.v) (w : World) : Calls Try.prog 13 #[p.V, .int .i64 6] w fun e w' => e = .returned (valV (hiS p.v, loS p.v, 1, true)) ∧ Below w.heap.size w w' := by
  have n1 : (p.c == 0) = false := by rw [beq_eq_false_iff_ne]; omega
  clear h
  have OF := Lib.hid (fun W => rof1_any p.v hx W)
  generalize hiS p.v = h0 at *
  generalize loS p.v = l0 at *
  clear hx
  unfold Pn.V valV at *
  dsimp only
  go_enter Try.func13, Try.ntmps13
  go_wp2_with fail
  refine (OF.out _).mono ?_
  rintro e w1 ⟨rfl, hb1⟩
  have DP : At w1 (w.heap.size) [.int .i64 p.c, .int .i64 p.h, .int .u64 p.l, .int .i64 p.mn, .int .i64 p.mx, .int .i64 p.t, .int .i64 p.s, .int .i64 p.q, .int .i64 p.v] := by have h := ((At.new (w) #[.int .i64 p.c, .int .i64 p.h, .int .u64 p.l, .int .i64 p.mn, .int .i64 p.mx, .int .i64 p.t, .int .i64 p.s, .int .i64 p.q, .int .i64 p.v] 33).alloc (.cells #[.int .i64 0, .int .u64 0] 31)).below hb1; simpa using h
  have DR : At w1 (w.heap.size + 1) [.int .i64 0, .int .u64 0] := by have h := (At.new ((w).alloc (.cells #[.int .i64 p.c, .int .i64 p.h, .int .u64 p.l, .int .i64 p.mn, .int .i64 p.mx, .int .i64 p.t, .int .i64 p.s, .int .i64 p.q, .int .i64 p.v] 33)) #[.int .i64 0, .int .u64 0] 31).below hb1; simpa using h
  have B : Below w.heap.size w w1 := below_then (below_new (below_new (Below.refl _ _) (.cells #[.int .i64 p.c, .int .i64 p.h, .int .u64 p.l, .int .i64 p.mn, .int .i64 p.mx, .int .i64 p.t, .int .i64 p.s, .int .i64 p.q, .int .i64 p.v] 33)) (.cells #[.int .i64 0, .int .u64 0] 31)) hb1
  clear hb1
  have aP0 := DP.cell 0 _ rfl
  have aP1 := DP.cell 1 _ rfl
  have aP2 := DP.cell 2 _ rfl
  have aP3 := DP.cell 3 _ rfl
  have aP4 := DP.cell 4 _ rfl
  have aP5 := DP.cell 5 _ rfl
  have aP6 := DP.cell 6 _ rfl
  have aP7 := DP.cell 7 _ rfl
  have aP8 := DP.cell 8 _ rfl
  have nP := DP.lt
  have aR0 := DR.cell 0 _ rfl
  have zR0 := DR.free 0 _ rfl
  have aR1 := DR.cell 1 _ rfl
  have zR1 := DR.free 1 _ rfl
  have nR := DR.lt
  go_wp2
  refine bodyPost_ret (by simp [results, Try.results13, go_sem, aR0, aR1, nR]; try rfl) rfl ?_
  exact ⟨rfl, by go_grown⟩
set_option maxHeartbeats 4000000 in
theorem rval_f2 (p : Pn) (h : ¬ p.c = 0) (w : World) : Calls Try.prog 13 #[p.V, .int .i64 2] w fun e w' => e = .returned (valV (p.h, p.l, 1, true)) ∧ Below w.heap.size w w' := by
  have n1 : (p.c == 0) = false := by rw [beq_eq_false_iff_ne]; omega
  clear h
  unfold Pn.V valV at *
  dsimp only
  go_enter Try.func13, Try.ntmps13
  go_wp2
  go_returns
  exact ⟨rfl, by go_grown⟩
set_option maxHeartbeats 4000000 in
theorem rval_f5 (p : Pn) (h : ¬ p.c = 0) (w : World) : Calls Try.prog 13 #[p.V, .int .i64 5] w fun e w' => e = .returned (valV (p.h, p.l, p.c, true)) ∧ Below w.heap.size w w' := by
  have n1 : (p.c == 0) = false := by rw [beq_eq_false_iff_ne]; omega
  clear h
  unfold Pn.V valV at *
  dsimp only
  go_enter Try.func13, Try.ntmps13
  have DP : At (((w).alloc (.cells #[.int .i64 p.c, .int .i64 p.h, .int .u64 p.l, .int .i64 p.mn, .int .i64 p.mx, .int .i64 p.t, .int .i64 p.s, .int .i64 p.q, .int .i64 p.v] 33)).alloc (.cells #[.int .i64 0, .int .u64 0] 31)) (w.heap.size) [.int .i64 p.c, .int .i64 p.h, .int .u64 p.l, .int .i64 p.mn, .int .i64 p.mx, .int .i64 p.t, .int .i64 p.s, .int .i64 p.q, .int .i64 p.v] := by have h := ((At.new (w) #[.int .i64 p.c, .int .i64 p.h, .int .u64 p.l, .int .i64 p.mn, .int .i64 p.mx, .int .i64 p.t, .int .i64 p.s, .int .i64 p.q, .int .i64 p.v] 33).alloc (.cells #[.int .i64 0, .int .u64 0] 31)); simpa using h
  have DR : At (((w).alloc (.cells #[.int .i64 p.c, .int .i64 p.h, .int .u64 p.l, .int .i64 p.mn, .int .i64 p.mx, .int .i64 p.t, .int .i64 p.s, .int .i64 p.q, .int .i64 p.v] 33)).alloc (.cells #[.int .i64 0, .int .u64 0] 31)) (w.heap.size + 1) [.int .i64 0, .int .u64 0] := by have h := (At.new ((w).alloc (.cells #[.int .i64 p.c, .int .i64 p.h, .int .u64 p.l, .int .i64 p.mn, .int .i64 p.mx, .int .i64 p.t, .int .i64 p.s, .int .i64 p.q, .int .i64 p.v] 33)) #[.int .i64 0, .int .u64 0] 31); simpa using h
  have B : Below w.heap.size w (((w).alloc (.cells #[.int .i64 p.c, .int .i64 p.h, .int .u64 p.l, .int .i64 p.mn, .int .i64 p.mx, .int .i64 p.t, .int .i64 p.s, .int .i64 p.q, .int .i64 p.v] 33)).alloc (.cells #[.int .i64 0, .int .u64 0] 31)) := below_new (below_new (Below.refl _ _) (.cells #[.int .i64 p.c, .int .i64 p.h, .int .u64 p.l, .int .i64 p.mn, .int .i64 p.mx, .int .i64 p.t, .int .i64 p.s, .int .i64 p.q, .int .i64 p.v] 33)) (.cells #[.int .i64 0, .int .u64 0] 31)
  go_wp2_with fail
  generalize ((w).alloc (.cells #[.int .i64 p.c, .int .i64 p.h, .int .u64 p.l, .int .i64 p.mn, .int .i64 p.mx, .int .i64 p.t, .int .i64 p.s, .int .i64 p.q, .int .i64 p.v] 33)).alloc (.cells #[.int .i64 0, .int .u64 0] 31) = W9 at *
  have aR0 := DR.cell 0 _ rfl
  have zR0 := DR.free 0 _ rfl
  have aR1 := DR.cell 1 _ rfl
  have zR1 := DR.free 1 _ rfl
  have nR := DR.lt
  have aP0 := DP.cell 0 _ rfl
  have aP1 := DP.cell 1 _ rfl
  have aP2 := DP.cell 2 _ rfl
  have aP3 := DP.cell 3 _ rfl
  have aP4 := DP.cell 4 _ rfl
  have aP5 := DP.cell 5 _ rfl
  have aP6 := DP.cell 6 _ rfl
  have aP7 := DP.cell 7 _ rfl
  have aP8 := DP.cell 8 _ rfl
  have nP := DP.lt
  have hM : VS p w W9 := ⟨DP, B⟩
  have DR0 := DR.drew
  clear DP DR B aR0 zR0 aR1 zR1 nR aP0 aP1 aP2 aP3 aP4 aP5 aP6 aP7 aP8 nP
  refine wp_region_held_drew (S := VS p w) (by kernel_rfl) hM.drew (fun hS => ?_)
  generalize W9.drew = w0 at *
  clear hM
  refine tkC 0 hS (fun u h => h.P.f9) ?_
  refine tkC 1 hS (fun u h => h.P.f9) ?_
  refine tkC 2 hS (fun u h => h.P.f9) ?_
  refine tkC 3 hS (fun u h => h.P.f9) ?_
  refine anyH_1 4 (fun K hK => ?_)
  have fR := DR0.f2
  go_simp
  have DR2 := (DR0.set 0 (.int .i64 p.h)).set 1 (.int .u64 p.l)
  simp only [qd, qe, qf] at DR2
  have hM2 := (hS.far 0 (.int .i64 p.h)).far 1 (.int .u64 p.l)
  clear fR hS DR0
  generalize (w0.setCell ⟨w.heap.size + 1, 0, none⟩ (.int .i64 p.h)).setCell ⟨w.heap.size + 1, 1, none⟩ (.int .u64 p.l) = w2 at *
  refine hK.out _ _ hM2 (fun hS => ?_)
  clear hK K hM2
  refine tkC 5 hS (fun u h => h.P.f9) ?_
  refine tkC 6 hS (fun u h => h.P.f9) ?_
  refine wpAnyH_done (by kernel_rfl) ?_ _
  have fR := DR2.f2
  have B := hS.B
  go_wp2
  refine bodyPost_ret (by simp [results, Try.results13, go_sem, fR]; try rfl) rfl ⟨rfl, B⟩
theorem rval_any {n : Nat} (p : Pn) (hp : Bd n p) (hn : n ≤ 1000000) (f : Int) (w : World) : Calls Try.prog 13 #[p.V, .int .i64 f] w fun e w' => e = .returned (valV (pvalR p f)) ∧ Below w.heap.size w w' := by
  unfold pvalR
  have hc := hp.c
  by_cases h : p.c = 0
  · rw [if_pos (by omega)]; exact rval_none p h f w
  rw [if_neg (by omega)]
  by_cases k1 : f = 1
  · subst k1; rw [if_pos rfl]; exact rval_f1 p h (by rw [hp.c]; unfold I64; omega) w
  rw [if_neg k1]
  by_cases k2 : f = 2
  · subst k2; rw [if_pos rfl]; exact rval_f2 p h w
  rw [if_neg k2]
  by_cases k3 : f = 3
  · subst k3; rw [if_pos rfl]; exact rval_f3 p h hp.mn w
  rw [if_neg k3]
  by_cases k4 : f = 4
  · subst k4; rw [if_pos rfl]; exact rval_f4 p h hp.mx w
  rw [if_neg k4]
  by_cases k5 : f = 5
  · subst k5; rw [if_pos rfl]; exact rval_f5 p h w
  rw [if_neg k5]
  by_cases k6 : f = 6
  · subst k6; rw [if_pos rfl]; exact rval_f6 p h hp.v w
  rw [if_neg k6]
  exact rval_other p h f k1 k2 k3 k4 k5 k6 w
end Go.Proofs.Ytkhlpbipkkbghaa
