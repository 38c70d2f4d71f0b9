/- The reference: Merge. -/
import Derived.Test.YtedcdhngiofpjaaGreatDoorPrA
namespace Go.Proofs.YtedcdhngiofpjaaGreatDoor
open Go Go.Proofs Go.RowKit Go.Shelf
set_option maxRecDepth 100000
attribute [local go_sem] cell_set Oper.semAt_some
set_option maxHeartbeats 4000000 in
theorem rmerge_mnn (p q : Pn) (h : ¬ p.c = 0) (h2 : ¬ q.c = 0) (hs : -1000000000 ≤ p.c + q.c ∧ p.c + q.c ≤ 1000000000) (h0 l0 : Int) (ip : InI p.h p.l) (iq : InI q.h q.l) (i0 : InI h0 l0) (hv : val h0 l0 = val p.h p.l + val q.h q.l) (k1 :  q.mn < p.mn) (k2 : ¬ p.mx < q.mx) (hk : ¬ Lt3 p.t p.s p.q q.t q.s q.q) (w : World) : Calls Tryz.prog 53 #[p.V, q.V] w fun e w' => e = .returned (.agg #[.int .i64 (p.c + q.c), .int .i64 h0, .int .u64 l0, .int .i64 q.mn, .int .i64 p.mx, .int .i64 p.t, .int .i64 p.s, .int .i64 p.q, .int .i64 p.v]) ∧ Below w.heap.size w w' := by
  have n1 : (p.c == 0) = false := by rw [beq_eq_false_iff_ne]; omega
  have n2 : (q.c == 0) = false := by rw [beq_eq_false_iff_ne]; omega
  have AD := Lib.hid (fun W => ref_add_ok p.h p.l q.h q.l h0 l0 ip iq i0 hv W)
  have SD := Lib.hid (fun W => stands_any q p W)
  rw [decide_eq_false hk] at SD
  clear hk ip iq i0 hv h h2
  unfold Pn.V at *
  go_enter Tryz.func53, Tryz.ntmps53
  go_wp2_with fail
  refine (AD.out _).mono ?_
  rintro e w1 ⟨rfl, hb1⟩
  have DP : At w1 (w.heap.size) [.int .i64 p.c, .int .i64 p.h, .int .u64 p.l, .int .i64 p.mn, .int .i64 p.mx, .int .i64 p.t, .int .i64 p.s, .int .i64 p.q, .int .i64 p.v] := by have h := ((((At.new (w) #[.int .i64 p.c, .int .i64 p.h, .int .u64 p.l, .int .i64 p.mn, .int .i64 p.mx, .int .i64 p.t, .int .i64 p.s, .int .i64 p.q, .int .i64 p.v] 67).alloc (.cells #[.int .i64 q.c, .int .i64 q.h, .int .u64 q.l, .int .i64 q.mn, .int .i64 q.mx, .int .i64 q.t, .int .i64 q.s, .int .i64 q.q, .int .i64 q.v] 67)).alloc (.cells #[.int .i64 0, .int .i64 0, .int .u64 0, .int .i64 0, .int .i64 0, .int .i64 0, .int .i64 0, .int .i64 0, .int .i64 0] 67)).alloc (.cells #[.int .i64 (p.c + q.c), .int .i64 p.h, .int .u64 p.l, .int .i64 p.mn, .int .i64 p.mx, .int .i64 p.t, .int .i64 p.s, .int .i64 p.q, .int .i64 p.v] 67)).below hb1; simpa using h
  have DQ : At w1 (w.heap.size + 1) [.int .i64 q.c, .int .i64 q.h, .int .u64 q.l, .int .i64 q.mn, .int .i64 q.mx, .int .i64 q.t, .int .i64 q.s, .int .i64 q.q, .int .i64 q.v] := by have h := (((At.new ((w).alloc (.cells #[.int .i64 p.c, .int .i64 p.h, .int .u64 p.l, .int .i64 p.mn, .int .i64 p.mx, .int .i64 p.t, .int .i64 p.s, .int .i64 p.q, .int .i64 p.v] 67)) #[.int .i64 q.c, .int .i64 q.h, .int .u64 q.l, .int .i64 q.mn, .int .i64 q.mx, .int .i64 q.t, .int .i64 q.s, .int .i64 q.q, .int .i64 q.v] 67).alloc (.cells #[.int .i64 0, .int .i64 0, .int .u64 0, .int .i64 0, .int .i64 0, .int .i64 0, .int .i64 0, .int .i64 0, .int .i64 0] 67)).alloc (.cells #[.int .i64 (p.c + q.c), .int .i64 p.h, .int .u64 p.l, .int .i64 p.mn, .int .i64 p.mx, .int .i64 p.t, .int .i64 p.s, .int .i64 p.q, .int .i64 p.v] 67)).below hb1; simpa using h
  have DR : At w1 (w.heap.size + 1 + 1) [.int .i64 0, .int .i64 0, .int .u64 0, .int .i64 0, .int .i64 0, .int .i64 0, .int .i64 0, .int .i64 0, .int .i64 0] := by have h := ((At.new (((w).alloc (.cells #[.int .i64 p.c, .int .i64 p.h, .int .u64 p.l, .int .i64 p.mn, .int .i64 p.mx, .int .i64 p.t, .int .i64 p.s, .int .i64 p.q, .int .i64 p.v] 67)).alloc (.cells #[.int .i64 q.c, .int .i64 q.h, .int .u64 q.l, .int .i64 q.mn, .int .i64 q.mx, .int .i64 q.t, .int .i64 q.s, .int .i64 q.q, .int .i64 q.v] 67)) #[.int .i64 0, .int .i64 0, .int .u64 0, .int .i64 0, .int .i64 0, .int .i64 0, .int .i64 0, .int .i64 0, .int .i64 0] 67).alloc (.cells #[.int .i64 (p.c + q.c), .int .i64 p.h, .int .u64 p.l, .int .i64 p.mn, .int .i64 p.mx, .int .i64 p.t, .int .i64 p.s, .int .i64 p.q, .int .i64 p.v] 67)).below hb1; simpa using h
  have DC : At w1 (w.heap.size + 1 + 1 + 1) [.int .i64 (p.c + q.c), .int .i64 p.h, .int .u64 p.l, .int .i64 p.mn, .int .i64 p.mx, .int .i64 p.t, .int .i64 p.s, .int .i64 p.q, .int .i64 p.v] := by have h := (At.new ((((w).alloc (.cells #[.int .i64 p.c, .int .i64 p.h, .int .u64 p.l, .int .i64 p.mn, .int .i64 p.mx, .int .i64 p.t, .int .i64 p.s, .int .i64 p.q, .int .i64 p.v] 67)).alloc (.cells #[.int .i64 q.c, .int .i64 q.h, .int .u64 q.l, .int .i64 q.mn, .int .i64 q.mx, .int .i64 q.t, .int .i64 q.s, .int .i64 q.q, .int .i64 q.v] 67)).alloc (.cells #[.int .i64 0, .int .i64 0, .int .u64 0, .int .i64 0, .int .i64 0, .int .i64 0, .int .i64 0, .int .i64 0, .int .i64 0] 67)) #[.int .i64 (p.c + q.c), .int .i64 p.h, .int .u64 p.l, .int .i64 p.mn, .int .i64 p.mx, .int .i64 p.t, .int .i64 p.s, .int .i64 p.q, .int .i64 p.v] 67).below hb1; simpa using h
  have B : Below w.heap.size w w1 := below_then (below_new (below_new (below_new (below_new (Below.refl _ _) (.cells #[.int .i64 p.c, .int .i64 p.h, .int .u64 p.l, .int .i64 p.mn, .int .i64 p.mx, .int .i64 p.t, .int .i64 p.s, .int .i64 p.q, .int .i64 p.v] 67)) (.cells #[.int .i64 q.c, .int .i64 q.h, .int .u64 q.l, .int .i64 q.mn, .int .i64 q.mx, .int .i64 q.t, .int .i64 q.s, .int .i64 q.q, .int .i64 q.v] 67)) (.cells #[.int .i64 0, .int .i64 0, .int .u64 0, .int .i64 0, .int .i64 0, .int .i64 0, .int .i64 0, .int .i64 0, .int .i64 0] 67)) (.cells #[.int .i64 (p.c + q.c), .int .i64 p.h, .int .u64 p.l, .int .i64 p.mn, .int .i64 p.mx, .int .i64 p.t, .int .i64 p.s, .int .i64 p.q, .int .i64 p.v] 67)) hb1
  clear hb1
  have aP0 := DP.cell 0 _ rfl
  have aP1 := DP.cell 1 _ rfl
  have aP2 := DP.cell 2 _ rfl
  have aP3 := DP.cell 3 _ rfl
  have aP4 := DP.cell 4 _ rfl
  have aP5 := DP.cell 5 _ rfl
  have aP6 := DP.cell 6 _ rfl
  have aP7 := DP.cell 7 _ rfl
  have aP8 := DP.cell 8 _ rfl
  have nP := DP.lt
  have aQ0 := DQ.cell 0 _ rfl
  have aQ1 := DQ.cell 1 _ rfl
  have aQ2 := DQ.cell 2 _ rfl
  have aQ3 := DQ.cell 3 _ rfl
  have aQ4 := DQ.cell 4 _ rfl
  have aQ5 := DQ.cell 5 _ rfl
  have aQ6 := DQ.cell 6 _ rfl
  have aQ7 := DQ.cell 7 _ rfl
  have aQ8 := DQ.cell 8 _ rfl
  have nQ := DQ.lt
  have aR0 := DR.cell 0 _ rfl
  have zR0 := DR.free 0 _ rfl
  have aR1 := DR.cell 1 _ rfl
  have zR1 := DR.free 1 _ rfl
  have aR2 := DR.cell 2 _ rfl
  have zR2 := DR.free 2 _ rfl
  have aR3 := DR.cell 3 _ rfl
  have zR3 := DR.free 3 _ rfl
  have aR4 := DR.cell 4 _ rfl
  have zR4 := DR.free 4 _ rfl
  have aR5 := DR.cell 5 _ rfl
  have zR5 := DR.free 5 _ rfl
  have aR6 := DR.cell 6 _ rfl
  have zR6 := DR.free 6 _ rfl
  have aR7 := DR.cell 7 _ rfl
  have zR7 := DR.free 7 _ rfl
  have aR8 := DR.cell 8 _ rfl
  have zR8 := DR.free 8 _ rfl
  have nR := DR.lt
  have aC0 := DC.cell 0 _ rfl
  have zC0 := DC.free 0 _ rfl
  have aC1 := DC.cell 1 _ rfl
  have zC1 := DC.free 1 _ rfl
  have aC2 := DC.cell 2 _ rfl
  have zC2 := DC.free 2 _ rfl
  have aC3 := DC.cell 3 _ rfl
  have zC3 := DC.free 3 _ rfl
  have aC4 := DC.cell 4 _ rfl
  have zC4 := DC.free 4 _ rfl
  have aC5 := DC.cell 5 _ rfl
  have zC5 := DC.free 5 _ rfl
  have aC6 := DC.cell 6 _ rfl
  have zC6 := DC.free 6 _ rfl
  have aC7 := DC.cell 7 _ rfl
  have zC7 := DC.free 7 _ rfl
  have aC8 := DC.cell 8 _ rfl
  have zC8 := DC.free 8 _ rfl
  have nC := DC.lt
  go_wp2_with fail
  refine (SD.out _).mono ?_
  rintro e w2 ⟨rfl, hb⟩
  have DC2 := (((DC.set 1 (.int .i64 h0)).set 2 (.int .u64 l0)).set 3 (.int .i64 q.mn))
  simp only [qd, qe, qf] at DC2
  have DC := DC2.below hb
  have DP := At.below (At.far (b' := w.heap.size + 1 + 1 + 1) (j := 3) (At.far (b' := w.heap.size + 1 + 1 + 1) (j := 2) (At.far (b' := w.heap.size + 1 + 1 + 1) (j := 1) DP (by omega) (.int .i64 h0)) (by omega) (.int .u64 l0)) (by omega) (.int .i64 q.mn)) hb
  have DQ := At.below (At.far (b' := w.heap.size + 1 + 1 + 1) (j := 3) (At.far (b' := w.heap.size + 1 + 1 + 1) (j := 2) (At.far (b' := w.heap.size + 1 + 1 + 1) (j := 1) DQ (by omega) (.int .i64 h0)) (by omega) (.int .u64 l0)) (by omega) (.int .i64 q.mn)) hb
  have DR := At.below (At.far (b' := w.heap.size + 1 + 1 + 1) (j := 3) (At.far (b' := w.heap.size + 1 + 1 + 1) (j := 2) (At.far (b' := w.heap.size + 1 + 1 + 1) (j := 1) DR (by omega) (.int .i64 h0)) (by omega) (.int .u64 l0)) (by omega) (.int .i64 q.mn)) hb
  have B := below_then (Below.setCell (p := ⟨w.heap.size + 1 + 1 + 1, 3, none⟩) (Below.setCell (p := ⟨w.heap.size + 1 + 1 + 1, 2, none⟩) (Below.setCell (p := ⟨w.heap.size + 1 + 1 + 1, 1, none⟩) B (by dsimp only; omega) (.int .i64 h0)) (by dsimp only; omega) (.int .u64 l0)) (by dsimp only; omega) (.int .i64 q.mn)) hb
  clear DC2 hb aP0 aP1 aP2 aP3 aP4 aP5 aP6 aP7 aP8 nP aQ0 aQ1 aQ2 aQ3 aQ4 aQ5 aQ6 aQ7 aQ8 nQ aR0 zR0 aR1 zR1 aR2 zR2 aR3 zR3 aR4 zR4 aR5 zR5 aR6 zR6 aR7 zR7 aR8 zR8 nR aC0 zC0 aC1 zC1 aC2 zC2 aC3 zC3 aC4 zC4 aC5 zC5 aC6 zC6 aC7 zC7 aC8 zC8 nC
  have aP0 := DP.cell 0 _ rfl
  have aP1 := DP.cell 1 _ rfl
  have aP2 := DP.cell 2 _ rfl
  have aP3 := DP.cell 3 _ rfl
  have aP4 := DP.cell 4 _ rfl
  have aP5 := DP.cell 5 _ rfl
  have aP6 := DP.cell 6 _ rfl
  have aP7 := DP.cell 7 _ rfl
  have aP8 := DP.cell 8 _ rfl
  have nP := DP.lt
  have aQ0 := DQ.cell 0 _ rfl
  have aQ1 := DQ.cell 1 _ rfl
  have aQ2 := DQ.cell 2 _ rfl
  have aQ3 := DQ.cell 3 _ rfl
  have aQ4 := DQ.cell 4 _ rfl
  have aQ5 := DQ.cell 5 _ rfl
  have aQ6 := DQ.cell 6 _ rfl
  have aQ7 := DQ.cell 7 _ rfl
  have aQ8 := DQ.cell 8 _ rfl
  have nQ := DQ.lt
  have aR0 := DR.cell 0 _ rfl
  have zR0 := DR.free 0 _ rfl
  have aR1 := DR.cell 1 _ rfl
  have zR1 := DR.free 1 _ rfl
  have aR2 := DR.cell 2 _ rfl
  have zR2 := DR.free 2 _ rfl
  have aR3 := DR.cell 3 _ rfl
  have zR3 := DR.free 3 _ rfl
  have aR4 := DR.cell 4 _ rfl
  have zR4 := DR.free 4 _ rfl
  have aR5 := DR.cell 5 _ rfl
  have zR5 := DR.free 5 _ rfl
  have aR6 := DR.cell 6 _ rfl
  have zR6 := DR.free 6 _ rfl
  have aR7 := DR.cell 7 _ rfl
  have zR7 := DR.free 7 _ rfl
  have aR8 := DR.cell 8 _ rfl
  have zR8 := DR.free 8 _ rfl
  have nR := DR.lt
  have aC0 := DC.cell 0 _ rfl
  have zC0 := DC.free 0 _ rfl
  have aC1 := DC.cell 1 _ rfl
  have zC1 := DC.free 1 _ rfl
  have aC2 := DC.cell 2 _ rfl
  have zC2 := DC.free 2 _ rfl
  have aC3 := DC.cell 3 _ rfl
  have zC3 := DC.free 3 _ rfl
  have aC4 := DC.cell 4 _ rfl
  have zC4 := DC.free 4 _ rfl
  have aC5 := DC.cell 5 _ rfl
  have zC5 := DC.free 5 _ rfl
  have aC6 := DC.cell 6 _ rfl
  have zC6 := DC.free 6 _ rfl
  have aC7 := DC.cell 7 _ rfl
  have zC7 := DC.free 7 _ rfl
  have aC8 := DC.cell 8 _ rfl
  have zC8 := DC.free 8 _ rfl
  have nC := DC.lt
  have DR2 := DR
  have B2 := B
  have R4 := (((((((((DR2.set 0 (.int .i64 (p.c + q.c))).set 1 (.int .i64 h0)).set 2 (.int .u64 l0)).set 3 (.int .i64 q.mn)).set 4 (.int .i64 p.mx)).set 5 (.int .i64 p.t)).set 6 (.int .i64 p.s)).set 7 (.int .i64 p.q)).set 8 (.int .i64 p.v))
  simp only [qd, qe, qf] at R4
  have fR := R4.f9
  have B4 := (Below.setCell (p := ⟨w.heap.size + 1 + 1, 8, none⟩) (Below.setCell (p := ⟨w.heap.size + 1 + 1, 7, none⟩) (Below.setCell (p := ⟨w.heap.size + 1 + 1, 6, none⟩) (Below.setCell (p := ⟨w.heap.size + 1 + 1, 5, none⟩) (Below.setCell (p := ⟨w.heap.size + 1 + 1, 4, none⟩) (Below.setCell (p := ⟨w.heap.size + 1 + 1, 3, none⟩) (Below.setCell (p := ⟨w.heap.size + 1 + 1, 2, none⟩) (Below.setCell (p := ⟨w.heap.size + 1 + 1, 1, none⟩) (Below.setCell (p := ⟨w.heap.size + 1 + 1, 0, none⟩) B2 (by dsimp only; omega) (.int .i64 (p.c + q.c))) (by dsimp only; omega) (.int .i64 h0)) (by dsimp only; omega) (.int .u64 l0)) (by dsimp only; omega) (.int .i64 q.mn)) (by dsimp only; omega) (.int .i64 p.mx)) (by dsimp only; omega) (.int .i64 p.t)) (by dsimp only; omega) (.int .i64 p.s)) (by dsimp only; omega) (.int .i64 p.q)) (by dsimp only; omega) (.int .i64 p.v))
  go_wp2
  refine bodyPost_ret (by simp [results, Tryz.results53, go_sem, fR]; try rfl) rfl ⟨rfl, B4⟩
set_option maxHeartbeats 4000000 in
theorem rmerge_mnl (p q : Pn) (h : ¬ p.c = 0) (h2 : ¬ q.c = 0) (hs : -1000000000 ≤ p.c + q.c ∧ p.c + q.c ≤ 1000000000) (h0 l0 : Int) (ip : InI p.h p.l) (iq : InI q.h q.l) (i0 : InI h0 l0) (hv : val h0 l0 = val p.h p.l + val q.h q.l) (k1 :  q.mn < p.mn) (k2 : ¬ p.mx < q.mx) (hk :  Lt3 p.t p.s p.q q.t q.s q.q) (w : World) : Calls Tryz.prog 53 #[p.V, q.V] w fun e w' => e = .returned (.agg #[.int .i64 (p.c + q.c), .int .i64 h0, .int .u64 l0, .int .i64 q.mn, .int .i64 p.mx, .int .i64 q.t, .int .i64 q.s, .int .i64 q.q, .int .i64 q.v]) ∧ Below w.heap.size w w' := by
  have n1 : (p.c == 0) = false := by rw [beq_eq_false_iff_ne]; omega
  have n2 : (q.c == 0) = false := by rw [beq_eq_false_iff_ne]; omega
  have AD := Lib.hid (fun W => ref_add_ok p.h p.l q.h q.l h0 l0 ip iq i0 hv W)
  have SD := Lib.hid (fun W => stands_any q p W)
  rw [decide_eq_true hk] at SD
  clear hk ip iq i0 hv h h2
  unfold Pn.V at *
  go_enter Tryz.func53, Tryz.ntmps53
  go_wp2_with fail
  refine (AD.out _).mono ?_
  rintro e w1 ⟨rfl, hb1⟩
  have DP : At w1 (w.heap.size) [.int .i64 p.c, .int .i64 p.h, .int .u64 p.l, .int .i64 p.mn, .int .i64 p.mx, .int .i64 p.t, .int .i64 p.s, .int .i64 p.q, .int .i64 p.v] := by have h := ((((At.new (w) #[.int .i64 p.c, .int .i64 p.h, .int .u64 p.l, .int .i64 p.mn, .int .i64 p.mx, .int .i64 p.t, .int .i64 p.s, .int .i64 p.q, .int .i64 p.v] 67).alloc (.cells #[.int .i64 q.c, .int .i64 q.h, .int .u64 q.l, .int .i64 q.mn, .int .i64 q.mx, .int .i64 q.t, .int .i64 q.s, .int .i64 q.q, .int .i64 q.v] 67)).alloc (.cells #[.int .i64 0, .int .i64 0, .int .u64 0, .int .i64 0, .int .i64 0, .int .i64 0, .int .i64 0, .int .i64 0, .int .i64 0] 67)).alloc (.cells #[.int .i64 (p.c + q.c), .int .i64 p.h, .int .u64 p.l, .int .i64 p.mn, .int .i64 p.mx, .int .i64 p.t, .int .i64 p.s, .int .i64 p.q, .int .i64 p.v] 67)).below hb1; simpa using h
  have DQ : At w1 (w.heap.size + 1) [.int .i64 q.c, .int .i64 q.h, .int .u64 q.l, .int .i64 q.mn, .int .i64 q.mx, .int .i64 q.t, .int .i64 q.s, .int .i64 q.q, .int .i64 q.v] := by have h := (((At.new ((w).alloc (.cells #[.int .i64 p.c, .int .i64 p.h, .int .u64 p.l, .int .i64 p.mn, .int .i64 p.mx, .int .i64 p.t, .int .i64 p.s, .int .i64 p.q, .int .i64 p.v] 67)) #[.int .i64 q.c, .int .i64 q.h, .int .u64 q.l, .int .i64 q.mn, .int .i64 q.mx, .int .i64 q.t, .int .i64 q.s, .int .i64 q.q, .int .i64 q.v] 67).alloc (.cells #[.int .i64 0, .int .i64 0, .int .u64 0, .int .i64 0, .int .i64 0, .int .i64 0, .int .i64 0, .int .i64 0, .int .i64 0] 67)).alloc (.cells #[.int .i64 (p.c + q.c), .int .i64 p.h, .int .u64 p.l, .int .i64 p.mn, .int .i64 p.mx, .int .i64 p.t, .int .i64 p.s, .int .i64 p.q, .int .i64 p.v] 67)).below hb1; simpa using h
  have DR : At w1 (w.heap.size + 1 + 1) [.int .i64 0, .int .i64 0, .int .u64 0, .int .i64 0, .int .i64 0, .int .i64 0, .int .i64 0, .int .i64 0, .int .i64 0] := by have h := ((At.new (((w).alloc (.cells #[.int .i64 p.c, .int .i64 p.h, .int .u64 p.l, .int .i64 p.mn, .int .i64 p.mx, .int .i64 p.t, .int .i64 p.s, .int .i64 p.q, .int .i64 p.v] 67)).alloc (.cells #[.int .i64 q.c, .int .i64 q.h, .int .u64 q.l, .int .i64 q.mn, .int .i64 q.mx, .int .i64 q.t, .int .i64 q.s, .int .i64 q.q, .int .i64 q.v] 67)) #[.int .i64 0, .int .i64 0, .int .u64 0, .int .i64 0, .int .i64 0, .int .i64 0, .int .i64 0, .int .i64 0, .int .i64 0] 67).alloc (.cells #[.int .i64 (p.c + q.c), .int .i64 p.h, .int .u64 p.l, .int .i64 p.mn, .int .i64 p.mx, .int .i64 p.t, .int .i64 p.s, .int .i64 p.q, .int .i64 p.v] 67)).below hb1; simpa using h
  have DC : At w1 (w.heap.size + 1 + 1 + 1) [.int .i64 (p.c + q.c), .int .i64 p.h, .int .u64 p.l, .int .i64 p.mn, .int .i64 p.mx, .int .i64 p.t, .int .i64 p.s, .int .i64 p.q, .int .i64 p.v] := by have h := (At.new ((((w).alloc (.cells #[.int .i64 p.c, .int .i64 p.h, .int .u64 p.l, .int .i64 p.mn, .int .i64 p.mx, .int .i64 p.t, .int .i64 p.s, .int .i64 p.q, .int .i64 p.v] 67)).alloc (.cells #[.int .i64 q.c, .int .i64 q.h, .int .u64 q.l, .int .i64 q.mn, .int .i64 q.mx, .int .i64 q.t, .int .i64 q.s, .int .i64 q.q, .int .i64 q.v] 67)).alloc (.cells #[.int .i64 0, .int .i64 0, .int .u64 0, .int .i64 0, .int .i64 0, .int .i64 0, .int .i64 0, .int .i64 0, .int .i64 0] 67)) #[.int .i64 (p.c + q.c), .int .i64 p.h, .int .u64 p.l, .int .i64 p.mn, .int .i64 p.mx, .int .i64 p.t, .int .i64 p.s, .int .i64 p.q, .int .i64 p.v] 67).below hb1; simpa using h
  have B : Below w.heap.size w w1 := below_then (below_new (below_new (below_new (below_new (Below.refl _ _) (.cells #[.int .i64 p.c, .int .i64 p.h, .int .u64 p.l, .int .i64 p.mn, .int .i64 p.mx, .int .i64 p.t, .int .i64 p.s, .int .i64 p.q, .int .i64 p.v] 67)) (.cells #[.int .i64 q.c, .int .i64 q.h, .int .u64 q.l, .int .i64 q.mn, .int .i64 q.mx, .int .i64 q.t, .int .i64 q.s, .int .i64 q.q, .int .i64 q.v] 67)) (.cells #[.int .i64 0, .int .i64 0, .int .u64 0, .int .i64 0, .int .i64 0, .int .i64 0, .int .i64 0, .int .i64 0, .int .i64 0] 67)) (.cells #[.int .i64 (p.c + q.c), .int .i64 p.h, .int .u64 p.l, .int .i64 p.mn, .int .i64 p.mx, .int .i64 p.t, .int .i64 p.s, .int .i64 p.q, .int .i64 p.v] 67)) hb1
  clear hb1
  have aP0 := DP.cell 0 _ rfl
  have aP1 := DP.cell 1 _ rfl
  have aP2 := DP.cell 2 _ rfl
  have aP3 := DP.cell 3 _ rfl
  have aP4 := DP.cell 4 _ rfl
  have aP5 := DP.cell 5 _ rfl
  have aP6 := DP.cell 6 _ rfl
  have aP7 := DP.cell 7 _ rfl
  have aP8 := DP.cell 8 _ rfl
  have nP := DP.lt
  have aQ0 := DQ.cell 0 _ rfl
  have aQ1 := DQ.cell 1 _ rfl
  have aQ2 := DQ.cell 2 _ rfl
  have aQ3 := DQ.cell 3 _ rfl
  have aQ4 := DQ.cell 4 _ rfl
  have aQ5 := DQ.cell 5 _ rfl
  have aQ6 := DQ.cell 6 _ rfl
  have aQ7 := DQ.cell 7 _ rfl
  have aQ8 := DQ.cell 8 _ rfl
  have nQ := DQ.lt
  have aR0 := DR.cell 0 _ rfl
  have zR0 := DR.free 0 _ rfl
  have aR1 := DR.cell 1 _ rfl
  have zR1 := DR.free 1 _ rfl
  have aR2 := DR.cell 2 _ rfl
  have zR2 := DR.free 2 _ rfl
  have aR3 := DR.cell 3 _ rfl
  have zR3 := DR.free 3 _ rfl
  have aR4 := DR.cell 4 _ rfl
  have zR4 := DR.free 4 _ rfl
  have aR5 := DR.cell 5 _ rfl
  have zR5 := DR.free 5 _ rfl
  have aR6 := DR.cell 6 _ rfl
  have zR6 := DR.free 6 _ rfl
  have aR7 := DR.cell 7 _ rfl
  have zR7 := DR.free 7 _ rfl
  have aR8 := DR.cell 8 _ rfl
  have zR8 := DR.free 8 _ rfl
  have nR := DR.lt
  have aC0 := DC.cell 0 _ rfl
  have zC0 := DC.free 0 _ rfl
  have aC1 := DC.cell 1 _ rfl
  have zC1 := DC.free 1 _ rfl
  have aC2 := DC.cell 2 _ rfl
  have zC2 := DC.free 2 _ rfl
  have aC3 := DC.cell 3 _ rfl
  have zC3 := DC.free 3 _ rfl
  have aC4 := DC.cell 4 _ rfl
  have zC4 := DC.free 4 _ rfl
  have aC5 := DC.cell 5 _ rfl
  have zC5 := DC.free 5 _ rfl
  have aC6 := DC.cell 6 _ rfl
  have zC6 := DC.free 6 _ rfl
  have aC7 := DC.cell 7 _ rfl
  have zC7 := DC.free 7 _ rfl
  have aC8 := DC.cell 8 _ rfl
  have zC8 := DC.free 8 _ rfl
  have nC := DC.lt
  go_wp2_with fail
  refine (SD.out _).mono ?_
  rintro e w2 ⟨rfl, hb⟩
  have DC2 := (((DC.set 1 (.int .i64 h0)).set 2 (.int .u64 l0)).set 3 (.int .i64 q.mn))
  simp only [qd, qe, qf] at DC2
  have DC := DC2.below hb
  have DP := At.below (At.far (b' := w.heap.size + 1 + 1 + 1) (j := 3) (At.far (b' := w.heap.size + 1 + 1 + 1) (j := 2) (At.far (b' := w.heap.size + 1 + 1 + 1) (j := 1) DP (by omega) (.int .i64 h0)) (by omega) (.int .u64 l0)) (by omega) (.int .i64 q.mn)) hb
  have DQ := At.below (At.far (b' := w.heap.size + 1 + 1 + 1) (j := 3) (At.far (b' := w.heap.size + 1 + 1 + 1) (j := 2) (At.far (b' := w.heap.size + 1 + 1 + 1) (j := 1) DQ (by omega) (.int .i64 h0)) (by omega) (.int .u64 l0)) (by omega) (.int .i64 q.mn)) hb
  have DR := At.below (At.far (b' := w.heap.size + 1 + 1 + 1) (j := 3) (At.far (b' := w.heap.size + 1 + 1 + 1) (j := 2) (At.far (b' := w.heap.size + 1 + 1 + 1) (j := 1) DR (by omega) (.int .i64 h0)) (by omega) (.int .u64 l0)) (by omega) (.int .i64 q.mn)) hb
  have B := below_then (Below.setCell (p := ⟨w.heap.size + 1 + 1 + 1, 3, none⟩) (Below.setCell (p := ⟨w.heap.size + 1 + 1 + 1, 2, none⟩) (Below.setCell (p := ⟨w.heap.size + 1 + 1 + 1, 1, none⟩) B (by dsimp only; omega) (.int .i64 h0)) (by dsimp only; omega) (.int .u64 l0)) (by dsimp only; omega) (.int .i64 q.mn)) hb
  clear DC2 hb aP0 aP1 aP2 aP3 aP4 aP5 aP6 aP7 aP8 nP aQ0 aQ1 aQ2 aQ3 aQ4 aQ5 aQ6 aQ7 aQ8 nQ aR0 zR0 aR1 zR1 aR2 zR2 aR3 zR3 aR4 zR4 aR5 zR5 aR6 zR6 aR7 zR7 aR8 zR8 nR aC0 zC0 aC1 zC1 aC2 zC2 aC3 zC3 aC4 zC4 aC5 zC5 aC6 zC6 aC7 zC7 aC8 zC8 nC
  have aP0 := DP.cell 0 _ rfl
  have aP1 := DP.cell 1 _ rfl
  have aP2 := DP.cell 2 _ rfl
  have aP3 := DP.cell 3 _ rfl
  have aP4 := DP.cell 4 _ rfl
  have aP5 := DP.cell 5 _ rfl
  have aP6 := DP.cell 6 _ rfl
  have aP7 := DP.cell 7 _ rfl
  have aP8 := DP.cell 8 _ rfl
  have nP := DP.lt
  have aQ0 := DQ.cell 0 _ rfl
  have aQ1 := DQ.cell 1 _ rfl
  have aQ2 := DQ.cell 2 _ rfl
  have aQ3 := DQ.cell 3 _ rfl
  have aQ4 := DQ.cell 4 _ rfl
  have aQ5 := DQ.cell 5 _ rfl
  have aQ6 := DQ.cell 6 _ rfl
  have aQ7 := DQ.cell 7 _ rfl
  have aQ8 := DQ.cell 8 _ rfl
  have nQ := DQ.lt
  have aR0 := DR.cell 0 _ rfl
  have zR0 := DR.free 0 _ rfl
  have aR1 := DR.cell 1 _ rfl
  have zR1 := DR.free 1 _ rfl
  have aR2 := DR.cell 2 _ rfl
  have zR2 := DR.free 2 _ rfl
  have aR3 := DR.cell 3 _ rfl
  have zR3 := DR.free 3 _ rfl
  have aR4 := DR.cell 4 _ rfl
  have zR4 := DR.free 4 _ rfl
  have aR5 := DR.cell 5 _ rfl
  have zR5 := DR.free 5 _ rfl
  have aR6 := DR.cell 6 _ rfl
  have zR6 := DR.free 6 _ rfl
  have aR7 := DR.cell 7 _ rfl
  have zR7 := DR.free 7 _ rfl
  have aR8 := DR.cell 8 _ rfl
  have zR8 := DR.free 8 _ rfl
  have nR := DR.lt
  have aC0 := DC.cell 0 _ rfl
  have zC0 := DC.free 0 _ rfl
  have aC1 := DC.cell 1 _ rfl
  have zC1 := DC.free 1 _ rfl
  have aC2 := DC.cell 2 _ rfl
  have zC2 := DC.free 2 _ rfl
  have aC3 := DC.cell 3 _ rfl
  have zC3 := DC.free 3 _ rfl
  have aC4 := DC.cell 4 _ rfl
  have zC4 := DC.free 4 _ rfl
  have aC5 := DC.cell 5 _ rfl
  have zC5 := DC.free 5 _ rfl
  have aC6 := DC.cell 6 _ rfl
  have zC6 := DC.free 6 _ rfl
  have aC7 := DC.cell 7 _ rfl
  have zC7 := DC.free 7 _ rfl
  have aC8 := DC.cell 8 _ rfl
  have zC8 := DC.free 8 _ rfl
  have nC := DC.lt
  have DC2 := ((((DC.set 5 (.int .i64 q.t)).set 6 (.int .i64 q.s)).set 7 (.int .i64 q.q)).set 8 (.int .i64 q.v))
  simp only [qd, qe, qf] at DC2
  have DR2 := (At.far (b' := w.heap.size + 1 + 1 + 1) (j := 8) (At.far (b' := w.heap.size + 1 + 1 + 1) (j := 7) (At.far (b' := w.heap.size + 1 + 1 + 1) (j := 6) (At.far (b' := w.heap.size + 1 + 1 + 1) (j := 5) DR (by omega) (.int .i64 q.t)) (by omega) (.int .i64 q.s)) (by omega) (.int .i64 q.q)) (by omega) (.int .i64 q.v))
  have B2 := (Below.setCell (p := ⟨w.heap.size + 1 + 1 + 1, 8, none⟩) (Below.setCell (p := ⟨w.heap.size + 1 + 1 + 1, 7, none⟩) (Below.setCell (p := ⟨w.heap.size + 1 + 1 + 1, 6, none⟩) (Below.setCell (p := ⟨w.heap.size + 1 + 1 + 1, 5, none⟩) B (by dsimp only; omega) (.int .i64 q.t)) (by dsimp only; omega) (.int .i64 q.s)) (by dsimp only; omega) (.int .i64 q.q)) (by dsimp only; omega) (.int .i64 q.v))
  have fC := DC2.f9
  have R4 := (((((((((DR2.set 0 (.int .i64 (p.c + q.c))).set 1 (.int .i64 h0)).set 2 (.int .u64 l0)).set 3 (.int .i64 q.mn)).set 4 (.int .i64 p.mx)).set 5 (.int .i64 q.t)).set 6 (.int .i64 q.s)).set 7 (.int .i64 q.q)).set 8 (.int .i64 q.v))
  simp only [qd, qe, qf] at R4
  have fR := R4.f9
  have B4 := (Below.setCell (p := ⟨w.heap.size + 1 + 1, 8, none⟩) (Below.setCell (p := ⟨w.heap.size + 1 + 1, 7, none⟩) (Below.setCell (p := ⟨w.heap.size + 1 + 1, 6, none⟩) (Below.setCell (p := ⟨w.heap.size + 1 + 1, 5, none⟩) (Below.setCell (p := ⟨w.heap.size + 1 + 1, 4, none⟩) (Below.setCell (p := ⟨w.heap.size + 1 + 1, 3, none⟩) (Below.setCell (p := ⟨w.heap.size + 1 + 1, 2, none⟩) (Below.setCell (p := ⟨w.heap.size + 1 + 1, 1, none⟩) (Below.setCell (p := ⟨w.heap.size + 1 + 1, 0, none⟩) B2 (by dsimp only; omega) (.int .i64 (p.c + q.c))) (by dsimp only; omega) (.int .i64 h0)) (by dsimp only; omega) (.int .u64 l0)) (by dsimp only; omega) (.int .i64 q.mn)) (by dsimp only; omega) (.int .i64 p.mx)) (by dsimp only; omega) (.int .i64 q.t)) (by dsimp only; omega) (.int .i64 q.s)) (by dsimp only; omega) (.int .i64 q.q)) (by dsimp only; omega) (.int .i64 q.v))
  go_wp2
  refine bodyPost_ret (by simp [results, Tryz.results53, go_sem, fR]; try rfl) rfl ⟨rfl, B4⟩
set_option maxHeartbeats 4000000 in
theorem rmerge_mxn (p q : Pn) (h : ¬ p.c = 0) (h2 : ¬ q.c = 0) (hs : -1000000000 ≤ p.c + q.c ∧ p.c + q.c ≤ 1000000000) (h0 l0 : Int) (ip : InI p.h p.l) (iq : InI q.h q.l) (i0 : InI h0 l0) (hv : val h0 l0 = val p.h p.l + val q.h q.l) (k1 :  q.mn < p.mn) (k2 :  p.mx < q.mx) (hk : ¬ Lt3 p.t p.s p.q q.t q.s q.q) (w : World) : Calls Tryz.prog 53 #[p.V, q.V] w fun e w' => e = .returned (.agg #[.int .i64 (p.c + q.c), .int .i64 h0, .int .u64 l0, .int .i64 q.mn, .int .i64 q.mx, .int .i64 p.t, .int .i64 p.s, .int .i64 p.q, .int .i64 p.v]) ∧ Below w.heap.size w w' := by
  have n1 : (p.c == 0) = false := by rw [beq_eq_false_iff_ne]; omega
  have n2 : (q.c == 0) = false := by rw [beq_eq_false_iff_ne]; omega
  have AD := Lib.hid (fun W => ref_add_ok p.h p.l q.h q.l h0 l0 ip iq i0 hv W)
  have SD := Lib.hid (fun W => stands_any q p W)
  rw [decide_eq_false hk] at SD
  clear hk ip iq i0 hv h h2
  unfold Pn.V at *
  go_enter Tryz.func53, Tryz.ntmps53
  go_wp2_with fail
  refine (AD.out _).mono ?_
  rintro e w1 ⟨rfl, hb1⟩
  have DP : At w1 (w.heap.size) [.int .i64 p.c, .int .i64 p.h, .int .u64 p.l, .int .i64 p.mn, .int .i64 p.mx, .int .i64 p.t, .int .i64 p.s, .int .i64 p.q, .int .i64 p.v] := by have h := ((((At.new (w) #[.int .i64 p.c, .int .i64 p.h, .int .u64 p.l, .int .i64 p.mn, .int .i64 p.mx, .int .i64 p.t, .int .i64 p.s, .int .i64 p.q, .int .i64 p.v] 67).alloc (.cells #[.int .i64 q.c, .int .i64 q.h, .int .u64 q.l, .int .i64 q.mn, .int .i64 q.mx, .int .i64 q.t, .int .i64 q.s, .int .i64 q.q, .int .i64 q.v] 67)).alloc (.cells #[.int .i64 0, .int .i64 0, .int .u64 0, .int .i64 0, .int .i64 0, .int .i64 0, .int .i64 0, .int .i64 0, .int .i64 0] 67)).alloc (.cells #[.int .i64 (p.c + q.c), .int .i64 p.h, .int .u64 p.l, .int .i64 p.mn, .int .i64 p.mx, .int .i64 p.t, .int .i64 p.s, .int .i64 p.q, .int .i64 p.v] 67)).below hb1; simpa using h
  have DQ : At w1 (w.heap.size + 1) [.int .i64 q.c, .int .i64 q.h, .int .u64 q.l, .int .i64 q.mn, .int .i64 q.mx, .int .i64 q.t, .int .i64 q.s, .int .i64 q.q, .int .i64 q.v] := by have h := (((At.new ((w).alloc (.cells #[.int .i64 p.c, .int .i64 p.h, .int .u64 p.l, .int .i64 p.mn, .int .i64 p.mx, .int .i64 p.t, .int .i64 p.s, .int .i64 p.q, .int .i64 p.v] 67)) #[.int .i64 q.c, .int .i64 q.h, .int .u64 q.l, .int .i64 q.mn, .int .i64 q.mx, .int .i64 q.t, .int .i64 q.s, .int .i64 q.q, .int .i64 q.v] 67).alloc (.cells #[.int .i64 0, .int .i64 0, .int .u64 0, .int .i64 0, .int .i64 0, .int .i64 0, .int .i64 0, .int .i64 0, .int .i64 0] 67)).alloc (.cells #[.int .i64 (p.c + q.c), .int .i64 p.h, .int .u64 p.l, .int .i64 p.mn, .int .i64 p.mx, .int .i64 p.t, .int .i64 p.s, .int .i64 p.q, .int .i64 p.v] 67)).below hb1; simpa using h
  have DR : At w1 (w.heap.size + 1 + 1) [.int .i64 0, .int .i64 0, .int .u64 0, .int .i64 0, .int .i64 0, .int .i64 0, .int .i64 0, .int .i64 0, .int .i64 0] := by have h := ((At.new (((w).alloc (.cells #[.int .i64 p.c, .int .i64 p.h, .int .u64 p.l, .int .i64 p.mn, .int .i64 p.mx, .int .i64 p.t, .int .i64 p.s, .int .i64 p.q, .int .i64 p.v] 67)).alloc (.cells #[.int .i64 q.c, .int .i64 q.h, .int .u64 q.l, .int .i64 q.mn, .int .i64 q.mx, .int .i64 q.t, .int .i64 q.s, .int .i64 q.q, .int .i64 q.v] 67)) #[.int .i64 0, .int .i64 0, .int .u64 0, .int .i64 0, .int .i64 0, .int .i64 0, .int .i64 0, .int .i64 0, .int .i64 0] 67).alloc (.cells #[.int .i64 (p.c + q.c), .int .i64 p.h, .int .u64 p.l, .int .i64 p.mn, .int .i64 p.mx, .int .i64 p.t, .int .i64 p.s, .int .i64 p.q, .int .i64 p.v] 67)).below hb1; simpa using h
  have DC : At w1 (w.heap.size + 1 + 1 + 1) [.int .i64 (p.c + q.c), .int .i64 p.h, .int .u64 p.l, .int .i64 p.mn, .int .i64 p.mx, .int .i64 p.t, .int .i64 p.s, .int .i64 p.q, .int .i64 p.v] := by have h := (At.new ((((w).alloc (.cells #[.int .i64 p.c, .int .i64 p.h, .int .u64 p.l, .int .i64 p.mn, .int .i64 p.mx, .int .i64 p.t, .int .i64 p.s, .int .i64 p.q, .int .i64 p.v] 67)).alloc (.cells #[.int .i64 q.c, .int .i64 q.h, .int .u64 q.l, .int .i64 q.mn, .int .i64 q.mx, .int .i64 q.t, .int .i64 q.s, .int .i64 q.q, .int .i64 q.v] 67)).alloc (.cells #[.int .i64 0, .int .i64 0, .int .u64 0, .int .i64 0, .int .i64 0, .int .i64 0, .int .i64 0, .int .i64 0, .int .i64 0] 67)) #[.int .i64 (p.c + q.c), .int .i64 p.h, .int .u64 p.l, .int .i64 p.mn, .int .i64 p.mx, .int .i64 p.t, .int .i64 p.s, .int .i64 p.q, .int .i64 p.v] 67).below hb1; simpa using h
  have B : Below w.heap.size w w1 := below_then (below_new (below_new (below_new (below_new (Below.refl _ _) (.cells #[.int .i64 p.c, .int .i64 p.h, .int .u64 p.l, .int .i64 p.mn, .int .i64 p.mx, .int .i64 p.t, .int .i64 p.s, .int .i64 p.q, .int .i64 p.v] 67)) (.cells #[.int .i64 q.c, .int .i64 q.h, .int .u64 q.l, .int .i64 q.mn, .int .i64 q.mx, .int .i64 q.t, .int .i64 q.s, .int .i64 q.q, .int .i64 q.v] 67)) (.cells #[.int .i64 0, .int .i64 0, .int .u64 0, .int .i64 0, .int .i64 0, .int .i64 0, .int .i64 0, .int .i64 0, .int .i64 0] 67)) (.cells #[.int .i64 (p.c + q.c), .int .i64 p.h, .int .u64 p.l, .int .i64 p.mn, .int .i64 p.mx, .int .i64 p.t, .int .i64 p.s, .int .i64 p.q, .int .i64 p.v] 67)) hb1
  clear hb1
  have aP0 := DP.cell 0 _ rfl
  have aP1 := DP.cell 1 _ rfl
  have aP2 := DP.cell 2 _ rfl
  have aP3 := DP.cell 3 _ rfl
  have aP4 := DP.cell 4 _ rfl
  have aP5 := DP.cell 5 _ rfl
  have aP6 := DP.cell 6 _ rfl
  have aP7 := DP.cell 7 _ rfl
  have aP8 := DP.cell 8 _ rfl
  have nP := DP.lt
  have aQ0 := DQ.cell 0 _ rfl
  have aQ1 := DQ.cell 1 _ rfl
  have aQ2 := DQ.cell 2 _ rfl
  have aQ3 := DQ.cell 3 _ rfl
  have aQ4 := DQ.cell 4 _ rfl
  have aQ5 := DQ.cell 5 _ rfl
  have aQ6 := DQ.cell 6 _ rfl
  have aQ7 := DQ.cell 7 _ rfl
  have aQ8 := DQ.cell 8 _ rfl
  have nQ := DQ.lt
  have aR0 := DR.cell 0 _ rfl
  have zR0 := DR.free 0 _ rfl
  have aR1 := DR.cell 1 _ rfl
  have zR1 := DR.free 1 _ rfl
  have aR2 := DR.cell 2 _ rfl
  have zR2 := DR.free 2 _ rfl
  have aR3 := DR.cell 3 _ rfl
  have zR3 := DR.free 3 _ rfl
  have aR4 := DR.cell 4 _ rfl
  have zR4 := DR.free 4 _ rfl
  have aR5 := DR.cell 5 _ rfl
  have zR5 := DR.free 5 _ rfl
  have aR6 := DR.cell 6 _ rfl
  have zR6 := DR.free 6 _ rfl
  have aR7 := DR.cell 7 _ rfl
  have zR7 := DR.free 7 _ rfl
  have aR8 := DR.cell 8 _ rfl
  have zR8 := DR.free 8 _ rfl
  have nR := DR.lt
  have aC0 := DC.cell 0 _ rfl
  have zC0 := DC.free 0 _ rfl
  have aC1 := DC.cell 1 _ rfl
  have zC1 := DC.free 1 _ rfl
  have aC2 := DC.cell 2 _ rfl
  have zC2 := DC.free 2 _ rfl
  have aC3 := DC.cell 3 _ rfl
  have zC3 := DC.free 3 _ rfl
  have aC4 := DC.cell 4 _ rfl
  have zC4 := DC.free 4 _ rfl
  have aC5 := DC.cell 5 _ rfl
  have zC5 := DC.free 5 _ rfl
  have aC6 := DC.cell 6 _ rfl
  have zC6 := DC.free 6 _ rfl
  have aC7 := DC.cell 7 _ rfl
  have zC7 := DC.free 7 _ rfl
  have aC8 := DC.cell 8 _ rfl
  have zC8 := DC.free 8 _ rfl
  have nC := DC.lt
  go_wp2_with fail
  refine (SD.out _).mono ?_
  rintro e w2 ⟨rfl, hb⟩
  have DC2 := ((((DC.set 1 (.int .i64 h0)).set 2 (.int .u64 l0)).set 3 (.int .i64 q.mn)).set 4 (.int .i64 q.mx))
  simp only [qd, qe, qf] at DC2
  have DC := DC2.below hb
  have DP := At.below (At.far (b' := w.heap.size + 1 + 1 + 1) (j := 4) (At.far (b' := w.heap.size + 1 + 1 + 1) (j := 3) (At.far (b' := w.heap.size + 1 + 1 + 1) (j := 2) (At.far (b' := w.heap.size + 1 + 1 + 1) (j := 1) DP (by omega) (.int .i64 h0)) (by omega) (.int .u64 l0)) (by omega) (.int .i64 q.mn)) (by omega) (.int .i64 q.mx)) hb
  have DQ := At.below (At.far (b' := w.heap.size + 1 + 1 + 1) (j := 4) (At.far (b' := w.heap.size + 1 + 1 + 1) (j := 3) (At.far (b' := w.heap.size + 1 + 1 + 1) (j := 2) (At.far (b' := w.heap.size + 1 + 1 + 1) (j := 1) DQ (by omega) (.int .i64 h0)) (by omega) (.int .u64 l0)) (by omega) (.int .i64 q.mn)) (by omega) (.int .i64 q.mx)) hb
  have DR := At.below (At.far (b' := w.heap.size + 1 + 1 + 1) (j := 4) (At.far (b' := w.heap.size + 1 + 1 + 1) (j := 3) (At.far (b' := w.heap.size + 1 + 1 + 1) (j := 2) (At.far (b' := w.heap.size + 1 + 1 + 1) (j := 1) DR (by omega) (.int .i64 h0)) (by omega) (.int .u64 l0)) (by omega) (.int .i64 q.mn)) (by omega) (.int .i64 q.mx)) hb
  have B := below_then (Below.setCell (p := ⟨w.heap.size + 1 + 1 + 1, 4, none⟩) (Below.setCell (p := ⟨w.heap.size + 1 + 1 + 1, 3, none⟩) (Below.setCell (p := ⟨w.heap.size + 1 + 1 + 1, 2, none⟩) (Below.setCell (p := ⟨w.heap.size + 1 + 1 + 1, 1, none⟩) B (by dsimp only; omega) (.int .i64 h0)) (by dsimp only; omega) (.int .u64 l0)) (by dsimp only; omega) (.int .i64 q.mn)) (by dsimp only; omega) (.int .i64 q.mx)) hb
  clear DC2 hb aP0 aP1 aP2 aP3 aP4 aP5 aP6 aP7 aP8 nP aQ0 aQ1 aQ2 aQ3 aQ4 aQ5 aQ6 aQ7 aQ8 nQ aR0 zR0 aR1 zR1 aR2 zR2 aR3 zR3 aR4 zR4 aR5 zR5 aR6 zR6 aR7 zR7 aR8 zR8 nR aC0 zC0 aC1 zC1 aC2 zC2 aC3 zC3 aC4 zC4 aC5 zC5 aC6 zC6 aC7 zC7 aC8 zC8 nC
  have aP0 := DP.cell 0 _ rfl
  have aP1 := DP.cell 1 _ rfl
  have aP2 := DP.cell 2 _ rfl
  have aP3 := DP.cell 3 _ rfl
  have aP4 := DP.cell 4 _ rfl
  have aP5 := DP.cell 5 _ rfl
  have aP6 := DP.cell 6 _ rfl
  have aP7 := DP.cell 7 _ rfl
  have aP8 := DP.cell 8 _ rfl
  have nP := DP.lt
  have aQ0 := DQ.cell 0 _ rfl
  have aQ1 := DQ.cell 1 _ rfl
  have aQ2 := DQ.cell 2 _ rfl
  have aQ3 := DQ.cell 3 _ rfl
  have aQ4 := DQ.cell 4 _ rfl
  have aQ5 := DQ.cell 5 _ rfl
  have aQ6 := DQ.cell 6 _ rfl
  have aQ7 := DQ.cell 7 _ rfl
  have aQ8 := DQ.cell 8 _ rfl
  have nQ := DQ.lt
  have aR0 := DR.cell 0 _ rfl
  have zR0 := DR.free 0 _ rfl
  have aR1 := DR.cell 1 _ rfl
  have zR1 := DR.free 1 _ rfl
  have aR2 := DR.cell 2 _ rfl
  have zR2 := DR.free 2 _ rfl
  have aR3 := DR.cell 3 _ rfl
  have zR3 := DR.free 3 _ rfl
  have aR4 := DR.cell 4 _ rfl
  have zR4 := DR.free 4 _ rfl
  have aR5 := DR.cell 5 _ rfl
  have zR5 := DR.free 5 _ rfl
  have aR6 := DR.cell 6 _ rfl
  have zR6 := DR.free 6 _ rfl
  have aR7 := DR.cell 7 _ rfl
  have zR7 := DR.free 7 _ rfl
  have aR8 := DR.cell 8 _ rfl
  have zR8 := DR.free 8 _ rfl
  have nR := DR.lt
  have aC0 := DC.cell 0 _ rfl
  have zC0 := DC.free 0 _ rfl
  have aC1 := DC.cell 1 _ rfl
  have zC1 := DC.free 1 _ rfl
  have aC2 := DC.cell 2 _ rfl
  have zC2 := DC.free 2 _ rfl
  have aC3 := DC.cell 3 _ rfl
  have zC3 := DC.free 3 _ rfl
  have aC4 := DC.cell 4 _ rfl
  have zC4 := DC.free 4 _ rfl
  have aC5 := DC.cell 5 _ rfl
  have zC5 := DC.free 5 _ rfl
  have aC6 := DC.cell 6 _ rfl
  have zC6 := DC.free 6 _ rfl
  have aC7 := DC.cell 7 _ rfl
  have zC7 := DC.free 7 _ rfl
  have aC8 := DC.cell 8 _ rfl
  have zC8 := DC.free 8 _ rfl
  have nC := DC.lt
  have DR2 := DR
  have B2 := B
  have R4 := (((((((((DR2.set 0 (.int .i64 (p.c + q.c))).set 1 (.int .i64 h0)).set 2 (.int .u64 l0)).set 3 (.int .i64 q.mn)).set 4 (.int .i64 q.mx)).set 5 (.int .i64 p.t)).set 6 (.int .i64 p.s)).set 7 (.int .i64 p.q)).set 8 (.int .i64 p.v))
  simp only [qd, qe, qf] at R4
  have fR := R4.f9
  have B4 := (Below.setCell (p := ⟨w.heap.size + 1 + 1, 8, none⟩) (Below.setCell (p := ⟨w.heap.size + 1 + 1, 7, none⟩) (Below.setCell (p := ⟨w.heap.size + 1 + 1, 6, none⟩) (Below.setCell (p := ⟨w.heap.size + 1 + 1, 5, none⟩) (Below.setCell (p := ⟨w.heap.size + 1 + 1, 4, none⟩) (Below.setCell (p := ⟨w.heap.size + 1 + 1, 3, none⟩) (Below.setCell (p := ⟨w.heap.size + 1 + 1, 2, none⟩) (Below.setCell (p := ⟨w.heap.size + 1 + 1, 1, none⟩) (Below.setCell (p := ⟨w.heap.size + 1 + 1, 0, none⟩) B2 (by dsimp only; omega) (.int .i64 (p.c + q.c))) (by dsimp only; omega) (.int .i64 h0)) (by dsimp only; omega) (.int .u64 l0)) (by dsimp only; omega) (.int .i64 q.mn)) (by dsimp only; omega) (.int .i64 q.mx)) (by dsimp only; omega) (.int .i64 p.t)) (by dsimp only; omega) (.int .i64 p.s)) (by dsimp only; omega) (.int .i64 p.q)) (by dsimp only; omega) (.int .i64 p.v))
  go_wp2
  refine bodyPost_ret (by simp [results, Tryz.results53, go_sem, fR]; try rfl) rfl ⟨rfl, B4⟩
set_option maxHeartbeats 4000000 in
theorem rmerge_mxl (p q : Pn) (h : ¬ p.c = 0) (h2 : ¬ q.c = 0) (hs : -1000000000 ≤ p.c + q.c ∧ p.c + q.c ≤ 1000000000) (h0 l0 : Int) (ip : InI p.h p.l) (iq : InI q.h q.l) (i0 : InI h0 l0) (hv : val h0 l0 = val p.h p.l + val q.h q.l) (k1 :  q.mn < p.mn) (k2 :  p.mx < q.mx) (hk :  Lt3 p.t p.s p.q q.t q.s q.q) (w : World) : Calls Tryz.prog 53 #[p.V, q.V] w fun e w' => e = .returned (.agg #[.int .i64 (p.c + q.c), .int .i64 h0, .int .u64 l0, .int .i64 q.mn, .int .i64 q.mx, .int .i64 q.t, .int .i64 q.s, .int .i64 q.q, .int .i64 q.v]) ∧ Below w.heap.size w w' := by
  have n1 : (p.c == 0) = false := by rw [beq_eq_false_iff_ne]; omega
  have n2 : (q.c == 0) = false := by rw [beq_eq_false_iff_ne]; omega
  have AD := Lib.hid (fun W => ref_add_ok p.h p.l q.h q.l h0 l0 ip iq i0 hv W)
  have SD := Lib.hid (fun W => stands_any q p W)
  rw [decide_eq_true hk] at SD
  clear hk ip iq i0 hv h h2
  unfold Pn.V at *
  go_enter Tryz.func53, Tryz.ntmps53
  go_wp2_with fail
  refine (AD.out _).mono ?_
  rintro e w1 ⟨rfl, hb1⟩
  have DP : At w1 (w.heap.size) [.int .i64 p.c, .int .i64 p.h, .int .u64 p.l, .int .i64 p.mn, .int .i64 p.mx, .int .i64 p.t, .int .i64 p.s, .int .i64 p.q, .int .i64 p.v] := by have h := ((((At.new (w) #[.int .i64 p.c, .int .i64 p.h, .int .u64 p.l, .int .i64 p.mn, .int .i64 p.mx, .int .i64 p.t, .int .i64 p.s, .int .i64 p.q, .int .i64 p.v] 67).alloc (.cells #[.int .i64 q.c, .int .i64 q.h, .int .u64 q.l, .int .i64 q.mn, .int .i64 q.mx, .int .i64 q.t, .int .i64 q.s, .int .i64 q.q, .int .i64 q.v] 67)).alloc (.cells #[.int .i64 0, .int .i64 0, .int .u64 0, .int .i64 0, .int .i64 0, .int .i64 0, .int .i64 0, .int .i64 0, .int .i64 0] 67)).alloc (.cells #[.int .i64 (p.c + q.c), .int .i64 p.h, .int .u64 p.l, .int .i64 p.mn, .int .i64 p.mx, .int .i64 p.t, .int .i64 p.s, .int .i64 p.q, .int .i64 p.v] 67)).below hb1; simpa using h
  have DQ : At w1 (w.heap.size + 1) [.int .i64 q.c, .int .i64 q.h, .int .u64 q.l, .int .i64 q.mn, .int .i64 q.mx, .int .i64 q.t, .int .i64 q.s, .int .i64 q.q, .int .i64 q.v] := by have h := (((At.new ((w).alloc (.cells #[.int .i64 p.c, .int .i64 p.h, .int .u64 p.l, .int .i64 p.mn, .int .i64 p.mx, .int .i64 p.t, .int .i64 p.s, .int .i64 p.q, .int .i64 p.v] 67)) #[.int .i64 q.c, .int .i64 q.h, .int .u64 q.l, .int .i64 q.mn, .int .i64 q.mx, .int .i64 q.t, .int .i64 q.s, .int .i64 q.q, .int .i64 q.v] 67).alloc (.cells #[.int .i64 0, .int .i64 0, .int .u64 0, .int .i64 0, .int .i64 0, .int .i64 0, .int .i64 0, .int .i64 0, .int .i64 0] 67)).alloc (.cells #[.int .i64 (p.c + q.c), .int .i64 p.h, .int .u64 p.l, .int .i64 p.mn, .int .i64 p.mx, .int .i64 p.t, .int .i64 p.s, .int .i64 p.q, .int .i64 p.v] 67)).below hb1; simpa using h
  have DR : At w1 (w.heap.size + 1 + 1) [.int .i64 0, .int .i64 0, .int .u64 0, .int .i64 0, .int .i64 0, .int .i64 0, .int .i64 0, .int .i64 0, .int .i64 0] := by have h := ((At.new (((w).alloc (.cells #[.int .i64 p.c, .int .i64 p.h, .int .u64 p.l, .int .i64 p.mn, .int .i64 p.mx, .int .i64 p.t, .int .i64 p.s, .int .i64 p.q, .int .i64 p.v] 67)).alloc (.cells #[.int .i64 q.c, .int .i64 q.h, .int .u64 q.l, .int .i64 q.mn, .int .i64 q.mx, .int .i64 q.t, .int .i64 q.s, .int .i64 q.q, .int .i64 q.v] 67)) #[.int .i64 0, .int .i64 0, .int .u64 0, .int .i64 0, .int .i64 0, .int .i64 0, .int .i64 0, .int .i64 0, .int .i64 0] 67).alloc (.cells #[.int .i64 (p.c + q.c), .int .i64 p.h, .int .u64 p.l, .int .i64 p.mn, .int .i64 p.mx, .int .i64 p.t, .int .i64 p.s, .int .i64 p.q, .int .i64 p.v] 67)).below hb1; simpa using h
  have DC : At w1 (w.heap.size + 1 + 1 + 1) [.int .i64 (p.c + q.c), .int .i64 p.h, .int .u64 p.l, .int .i64 p.mn, .int .i64 p.mx, .int .i64 p.t, .int .i64 p.s, .int .i64 p.q, .int .i64 p.v] := by have h := (At.new ((((w).alloc (.cells #[.int .i64 p.c, .int .i64 p.h, .int .u64 p.l, .int .i64 p.mn, .int .i64 p.mx, .int .i64 p.t, .int .i64 p.s, .int .i64 p.q, .int .i64 p.v] 67)).alloc (.cells #[.int .i64 q.c, .int .i64 q.h, .int .u64 q.l, .int .i64 q.mn, .int .i64 q.mx, .int .i64 q.t, .int .i64 q.s, .int .i64 q.q, .int .i64 q.v] 67)).alloc (.cells #[.int .i64 0, .int .i64 0, .int .u64 0, .int .i64 0, .int .i64 0, .int .i64 0, .int .i64 0, .int .i64 0, .int .i64 0] 67)) #[.int .i64 (p.c + q.c), .int .i64 p.h, .int .u64 p.l, .int .i64 p.mn, .int .i64 p.mx, .int .i64 p.t, .int .i64 p.s, .int .i64 p.q, .int .i64 p.v] 67).below hb1; simpa using h
  have B : Below w.heap.size w w1 := below_then (below_new (below_new (below_new (below_new (Below.refl _ _) (.cells #[.int .i64 p.c, .int .i64 p.h, .int .u64 p.l, .int .i64 p.mn, .int .i64 p.mx, .int .i64 p.t, .int .i64 p.s, .int .i64 p.q, .int .i64 p.v] 67)) (.cells #[.int .i64 q.c, .int .i64 q.h, .int .u64 q.l, .int .i64 q.mn, .int .i64 q.mx, .int .i64 q.t, .int .i64 q.s, .int .i64 q.q, .int .i64 q.v] 67)) (.cells #[.int .i64 0, .int .i64 0, .int .u64 0, .int .i64 0, .int .i64 0, .int .i64 0, .int .i64 0, .int .i64 0, .int .i64 0] 67)) (.cells #[.int .i64 (p.c + q.c), .int .i64 p.h, .int .u64 p.l, .int .i64 p.mn, .int .i64 p.mx, .int .i64 p.t, .int .i64 p.s, .int .i64 p.q, .int .i64 p.v] 67)) hb1
  clear hb1
  have aP0 := DP.cell 0 _ rfl
  have aP1 := DP.cell 1 _ rfl
  have aP2 := DP.cell 2 _ rfl
  have aP3 := DP.cell 3 _ rfl
  have aP4 := DP.cell 4 _ rfl
  have aP5 := DP.cell 5 _ rfl
  have aP6 := DP.cell 6 _ rfl
  have aP7 := DP.cell 7 _ rfl
  have aP8 := DP.cell 8 _ rfl
  have nP := DP.lt
  have aQ0 := DQ.cell 0 _ rfl
  have aQ1 := DQ.cell 1 _ rfl
  have aQ2 := DQ.cell 2 _ rfl
  have aQ3 := DQ.cell 3 _ rfl
  have aQ4 := DQ.cell 4 _ rfl
  have aQ5 := DQ.cell 5 _ rfl
  have aQ6 := DQ.cell 6 _ rfl
  have aQ7 := DQ.cell 7 _ rfl
  have aQ8 := DQ.cell 8 _ rfl
  have nQ := DQ.lt
  have aR0 := DR.cell 0 _ rfl
  have zR0 := DR.free 0 _ rfl
  have aR1 := DR.cell 1 _ rfl
  have zR1 := DR.free 1 _ rfl
  have aR2 := DR.cell 2 _ rfl
  have zR2 := DR.free 2 _ rfl
  have aR3 := DR.cell 3 _ rfl
  have zR3 := DR.free 3 _ rfl
  have aR4 := DR.cell 4 _ rfl
  have zR4 := DR.free 4 _ rfl
  have aR5 := DR.cell 5 _ rfl
  have zR5 := DR.free 5 _ rfl
  have aR6 := DR.cell 6 _ rfl
  have zR6 := DR.free 6 _ rfl
  have aR7 := DR.cell 7 _ rfl
  have zR7 := DR.free 7 _ rfl
  have aR8 := DR.cell 8 _ rfl
  have zR8 := DR.free 8 _ rfl
  have nR := DR.lt
  have aC0 := DC.cell 0 _ rfl
  have zC0 := DC.free 0 _ rfl
  have aC1 := DC.cell 1 _ rfl
  have zC1 := DC.free 1 _ rfl
  have aC2 := DC.cell 2 _ rfl
  have zC2 := DC.free 2 _ rfl
  have aC3 := DC.cell 3 _ rfl
  have zC3 := DC.free 3 _ rfl
  have aC4 := DC.cell 4 _ rfl
  have zC4 := DC.free 4 _ rfl
  have aC5 := DC.cell 5 _ rfl
  have zC5 := DC.free 5 _ rfl
  have aC6 := DC.cell 6 _ rfl
  have zC6 := DC.free 6 _ rfl
  have aC7 := DC.cell 7 _ rfl
  have zC7 := DC.free 7 _ rfl
  have aC8 := DC.cell 8 _ rfl
  have zC8 := DC.free 8 _ rfl
  have nC := DC.lt
  go_wp2_with fail
  refine (SD.out _).mono ?_
  rintro e w2 ⟨rfl, hb⟩
  have DC2 := ((((DC.set 1 (.int .i64 h0)).set 2 (.int .u64 l0)).set 3 (.int .i64 q.mn)).set 4 (.int .i64 q.mx))
  simp only [qd, qe, qf] at DC2
  have DC := DC2.below hb
  have DP := At.below (At.far (b' := w.heap.size + 1 + 1 + 1) (j := 4) (At.far (b' := w.heap.size + 1 + 1 + 1) (j := 3) (At.far (b' := w.heap.size + 1 + 1 + 1) (j := 2) (At.far (b' := w.heap.size + 1 + 1 + 1) (j := 1) DP (by omega) (.int .i64 h0)) (by omega) (.int .u64 l0)) (by omega) (.int .i64 q.mn)) (by omega) (.int .i64 q.mx)) hb
  have DQ := At.below (At.far (b' := w.heap.size + 1 + 1 + 1) (j := 4) (At.far (b' := w.heap.size + 1 + 1 + 1) (j := 3) (At.far (b' := w.heap.size + 1 + 1 + 1) (j := 2) (At.far (b' := w.heap.size + 1 + 1 + 1) (j := 1) DQ (by omega) (.int .i64 h0)) (by omega) (.int .u64 l0)) (by omega) (.int .i64 q.mn)) (by omega) (.int .i64 q.mx)) hb
  have DR := At.below (At.far (b' := w.heap.size + 1 + 1 + 1) (j := 4) (At.far (b' := w.heap.size + 1 + 1 + 1) (j := 3) (At.far (b' := w.heap.size + 1 + 1 + 1) (j := 2) (At.far (b' := w.heap.size + 1 + 1 + 1) (j := 1) DR (by omega) (.int .i64 h0)) (by omega) (.int .u64 l0)) (by omega) (.int .i64 q.mn)) (by omega) (.int .i64 q.mx)) hb
  have B := below_then (Below.setCell (p := ⟨w.heap.size + 1 + 1 + 1, 4, none⟩) (Below.setCell (p := ⟨w.heap.size + 1 + 1 + 1, 3, none⟩) (Below.setCell (p := ⟨w.heap.size + 1 + 1 + 1, 2, none⟩) (Below.setCell (p := ⟨w.heap.size + 1 + 1 + 1, 1, none⟩) B (by dsimp only; omega) (.int .i64 h0)) (by dsimp only; omega) (.int .u64 l0)) (by dsimp only; omega) (.int .i64 q.mn)) (by dsimp only; omega) (.int .i64 q.mx)) hb
  clear DC2 hb aP0 aP1 aP2 aP3 aP4 aP5 aP6 aP7 aP8 nP aQ0 aQ1 aQ2 aQ3 aQ4 aQ5 aQ6 aQ7 aQ8 nQ aR0 zR0 aR1 zR1 aR2 zR2 aR3 zR3 aR4 zR4 aR5 zR5 aR6 zR6 aR7 zR7 aR8 zR8 nR aC0 zC0 aC1 zC1 aC2 zC2 aC3 zC3 aC4 zC4 aC5 zC5 aC6 zC6 aC7 zC7 aC8 zC8 nC
  have aP0 := DP.cell 0 _ rfl
  have aP1 := DP.cell 1 _ rfl
  have aP2 := DP.cell 2 _ rfl
  have aP3 := DP.cell 3 _ rfl
  have aP4 := DP.cell 4 _ rfl
  have aP5 := DP.cell 5 _ rfl
  have aP6 := DP.cell 6 _ rfl
  have aP7 := DP.cell 7 _ rfl
  have aP8 := DP.cell 8 _ rfl
  have nP := DP.lt
  have aQ0 := DQ.cell 0 _ rfl
  have aQ1 := DQ.cell 1 _ rfl
  have aQ2 := DQ.cell 2 _ rfl
  have aQ3 := DQ.cell 3 _ rfl
  have aQ4 := DQ.cell 4 _ rfl
  have aQ5 := DQ.cell 5 _ rfl
  have aQ6 := DQ.cell 6 _ rfl
  have aQ7 := DQ.cell 7 _ rfl
  have aQ8 := DQ.cell 8 _ rfl
  have nQ := DQ.lt
  have aR0 := DR.cell 0 _ rfl
  have zR0 := DR.free 0 _ rfl
  have aR1 := DR.cell 1 _ rfl
  have zR1 := DR.free 1 _ rfl
  have aR2 := DR.cell 2 _ rfl
  have zR2 := DR.free 2 _ rfl
  have aR3 := DR.cell 3 _ rfl
  have zR3 := DR.free 3 _ rfl
  have aR4 := DR.cell 4 _ rfl
  have zR4 := DR.free 4 _ rfl
  have aR5 := DR.cell 5 _ rfl
  have zR5 := DR.free 5 _ rfl
  have aR6 := DR.cell 6 _ rfl
  have zR6 := DR.free 6 _ rfl
  have aR7 := DR.cell 7 _ rfl
  have zR7 := DR.free 7 _ rfl
  have aR8 := DR.cell 8 _ rfl
  have zR8 := DR.free 8 _ rfl
  have nR := DR.lt
  have aC0 := DC.cell 0 _ rfl
  have zC0 := DC.free 0 _ rfl
  have aC1 := DC.cell 1 _ rfl
  have zC1 := DC.free 1 _ rfl
  have aC2 := DC.cell 2 _ rfl
  have zC2 := DC.free 2 _ rfl
  have aC3 := DC.cell 3 _ rfl
  have zC3 := DC.free 3 _ rfl
  have aC4 := DC.cell 4 _ rfl
  have zC4 := DC.free 4 _ rfl
  have aC5 := DC.cell 5 _ rfl
  have zC5 := DC.free 5 _ rfl
  have aC6 := DC.cell 6 _ rfl
  have zC6 := DC.free 6 _ rfl
  have aC7 := DC.cell 7 _ rfl
  have zC7 := DC.free 7 _ rfl
  have aC8 := DC.cell 8 _ rfl
  have zC8 := DC.free 8 _ rfl
  have nC := DC.lt
  have DC2 := ((((DC.set 5 (.int .i64 q.t)).set 6 (.int .i64 q.s)).set 7 (.int .i64 q.q)).set 8 (.int .i64 q.v))
  simp only [qd, qe, qf] at DC2
  have DR2 := (At.far (b' := w.heap.size + 1 + 1 + 1) (j := 8) (At.far (b' := w.heap.size + 1 + 1 + 1) (j := 7) (At.far (b' := w.heap.size + 1 + 1 + 1) (j := 6) (At.far (b' := w.heap.size + 1 + 1 + 1) (j := 5) DR (by omega) (.int .i64 q.t)) (by omega) (.int .i64 q.s)) (by omega) (.int .i64 q.q)) (by omega) (.int .i64 q.v))
  have B2 := (Below.setCell (p := ⟨w.heap.size + 1 + 1 + 1, 8, none⟩) (Below.setCell (p := ⟨w.heap.size + 1 + 1 + 1, 7, none⟩) (Below.setCell (p := ⟨w.heap.size + 1 + 1 + 1, 6, none⟩) (Below.setCell (p := ⟨w.heap.size + 1 + 1 + 1, 5, none⟩) B (by dsimp only; omega) (.int .i64 q.t)) (by dsimp only; omega) (.int .i64 q.s)) (by dsimp only; omega) (.int .i64 q.q)) (by dsimp only; omega) (.int .i64 q.v))
  have fC := DC2.f9
  have R4 := (((((((((DR2.set 0 (.int .i64 (p.c + q.c))).set 1 (.int .i64 h0)).set 2 (.int .u64 l0)).set 3 (.int .i64 q.mn)).set 4 (.int .i64 q.mx)).set 5 (.int .i64 q.t)).set 6 (.int .i64 q.s)).set 7 (.int .i64 q.q)).set 8 (.int .i64 q.v))
  simp only [qd, qe, qf] at R4
  have fR := R4.f9
  have B4 := (Below.setCell (p := ⟨w.heap.size + 1 + 1, 8, none⟩) (Below.setCell (p := ⟨w.heap.size + 1 + 1, 7, none⟩) (Below.setCell (p := ⟨w.heap.size + 1 + 1, 6, none⟩) (Below.setCell (p := ⟨w.heap.size + 1 + 1, 5, none⟩) (Below.setCell (p := ⟨w.heap.size + 1 + 1, 4, none⟩) (Below.setCell (p := ⟨w.heap.size + 1 + 1, 3, none⟩) (Below.setCell (p := ⟨w.heap.size + 1 + 1, 2, none⟩) (Below.setCell (p := ⟨w.heap.size + 1 + 1, 1, none⟩) (Below.setCell (p := ⟨w.heap.size + 1 + 1, 0, none⟩) B2 (by dsimp only; omega) (.int .i64 (p.c + q.c))) (by dsimp only; omega) (.int .i64 h0)) (by dsimp only; omega) (.int .u64 l0)) (by dsimp only; omega) (.int .i64 q.mn)) (by dsimp only; omega) (.int .i64 q.mx)) (by dsimp only; omega) (.int .i64 q.t)) (by dsimp only; omega) (.int .i64 q.s)) (by dsimp only; omega) (.int .i64 q.q)) (by dsimp only; omega) (.int .i64 q.v))
  go_wp2
  refine bodyPost_ret (by simp [results, Tryz.results53, go_sem, fR]; try rfl) rfl ⟨rfl, B4⟩
end Go.Proofs.YtedcdhngiofpjaaGreatDoor
