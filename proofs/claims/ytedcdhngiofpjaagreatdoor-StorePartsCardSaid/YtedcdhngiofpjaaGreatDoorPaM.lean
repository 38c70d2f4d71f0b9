/- Package pane: Merge. -/
import Derived.Test.YtedcdhngiofpjaaGreatDoorPaA
import Derived.Test.YtedcdhngiofpjaaGreatDoorTa
namespace Go.Proofs.YtedcdhngiofpjaaGreatDoor
open Go Go.Proofs Go.RowKit Go.Shelf
set_option maxRecDepth 100000
attribute [local go_sem] cell_set Oper.semAt_some
/-- what lies in memory while Merge goes -/
structure MS (p q : Pn) (h0 l0 : Int) (w : World) (ub : Nat) (u : World) : Prop where
  P : At u w.heap.size [.int .i64 p.c, .int .i64 p.h, .int .u64 p.l, .int .i64 p.mn, .int .i64 p.mx, .int .i64 p.t, .int .i64 p.s, .int .i64 p.q, .int .i64 p.v]
  Q : At u (w.heap.size + 1) [.int .i64 q.c, .int .i64 q.h, .int .u64 q.l, .int .i64 q.mn, .int .i64 q.mx, .int .i64 q.t, .int .i64 q.s, .int .i64 q.q, .int .i64 q.v]
  R : At u (w.heap.size + 1 + 1) [.int .i64 0, .int .i64 0, .int .u64 0, .int .i64 0, .int .i64 0, .int .i64 0, .int .i64 0, .int .i64 0, .int .i64 0]
  U : At u ub [.int .i64 h0, .int .u64 l0]
  B : Below w.heap.size w u
section
variable {p q : Pn} {h0 l0 : Int} {w : World} {ub : Nat} {u u' : World}
theorem MS.drew (h : MS p q h0 l0 w ub u) : MS p q h0 l0 w ub u.drew := ⟨h.P.drew, h.Q.drew, h.R.drew, h.U.drew, h.B.drew⟩
theorem MS.below (h : MS p q h0 l0 w ub u) (hb : Below u.heap.size u u') : MS p q h0 l0 w ub u' := ⟨h.P.below hb, h.Q.below hb, h.R.below hb, h.U.below hb, below_then h.B hb⟩
theorem MS.alloc (h : MS p q h0 l0 w ub u) (o : Obj) : MS p q h0 l0 w ub (u.alloc o) := h.below (below_cells o)
theorem MS.new (_ : MS p q h0 l0 w ub u) (l : List Value) (T : TypeId) : At (u.alloc (.cells l.toArray T)) u.heap.size l := At.nw u l T
theorem MS.lt (h : MS p q h0 l0 w ub u) : w.heap.size + 1 + 1 < u.heap.size ∧ ub < u.heap.size := ⟨h.R.lt, h.U.lt⟩
theorem MS.set5 (h : MS p q h0 l0 w ub u) {b : Nat} (hb : w.heap.size + 1 + 1 < b ∧ ub < b) (v0 v1 v2 v3 v4 : Value) :
    MS p q h0 l0 w ub (((((u.setCell ⟨b, 0, none⟩ v0).setCell ⟨b, 1, none⟩ v1).setCell ⟨b, 2, none⟩ v2).setCell ⟨b, 3, none⟩ v3).setCell ⟨b, 4, none⟩ v4) := by
  obtain ⟨b1, b2⟩ := hb
  have hl : w.heap.size ≤ b := by omega
  refine ⟨?_, ?_, ?_, ?_, ?_⟩
  · exact ((((h.P.far (by omega) _).far (by omega) _).far (by omega) _).far (by omega) _).far (by omega) _
  · exact ((((h.Q.far (by omega) _).far (by omega) _).far (by omega) _).far (by omega) _).far (by omega) _
  · exact ((((h.R.far (by omega) _).far (by omega) _).far (by omega) _).far (by omega) _).far (by omega) _
  · exact ((((h.U.far (by omega) _).far (by omega) _).far (by omega) _).far (by omega) _).far (by omega) _
  · exact ((((h.B.setCell hl _).setCell hl _).setCell hl _).setCell hl _).setCell hl _
end
theorem V_mk (p : Pn) : p.V = .agg #[.int .i64 p.c, .int .i64 p.h, .int .u64 p.l, .int .i64 p.mn, .int .i64 p.mx, .int .i64 p.t, .int .i64 p.s, .int .i64 p.q, .int .i64 p.v] := rfl
set_option maxHeartbeats 4000000 in
theorem merge_a (p q : Pn) (h : p.c < 1) (w : World) : Calls Tryz.prog 29 #[p.V, q.V] w fun e w' => e = .returned (q.V) ∧ Below w.heap.size w w' := by
  have N1 := Lib.hid (fun W => none_any p W)
  rw [decide_eq_true h] at N1
  clear h
  unfold Pn.V at *
  go_enter Tryz.func29, Tryz.ntmps29
  go_wp2_with fail
  refine (N1.out _).mono ?_
  rintro e w1 ⟨rfl, hb1⟩
  have DP : At w1 (w.heap.size) [.int .i64 p.c, .int .i64 p.h, .int .u64 p.l, .int .i64 p.mn, .int .i64 p.mx, .int .i64 p.t, .int .i64 p.s, .int .i64 p.q, .int .i64 p.v] := by have h := (((At.new (w) #[.int .i64 p.c, .int .i64 p.h, .int .u64 p.l, .int .i64 p.mn, .int .i64 p.mx, .int .i64 p.t, .int .i64 p.s, .int .i64 p.q, .int .i64 p.v] 55).alloc (.cells #[.int .i64 q.c, .int .i64 q.h, .int .u64 q.l, .int .i64 q.mn, .int .i64 q.mx, .int .i64 q.t, .int .i64 q.s, .int .i64 q.q, .int .i64 q.v] 55)).alloc (.cells #[.int .i64 0, .int .i64 0, .int .u64 0, .int .i64 0, .int .i64 0, .int .i64 0, .int .i64 0, .int .i64 0, .int .i64 0] 55)).below hb1; simpa using h
  have DQ : At w1 (w.heap.size + 1) [.int .i64 q.c, .int .i64 q.h, .int .u64 q.l, .int .i64 q.mn, .int .i64 q.mx, .int .i64 q.t, .int .i64 q.s, .int .i64 q.q, .int .i64 q.v] := by have h := ((At.new ((w).alloc (.cells #[.int .i64 p.c, .int .i64 p.h, .int .u64 p.l, .int .i64 p.mn, .int .i64 p.mx, .int .i64 p.t, .int .i64 p.s, .int .i64 p.q, .int .i64 p.v] 55)) #[.int .i64 q.c, .int .i64 q.h, .int .u64 q.l, .int .i64 q.mn, .int .i64 q.mx, .int .i64 q.t, .int .i64 q.s, .int .i64 q.q, .int .i64 q.v] 55).alloc (.cells #[.int .i64 0, .int .i64 0, .int .u64 0, .int .i64 0, .int .i64 0, .int .i64 0, .int .i64 0, .int .i64 0, .int .i64 0] 55)).below hb1; simpa using h
  have DR : At w1 (w.heap.size + 1 + 1) [.int .i64 0, .int .i64 0, .int .u64 0, .int .i64 0, .int .i64 0, .int .i64 0, .int .i64 0, .int .i64 0, .int .i64 0] := by have h := (At.new (((w).alloc (.cells #[.int .i64 p.c, .int .i64 p.h, .int .u64 p.l, .int .i64 p.mn, .int .i64 p.mx, .int .i64 p.t, .int .i64 p.s, .int .i64 p.q, .int .i64 p.v] 55)).alloc (.cells #[.int .i64 q.c, .int .i64 q.h, .int .u64 q.l, .int .i64 q.mn, .int .i64 q.mx, .int .i64 q.t, .int .i64 q.s, .int .i64 q.q, .int .i64 q.v] 55)) #[.int .i64 0, .int .i64 0, .int .u64 0, .int .i64 0, .int .i64 0, .int .i64 0, .int .i64 0, .int .i64 0, .int .i64 0] 55).below hb1; simpa using h
  have B : Below w.heap.size w w1 := below_then (below_new (below_new (below_new (Below.refl _ _) (.cells #[.int .i64 p.c, .int .i64 p.h, .int .u64 p.l, .int .i64 p.mn, .int .i64 p.mx, .int .i64 p.t, .int .i64 p.s, .int .i64 p.q, .int .i64 p.v] 55)) (.cells #[.int .i64 q.c, .int .i64 q.h, .int .u64 q.l, .int .i64 q.mn, .int .i64 q.mx, .int .i64 q.t, .int .i64 q.s, .int .i64 q.q, .int .i64 q.v] 55)) (.cells #[.int .i64 0, .int .i64 0, .int .u64 0, .int .i64 0, .int .i64 0, .int .i64 0, .int .i64 0, .int .i64 0, .int .i64 0] 55)) hb1
  clear hb1
  have aP0 := DP.cell 0 _ rfl
  have aP1 := DP.cell 1 _ rfl
  have aP2 := DP.cell 2 _ rfl
  have aP3 := DP.cell 3 _ rfl
  have aP4 := DP.cell 4 _ rfl
  have aP5 := DP.cell 5 _ rfl
  have aP6 := DP.cell 6 _ rfl
  have aP7 := DP.cell 7 _ rfl
  have aP8 := DP.cell 8 _ rfl
  have nP := DP.lt
  have aQ0 := DQ.cell 0 _ rfl
  have aQ1 := DQ.cell 1 _ rfl
  have aQ2 := DQ.cell 2 _ rfl
  have aQ3 := DQ.cell 3 _ rfl
  have aQ4 := DQ.cell 4 _ rfl
  have aQ5 := DQ.cell 5 _ rfl
  have aQ6 := DQ.cell 6 _ rfl
  have aQ7 := DQ.cell 7 _ rfl
  have aQ8 := DQ.cell 8 _ rfl
  have nQ := DQ.lt
  have aR0 := DR.cell 0 _ rfl
  have zR0 := DR.free 0 _ rfl
  have aR1 := DR.cell 1 _ rfl
  have zR1 := DR.free 1 _ rfl
  have aR2 := DR.cell 2 _ rfl
  have zR2 := DR.free 2 _ rfl
  have aR3 := DR.cell 3 _ rfl
  have zR3 := DR.free 3 _ rfl
  have aR4 := DR.cell 4 _ rfl
  have zR4 := DR.free 4 _ rfl
  have aR5 := DR.cell 5 _ rfl
  have zR5 := DR.free 5 _ rfl
  have aR6 := DR.cell 6 _ rfl
  have zR6 := DR.free 6 _ rfl
  have aR7 := DR.cell 7 _ rfl
  have zR7 := DR.free 7 _ rfl
  have aR8 := DR.cell 8 _ rfl
  have zR8 := DR.free 8 _ rfl
  have nR := DR.lt
  go_wp2
  refine bodyPost_ret (by simp [results, Tryz.results29, go_sem, aR0, aR1, aR2, aR3, aR4, aR5, aR6, aR7, aR8, nR]; try rfl) rfl ?_
  exact ⟨rfl, by go_grown⟩
set_option maxHeartbeats 4000000 in
theorem merge_b (p q : Pn) (h : ¬ p.c < 1) (h2 : q.c < 1) (w : World) : Calls Tryz.prog 29 #[p.V, q.V] w fun e w' => e = .returned (p.V) ∧ Below w.heap.size w w' := by
  have N1 := Lib.hid (fun W => none_any p W)
  have N2 := Lib.hid (fun W => none_any q W)
  rw [decide_eq_false h] at N1
  rw [decide_eq_true h2] at N2
  clear h h2
  unfold Pn.V at *
  go_enter Tryz.func29, Tryz.ntmps29
  go_wp2_with fail
  refine (N1.out _).mono ?_
  rintro e w1 ⟨rfl, hb1⟩
  have DP : At w1 (w.heap.size) [.int .i64 p.c, .int .i64 p.h, .int .u64 p.l, .int .i64 p.mn, .int .i64 p.mx, .int .i64 p.t, .int .i64 p.s, .int .i64 p.q, .int .i64 p.v] := by have h := (((At.new (w) #[.int .i64 p.c, .int .i64 p.h, .int .u64 p.l, .int .i64 p.mn, .int .i64 p.mx, .int .i64 p.t, .int .i64 p.s, .int .i64 p.q, .int .i64 p.v] 55).alloc (.cells #[.int .i64 q.c, .int .i64 q.h, .int .u64 q.l, .int .i64 q.mn, .int .i64 q.mx, .int .i64 q.t, .int .i64 q.s, .int .i64 q.q, .int .i64 q.v] 55)).alloc (.cells #[.int .i64 0, .int .i64 0, .int .u64 0, .int .i64 0, .int .i64 0, .int .i64 0, .int .i64 0, .int .i64 0, .int .i64 0] 55)).below hb1; simpa using h
  have DQ : At w1 (w.heap.size + 1) [.int .i64 q.c, .int .i64 q.h, .int .u64 q.l, .int .i64 q.mn, .int .i64 q.mx, .int .i64 q.t, .int .i64 q.s, .int .i64 q.q, .int .i64 q.v] := by have h := ((At.new ((w).alloc (.cells #[.int .i64 p.c, .int .i64 p.h, .int .u64 p.l, .int .i64 p.mn, .int .i64 p.mx, .int .i64 p.t, .int .i64 p.s, .int .i64 p.q, .int .i64 p.v] 55)) #[.int .i64 q.c, .int .i64 q.h, .int .u64 q.l, .int .i64 q.mn, .int .i64 q.mx, .int .i64 q.t, .int .i64 q.s, .int .i64 q.q, .int .i64 q.v] 55).alloc (.cells #[.int .i64 0, .int .i64 0, .int .u64 0, .int .i64 0, .int .i64 0, .int .i64 0, .int .i64 0, .int .i64 0, .int .i64 0] 55)).below hb1; simpa using h
  have DR : At w1 (w.heap.size + 1 + 1) [.int .i64 0, .int .i64 0, .int .u64 0, .int .i64 0, .int .i64 0, .int .i64 0, .int .i64 0, .int .i64 0, .int .i64 0] := by have h := (At.new (((w).alloc (.cells #[.int .i64 p.c, .int .i64 p.h, .int .u64 p.l, .int .i64 p.mn, .int .i64 p.mx, .int .i64 p.t, .int .i64 p.s, .int .i64 p.q, .int .i64 p.v] 55)).alloc (.cells #[.int .i64 q.c, .int .i64 q.h, .int .u64 q.l, .int .i64 q.mn, .int .i64 q.mx, .int .i64 q.t, .int .i64 q.s, .int .i64 q.q, .int .i64 q.v] 55)) #[.int .i64 0, .int .i64 0, .int .u64 0, .int .i64 0, .int .i64 0, .int .i64 0, .int .i64 0, .int .i64 0, .int .i64 0] 55).below hb1; simpa using h
  have B : Below w.heap.size w w1 := below_then (below_new (below_new (below_new (Below.refl _ _) (.cells #[.int .i64 p.c, .int .i64 p.h, .int .u64 p.l, .int .i64 p.mn, .int .i64 p.mx, .int .i64 p.t, .int .i64 p.s, .int .i64 p.q, .int .i64 p.v] 55)) (.cells #[.int .i64 q.c, .int .i64 q.h, .int .u64 q.l, .int .i64 q.mn, .int .i64 q.mx, .int .i64 q.t, .int .i64 q.s, .int .i64 q.q, .int .i64 q.v] 55)) (.cells #[.int .i64 0, .int .i64 0, .int .u64 0, .int .i64 0, .int .i64 0, .int .i64 0, .int .i64 0, .int .i64 0, .int .i64 0] 55)) hb1
  clear hb1
  have aP0 := DP.cell 0 _ rfl
  have aP1 := DP.cell 1 _ rfl
  have aP2 := DP.cell 2 _ rfl
  have aP3 := DP.cell 3 _ rfl
  have aP4 := DP.cell 4 _ rfl
  have aP5 := DP.cell 5 _ rfl
  have aP6 := DP.cell 6 _ rfl
  have aP7 := DP.cell 7 _ rfl
  have aP8 := DP.cell 8 _ rfl
  have nP := DP.lt
  have aQ0 := DQ.cell 0 _ rfl
  have aQ1 := DQ.cell 1 _ rfl
  have aQ2 := DQ.cell 2 _ rfl
  have aQ3 := DQ.cell 3 _ rfl
  have aQ4 := DQ.cell 4 _ rfl
  have aQ5 := DQ.cell 5 _ rfl
  have aQ6 := DQ.cell 6 _ rfl
  have aQ7 := DQ.cell 7 _ rfl
  have aQ8 := DQ.cell 8 _ rfl
  have nQ := DQ.lt
  have aR0 := DR.cell 0 _ rfl
  have zR0 := DR.free 0 _ rfl
  have aR1 := DR.cell 1 _ rfl
  have zR1 := DR.free 1 _ rfl
  have aR2 := DR.cell 2 _ rfl
  have zR2 := DR.free 2 _ rfl
  have aR3 := DR.cell 3 _ rfl
  have zR3 := DR.free 3 _ rfl
  have aR4 := DR.cell 4 _ rfl
  have zR4 := DR.free 4 _ rfl
  have aR5 := DR.cell 5 _ rfl
  have zR5 := DR.free 5 _ rfl
  have aR6 := DR.cell 6 _ rfl
  have zR6 := DR.free 6 _ rfl
  have aR7 := DR.cell 7 _ rfl
  have zR7 := DR.free 7 _ rfl
  have aR8 := DR.cell 8 _ rfl
  have zR8 := DR.free 8 _ rfl
  have nR := DR.lt
  go_wp2_with fail
  refine (N2.out _).mono ?_
  rintro e w2 ⟨rfl, hb2⟩
  clear aP0 aP1 aP2 aP3 aP4 aP5 aP6 aP7 aP8 nP aQ0 aQ1 aQ2 aQ3 aQ4 aQ5 aQ6 aQ7 aQ8 nQ aR0 zR0 aR1 zR1 aR2 zR2 aR3 zR3 aR4 zR4 aR5 zR5 aR6 zR6 aR7 zR7 aR8 zR8 nR
  have DP := DP.below hb2
  have DQ := DQ.below hb2
  have DR := DR.below hb2
  have B : Below w.heap.size w w2 := below_then (B) hb2
  clear hb2
  have aP0 := DP.cell 0 _ rfl
  have aP1 := DP.cell 1 _ rfl
  have aP2 := DP.cell 2 _ rfl
  have aP3 := DP.cell 3 _ rfl
  have aP4 := DP.cell 4 _ rfl
  have aP5 := DP.cell 5 _ rfl
  have aP6 := DP.cell 6 _ rfl
  have aP7 := DP.cell 7 _ rfl
  have aP8 := DP.cell 8 _ rfl
  have nP := DP.lt
  have aQ0 := DQ.cell 0 _ rfl
  have aQ1 := DQ.cell 1 _ rfl
  have aQ2 := DQ.cell 2 _ rfl
  have aQ3 := DQ.cell 3 _ rfl
  have aQ4 := DQ.cell 4 _ rfl
  have aQ5 := DQ.cell 5 _ rfl
  have aQ6 := DQ.cell 6 _ rfl
  have aQ7 := DQ.cell 7 _ rfl
  have aQ8 := DQ.cell 8 _ rfl
  have nQ := DQ.lt
  have aR0 := DR.cell 0 _ rfl
  have zR0 := DR.free 0 _ rfl
  have aR1 := DR.cell 1 _ rfl
  have zR1 := DR.free 1 _ rfl
  have aR2 := DR.cell 2 _ rfl
  have zR2 := DR.free 2 _ rfl
  have aR3 := DR.cell 3 _ rfl
  have zR3 := DR.free 3 _ rfl
  have aR4 := DR.cell 4 _ rfl
  have zR4 := DR.free 4 _ rfl
  have aR5 := DR.cell 5 _ rfl
  have zR5 := DR.free 5 _ rfl
  have aR6 := DR.cell 6 _ rfl
  have zR6 := DR.free 6 _ rfl
  have aR7 := DR.cell 7 _ rfl
  have zR7 := DR.free 7 _ rfl
  have aR8 := DR.cell 8 _ rfl
  have zR8 := DR.free 8 _ rfl
  have nR := DR.lt
  go_wp2
  refine bodyPost_ret (by simp [results, Tryz.results29, go_sem, aR0, aR1, aR2, aR3, aR4, aR5, aR6, aR7, aR8, nR]; try rfl) rfl ?_
  exact ⟨rfl, by go_grown⟩
set_option maxHeartbeats 4000000 in
theorem merge_lt (p q : Pn) (h : ¬ p.c < 1) (h2 : ¬ q.c < 1) (hs : p.c + q.c ≤ 1000000000) (h0 l0 : Int) (ip : InI p.h p.l) (iq : InI q.h q.l) (i0 : InI h0 l0) (hv : val h0 l0 = val p.h p.l + val q.h q.l) (hk :  Lt3 p.t p.s p.q q.t q.s q.q) (w : World) : Calls Tryz.prog 29 #[p.V, q.V] w fun e w' => e = .returned (.agg #[.int .i64 (p.c + q.c), .int .i64 h0, .int .u64 l0, .int .i64 (min p.mn q.mn), .int .i64 (max p.mx q.mx), .int .i64 q.t, .int .i64 q.s, .int .i64 q.q, .int .i64 q.v]) ∧ Below w.heap.size w w' := by
  have N1 := Lib.hid (fun W => none_any p W)
  have N2 := Lib.hid (fun W => none_any q W)
  rw [decide_eq_false h] at N1
  rw [decide_eq_false h2] at N2
  have AD := Lib.hid (fun W => Add_ok p.h p.l q.h q.l h0 l0 ip iq i0 hv W)
  have LP := Lib.hid (fun W => last_any p W)
  have LQ := Lib.hid (fun W => last_any q W)
  have LT := Lib.hid (fun W => later_lt none 0 0 none 0 0 p.v p.t p.s p.q q.v q.t q.s q.q hk W)
  clear hk ip iq i0 hv
  unfold Pn.V lastV sV at *
  go_enter Tryz.func29, Tryz.ntmps29
  go_wp2_with fail
  refine (N1.out _).mono ?_
  rintro e w1 ⟨rfl, hb1⟩
  have DP : At w1 (w.heap.size) [.int .i64 p.c, .int .i64 p.h, .int .u64 p.l, .int .i64 p.mn, .int .i64 p.mx, .int .i64 p.t, .int .i64 p.s, .int .i64 p.q, .int .i64 p.v] := by have h := (((At.new (w) #[.int .i64 p.c, .int .i64 p.h, .int .u64 p.l, .int .i64 p.mn, .int .i64 p.mx, .int .i64 p.t, .int .i64 p.s, .int .i64 p.q, .int .i64 p.v] 55).alloc (.cells #[.int .i64 q.c, .int .i64 q.h, .int .u64 q.l, .int .i64 q.mn, .int .i64 q.mx, .int .i64 q.t, .int .i64 q.s, .int .i64 q.q, .int .i64 q.v] 55)).alloc (.cells #[.int .i64 0, .int .i64 0, .int .u64 0, .int .i64 0, .int .i64 0, .int .i64 0, .int .i64 0, .int .i64 0, .int .i64 0] 55)).below hb1; simpa using h
  have DQ : At w1 (w.heap.size + 1) [.int .i64 q.c, .int .i64 q.h, .int .u64 q.l, .int .i64 q.mn, .int .i64 q.mx, .int .i64 q.t, .int .i64 q.s, .int .i64 q.q, .int .i64 q.v] := by have h := ((At.new ((w).alloc (.cells #[.int .i64 p.c, .int .i64 p.h, .int .u64 p.l, .int .i64 p.mn, .int .i64 p.mx, .int .i64 p.t, .int .i64 p.s, .int .i64 p.q, .int .i64 p.v] 55)) #[.int .i64 q.c, .int .i64 q.h, .int .u64 q.l, .int .i64 q.mn, .int .i64 q.mx, .int .i64 q.t, .int .i64 q.s, .int .i64 q.q, .int .i64 q.v] 55).alloc (.cells #[.int .i64 0, .int .i64 0, .int .u64 0, .int .i64 0, .int .i64 0, .int .i64 0, .int .i64 0, .int .i64 0, .int .i64 0] 55)).below hb1; simpa using h
  have DR : At w1 (w.heap.size + 1 + 1) [.int .i64 0, .int .i64 0, .int .u64 0, .int .i64 0, .int .i64 0, .int .i64 0, .int .i64 0, .int .i64 0, .int .i64 0] := by have h := (At.new (((w).alloc (.cells #[.int .i64 p.c, .int .i64 p.h, .int .u64 p.l, .int .i64 p.mn, .int .i64 p.mx, .int .i64 p.t, .int .i64 p.s, .int .i64 p.q, .int .i64 p.v] 55)).alloc (.cells #[.int .i64 q.c, .int .i64 q.h, .int .u64 q.l, .int .i64 q.mn, .int .i64 q.mx, .int .i64 q.t, .int .i64 q.s, .int .i64 q.q, .int .i64 q.v] 55)) #[.int .i64 0, .int .i64 0, .int .u64 0, .int .i64 0, .int .i64 0, .int .i64 0, .int .i64 0, .int .i64 0, .int .i64 0] 55).below hb1; simpa using h
  have B : Below w.heap.size w w1 := below_then (below_new (below_new (below_new (Below.refl _ _) (.cells #[.int .i64 p.c, .int .i64 p.h, .int .u64 p.l, .int .i64 p.mn, .int .i64 p.mx, .int .i64 p.t, .int .i64 p.s, .int .i64 p.q, .int .i64 p.v] 55)) (.cells #[.int .i64 q.c, .int .i64 q.h, .int .u64 q.l, .int .i64 q.mn, .int .i64 q.mx, .int .i64 q.t, .int .i64 q.s, .int .i64 q.q, .int .i64 q.v] 55)) (.cells #[.int .i64 0, .int .i64 0, .int .u64 0, .int .i64 0, .int .i64 0, .int .i64 0, .int .i64 0, .int .i64 0, .int .i64 0] 55)) hb1
  clear hb1
  have aP0 := DP.cell 0 _ rfl
  have aP1 := DP.cell 1 _ rfl
  have aP2 := DP.cell 2 _ rfl
  have aP3 := DP.cell 3 _ rfl
  have aP4 := DP.cell 4 _ rfl
  have aP5 := DP.cell 5 _ rfl
  have aP6 := DP.cell 6 _ rfl
  have aP7 := DP.cell 7 _ rfl
  have aP8 := DP.cell 8 _ rfl
  have nP := DP.lt
  have aQ0 := DQ.cell 0 _ rfl
  have aQ1 := DQ.cell 1 _ rfl
  have aQ2 := DQ.cell 2 _ rfl
  have aQ3 := DQ.cell 3 _ rfl
  have aQ4 := DQ.cell 4 _ rfl
  have aQ5 := DQ.cell 5 _ rfl
  have aQ6 := DQ.cell 6 _ rfl
  have aQ7 := DQ.cell 7 _ rfl
  have aQ8 := DQ.cell 8 _ rfl
  have nQ := DQ.lt
  have aR0 := DR.cell 0 _ rfl
  have zR0 := DR.free 0 _ rfl
  have aR1 := DR.cell 1 _ rfl
  have zR1 := DR.free 1 _ rfl
  have aR2 := DR.cell 2 _ rfl
  have zR2 := DR.free 2 _ rfl
  have aR3 := DR.cell 3 _ rfl
  have zR3 := DR.free 3 _ rfl
  have aR4 := DR.cell 4 _ rfl
  have zR4 := DR.free 4 _ rfl
  have aR5 := DR.cell 5 _ rfl
  have zR5 := DR.free 5 _ rfl
  have aR6 := DR.cell 6 _ rfl
  have zR6 := DR.free 6 _ rfl
  have aR7 := DR.cell 7 _ rfl
  have zR7 := DR.free 7 _ rfl
  have aR8 := DR.cell 8 _ rfl
  have zR8 := DR.free 8 _ rfl
  have nR := DR.lt
  go_wp2_with fail
  refine (N2.out _).mono ?_
  rintro e w2 ⟨rfl, hb2⟩
  clear aP0 aP1 aP2 aP3 aP4 aP5 aP6 aP7 aP8 nP aQ0 aQ1 aQ2 aQ3 aQ4 aQ5 aQ6 aQ7 aQ8 nQ aR0 zR0 aR1 zR1 aR2 zR2 aR3 zR3 aR4 zR4 aR5 zR5 aR6 zR6 aR7 zR7 aR8 zR8 nR
  have DP := DP.below hb2
  have DQ := DQ.below hb2
  have DR := DR.below hb2
  have B : Below w.heap.size w w2 := below_then (B) hb2
  clear hb2
  have aP0 := DP.cell 0 _ rfl
  have aP1 := DP.cell 1 _ rfl
  have aP2 := DP.cell 2 _ rfl
  have aP3 := DP.cell 3 _ rfl
  have aP4 := DP.cell 4 _ rfl
  have aP5 := DP.cell 5 _ rfl
  have aP6 := DP.cell 6 _ rfl
  have aP7 := DP.cell 7 _ rfl
  have aP8 := DP.cell 8 _ rfl
  have nP := DP.lt
  have aQ0 := DQ.cell 0 _ rfl
  have aQ1 := DQ.cell 1 _ rfl
  have aQ2 := DQ.cell 2 _ rfl
  have aQ3 := DQ.cell 3 _ rfl
  have aQ4 := DQ.cell 4 _ rfl
  have aQ5 := DQ.cell 5 _ rfl
  have aQ6 := DQ.cell 6 _ rfl
  have aQ7 := DQ.cell 7 _ rfl
  have aQ8 := DQ.cell 8 _ rfl
  have nQ := DQ.lt
  have aR0 := DR.cell 0 _ rfl
  have zR0 := DR.free 0 _ rfl
  have aR1 := DR.cell 1 _ rfl
  have zR1 := DR.free 1 _ rfl
  have aR2 := DR.cell 2 _ rfl
  have zR2 := DR.free 2 _ rfl
  have aR3 := DR.cell 3 _ rfl
  have zR3 := DR.free 3 _ rfl
  have aR4 := DR.cell 4 _ rfl
  have zR4 := DR.free 4 _ rfl
  have aR5 := DR.cell 5 _ rfl
  have zR5 := DR.free 5 _ rfl
  have aR6 := DR.cell 6 _ rfl
  have zR6 := DR.free 6 _ rfl
  have aR7 := DR.cell 7 _ rfl
  have zR7 := DR.free 7 _ rfl
  have aR8 := DR.cell 8 _ rfl
  have zR8 := DR.free 8 _ rfl
  have nR := DR.lt
  go_wp2_with fail
  refine (AD.out _).mono ?_
  rintro e w3 ⟨rfl, hb3⟩
  clear aP0 aP1 aP2 aP3 aP4 aP5 aP6 aP7 aP8 nP aQ0 aQ1 aQ2 aQ3 aQ4 aQ5 aQ6 aQ7 aQ8 nQ aR0 zR0 aR1 zR1 aR2 zR2 aR3 zR3 aR4 zR4 aR5 zR5 aR6 zR6 aR7 zR7 aR8 zR8 nR
  have DP := DP.below hb3
  have DQ := DQ.below hb3
  have DR := DR.below hb3
  have B : Below w.heap.size w w3 := below_then (B) hb3
  clear hb3
  have aP0 := DP.cell 0 _ rfl
  have aP1 := DP.cell 1 _ rfl
  have aP2 := DP.cell 2 _ rfl
  have aP3 := DP.cell 3 _ rfl
  have aP4 := DP.cell 4 _ rfl
  have aP5 := DP.cell 5 _ rfl
  have aP6 := DP.cell 6 _ rfl
  have aP7 := DP.cell 7 _ rfl
  have aP8 := DP.cell 8 _ rfl
  have nP := DP.lt
  have aQ0 := DQ.cell 0 _ rfl
  have aQ1 := DQ.cell 1 _ rfl
  have aQ2 := DQ.cell 2 _ rfl
  have aQ3 := DQ.cell 3 _ rfl
  have aQ4 := DQ.cell 4 _ rfl
  have aQ5 := DQ.cell 5 _ rfl
  have aQ6 := DQ.cell 6 _ rfl
  have aQ7 := DQ.cell 7 _ rfl
  have aQ8 := DQ.cell 8 _ rfl
  have nQ := DQ.lt
  have aR0 := DR.cell 0 _ rfl
  have zR0 := DR.free 0 _ rfl
  have aR1 := DR.cell 1 _ rfl
  have zR1 := DR.free 1 _ rfl
  have aR2 := DR.cell 2 _ rfl
  have zR2 := DR.free 2 _ rfl
  have aR3 := DR.cell 3 _ rfl
  have zR3 := DR.free 3 _ rfl
  have aR4 := DR.cell 4 _ rfl
  have zR4 := DR.free 4 _ rfl
  have aR5 := DR.cell 5 _ rfl
  have zR5 := DR.free 5 _ rfl
  have aR6 := DR.cell 6 _ rfl
  have zR6 := DR.free 6 _ rfl
  have aR7 := DR.cell 7 _ rfl
  have zR7 := DR.free 7 _ rfl
  have aR8 := DR.cell 8 _ rfl
  have zR8 := DR.free 8 _ rfl
  have nR := DR.lt
  clear aP0 aP1 aP2 aP3 aP4 aP5 aP6 aP7 aP8 nP aQ0 aQ1 aQ2 aQ3 aQ4 aQ5 aQ6 aQ7 aQ8 nQ aR0 zR0 aR1 zR1 aR2 zR2 aR3 zR3 aR4 zR4 aR5 zR5 aR6 zR6 aR7 zR7 aR8 zR8 nR
  have DP := (DP.alloc (.cells #[.int .i64 h0, .int .u64 l0] 53))
  have DQ := (DQ.alloc (.cells #[.int .i64 h0, .int .u64 l0] 53))
  have DR := (DR.alloc (.cells #[.int .i64 h0, .int .u64 l0] 53))
  have DU : At ((w3).alloc (.cells #[.int .i64 h0, .int .u64 l0] 53)) (w3.heap.size) [.int .i64 h0, .int .u64 l0] := by have h := (At.new (w3) #[.int .i64 h0, .int .u64 l0] 53); simpa using h
  have B : Below w.heap.size w ((w3).alloc (.cells #[.int .i64 h0, .int .u64 l0] 53)) := below_new (B) (.cells #[.int .i64 h0, .int .u64 l0] 53)
  go_wp2_with fail
  generalize (w3).alloc (.cells #[.int .i64 h0, .int .u64 l0] 53) = W9 at *
  have aP0 := DP.cell 0 _ rfl
  have aP1 := DP.cell 1 _ rfl
  have aP2 := DP.cell 2 _ rfl
  have aP3 := DP.cell 3 _ rfl
  have aP4 := DP.cell 4 _ rfl
  have aP5 := DP.cell 5 _ rfl
  have aP6 := DP.cell 6 _ rfl
  have aP7 := DP.cell 7 _ rfl
  have aP8 := DP.cell 8 _ rfl
  have nP := DP.lt
  have aQ0 := DQ.cell 0 _ rfl
  have aQ1 := DQ.cell 1 _ rfl
  have aQ2 := DQ.cell 2 _ rfl
  have aQ3 := DQ.cell 3 _ rfl
  have aQ4 := DQ.cell 4 _ rfl
  have aQ5 := DQ.cell 5 _ rfl
  have aQ6 := DQ.cell 6 _ rfl
  have aQ7 := DQ.cell 7 _ rfl
  have aQ8 := DQ.cell 8 _ rfl
  have nQ := DQ.lt
  have aR0 := DR.cell 0 _ rfl
  have zR0 := DR.free 0 _ rfl
  have aR1 := DR.cell 1 _ rfl
  have zR1 := DR.free 1 _ rfl
  have aR2 := DR.cell 2 _ rfl
  have zR2 := DR.free 2 _ rfl
  have aR3 := DR.cell 3 _ rfl
  have zR3 := DR.free 3 _ rfl
  have aR4 := DR.cell 4 _ rfl
  have zR4 := DR.free 4 _ rfl
  have aR5 := DR.cell 5 _ rfl
  have zR5 := DR.free 5 _ rfl
  have aR6 := DR.cell 6 _ rfl
  have zR6 := DR.free 6 _ rfl
  have aR7 := DR.cell 7 _ rfl
  have zR7 := DR.free 7 _ rfl
  have aR8 := DR.cell 8 _ rfl
  have zR8 := DR.free 8 _ rfl
  have nR := DR.lt
  have aU0 := DU.cell 0 _ rfl
  have aU1 := DU.cell 1 _ rfl
  have nU := DU.lt
  have hM : MS p q h0 l0 w (w3.heap.size) W9 := ⟨DP, DQ, DR, DU, B⟩
  clear DP DQ DR DU B aP0 aP1 aP2 aP3 aP4 aP5 aP6 aP7 aP8 nP aQ0 aQ1 aQ2 aQ3 aQ4 aQ5 aQ6 aQ7 aQ8 nQ aR0 zR0 aR1 zR1 aR2 zR2 aR3 zR3 aR4 zR4 aR5 zR5 aR6 zR6 aR7 zR7 aR8 zR8 nR aU0 aU1 nU
  go_upto_region 6 with (fail)
  go_cut [7] (fun s7 wx => ∃ bE : Nat, s7 = .pointer (some ⟨bE, 0, none⟩) ∧ At wx bE [.slice none 0 0, .int .i64 q.v, .int .i64 q.t, .int .i64 q.s, .int .i64 q.q] ∧ MS p q h0 l0 w (w3.heap.size) wx)
  case first =>
    refine wp_region_held_drew (S := MS p q h0 l0 w (w3.heap.size)) (by kernel_rfl) hM.drew (fun hS => ?_)
    clear N1 N2 AD
    generalize W9.drew = w0 at *
    refine tkC 0 hS (fun u h => h.P.f9) ?_
    refine tkC 2 hS (fun u h => h.Q.f9) ?_
    generalize Value.agg #[.int .i64 p.c, .int .i64 p.h, .int .u64 p.l, .int .i64 p.mn, .int .i64 p.mx, .int .i64 p.t, .int .i64 p.s, .int .i64 p.q, .int .i64 p.v] = VP at *
    generalize Value.agg #[.int .i64 q.c, .int .i64 q.h, .int .u64 q.l, .int .i64 q.mn, .int .i64 q.mx, .int .i64 q.t, .int .i64 q.s, .int .i64 q.q, .int .i64 q.v] = VQ at *
    generalize Value.agg #[.slice none 0 0, .int .i64 p.v, .int .i64 p.t, .int .i64 p.s, .int .i64 p.q] = VL at *
    refine anyH_2 1 5 (fun K hK => ?_) (fun K hK => ?_)
    · go_simp
      go_at_call 62
      refine (LP.out _).mono ?_
      rintro e w1 ⟨rfl, hb1⟩
      have hM1 := hS.below hb1
      go_wp2_with fail
      refine hK.out _ _ hM1 (fun hS => ?_)
      clear hM1 hK K hb1
      refine anyH_2 3 5 (fun K hK => ?_) (fun K hK => ?_)
      · go_simp
        go_at_call 62
        refine (LQ.out _).mono ?_
        rintro e w1 ⟨rfl, hb1⟩
        have hM1 := hS.below hb1
        go_wp2_with fail
        refine hK.out _ _ hM1 (fun hS => ?_)
        clear hM1 hK K hb1
        refine anyH_2 4 5 (fun K hK => ?_) (fun K hK => ?_)
        · go_simp
          go_at_call 61
          refine (LT.out _).mono ?_
          rintro e w1 ⟨rfl, hb1⟩
          have hM1 := hS.below hb1
          go_wp2_with fail
          refine hK.out _ _ hM1 (fun hS => ?_)
          clear hM1 hK K hb1
          refine anyH_1 5 (fun K hK => ?_)
          go_simp
          have DE := hS.new [.slice none 0 0, .int .i64 0, .int .i64 0, .int .i64 0, .int .i64 0] 33
          have hM1 := hS.alloc (.cells #[.slice none 0 0, .int .i64 0, .int .i64 0, .int .i64 0, .int .i64 0] 33)
          have hE := hS.lt
          refine hK.out _ _ hM1 (fun hS => ?_)
          clear hM1 hK K
          generalize w1.alloc (.cells #[.slice none 0 0, .int .i64 0, .int .i64 0, .int .i64 0, .int .i64 0] 33) = W8 at *
          generalize w1.heap.size = bE at *
          refine anyH_1 6 (fun K hK => ?_)
          have fE := DE.f5
          go_simp
          have DE := ((((DE.set 0 (.slice none 0 0)).set 1 (.int .i64 q.v)).set 2 (.int .i64 q.t)).set 3 (.int .i64 q.s)).set 4 (.int .i64 q.q)
          simp only [qd, qe, qf] at DE
          have hM1 := hS.set5 hE (.slice none 0 0) (.int .i64 q.v) (.int .i64 q.t) (.int .i64 q.s) (.int .i64 q.q)
          refine hK.out _ _ hM1 (fun hS => ?_)
          refine wpAnyH_done (by kernel_rfl) ?_ _
          go_wp2_with fail
          go_meet
          exact ⟨_, rfl, DE, hM1⟩
        · go_simp
          have DE := hS.new [.slice none 0 0, .int .i64 0, .int .i64 0, .int .i64 0, .int .i64 0] 33
          have hM1 := hS.alloc (.cells #[.slice none 0 0, .int .i64 0, .int .i64 0, .int .i64 0, .int .i64 0] 33)
          have hE := hS.lt
          refine hK.out _ _ hM1 (fun hS => ?_)
          clear hM1 hK K
          generalize w1.alloc (.cells #[.slice none 0 0, .int .i64 0, .int .i64 0, .int .i64 0, .int .i64 0] 33) = W8 at *
          generalize w1.heap.size = bE at *
          refine anyH_1 4 (fun K hK => ?_)
          go_simp
          go_at_call 61
          refine (LT.out _).mono ?_
          rintro e w1 ⟨rfl, hb1⟩
          have DE := DE.below hb1
          have hM1 := hS.below hb1
          go_wp2_with fail
          refine hK.out _ _ hM1 (fun hS => ?_)
          clear hM1 hK K hb1
          refine anyH_1 6 (fun K hK => ?_)
          have fE := DE.f5
          go_simp
          have DE := ((((DE.set 0 (.slice none 0 0)).set 1 (.int .i64 q.v)).set 2 (.int .i64 q.t)).set 3 (.int .i64 q.s)).set 4 (.int .i64 q.q)
          simp only [qd, qe, qf] at DE
          have hM1 := hS.set5 hE (.slice none 0 0) (.int .i64 q.v) (.int .i64 q.t) (.int .i64 q.s) (.int .i64 q.q)
          refine hK.out _ _ hM1 (fun hS => ?_)
          refine wpAnyH_done (by kernel_rfl) ?_ _
          go_wp2_with fail
          go_meet
          exact ⟨_, rfl, DE, hM1⟩
      · go_simp
        have DE := hS.new [.slice none 0 0, .int .i64 0, .int .i64 0, .int .i64 0, .int .i64 0] 33
        have hM1 := hS.alloc (.cells #[.slice none 0 0, .int .i64 0, .int .i64 0, .int .i64 0, .int .i64 0] 33)
        have hE := hS.lt
        refine hK.out _ _ hM1 (fun hS => ?_)
        clear hM1 hK K
        generalize w1.alloc (.cells #[.slice none 0 0, .int .i64 0, .int .i64 0, .int .i64 0, .int .i64 0] 33) = W8 at *
        generalize w1.heap.size = bE at *
        refine anyH_1 3 (fun K hK => ?_)
        go_simp
        go_at_call 62
        refine (LQ.out _).mono ?_
        rintro e w1 ⟨rfl, hb1⟩
        have DE := DE.below hb1
        have hM1 := hS.below hb1
        go_wp2_with fail
        refine hK.out _ _ hM1 (fun hS => ?_)
        clear hM1 hK K hb1
        refine anyH_1 4 (fun K hK => ?_)
        go_simp
        go_at_call 61
        refine (LT.out _).mono ?_
        rintro e w1 ⟨rfl, hb1⟩
        have DE := DE.below hb1
        have hM1 := hS.below hb1
        go_wp2_with fail
        refine hK.out _ _ hM1 (fun hS => ?_)
        clear hM1 hK K hb1
        refine anyH_1 6 (fun K hK => ?_)
        have fE := DE.f5
        go_simp
        have DE := ((((DE.set 0 (.slice none 0 0)).set 1 (.int .i64 q.v)).set 2 (.int .i64 q.t)).set 3 (.int .i64 q.s)).set 4 (.int .i64 q.q)
        simp only [qd, qe, qf] at DE
        have hM1 := hS.set5 hE (.slice none 0 0) (.int .i64 q.v) (.int .i64 q.t) (.int .i64 q.s) (.int .i64 q.q)
        refine hK.out _ _ hM1 (fun hS => ?_)
        refine wpAnyH_done (by kernel_rfl) ?_ _
        go_wp2_with fail
        go_meet
        exact ⟨_, rfl, DE, hM1⟩
    · go_simp
      have DE := hS.new [.slice none 0 0, .int .i64 0, .int .i64 0, .int .i64 0, .int .i64 0] 33
      have hM1 := hS.alloc (.cells #[.slice none 0 0, .int .i64 0, .int .i64 0, .int .i64 0, .int .i64 0] 33)
      have hE := hS.lt
      refine hK.out _ _ hM1 (fun hS => ?_)
      clear hM1 hK K
      generalize w0.alloc (.cells #[.slice none 0 0, .int .i64 0, .int .i64 0, .int .i64 0, .int .i64 0] 33) = W8 at *
      generalize w0.heap.size = bE at *
      refine anyH_1 1 (fun K hK => ?_)
      go_simp
      go_at_call 62
      refine (LP.out _).mono ?_
      rintro e w1 ⟨rfl, hb1⟩
      have DE := DE.below hb1
      have hM1 := hS.below hb1
      go_wp2_with fail
      refine hK.out _ _ hM1 (fun hS => ?_)
      clear hM1 hK K hb1
      refine anyH_1 3 (fun K hK => ?_)
      go_simp
      go_at_call 62
      refine (LQ.out _).mono ?_
      rintro e w1 ⟨rfl, hb1⟩
      have DE := DE.below hb1
      have hM1 := hS.below hb1
      go_wp2_with fail
      refine hK.out _ _ hM1 (fun hS => ?_)
      clear hM1 hK K hb1
      refine anyH_1 4 (fun K hK => ?_)
      go_simp
      go_at_call 61
      refine (LT.out _).mono ?_
      rintro e w1 ⟨rfl, hb1⟩
      have DE := DE.below hb1
      have hM1 := hS.below hb1
      go_wp2_with fail
      refine hK.out _ _ hM1 (fun hS => ?_)
      clear hM1 hK K hb1
      refine anyH_1 6 (fun K hK => ?_)
      have fE := DE.f5
      go_simp
      have DE := ((((DE.set 0 (.slice none 0 0)).set 1 (.int .i64 q.v)).set 2 (.int .i64 q.t)).set 3 (.int .i64 q.s)).set 4 (.int .i64 q.q)
      simp only [qd, qe, qf] at DE
      have hM1 := hS.set5 hE (.slice none 0 0) (.int .i64 q.v) (.int .i64 q.t) (.int .i64 q.s) (.int .i64 q.q)
      refine hK.out _ _ hM1 (fun hS => ?_)
      refine wpAnyH_done (by kernel_rfl) ?_ _
      go_wp2_with fail
      go_meet
      exact ⟨_, rfl, DE, hM1⟩
  case rest =>
    obtain ⟨bE, rfl, DE, hM⟩ := hcut
    have DP := hM.P
    have DQ := hM.Q
    have DR := hM.R
    have DU := hM.U
    have B := hM.B
    clear hM
    have aP0 := DP.cell 0 _ rfl
    have aP1 := DP.cell 1 _ rfl
    have aP2 := DP.cell 2 _ rfl
    have aP3 := DP.cell 3 _ rfl
    have aP4 := DP.cell 4 _ rfl
    have aP5 := DP.cell 5 _ rfl
    have aP6 := DP.cell 6 _ rfl
    have aP7 := DP.cell 7 _ rfl
    have aP8 := DP.cell 8 _ rfl
    have nP := DP.lt
    have aQ0 := DQ.cell 0 _ rfl
    have aQ1 := DQ.cell 1 _ rfl
    have aQ2 := DQ.cell 2 _ rfl
    have aQ3 := DQ.cell 3 _ rfl
    have aQ4 := DQ.cell 4 _ rfl
    have aQ5 := DQ.cell 5 _ rfl
    have aQ6 := DQ.cell 6 _ rfl
    have aQ7 := DQ.cell 7 _ rfl
    have aQ8 := DQ.cell 8 _ rfl
    have nQ := DQ.lt
    have aR0 := DR.cell 0 _ rfl
    have zR0 := DR.free 0 _ rfl
    have aR1 := DR.cell 1 _ rfl
    have zR1 := DR.free 1 _ rfl
    have aR2 := DR.cell 2 _ rfl
    have zR2 := DR.free 2 _ rfl
    have aR3 := DR.cell 3 _ rfl
    have zR3 := DR.free 3 _ rfl
    have aR4 := DR.cell 4 _ rfl
    have zR4 := DR.free 4 _ rfl
    have aR5 := DR.cell 5 _ rfl
    have zR5 := DR.free 5 _ rfl
    have aR6 := DR.cell 6 _ rfl
    have zR6 := DR.free 6 _ rfl
    have aR7 := DR.cell 7 _ rfl
    have zR7 := DR.free 7 _ rfl
    have aR8 := DR.cell 8 _ rfl
    have zR8 := DR.free 8 _ rfl
    have nR := DR.lt
    have aU0 := DU.cell 0 _ rfl
    have aU1 := DU.cell 1 _ rfl
    have nU := DU.lt
    have aE0 := DE.cell 0 _ rfl
    have aE1 := DE.cell 1 _ rfl
    have aE2 := DE.cell 2 _ rfl
    have aE3 := DE.cell 3 _ rfl
    have aE4 := DE.cell 4 _ rfl
    have nE := DE.lt
    go_wp2
    refine bodyPost_ret (by simp [results, Tryz.results29, go_sem, aR0, aR1, aR2, aR3, aR4, aR5, aR6, aR7, aR8, nR]; try rfl) rfl ?_
    exact ⟨rfl, by go_grown⟩
set_option maxHeartbeats 4000000 in
theorem merge_ge (p q : Pn) (h : ¬ p.c < 1) (h2 : ¬ q.c < 1) (hs : p.c + q.c ≤ 1000000000) (h0 l0 : Int) (ip : InI p.h p.l) (iq : InI q.h q.l) (i0 : InI h0 l0) (hv : val h0 l0 = val p.h p.l + val q.h q.l) (hk : ¬ Lt3 p.t p.s p.q q.t q.s q.q) (w : World) : Calls Tryz.prog 29 #[p.V, q.V] w fun e w' => e = .returned (.agg #[.int .i64 (p.c + q.c), .int .i64 h0, .int .u64 l0, .int .i64 (min p.mn q.mn), .int .i64 (max p.mx q.mx), .int .i64 p.t, .int .i64 p.s, .int .i64 p.q, .int .i64 p.v]) ∧ Below w.heap.size w w' := by
  have N1 := Lib.hid (fun W => none_any p W)
  have N2 := Lib.hid (fun W => none_any q W)
  rw [decide_eq_false h] at N1
  rw [decide_eq_false h2] at N2
  have AD := Lib.hid (fun W => Add_ok p.h p.l q.h q.l h0 l0 ip iq i0 hv W)
  have LP := Lib.hid (fun W => last_any p W)
  have LQ := Lib.hid (fun W => last_any q W)
  have LT := Lib.hid (fun W => later_ge none 0 0 none 0 0 p.v p.t p.s p.q q.v q.t q.s q.q hk W)
  clear hk ip iq i0 hv
  unfold Pn.V lastV sV at *
  go_enter Tryz.func29, Tryz.ntmps29
  go_wp2_with fail
  refine (N1.out _).mono ?_
  rintro e w1 ⟨rfl, hb1⟩
  have DP : At w1 (w.heap.size) [.int .i64 p.c, .int .i64 p.h, .int .u64 p.l, .int .i64 p.mn, .int .i64 p.mx, .int .i64 p.t, .int .i64 p.s, .int .i64 p.q, .int .i64 p.v] := by have h := (((At.new (w) #[.int .i64 p.c, .int .i64 p.h, .int .u64 p.l, .int .i64 p.mn, .int .i64 p.mx, .int .i64 p.t, .int .i64 p.s, .int .i64 p.q, .int .i64 p.v] 55).alloc (.cells #[.int .i64 q.c, .int .i64 q.h, .int .u64 q.l, .int .i64 q.mn, .int .i64 q.mx, .int .i64 q.t, .int .i64 q.s, .int .i64 q.q, .int .i64 q.v] 55)).alloc (.cells #[.int .i64 0, .int .i64 0, .int .u64 0, .int .i64 0, .int .i64 0, .int .i64 0, .int .i64 0, .int .i64 0, .int .i64 0] 55)).below hb1; simpa using h
  have DQ : At w1 (w.heap.size + 1) [.int .i64 q.c, .int .i64 q.h, .int .u64 q.l, .int .i64 q.mn, .int .i64 q.mx, .int .i64 q.t, .int .i64 q.s, .int .i64 q.q, .int .i64 q.v] := by have h := ((At.new ((w).alloc (.cells #[.int .i64 p.c, .int .i64 p.h, .int .u64 p.l, .int .i64 p.mn, .int .i64 p.mx, .int .i64 p.t, .int .i64 p.s, .int .i64 p.q, .int .i64 p.v] 55)) #[.int .i64 q.c, .int .i64 q.h, .int .u64 q.l, .int .i64 q.mn, .int .i64 q.mx, .int .i64 q.t, .int .i64 q.s, .int .i64 q.q, .int .i64 q.v] 55).alloc (.cells #[.int .i64 0, .int .i64 0, .int .u64 0, .int .i64 0, .int .i64 0, .int .i64 0, .int .i64 0, .int .i64 0, .int .i64 0] 55)).below hb1; simpa using h
  have DR : At w1 (w.heap.size + 1 + 1) [.int .i64 0, .int .i64 0, .int .u64 0, .int .i64 0, .int .i64 0, .int .i64 0, .int .i64 0, .int .i64 0, .int .i64 0] := by have h := (At.new (((w).alloc (.cells #[.int .i64 p.c, .int .i64 p.h, .int .u64 p.l, .int .i64 p.mn, .int .i64 p.mx, .int .i64 p.t, .int .i64 p.s, .int .i64 p.q, .int .i64 p.v] 55)).alloc (.cells #[.int .i64 q.c, .int .i64 q.h, .int .u64 q.l, .int .i64 q.mn, .int .i64 q.mx, .int .i64 q.t, .int .i64 q.s, .int .i64 q.q, .int .i64 q.v] 55)) #[.int .i64 0, .int .i64 0, .int .u64 0, .int .i64 0, .int .i64 0, .int .i64 0, .int .i64 0, .int .i64 0, .int .i64 0] 55).below hb1; simpa using h
  have B : Below w.heap.size w w1 := below_then (below_new (below_new (below_new (Below.refl _ _) (.cells #[.int .i64 p.c, .int .i64 p.h, .int .u64 p.l, .int .i64 p.mn, .int .i64 p.mx, .int .i64 p.t, .int .i64 p.s, .int .i64 p.q, .int .i64 p.v] 55)) (.cells #[.int .i64 q.c, .int .i64 q.h, .int .u64 q.l, .int .i64 q.mn, .int .i64 q.mx, .int .i64 q.t, .int .i64 q.s, .int .i64 q.q, .int .i64 q.v] 55)) (.cells #[.int .i64 0, .int .i64 0, .int .u64 0, .int .i64 0, .int .i64 0, .int .i64 0, .int .i64 0, .int .i64 0, .int .i64 0] 55)) hb1
  clear hb1
  have aP0 := DP.cell 0 _ rfl
  have aP1 := DP.cell 1 _ rfl
  have aP2 := DP.cell 2 _ rfl
  have aP3 := DP.cell 3 _ rfl
  have aP4 := DP.cell 4 _ rfl
  have aP5 := DP.cell 5 _ rfl
  have aP6 := DP.cell 6 _ rfl
  have aP7 := DP.cell 7 _ rfl
  have aP8 := DP.cell 8 _ rfl
  have nP := DP.lt
  have aQ0 := DQ.cell 0 _ rfl
  have aQ1 := DQ.cell 1 _ rfl
  have aQ2 := DQ.cell 2 _ rfl
  have aQ3 := DQ.cell 3 _ rfl
  have aQ4 := DQ.cell 4 _ rfl
  have aQ5 := DQ.cell 5 _ rfl
  have aQ6 := DQ.cell 6 _ rfl
  have aQ7 := DQ.cell 7 _ rfl
  have aQ8 := DQ.cell 8 _ rfl
  have nQ := DQ.lt
  have aR0 := DR.cell 0 _ rfl
  have zR0 := DR.free 0 _ rfl
  have aR1 := DR.cell 1 _ rfl
  have zR1 := DR.free 1 _ rfl
  have aR2 := DR.cell 2 _ rfl
  have zR2 := DR.free 2 _ rfl
  have aR3 := DR.cell 3 _ rfl
  have zR3 := DR.free 3 _ rfl
  have aR4 := DR.cell 4 _ rfl
  have zR4 := DR.free 4 _ rfl
  have aR5 := DR.cell 5 _ rfl
  have zR5 := DR.free 5 _ rfl
  have aR6 := DR.cell 6 _ rfl
  have zR6 := DR.free 6 _ rfl
  have aR7 := DR.cell 7 _ rfl
  have zR7 := DR.free 7 _ rfl
  have aR8 := DR.cell 8 _ rfl
  have zR8 := DR.free 8 _ rfl
  have nR := DR.lt
  go_wp2_with fail
  refine (N2.out _).mono ?_
  rintro e w2 ⟨rfl, hb2⟩
  clear aP0 aP1 aP2 aP3 aP4 aP5 aP6 aP7 aP8 nP aQ0 aQ1 aQ2 aQ3 aQ4 aQ5 aQ6 aQ7 aQ8 nQ aR0 zR0 aR1 zR1 aR2 zR2 aR3 zR3 aR4 zR4 aR5 zR5 aR6 zR6 aR7 zR7 aR8 zR8 nR
  have DP := DP.below hb2
  have DQ := DQ.below hb2
  have DR := DR.below hb2
  have B : Below w.heap.size w w2 := below_then (B) hb2
  clear hb2
  have aP0 := DP.cell 0 _ rfl
  have aP1 := DP.cell 1 _ rfl
  have aP2 := DP.cell 2 _ rfl
  have aP3 := DP.cell 3 _ rfl
  have aP4 := DP.cell 4 _ rfl
  have aP5 := DP.cell 5 _ rfl
  have aP6 := DP.cell 6 _ rfl
  have aP7 := DP.cell 7 _ rfl
  have aP8 := DP.cell 8 _ rfl
  have nP := DP.lt
  have aQ0 := DQ.cell 0 _ rfl
  have aQ1 := DQ.cell 1 _ rfl
  have aQ2 := DQ.cell 2 _ rfl
  have aQ3 := DQ.cell 3 _ rfl
  have aQ4 := DQ.cell 4 _ rfl
  have aQ5 := DQ.cell 5 _ rfl
  have aQ6 := DQ.cell 6 _ rfl
  have aQ7 := DQ.cell 7 _ rfl
  have aQ8 := DQ.cell 8 _ rfl
  have nQ := DQ.lt
  have aR0 := DR.cell 0 _ rfl
  have zR0 := DR.free 0 _ rfl
  have aR1 := DR.cell 1 _ rfl
  have zR1 := DR.free 1 _ rfl
  have aR2 := DR.cell 2 _ rfl
  have zR2 := DR.free 2 _ rfl
  have aR3 := DR.cell 3 _ rfl
  have zR3 := DR.free 3 _ rfl
  have aR4 := DR.cell 4 _ rfl
  have zR4 := DR.free 4 _ rfl
  have aR5 := DR.cell 5 _ rfl
  have zR5 := DR.free 5 _ rfl
  have aR6 := DR.cell 6 _ rfl
  have zR6 := DR.free 6 _ rfl
  have aR7 := DR.cell 7 _ rfl
  have zR7 := DR.free 7 _ rfl
  have aR8 := DR.cell 8 _ rfl
  have zR8 := DR.free 8 _ rfl
  have nR := DR.lt
  go_wp2_with fail
  refine (AD.out _).mono ?_
  rintro e w3 ⟨rfl, hb3⟩
  clear aP0 aP1 aP2 aP3 aP4 aP5 aP6 aP7 aP8 nP aQ0 aQ1 aQ2 aQ3 aQ4 aQ5 aQ6 aQ7 aQ8 nQ aR0 zR0 aR1 zR1 aR2 zR2 aR3 zR3 aR4 zR4 aR5 zR5 aR6 zR6 aR7 zR7 aR8 zR8 nR
  have DP := DP.below hb3
  have DQ := DQ.below hb3
  have DR := DR.below hb3
  have B : Below w.heap.size w w3 := below_then (B) hb3
  clear hb3
  have aP0 := DP.cell 0 _ rfl
  have aP1 := DP.cell 1 _ rfl
  have aP2 := DP.cell 2 _ rfl
  have aP3 := DP.cell 3 _ rfl
  have aP4 := DP.cell 4 _ rfl
  have aP5 := DP.cell 5 _ rfl
  have aP6 := DP.cell 6 _ rfl
  have aP7 := DP.cell 7 _ rfl
  have aP8 := DP.cell 8 _ rfl
  have nP := DP.lt
  have aQ0 := DQ.cell 0 _ rfl
  have aQ1 := DQ.cell 1 _ rfl
  have aQ2 := DQ.cell 2 _ rfl
  have aQ3 := DQ.cell 3 _ rfl
  have aQ4 := DQ.cell 4 _ rfl
  have aQ5 := DQ.cell 5 _ rfl
  have aQ6 := DQ.cell 6 _ rfl
  have aQ7 := DQ.cell 7 _ rfl
  have aQ8 := DQ.cell 8 _ rfl
  have nQ := DQ.lt
  have aR0 := DR.cell 0 _ rfl
  have zR0 := DR.free 0 _ rfl
  have aR1 := DR.cell 1 _ rfl
  have zR1 := DR.free 1 _ rfl
  have aR2 := DR.cell 2 _ rfl
  have zR2 := DR.free 2 _ rfl
  have aR3 := DR.cell 3 _ rfl
  have zR3 := DR.free 3 _ rfl
  have aR4 := DR.cell 4 _ rfl
  have zR4 := DR.free 4 _ rfl
  have aR5 := DR.cell 5 _ rfl
  have zR5 := DR.free 5 _ rfl
  have aR6 := DR.cell 6 _ rfl
  have zR6 := DR.free 6 _ rfl
  have aR7 := DR.cell 7 _ rfl
  have zR7 := DR.free 7 _ rfl
  have aR8 := DR.cell 8 _ rfl
  have zR8 := DR.free 8 _ rfl
  have nR := DR.lt
  clear aP0 aP1 aP2 aP3 aP4 aP5 aP6 aP7 aP8 nP aQ0 aQ1 aQ2 aQ3 aQ4 aQ5 aQ6 aQ7 aQ8 nQ aR0 zR0 aR1 zR1 aR2 zR2 aR3 zR3 aR4 zR4 aR5 zR5 aR6 zR6 aR7 zR7 aR8 zR8 nR
  have DP := (DP.alloc (.cells #[.int .i64 h0, .int .u64 l0] 53))
  have DQ := (DQ.alloc (.cells #[.int .i64 h0, .int .u64 l0] 53))
  have DR := (DR.alloc (.cells #[.int .i64 h0, .int .u64 l0] 53))
  have DU : At ((w3).alloc (.cells #[.int .i64 h0, .int .u64 l0] 53)) (w3.heap.size) [.int .i64 h0, .int .u64 l0] := by have h := (At.new (w3) #[.int .i64 h0, .int .u64 l0] 53); simpa using h
  have B : Below w.heap.size w ((w3).alloc (.cells #[.int .i64 h0, .int .u64 l0] 53)) := below_new (B) (.cells #[.int .i64 h0, .int .u64 l0] 53)
  go_wp2_with fail
  generalize (w3).alloc (.cells #[.int .i64 h0, .int .u64 l0] 53) = W9 at *
  have aP0 := DP.cell 0 _ rfl
  have aP1 := DP.cell 1 _ rfl
  have aP2 := DP.cell 2 _ rfl
  have aP3 := DP.cell 3 _ rfl
  have aP4 := DP.cell 4 _ rfl
  have aP5 := DP.cell 5 _ rfl
  have aP6 := DP.cell 6 _ rfl
  have aP7 := DP.cell 7 _ rfl
  have aP8 := DP.cell 8 _ rfl
  have nP := DP.lt
  have aQ0 := DQ.cell 0 _ rfl
  have aQ1 := DQ.cell 1 _ rfl
  have aQ2 := DQ.cell 2 _ rfl
  have aQ3 := DQ.cell 3 _ rfl
  have aQ4 := DQ.cell 4 _ rfl
  have aQ5 := DQ.cell 5 _ rfl
  have aQ6 := DQ.cell 6 _ rfl
  have aQ7 := DQ.cell 7 _ rfl
  have aQ8 := DQ.cell 8 _ rfl
  have nQ := DQ.lt
  have aR0 := DR.cell 0 _ rfl
  have zR0 := DR.free 0 _ rfl
  have aR1 := DR.cell 1 _ rfl
  have zR1 := DR.free 1 _ rfl
  have aR2 := DR.cell 2 _ rfl
  have zR2 := DR.free 2 _ rfl
  have aR3 := DR.cell 3 _ rfl
  have zR3 := DR.free 3 _ rfl
  have aR4 := DR.cell 4 _ rfl
  have zR4 := DR.free 4 _ rfl
  have aR5 := DR.cell 5 _ rfl
  have zR5 := DR.free 5 _ rfl
  have aR6 := DR.cell 6 _ rfl
  have zR6 := DR.free 6 _ rfl
  have aR7 := DR.cell 7 _ rfl
  have zR7 := DR.free 7 _ rfl
  have aR8 := DR.cell 8 _ rfl
  have zR8 := DR.free 8 _ rfl
  have nR := DR.lt
  have aU0 := DU.cell 0 _ rfl
  have aU1 := DU.cell 1 _ rfl
  have nU := DU.lt
  have hM : MS p q h0 l0 w (w3.heap.size) W9 := ⟨DP, DQ, DR, DU, B⟩
  clear DP DQ DR DU B aP0 aP1 aP2 aP3 aP4 aP5 aP6 aP7 aP8 nP aQ0 aQ1 aQ2 aQ3 aQ4 aQ5 aQ6 aQ7 aQ8 nQ aR0 zR0 aR1 zR1 aR2 zR2 aR3 zR3 aR4 zR4 aR5 zR5 aR6 zR6 aR7 zR7 aR8 zR8 nR aU0 aU1 nU
  go_upto_region 6 with (fail)
  go_cut [7] (fun s7 wx => ∃ bE : Nat, s7 = .pointer (some ⟨bE, 0, none⟩) ∧ At wx bE [.slice none 0 0, .int .i64 p.v, .int .i64 p.t, .int .i64 p.s, .int .i64 p.q] ∧ MS p q h0 l0 w (w3.heap.size) wx)
  case first =>
    refine wp_region_held_drew (S := MS p q h0 l0 w (w3.heap.size)) (by kernel_rfl) hM.drew (fun hS => ?_)
    clear N1 N2 AD
    generalize W9.drew = w0 at *
    refine tkC 0 hS (fun u h => h.P.f9) ?_
    refine tkC 2 hS (fun u h => h.Q.f9) ?_
    generalize Value.agg #[.int .i64 p.c, .int .i64 p.h, .int .u64 p.l, .int .i64 p.mn, .int .i64 p.mx, .int .i64 p.t, .int .i64 p.s, .int .i64 p.q, .int .i64 p.v] = VP at *
    generalize Value.agg #[.int .i64 q.c, .int .i64 q.h, .int .u64 q.l, .int .i64 q.mn, .int .i64 q.mx, .int .i64 q.t, .int .i64 q.s, .int .i64 q.q, .int .i64 q.v] = VQ at *
    generalize Value.agg #[.slice none 0 0, .int .i64 q.v, .int .i64 q.t, .int .i64 q.s, .int .i64 q.q] = VL at *
    refine anyH_2 1 5 (fun K hK => ?_) (fun K hK => ?_)
    · go_simp
      go_at_call 62
      refine (LP.out _).mono ?_
      rintro e w1 ⟨rfl, hb1⟩
      have hM1 := hS.below hb1
      go_wp2_with fail
      refine hK.out _ _ hM1 (fun hS => ?_)
      clear hM1 hK K hb1
      refine anyH_2 3 5 (fun K hK => ?_) (fun K hK => ?_)
      · go_simp
        go_at_call 62
        refine (LQ.out _).mono ?_
        rintro e w1 ⟨rfl, hb1⟩
        have hM1 := hS.below hb1
        go_wp2_with fail
        refine hK.out _ _ hM1 (fun hS => ?_)
        clear hM1 hK K hb1
        refine anyH_2 4 5 (fun K hK => ?_) (fun K hK => ?_)
        · go_simp
          go_at_call 61
          refine (LT.out _).mono ?_
          rintro e w1 ⟨rfl, hb1⟩
          have hM1 := hS.below hb1
          go_wp2_with fail
          refine hK.out _ _ hM1 (fun hS => ?_)
          clear hM1 hK K hb1
          refine anyH_1 5 (fun K hK => ?_)
          go_simp
          have DE := hS.new [.slice none 0 0, .int .i64 0, .int .i64 0, .int .i64 0, .int .i64 0] 33
          have hM1 := hS.alloc (.cells #[.slice none 0 0, .int .i64 0, .int .i64 0, .int .i64 0, .int .i64 0] 33)
          have hE := hS.lt
          refine hK.out _ _ hM1 (fun hS => ?_)
          clear hM1 hK K
          generalize w1.alloc (.cells #[.slice none 0 0, .int .i64 0, .int .i64 0, .int .i64 0, .int .i64 0] 33) = W8 at *
          generalize w1.heap.size = bE at *
          refine anyH_1 6 (fun K hK => ?_)
          have fE := DE.f5
          go_simp
          have DE := ((((DE.set 0 (.slice none 0 0)).set 1 (.int .i64 p.v)).set 2 (.int .i64 p.t)).set 3 (.int .i64 p.s)).set 4 (.int .i64 p.q)
          simp only [qd, qe, qf] at DE
          have hM1 := hS.set5 hE (.slice none 0 0) (.int .i64 p.v) (.int .i64 p.t) (.int .i64 p.s) (.int .i64 p.q)
          refine hK.out _ _ hM1 (fun hS => ?_)
          refine wpAnyH_done (by kernel_rfl) ?_ _
          go_wp2_with fail
          go_meet
          exact ⟨_, rfl, DE, hM1⟩
        · go_simp
          have DE := hS.new [.slice none 0 0, .int .i64 0, .int .i64 0, .int .i64 0, .int .i64 0] 33
          have hM1 := hS.alloc (.cells #[.slice none 0 0, .int .i64 0, .int .i64 0, .int .i64 0, .int .i64 0] 33)
          have hE := hS.lt
          refine hK.out _ _ hM1 (fun hS => ?_)
          clear hM1 hK K
          generalize w1.alloc (.cells #[.slice none 0 0, .int .i64 0, .int .i64 0, .int .i64 0, .int .i64 0] 33) = W8 at *
          generalize w1.heap.size = bE at *
          refine anyH_1 4 (fun K hK => ?_)
          go_simp
          go_at_call 61
          refine (LT.out _).mono ?_
          rintro e w1 ⟨rfl, hb1⟩
          have DE := DE.below hb1
          have hM1 := hS.below hb1
          go_wp2_with fail
          refine hK.out _ _ hM1 (fun hS => ?_)
          clear hM1 hK K hb1
          refine anyH_1 6 (fun K hK => ?_)
          have fE := DE.f5
          go_simp
          have DE := ((((DE.set 0 (.slice none 0 0)).set 1 (.int .i64 p.v)).set 2 (.int .i64 p.t)).set 3 (.int .i64 p.s)).set 4 (.int .i64 p.q)
          simp only [qd, qe, qf] at DE
          have hM1 := hS.set5 hE (.slice none 0 0) (.int .i64 p.v) (.int .i64 p.t) (.int .i64 p.s) (.int .i64 p.q)
          refine hK.out _ _ hM1 (fun hS => ?_)
          refine wpAnyH_done (by kernel_rfl) ?_ _
          go_wp2_with fail
          go_meet
          exact ⟨_, rfl, DE, hM1⟩
      · go_simp
        have DE := hS.new [.slice none 0 0, .int .i64 0, .int .i64 0, .int .i64 0, .int .i64 0] 33
        have hM1 := hS.alloc (.cells #[.slice none 0 0, .int .i64 0, .int .i64 0, .int .i64 0, .int .i64 0] 33)
        have hE := hS.lt
        refine hK.out _ _ hM1 (fun hS => ?_)
        clear hM1 hK K
        generalize w1.alloc (.cells #[.slice none 0 0, .int .i64 0, .int .i64 0, .int .i64 0, .int .i64 0] 33) = W8 at *
        generalize w1.heap.size = bE at *
        refine anyH_1 3 (fun K hK => ?_)
        go_simp
        go_at_call 62
        refine (LQ.out _).mono ?_
        rintro e w1 ⟨rfl, hb1⟩
        have DE := DE.below hb1
        have hM1 := hS.below hb1
        go_wp2_with fail
        refine hK.out _ _ hM1 (fun hS => ?_)
        clear hM1 hK K hb1
        refine anyH_1 4 (fun K hK => ?_)
        go_simp
        go_at_call 61
        refine (LT.out _).mono ?_
        rintro e w1 ⟨rfl, hb1⟩
        have DE := DE.below hb1
        have hM1 := hS.below hb1
        go_wp2_with fail
        refine hK.out _ _ hM1 (fun hS => ?_)
        clear hM1 hK K hb1
        refine anyH_1 6 (fun K hK => ?_)
        have fE := DE.f5
        go_simp
        have DE := ((((DE.set 0 (.slice none 0 0)).set 1 (.int .i64 p.v)).set 2 (.int .i64 p.t)).set 3 (.int .i64 p.s)).set 4 (.int .i64 p.q)
        simp only [qd, qe, qf] at DE
        have hM1 := hS.set5 hE (.slice none 0 0) (.int .i64 p.v) (.int .i64 p.t) (.int .i64 p.s) (.int .i64 p.q)
        refine hK.out _ _ hM1 (fun hS => ?_)
        refine wpAnyH_done (by kernel_rfl) ?_ _
        go_wp2_with fail
        go_meet
        exact ⟨_, rfl, DE, hM1⟩
    · go_simp
      have DE := hS.new [.slice none 0 0, .int .i64 0, .int .i64 0, .int .i64 0, .int .i64 0] 33
      have hM1 := hS.alloc (.cells #[.slice none 0 0, .int .i64 0, .int .i64 0, .int .i64 0, .int .i64 0] 33)
      have hE := hS.lt
      refine hK.out _ _ hM1 (fun hS => ?_)
      clear hM1 hK K
      generalize w0.alloc (.cells #[.slice none 0 0, .int .i64 0, .int .i64 0, .int .i64 0, .int .i64 0] 33) = W8 at *
      generalize w0.heap.size = bE at *
      refine anyH_1 1 (fun K hK => ?_)
      go_simp
      go_at_call 62
      refine (LP.out _).mono ?_
      rintro e w1 ⟨rfl, hb1⟩
      have DE := DE.below hb1
      have hM1 := hS.below hb1
      go_wp2_with fail
      refine hK.out _ _ hM1 (fun hS => ?_)
      clear hM1 hK K hb1
      refine anyH_1 3 (fun K hK => ?_)
      go_simp
      go_at_call 62
      refine (LQ.out _).mono ?_
      rintro e w1 ⟨rfl, hb1⟩
      have DE := DE.below hb1
      have hM1 := hS.below hb1
      go_wp2_with fail
      refine hK.out _ _ hM1 (fun hS => ?_)
      clear hM1 hK K hb1
      refine anyH_1 4 (fun K hK => ?_)
      go_simp
      go_at_call 61
      refine (LT.out _).mono ?_
      rintro e w1 ⟨rfl, hb1⟩
      have DE := DE.below hb1
      have hM1 := hS.below hb1
      go_wp2_with fail
      refine hK.out _ _ hM1 (fun hS => ?_)
      clear hM1 hK K hb1
      refine anyH_1 6 (fun K hK => ?_)
      have fE := DE.f5
      go_simp
      have DE := ((((DE.set 0 (.slice none 0 0)).set 1 (.int .i64 p.v)).set 2 (.int .i64 p.t)).set 3 (.int .i64 p.s)).set 4 (.int .i64 p.q)
      simp only [qd, qe, qf] at DE
      have hM1 := hS.set5 hE (.slice none 0 0) (.int .i64 p.v) (.int .i64 p.t) (.int .i64 p.s) (.int .i64 p.q)
      refine hK.out _ _ hM1 (fun hS => ?_)
      refine wpAnyH_done (by kernel_rfl) ?_ _
      go_wp2_with fail
      go_meet
      exact ⟨_, rfl, DE, hM1⟩
  case rest =>
    obtain ⟨bE, rfl, DE, hM⟩ := hcut
    have DP := hM.P
    have DQ := hM.Q
    have DR := hM.R
    have DU := hM.U
    have B := hM.B
    clear hM
    have aP0 := DP.cell 0 _ rfl
    have aP1 := DP.cell 1 _ rfl
    have aP2 := DP.cell 2 _ rfl
    have aP3 := DP.cell 3 _ rfl
    have aP4 := DP.cell 4 _ rfl
    have aP5 := DP.cell 5 _ rfl
    have aP6 := DP.cell 6 _ rfl
    have aP7 := DP.cell 7 _ rfl
    have aP8 := DP.cell 8 _ rfl
    have nP := DP.lt
    have aQ0 := DQ.cell 0 _ rfl
    have aQ1 := DQ.cell 1 _ rfl
    have aQ2 := DQ.cell 2 _ rfl
    have aQ3 := DQ.cell 3 _ rfl
    have aQ4 := DQ.cell 4 _ rfl
    have aQ5 := DQ.cell 5 _ rfl
    have aQ6 := DQ.cell 6 _ rfl
    have aQ7 := DQ.cell 7 _ rfl
    have aQ8 := DQ.cell 8 _ rfl
    have nQ := DQ.lt
    have aR0 := DR.cell 0 _ rfl
    have zR0 := DR.free 0 _ rfl
    have aR1 := DR.cell 1 _ rfl
    have zR1 := DR.free 1 _ rfl
    have aR2 := DR.cell 2 _ rfl
    have zR2 := DR.free 2 _ rfl
    have aR3 := DR.cell 3 _ rfl
    have zR3 := DR.free 3 _ rfl
    have aR4 := DR.cell 4 _ rfl
    have zR4 := DR.free 4 _ rfl
    have aR5 := DR.cell 5 _ rfl
    have zR5 := DR.free 5 _ rfl
    have aR6 := DR.cell 6 _ rfl
    have zR6 := DR.free 6 _ rfl
    have aR7 := DR.cell 7 _ rfl
    have zR7 := DR.free 7 _ rfl
    have aR8 := DR.cell 8 _ rfl
    have zR8 := DR.free 8 _ rfl
    have nR := DR.lt
    have aU0 := DU.cell 0 _ rfl
    have aU1 := DU.cell 1 _ rfl
    have nU := DU.lt
    have aE0 := DE.cell 0 _ rfl
    have aE1 := DE.cell 1 _ rfl
    have aE2 := DE.cell 2 _ rfl
    have aE3 := DE.cell 3 _ rfl
    have aE4 := DE.cell 4 _ rfl
    have nE := DE.lt
    go_wp2
    refine bodyPost_ret (by simp [results, Tryz.results29, go_sem, aR0, aR1, aR2, aR3, aR4, aR5, aR6, aR7, aR8, nR]; try rfl) rfl ?_
    exact ⟨rfl, by go_grown⟩
end Go.Proofs.YtedcdhngiofpjaaGreatDoor
