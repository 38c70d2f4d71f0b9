/- The reference: stands, Merge; the law's Of. -/
import Derived.Test.YtkhlpbipkkbghaaPaB
import Derived.Test.YtkhlpbipkkbghaaRCmp6
namespace Go.Proofs.Ytkhlpbipkkbghaa
open Go Go.Proofs Go.RowKit Go.Shelf
set_option maxRecDepth 100000
attribute [local go_sem] cell_set Oper.semAt_some
theorem rof1_any (n : Int) (hn : I64 n) (W : World) : Calls Try.prog 26 #[.int .i64 n] W fun e w' => e = .returned (.agg #[.int .i64 (hiS n), .int .u64 (loS n)]) ∧ Below W.heap.size W w' := by
  have e : hiS n = n / 9223372036854775808 := by unfold I64 at hn; unfold hiS; omega
  unfold loS
  rw [e]
  exact ref_of n hn W
theorem stands_any (p q : Pn) (w : World) : Calls Try.prog 41 #[p.V, q.V] w fun e w' => e = .returned (.bool (decide (Lt3 q.t q.s q.q p.t p.s p.q))) ∧ Below w.heap.size w w' := by
  have RC := Lib.hid (fun W => rcmp_any (.slice none 0 0) (.slice none 0 0) 0 p.t p.s p.q 0 q.t q.s q.q W)
  have e : decide (Lt3 q.t q.s q.q p.t p.s p.q) = decide (0 < cmpS p.t p.s p.q q.t q.s q.q) := by rw [decide_eq_decide]; exact cmpS_pos.symm
  rw [e]
  clear e
  generalize cmpS p.t p.s p.q q.t q.s q.q = c at *
  unfold Pn.V
  go_enter Try.func41, Try.ntmps41
  go_wp2_with fail
  refine (RC.out _).mono ?_
  rintro e w1 ⟨rfl, hb1⟩
  have DP : At w1 (w.heap.size) [.int .i64 p.c, .int .i64 p.h, .int .u64 p.l, .int .i64 p.mn, .int .i64 p.mx, .int .i64 p.t, .int .i64 p.s, .int .i64 p.q, .int .i64 p.v] := by have h := ((At.new (w) #[.int .i64 p.c, .int .i64 p.h, .int .u64 p.l, .int .i64 p.mn, .int .i64 p.mx, .int .i64 p.t, .int .i64 p.s, .int .i64 p.q, .int .i64 p.v] 33).alloc (.cells #[.int .i64 q.c, .int .i64 q.h, .int .u64 q.l, .int .i64 q.mn, .int .i64 q.mx, .int .i64 q.t, .int .i64 q.s, .int .i64 q.q, .int .i64 q.v] 33)).below hb1; simpa using h
  have DQ : At w1 (w.heap.size + 1) [.int .i64 q.c, .int .i64 q.h, .int .u64 q.l, .int .i64 q.mn, .int .i64 q.mx, .int .i64 q.t, .int .i64 q.s, .int .i64 q.q, .int .i64 q.v] := by have h := (At.new ((w).alloc (.cells #[.int .i64 p.c, .int .i64 p.h, .int .u64 p.l, .int .i64 p.mn, .int .i64 p.mx, .int .i64 p.t, .int .i64 p.s, .int .i64 p.q, .int .i64 p.v] 33)) #[.int .i64 q.c, .int .i64 q.h, .int .u64 q.l, .int .i64 q.mn, .int .i64 q.mx, .int .i64 q.t, .int .i64 q.s, .int .i64 q.q, .int .i64 q.v] 33).below hb1; simpa using h
  have B : Below w.heap.size w w1 := below_then (below_new (below_new (Below.refl _ _) (.cells #[.int .i64 p.c, .int .i64 p.h, .int .u64 p.l, .int .i64 p.mn, .int .i64 p.mx, .int .i64 p.t, .int .i64 p.s, .int .i64 p.q, .int .i64 p.v] 33)) (.cells #[.int .i64 q.c, .int .i64 q.h, .int .u64 q.l, .int .i64 q.mn, .int .i64 q.mx, .int .i64 q.t, .int .i64 q.s, .int .i64 q.q, .int .i64 q.v] 33)) hb1
  clear hb1
  have aP0 := DP.cell 0 _ rfl
  have aP1 := DP.cell 1 _ rfl
  have aP2 := DP.cell 2 _ rfl
  have aP3 := DP.cell 3 _ rfl
  have aP4 := DP.cell 4 _ rfl
  have aP5 := DP.cell 5 _ rfl
  have aP6 := DP.cell 6 _ rfl
  have aP7 := DP.cell 7 _ rfl
  have aP8 := DP.cell 8 _ rfl
  have nP := DP.lt
  have aQ0 := DQ.cell 0 _ rfl
  have aQ1 := DQ.cell 1 _ rfl
  have aQ2 := DQ.cell 2 _ rfl
  have aQ3 := DQ.cell 3 _ rfl
  have aQ4 := DQ.cell 4 _ rfl
  have aQ5 := DQ.cell 5 _ rfl
  have aQ6 := DQ.cell 6 _ rfl
  have aQ7 := DQ.cell 7 _ rfl
  have aQ8 := DQ.cell 8 _ rfl
  have nQ := DQ.lt
  go_wp2
  go_ret
  exact ⟨rfl, by go_grown⟩
theorem lof1_any (h l : Int) (w : World) : Calls Try.prog 15 #[.agg #[.int .i64 h, .int .u64 l]] w fun e w' => e = .returned (.agg #[.int .i64 h, .int .u64 l]) ∧ Below w.heap.size w w' := by
  go_enter Try.func15, Try.ntmps15
  go_wp2
  go_returns
  try exact ⟨rfl, by go_grown⟩
set_option maxHeartbeats 4000000 in
theorem rmerge_a (p q : Pn) (h : p.c = 0) (w : World) : Calls Try.prog 25 #[p.V, q.V] w fun e w' => e = .returned (q.V) ∧ Below w.heap.size w w' := by
  have n1 : (p.c == 0) = true := by rw [beq_iff_eq]; omega
  clear h
  unfold Pn.V
  go_enter Try.func25, Try.ntmps25
  go_wp2
  go_returns
  exact ⟨rfl, by go_grown⟩
set_option maxHeartbeats 4000000 in
theorem rmerge_b (p q : Pn) (h : ¬ p.c = 0) (h2 : q.c = 0) (w : World) : Calls Try.prog 25 #[p.V, q.V] w fun e w' => e = .returned (p.V) ∧ Below w.heap.size w w' := by
  have n1 : (p.c == 0) = false := by rw [beq_eq_false_iff_ne]; omega
  have n2 : (q.c == 0) = true := by rw [beq_iff_eq]; omega
  clear h h2
  unfold Pn.V
  go_enter Try.func25, Try.ntmps25
  go_wp2
  go_returns
  exact ⟨rfl, by go_grown⟩
end Go.Proofs.Ytkhlpbipkkbghaa
