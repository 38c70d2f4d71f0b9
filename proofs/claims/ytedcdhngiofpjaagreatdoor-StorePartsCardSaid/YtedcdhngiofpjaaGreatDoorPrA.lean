/- The reference's CompareSample. -/
import Derived.Test.YtedcdhngiofpjaaGreatDoorLb
import Derived.Test.YtedcdhngiofpjaaGreatDoorHeldIn
import Derived.Test.YtedcdhngiofpjaaGreatDoorPaB
namespace Go.Proofs.YtedcdhngiofpjaaGreatDoor
open Go Go.Proofs Go.RowKit Go.Shelf
set_option maxRecDepth 100000
attribute [local go_sem] Oper.semAt_some
set_option maxHeartbeats 4000000 in
theorem rcmp_a (va vb : Value) (a1 a2 a3 a4 b1 b2 b3 b4 : Int) (h : a2 < b2) (w : World) :
    Calls Tryz.prog 132 #[.agg #[va, .int .i64 a1, .int .i64 a2, .int .i64 a3, .int .i64 a4], .agg #[vb, .int .i64 b1, .int .i64 b2, .int .i64 b3, .int .i64 b4]] w fun e w' => e = .returned (.int .i64 (-1)) ∧ Below w.heap.size w w' := by
  have n2 : a2 ≠ b2 := by omega
  have m2 : (a2 == b2) = false := beq_false_of_ne n2
  go_enter Tryz.func132, Tryz.ntmps132
  have A1 := blk_new w #[va, .int .i64 a1, .int .i64 a2, .int .i64 a3, .int .i64 a4] 39
  have A2 := blk_new (w.alloc (.cells #[va, .int .i64 a1, .int .i64 a2, .int .i64 a3, .int .i64 a4] 39)) #[vb, .int .i64 b1, .int .i64 b2, .int .i64 b3, .int .i64 b4] 39
  rw [World.size_alloc] at A2
  have B1 := below_new (below_cells (w := w) (.cells #[va, .int .i64 a1, .int .i64 a2, .int .i64 a3, .int .i64 a4] 39)) (.cells #[vb, .int .i64 b1, .int .i64 b2, .int .i64 b3, .int .i64 b4] 39)
  have D1 := blk_on A1 (below_cells (.cells #[vb, .int .i64 b1, .int .i64 b2, .int .i64 b3, .int .i64 b4] 39))
  clear A1
  have p0 := (blk_at D1).cell 0 _ rfl
  have p1 := (blk_at D1).cell 1 _ rfl
  have p2 := (blk_at D1).cell 2 _ rfl
  have p3 := (blk_at D1).cell 3 _ rfl
  have p4 := (blk_at D1).cell 4 _ rfl
  have q0 := (blk_at A2).cell 0 _ rfl
  have q1 := (blk_at A2).cell 1 _ rfl
  have q2 := (blk_at A2).cell 2 _ rfl
  have q3 := (blk_at A2).cell 3 _ rfl
  have q4 := (blk_at A2).cell 4 _ rfl
  go_wp2
  go_ret
  exact ⟨rfl, B1⟩
set_option maxHeartbeats 4000000 in
theorem rcmp_b (va vb : Value) (a1 a2 a3 a4 b1 b2 b3 b4 : Int) (h : b2 < a2) (w : World) :
    Calls Tryz.prog 132 #[.agg #[va, .int .i64 a1, .int .i64 a2, .int .i64 a3, .int .i64 a4], .agg #[vb, .int .i64 b1, .int .i64 b2, .int .i64 b3, .int .i64 b4]] w fun e w' => e = .returned (.int .i64 (1)) ∧ Below w.heap.size w w' := by
  have n2 : a2 ≠ b2 := by omega
  have m2 : (a2 == b2) = false := beq_false_of_ne n2
  have l2 : ¬ a2 < b2 := by omega
  go_enter Tryz.func132, Tryz.ntmps132
  have A1 := blk_new w #[va, .int .i64 a1, .int .i64 a2, .int .i64 a3, .int .i64 a4] 39
  have A2 := blk_new (w.alloc (.cells #[va, .int .i64 a1, .int .i64 a2, .int .i64 a3, .int .i64 a4] 39)) #[vb, .int .i64 b1, .int .i64 b2, .int .i64 b3, .int .i64 b4] 39
  rw [World.size_alloc] at A2
  have B1 := below_new (below_cells (w := w) (.cells #[va, .int .i64 a1, .int .i64 a2, .int .i64 a3, .int .i64 a4] 39)) (.cells #[vb, .int .i64 b1, .int .i64 b2, .int .i64 b3, .int .i64 b4] 39)
  have D1 := blk_on A1 (below_cells (.cells #[vb, .int .i64 b1, .int .i64 b2, .int .i64 b3, .int .i64 b4] 39))
  clear A1
  have p0 := (blk_at D1).cell 0 _ rfl
  have p1 := (blk_at D1).cell 1 _ rfl
  have p2 := (blk_at D1).cell 2 _ rfl
  have p3 := (blk_at D1).cell 3 _ rfl
  have p4 := (blk_at D1).cell 4 _ rfl
  have q0 := (blk_at A2).cell 0 _ rfl
  have q1 := (blk_at A2).cell 1 _ rfl
  have q2 := (blk_at A2).cell 2 _ rfl
  have q3 := (blk_at A2).cell 3 _ rfl
  have q4 := (blk_at A2).cell 4 _ rfl
  go_wp2
  go_ret
  exact ⟨rfl, B1⟩
set_option maxHeartbeats 4000000 in
theorem rcmp_c (va vb : Value) (a1 a2 a3 a4 b1 b3 b4 : Int) (h : a3 < b3) (w : World) :
    Calls Tryz.prog 132 #[.agg #[va, .int .i64 a1, .int .i64 a2, .int .i64 a3, .int .i64 a4], .agg #[vb, .int .i64 b1, .int .i64 a2, .int .i64 b3, .int .i64 b4]] w fun e w' => e = .returned (.int .i64 (-1)) ∧ Below w.heap.size w w' := by
  have n3 : a3 ≠ b3 := by omega
  have m3 : (a3 == b3) = false := beq_false_of_ne n3
  go_enter Tryz.func132, Tryz.ntmps132
  have A1 := blk_new w #[va, .int .i64 a1, .int .i64 a2, .int .i64 a3, .int .i64 a4] 39
  have A2 := blk_new (w.alloc (.cells #[va, .int .i64 a1, .int .i64 a2, .int .i64 a3, .int .i64 a4] 39)) #[vb, .int .i64 b1, .int .i64 a2, .int .i64 b3, .int .i64 b4] 39
  rw [World.size_alloc] at A2
  have B1 := below_new (below_cells (w := w) (.cells #[va, .int .i64 a1, .int .i64 a2, .int .i64 a3, .int .i64 a4] 39)) (.cells #[vb, .int .i64 b1, .int .i64 a2, .int .i64 b3, .int .i64 b4] 39)
  have D1 := blk_on A1 (below_cells (.cells #[vb, .int .i64 b1, .int .i64 a2, .int .i64 b3, .int .i64 b4] 39))
  clear A1
  have p0 := (blk_at D1).cell 0 _ rfl
  have p1 := (blk_at D1).cell 1 _ rfl
  have p2 := (blk_at D1).cell 2 _ rfl
  have p3 := (blk_at D1).cell 3 _ rfl
  have p4 := (blk_at D1).cell 4 _ rfl
  have q0 := (blk_at A2).cell 0 _ rfl
  have q1 := (blk_at A2).cell 1 _ rfl
  have q2 := (blk_at A2).cell 2 _ rfl
  have q3 := (blk_at A2).cell 3 _ rfl
  have q4 := (blk_at A2).cell 4 _ rfl
  go_wp2
  go_ret
  exact ⟨rfl, B1⟩
set_option maxHeartbeats 4000000 in
theorem rcmp_d (va vb : Value) (a1 a2 a3 a4 b1 b3 b4 : Int) (h : b3 < a3) (w : World) :
    Calls Tryz.prog 132 #[.agg #[va, .int .i64 a1, .int .i64 a2, .int .i64 a3, .int .i64 a4], .agg #[vb, .int .i64 b1, .int .i64 a2, .int .i64 b3, .int .i64 b4]] w fun e w' => e = .returned (.int .i64 (1)) ∧ Below w.heap.size w w' := by
  have n3 : a3 ≠ b3 := by omega
  have m3 : (a3 == b3) = false := beq_false_of_ne n3
  have l3 : ¬ a3 < b3 := by omega
  go_enter Tryz.func132, Tryz.ntmps132
  have A1 := blk_new w #[va, .int .i64 a1, .int .i64 a2, .int .i64 a3, .int .i64 a4] 39
  have A2 := blk_new (w.alloc (.cells #[va, .int .i64 a1, .int .i64 a2, .int .i64 a3, .int .i64 a4] 39)) #[vb, .int .i64 b1, .int .i64 a2, .int .i64 b3, .int .i64 b4] 39
  rw [World.size_alloc] at A2
  have B1 := below_new (below_cells (w := w) (.cells #[va, .int .i64 a1, .int .i64 a2, .int .i64 a3, .int .i64 a4] 39)) (.cells #[vb, .int .i64 b1, .int .i64 a2, .int .i64 b3, .int .i64 b4] 39)
  have D1 := blk_on A1 (below_cells (.cells #[vb, .int .i64 b1, .int .i64 a2, .int .i64 b3, .int .i64 b4] 39))
  clear A1
  have p0 := (blk_at D1).cell 0 _ rfl
  have p1 := (blk_at D1).cell 1 _ rfl
  have p2 := (blk_at D1).cell 2 _ rfl
  have p3 := (blk_at D1).cell 3 _ rfl
  have p4 := (blk_at D1).cell 4 _ rfl
  have q0 := (blk_at A2).cell 0 _ rfl
  have q1 := (blk_at A2).cell 1 _ rfl
  have q2 := (blk_at A2).cell 2 _ rfl
  have q3 := (blk_at A2).cell 3 _ rfl
  have q4 := (blk_at A2).cell 4 _ rfl
  go_wp2
  go_ret
  exact ⟨rfl, B1⟩
set_option maxHeartbeats 4000000 in
theorem rcmp_e (va vb : Value) (a1 a2 a3 a4 b1 b4 : Int) (h : a4 < b4) (w : World) :
    Calls Tryz.prog 132 #[.agg #[va, .int .i64 a1, .int .i64 a2, .int .i64 a3, .int .i64 a4], .agg #[vb, .int .i64 b1, .int .i64 a2, .int .i64 a3, .int .i64 b4]] w fun e w' => e = .returned (.int .i64 (-1)) ∧ Below w.heap.size w w' := by
  have n4 : a4 ≠ b4 := by omega
  have m4 : (a4 == b4) = false := beq_false_of_ne n4
  go_enter Tryz.func132, Tryz.ntmps132
  have A1 := blk_new w #[va, .int .i64 a1, .int .i64 a2, .int .i64 a3, .int .i64 a4] 39
  have A2 := blk_new (w.alloc (.cells #[va, .int .i64 a1, .int .i64 a2, .int .i64 a3, .int .i64 a4] 39)) #[vb, .int .i64 b1, .int .i64 a2, .int .i64 a3, .int .i64 b4] 39
  rw [World.size_alloc] at A2
  have B1 := below_new (below_cells (w := w) (.cells #[va, .int .i64 a1, .int .i64 a2, .int .i64 a3, .int .i64 a4] 39)) (.cells #[vb, .int .i64 b1, .int .i64 a2, .int .i64 a3, .int .i64 b4] 39)
  have D1 := blk_on A1 (below_cells (.cells #[vb, .int .i64 b1, .int .i64 a2, .int .i64 a3, .int .i64 b4] 39))
  clear A1
  have p0 := (blk_at D1).cell 0 _ rfl
  have p1 := (blk_at D1).cell 1 _ rfl
  have p2 := (blk_at D1).cell 2 _ rfl
  have p3 := (blk_at D1).cell 3 _ rfl
  have p4 := (blk_at D1).cell 4 _ rfl
  have q0 := (blk_at A2).cell 0 _ rfl
  have q1 := (blk_at A2).cell 1 _ rfl
  have q2 := (blk_at A2).cell 2 _ rfl
  have q3 := (blk_at A2).cell 3 _ rfl
  have q4 := (blk_at A2).cell 4 _ rfl
  go_wp2
  go_ret
  exact ⟨rfl, B1⟩
set_option maxHeartbeats 4000000 in
theorem rcmp_f (va vb : Value) (a1 a2 a3 a4 b1 : Int)  (w : World) :
    Calls Tryz.prog 132 #[.agg #[va, .int .i64 a1, .int .i64 a2, .int .i64 a3, .int .i64 a4], .agg #[vb, .int .i64 b1, .int .i64 a2, .int .i64 a3, .int .i64 a4]] w fun e w' => e = .returned (.int .i64 (0)) ∧ Below w.heap.size w w' := by
  go_enter Tryz.func132, Tryz.ntmps132
  have A1 := blk_new w #[va, .int .i64 a1, .int .i64 a2, .int .i64 a3, .int .i64 a4] 39
  have A2 := blk_new (w.alloc (.cells #[va, .int .i64 a1, .int .i64 a2, .int .i64 a3, .int .i64 a4] 39)) #[vb, .int .i64 b1, .int .i64 a2, .int .i64 a3, .int .i64 a4] 39
  rw [World.size_alloc] at A2
  have B1 := below_new (below_cells (w := w) (.cells #[va, .int .i64 a1, .int .i64 a2, .int .i64 a3, .int .i64 a4] 39)) (.cells #[vb, .int .i64 b1, .int .i64 a2, .int .i64 a3, .int .i64 a4] 39)
  have D1 := blk_on A1 (below_cells (.cells #[vb, .int .i64 b1, .int .i64 a2, .int .i64 a3, .int .i64 a4] 39))
  clear A1
  have p0 := (blk_at D1).cell 0 _ rfl
  have p1 := (blk_at D1).cell 1 _ rfl
  have p2 := (blk_at D1).cell 2 _ rfl
  have p3 := (blk_at D1).cell 3 _ rfl
  have p4 := (blk_at D1).cell 4 _ rfl
  have q0 := (blk_at A2).cell 0 _ rfl
  have q1 := (blk_at A2).cell 1 _ rfl
  have q2 := (blk_at A2).cell 2 _ rfl
  have q3 := (blk_at A2).cell 3 _ rfl
  have q4 := (blk_at A2).cell 4 _ rfl
  go_wp2
  go_ret
  exact ⟨rfl, B1⟩
set_option maxHeartbeats 4000000 in
theorem rcmp_g (va vb : Value) (a1 a2 a3 a4 b1 b4 : Int) (h : b4 < a4) (w : World) :
    Calls Tryz.prog 132 #[.agg #[va, .int .i64 a1, .int .i64 a2, .int .i64 a3, .int .i64 a4], .agg #[vb, .int .i64 b1, .int .i64 a2, .int .i64 a3, .int .i64 b4]] w fun e w' => e = .returned (.int .i64 (1)) ∧ Below w.heap.size w w' := by
  have n4 : a4 ≠ b4 := by omega
  have m4 : (a4 == b4) = false := beq_false_of_ne n4
  have l4 : ¬ a4 < b4 := by omega
  go_enter Tryz.func132, Tryz.ntmps132
  have A1 := blk_new w #[va, .int .i64 a1, .int .i64 a2, .int .i64 a3, .int .i64 a4] 39
  have A2 := blk_new (w.alloc (.cells #[va, .int .i64 a1, .int .i64 a2, .int .i64 a3, .int .i64 a4] 39)) #[vb, .int .i64 b1, .int .i64 a2, .int .i64 a3, .int .i64 b4] 39
  rw [World.size_alloc] at A2
  have B1 := below_new (below_cells (w := w) (.cells #[va, .int .i64 a1, .int .i64 a2, .int .i64 a3, .int .i64 a4] 39)) (.cells #[vb, .int .i64 b1, .int .i64 a2, .int .i64 a3, .int .i64 b4] 39)
  have D1 := blk_on A1 (below_cells (.cells #[vb, .int .i64 b1, .int .i64 a2, .int .i64 a3, .int .i64 b4] 39))
  clear A1
  have p0 := (blk_at D1).cell 0 _ rfl
  have p1 := (blk_at D1).cell 1 _ rfl
  have p2 := (blk_at D1).cell 2 _ rfl
  have p3 := (blk_at D1).cell 3 _ rfl
  have p4 := (blk_at D1).cell 4 _ rfl
  have q0 := (blk_at A2).cell 0 _ rfl
  have q1 := (blk_at A2).cell 1 _ rfl
  have q2 := (blk_at A2).cell 2 _ rfl
  have q3 := (blk_at A2).cell 3 _ rfl
  have q4 := (blk_at A2).cell 4 _ rfl
  go_wp2
  go_ret
  exact ⟨rfl, B1⟩
theorem rcmp_any (va vb : Value) (a1 a2 a3 a4 b1 b2 b3 b4 : Int) (w : World) :
    Calls Tryz.prog 132 #[.agg #[va, .int .i64 a1, .int .i64 a2, .int .i64 a3, .int .i64 a4], .agg #[vb, .int .i64 b1, .int .i64 b2, .int .i64 b3, .int .i64 b4]] w fun e w' => e = .returned (.int .i64 (cmpS a2 a3 a4 b2 b3 b4)) ∧ Below w.heap.size w w' := by
  have hc : cmpS a2 a3 a4 b2 b3 b4 = if a2 < b2 then -1 else if b2 < a2 then 1 else if a3 < b3 then -1 else if b3 < a3 then 1 else if a4 < b4 then -1 else if b4 < a4 then 1 else 0 := by
    unfold cmpS or3I ordI
    repeat' split
    all_goals omega
  rw [hc]
  by_cases h1 : a2 < b2
  · rw [if_pos h1]; exact rcmp_a va vb a1 a2 a3 a4 b1 b2 b3 b4 h1 w
  rw [if_neg h1]
  by_cases h2 : b2 < a2
  · rw [if_pos h2]; exact rcmp_b va vb a1 a2 a3 a4 b1 b2 b3 b4 h2 w
  rw [if_neg h2]
  obtain rfl : a2 = b2 := by omega
  by_cases h3 : a3 < b3
  · rw [if_pos h3]; exact rcmp_c va vb a1 a2 a3 a4 b1 b3 b4 h3 w
  rw [if_neg h3]
  by_cases h4 : b3 < a3
  · rw [if_pos h4]; exact rcmp_d va vb a1 a2 a3 a4 b1 b3 b4 h4 w
  rw [if_neg h4]
  obtain rfl : a3 = b3 := by omega
  by_cases h5 : a4 < b4
  · rw [if_pos h5]; exact rcmp_e va vb a1 a2 a3 a4 b1 b4 h5 w
  rw [if_neg h5]
  by_cases h6 : b4 < a4
  · rw [if_pos h6]; exact rcmp_g va vb a1 a2 a3 a4 b1 b4 h6 w
  rw [if_neg h6]
  obtain rfl : a4 = b4 := by omega
  exact rcmp_f va vb a1 a2 a3 a4 b1 w
end Go.Proofs.YtedcdhngiofpjaaGreatDoor
/- The reference: stands, Merge; the law's Of. -/
namespace Go.Proofs.YtedcdhngiofpjaaGreatDoor
open Go Go.Proofs Go.RowKit Go.Shelf
set_option maxRecDepth 100000
attribute [local go_sem] cell_set Oper.semAt_some
theorem rof1_any (n : Int) (hn : I64 n) (W : World) : Calls Tryz.prog 54 #[.int .i64 n] W fun e w' => e = .returned (.agg #[.int .i64 (hiS n), .int .u64 (loS n)]) ∧ Below W.heap.size W w' := by
  have e : hiS n = n / 9223372036854775808 := by unfold I64 at hn; unfold hiS; omega
  unfold loS
  rw [e]
  exact ref_of n hn W
theorem stands_any (p q : Pn) (w : World) : Calls Tryz.prog 93 #[p.V, q.V] w fun e w' => e = .returned (.bool (decide (Lt3 q.t q.s q.q p.t p.s p.q))) ∧ Below w.heap.size w w' := by
  have RC := Lib.hid (fun W => rcmp_any (.slice none 0 0) (.slice none 0 0) 0 p.t p.s p.q 0 q.t q.s q.q W)
  have e : decide (Lt3 q.t q.s q.q p.t p.s p.q) = decide (0 < cmpS p.t p.s p.q q.t q.s q.q) := by rw [decide_eq_decide]; exact cmpS_pos.symm
  rw [e]
  clear e
  generalize cmpS p.t p.s p.q q.t q.s q.q = c at *
  unfold Pn.V
  go_enter Tryz.func93, Tryz.ntmps93
  go_wp2_with fail
  refine (RC.out _).mono ?_
  rintro e w1 ⟨rfl, hb1⟩
  have DP : At w1 (w.heap.size) [.int .i64 p.c, .int .i64 p.h, .int .u64 p.l, .int .i64 p.mn, .int .i64 p.mx, .int .i64 p.t, .int .i64 p.s, .int .i64 p.q, .int .i64 p.v] := by have h := ((At.new (w) #[.int .i64 p.c, .int .i64 p.h, .int .u64 p.l, .int .i64 p.mn, .int .i64 p.mx, .int .i64 p.t, .int .i64 p.s, .int .i64 p.q, .int .i64 p.v] 67).alloc (.cells #[.int .i64 q.c, .int .i64 q.h, .int .u64 q.l, .int .i64 q.mn, .int .i64 q.mx, .int .i64 q.t, .int .i64 q.s, .int .i64 q.q, .int .i64 q.v] 67)).below hb1; simpa using h
  have DQ : At w1 (w.heap.size + 1) [.int .i64 q.c, .int .i64 q.h, .int .u64 q.l, .int .i64 q.mn, .int .i64 q.mx, .int .i64 q.t, .int .i64 q.s, .int .i64 q.q, .int .i64 q.v] := by have h := (At.new ((w).alloc (.cells #[.int .i64 p.c, .int .i64 p.h, .int .u64 p.l, .int .i64 p.mn, .int .i64 p.mx, .int .i64 p.t, .int .i64 p.s, .int .i64 p.q, .int .i64 p.v] 67)) #[.int .i64 q.c, .int .i64 q.h, .int .u64 q.l, .int .i64 q.mn, .int .i64 q.mx, .int .i64 q.t, .int .i64 q.s, .int .i64 q.q, .int .i64 q.v] 67).below hb1; simpa using h
  have B : Below w.heap.size w w1 := below_then (below_new (below_new (Below.refl _ _) (.cells #[.int .i64 p.c, .int .i64 p.h, .int .u64 p.l, .int .i64 p.mn, .int .i64 p.mx, .int .i64 p.t, .int .i64 p.s, .int .i64 p.q, .int .i64 p.v] 67)) (.cells #[.int .i64 q.c, .int .i64 q.h, .int .u64 q.l, .int .i64 q.mn, .int .i64 q.mx, .int .i64 q.t, .int .i64 q.s, .int .i64 q.q, .int .i64 q.v] 67)) hb1
  clear hb1
  have aP0 := DP.cell 0 _ rfl
  have aP1 := DP.cell 1 _ rfl
  have aP2 := DP.cell 2 _ rfl
  have aP3 := DP.cell 3 _ rfl
  have aP4 := DP.cell 4 _ rfl
  have aP5 := DP.cell 5 _ rfl
  have aP6 := DP.cell 6 _ rfl
  have aP7 := DP.cell 7 _ rfl
  have aP8 := DP.cell 8 _ rfl
  have nP := DP.lt
  have aQ0 := DQ.cell 0 _ rfl
  have aQ1 := DQ.cell 1 _ rfl
  have aQ2 := DQ.cell 2 _ rfl
  have aQ3 := DQ.cell 3 _ rfl
  have aQ4 := DQ.cell 4 _ rfl
  have aQ5 := DQ.cell 5 _ rfl
  have aQ6 := DQ.cell 6 _ rfl
  have aQ7 := DQ.cell 7 _ rfl
  have aQ8 := DQ.cell 8 _ rfl
  have nQ := DQ.lt
  go_wp2
  go_ret
  exact ⟨rfl, by go_grown⟩
theorem lof1_any (h l : Int) (w : World) : Calls Tryz.prog 52 #[.agg #[.int .i64 h, .int .u64 l]] w fun e w' => e = .returned (.agg #[.int .i64 h, .int .u64 l]) ∧ Below w.heap.size w w' := by
  go_enter Tryz.func52, Tryz.ntmps52
  go_wp2
  go_returns
  try exact ⟨rfl, by go_grown⟩
set_option maxHeartbeats 4000000 in
theorem rmerge_a (p q : Pn) (h : p.c = 0) (w : World) : Calls Tryz.prog 53 #[p.V, q.V] w fun e w' => e = .returned (q.V) ∧ Below w.heap.size w w' := by
  have n1 : (p.c == 0) = true := by rw [beq_iff_eq]; omega
  clear h
  unfold Pn.V
  go_enter Tryz.func53, Tryz.ntmps53
  go_wp2
  go_returns
  exact ⟨rfl, by go_grown⟩
set_option maxHeartbeats 4000000 in
theorem rmerge_b (p q : Pn) (h : ¬ p.c = 0) (h2 : q.c = 0) (w : World) : Calls Tryz.prog 53 #[p.V, q.V] w fun e w' => e = .returned (p.V) ∧ Below w.heap.size w w' := by
  have n1 : (p.c == 0) = false := by rw [beq_eq_false_iff_ne]; omega
  have n2 : (q.c == 0) = true := by rw [beq_iff_eq]; omega
  clear h h2
  unfold Pn.V
  go_enter Tryz.func53, Tryz.ntmps53
  go_wp2
  go_returns
  exact ⟨rfl, by go_grown⟩
end Go.Proofs.YtedcdhngiofpjaaGreatDoor
