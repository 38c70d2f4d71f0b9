/- The reference's CompareSample. -/
import Derived.Test.YtkhlpbipkkbghaaLb
import Derived.Test.YtkhlpbipkkbghaaOrd6
namespace Go.Proofs.Ytkhlpbipkkbghaa
open Go Go.Proofs Go.RowKit Go.Shelf
set_option maxRecDepth 100000
attribute [local go_sem] Oper.semAt_some
set_option maxHeartbeats 4000000 in
theorem rcmp_a (va vb : Value) (a1 a2 a3 a4 b1 b2 b3 b4 : Int) (h : a2 < b2) (w : World) :
    Calls Try.prog 58 #[.agg #[va, .int .i64 a1, .int .i64 a2, .int .i64 a3, .int .i64 a4], .agg #[vb, .int .i64 b1, .int .i64 b2, .int .i64 b3, .int .i64 b4]] w fun e w' => e = .returned (.int .i64 (-1)) ∧ Below w.heap.size w w' := by
  have n2 : a2 ≠ b2 := by omega
  have m2 : (a2 == b2) = false := beq_false_of_ne n2
  go_enter Try.func58, Try.ntmps58
  have A1 := blk_new w #[va, .int .i64 a1, .int .i64 a2, .int .i64 a3, .int .i64 a4] 61
  have A2 := blk_new (w.alloc (.cells #[va, .int .i64 a1, .int .i64 a2, .int .i64 a3, .int .i64 a4] 61)) #[vb, .int .i64 b1, .int .i64 b2, .int .i64 b3, .int .i64 b4] 61
  rw [World.size_alloc] at A2
  have B1 := below_new (below_cells (w := w) (.cells #[va, .int .i64 a1, .int .i64 a2, .int .i64 a3, .int .i64 a4] 61)) (.cells #[vb, .int .i64 b1, .int .i64 b2, .int .i64 b3, .int .i64 b4] 61)
  have D1 := blk_on A1 (below_cells (.cells #[vb, .int .i64 b1, .int .i64 b2, .int .i64 b3, .int .i64 b4] 61))
  clear A1
  have p0 := (blk_at D1).cell 0 _ rfl
  have p1 := (blk_at D1).cell 1 _ rfl
  have p2 := (blk_at D1).cell 2 _ rfl
  have p3 := (blk_at D1).cell 3 _ rfl
  have p4 := (blk_at D1).cell 4 _ rfl
  have q0 := (blk_at A2).cell 0 _ rfl
  have q1 := (blk_at A2).cell 1 _ rfl
  have q2 := (blk_at A2).cell 2 _ rfl
  have q3 := (blk_at A2).cell 3 _ rfl
  have q4 := (blk_at A2).cell 4 _ rfl
  go_wp2
  go_ret
  exact ⟨rfl, B1⟩
set_option maxHeartbeats 4000000 in
theorem rcmp_b (va vb : Value) (a1 a2 a3 a4 b1 b2 b3 b4 : Int) (h : b2 < a2) (w : World) :
    Calls Try.prog 58 #[.agg #[va, .int .i64 a1, .int .i64 a2, .int .i64 a3, .int .i64 a4], .agg #[vb, .int .i64 b1, .int .i64 b2, .int .i64 b3, .int .i64 b4]] w fun e w' => e = .returned (.int .i64 (1)) ∧ Below w.heap.size w w' := by
  have n2 : a2 ≠ b2 := by omega
  have m2 : (a2 == b2) = false := beq_false_of_ne n2
  have l2 : ¬ a2 < b2 := by omega
  go_enter Try.func58, Try.ntmps58
  have A1 := blk_new w #[va, .int .i64 a1, .int .i64 a2, .int .i64 a3, .int .i64 a4] 61
  have A2 := blk_new (w.alloc (.cells #[va, .int .i64 a1, .int .i64 a2, .int .i64 a3, .int .i64 a4] 61)) #[vb, .int .i64 b1, .int .i64 b2, .int .i64 b3, .int .i64 b4] 61
  rw [World.size_alloc] at A2
  have B1 := below_new (below_cells (w := w) (.cells #[va, .int .i64 a1, .int .i64 a2, .int .i64 a3, .int .i64 a4] 61)) (.cells #[vb, .int .i64 b1, .int .i64 b2, .int .i64 b3, .int .i64 b4] 61)
  have D1 := blk_on A1 (below_cells (.cells #[vb, .int .i64 b1, .int .i64 b2, .int .i64 b3, .int .i64 b4] 61))
  clear A1
  have p0 := (blk_at D1).cell 0 _ rfl
  have p1 := (blk_at D1).cell 1 _ rfl
  have p2 := (blk_at D1).cell 2 _ rfl
  have p3 := (blk_at D1).cell 3 _ rfl
  have p4 := (blk_at D1).cell 4 _ rfl
  have q0 := (blk_at A2).cell 0 _ rfl
  have q1 := (blk_at A2).cell 1 _ rfl
  have q2 := (blk_at A2).cell 2 _ rfl
  have q3 := (blk_at A2).cell 3 _ rfl
  have q4 := (blk_at A2).cell 4 _ rfl
  go_wp2
  go_ret
  exact ⟨rfl, B1⟩
set_option maxHeartbeats 4000000 in
theorem rcmp_c (va vb : Value) (a1 a2 a3 a4 b1 b3 b4 : Int) (h : a3 < b3) (w : World) :
    Calls Try.prog 58 #[.agg #[va, .int .i64 a1, .int .i64 a2, .int .i64 a3, .int .i64 a4], .agg #[vb, .int .i64 b1, .int .i64 a2, .int .i64 b3, .int .i64 b4]] w fun e w' => e = .returned (.int .i64 (-1)) ∧ Below w.heap.size w w' := by
  have n3 : a3 ≠ b3 := by omega
  have m3 : (a3 == b3) = false := beq_false_of_ne n3
  go_enter Try.func58, Try.ntmps58
  have A1 := blk_new w #[va, .int .i64 a1, .int .i64 a2, .int .i64 a3, .int .i64 a4] 61
  have A2 := blk_new (w.alloc (.cells #[va, .int .i64 a1, .int .i64 a2, .int .i64 a3, .int .i64 a4] 61)) #[vb, .int .i64 b1, .int .i64 a2, .int .i64 b3, .int .i64 b4] 61
  rw [World.size_alloc] at A2
  have B1 := below_new (below_cells (w := w) (.cells #[va, .int .i64 a1, .int .i64 a2, .int .i64 a3, .int .i64 a4] 61)) (.cells #[vb, .int .i64 b1, .int .i64 a2, .int .i64 b3, .int .i64 b4] 61)
  have D1 := blk_on A1 (below_cells (.cells #[vb, .int .i64 b1, .int .i64 a2, .int .i64 b3, .int .i64 b4] 61))
  clear A1
  have p0 := (blk_at D1).cell 0 _ rfl
  have p1 := (blk_at D1).cell 1 _ rfl
  have p2 := (blk_at D1).cell 2 _ rfl
  have p3 := (blk_at D1).cell 3 _ rfl
  have p4 := (blk_at D1).cell 4 _ rfl
  have q0 := (blk_at A2).cell 0 _ rfl
  have q1 := (blk_at A2).cell 1 _ rfl
  have q2 := (blk_at A2).cell 2 _ rfl
  have q3 := (blk_at A2).cell 3 _ rfl
  have q4 := (blk_at A2).cell 4 _ rfl
  go_wp2
  go_ret
  exact ⟨rfl, B1⟩
set_option maxHeartbeats 4000000 in
theorem rcmp_d (va vb : Value) (a1 a2 a3 a4 b1 b3 b4 : Int) (h : b3 < a3) (w : World) :
    Calls Try.prog 58 #[.agg #[va, .int .i64 a1, .int .i64 a2, .int .i64 a3, .int .i64 a4], .agg #[vb, .int .i64 b1, .int .i64 a2, .int .i64 b3, .int .i64 b4]] w fun e w' => e = .returned (.int .i64 (1)) ∧ Below w.heap.size w w' := by
  have n3 : a3 ≠ b3 := by omega
  have m3 : (a3 == b3) = false := beq_false_of_ne n3
  have l3 : ¬ a3 < b3 := by omega
  go_enter Try.func58, Try.ntmps58
  have A1 := blk_new w #[va, .int .i64 a1, .int .i64 a2, .int .i64 a3, .int .i64 a4] 61
  have A2 := blk_new (w.alloc (.cells #[va, .int .i64 a1, .int .i64 a2, .int .i64 a3, .int .i64 a4] 61)) #[vb, .int .i64 b1, .int .i64 a2, .int .i64 b3, .int .i64 b4] 61
  rw [World.size_alloc] at A2
  have B1 := below_new (below_cells (w := w) (.cells #[va, .int .i64 a1, .int .i64 a2, .int .i64 a3, .int .i64 a4] 61)) (.cells #[vb, .int .i64 b1, .int .i64 a2, .int .i64 b3, .int .i64 b4] 61)
  have D1 := blk_on A1 (below_cells (.cells #[vb, .int .i64 b1, .int .i64 a2, .int .i64 b3, .int .i64 b4] 61))
  clear A1
  have p0 := (blk_at D1).cell 0 _ rfl
  have p1 := (blk_at D1).cell 1 _ rfl
  have p2 := (blk_at D1).cell 2 _ rfl
  have p3 := (blk_at D1).cell 3 _ rfl
  have p4 := (blk_at D1).cell 4 _ rfl
  have q0 := (blk_at A2).cell 0 _ rfl
  have q1 := (blk_at A2).cell 1 _ rfl
  have q2 := (blk_at A2).cell 2 _ rfl
  have q3 := (blk_at A2).cell 3 _ rfl
  have q4 := (blk_at A2).cell 4 _ rfl
  go_wp2
  go_ret
  exact ⟨rfl, B1⟩
set_option maxHeartbeats 4000000 in
theorem rcmp_e (va vb : Value) (a1 a2 a3 a4 b1 b4 : Int) (h : a4 < b4) (w : World) :
    Calls Try.prog 58 #[.agg #[va, .int .i64 a1, .int .i64 a2, .int .i64 a3, .int .i64 a4], .agg #[vb, .int .i64 b1, .int .i64 a2, .int .i64 a3, .int .i64 b4]] w fun e w' => e = .returned (.int .i64 (-1)) ∧ Below w.heap.size w w' := by
  have n4 : a4 ≠ b4 := by omega
  have m4 : (a4 == b4) = false := beq_false_of_ne n4
  go_enter Try.func58, Try.ntmps58
  have A1 := blk_new w #[va, .int .i64 a1, .int .i64 a2, .int .i64 a3, .int .i64 a4] 61
  have A2 := blk_new (w.alloc (.cells #[va, .int .i64 a1, .int .i64 a2, .int .i64 a3, .int .i64 a4] 61)) #[vb, .int .i64 b1, .int .i64 a2, .int .i64 a3, .int .i64 b4] 61
  rw [World.size_alloc] at A2
  have B1 := below_new (below_cells (w := w) (.cells #[va, .int .i64 a1, .int .i64 a2, .int .i64 a3, .int .i64 a4] 61)) (.cells #[vb, .int .i64 b1, .int .i64 a2, .int .i64 a3, .int .i64 b4] 61)
  have D1 := blk_on A1 (below_cells (.cells #[vb, .int .i64 b1, .int .i64 a2, .int .i64 a3, .int .i64 b4] 61))
  clear A1
  have p0 := (blk_at D1).cell 0 _ rfl
  have p1 := (blk_at D1).cell 1 _ rfl
  have p2 := (blk_at D1).cell 2 _ rfl
  have p3 := (blk_at D1).cell 3 _ rfl
  have p4 := (blk_at D1).cell 4 _ rfl
  have q0 := (blk_at A2).cell 0 _ rfl
  have q1 := (blk_at A2).cell 1 _ rfl
  have q2 := (blk_at A2).cell 2 _ rfl
  have q3 := (blk_at A2).cell 3 _ rfl
  have q4 := (blk_at A2).cell 4 _ rfl
  go_wp2
  go_ret
  exact ⟨rfl, B1⟩
set_option maxHeartbeats 4000000 in
theorem rcmp_f (va vb : Value) (a1 a2 a3 a4 b1 : Int)  (w : World) :
    Calls Try.prog 58 #[.agg #[va, .int .i64 a1, .int .i64 a2, .int .i64 a3, .int .i64 a4], .agg #[vb, .int .i64 b1, .int .i64 a2, .int .i64 a3, .int .i64 a4]] w fun e w' => e = .returned (.int .i64 (0)) ∧ Below w.heap.size w w' := by
  go_enter Try.func58, Try.ntmps58
  have A1 := blk_new w #[va, .int .i64 a1, .int .i64 a2, .int .i64 a3, .int .i64 a4] 61
  have A2 := blk_new (w.alloc (.cells #[va, .int .i64 a1, .int .i64 a2, .int .i64 a3, .int .i64 a4] 61)) #[vb, .int .i64 b1, .int .i64 a2, .int .i64 a3, .int .i64 a4] 61
  rw [World.size_alloc] at A2
  have B1 := below_new (below_cells (w := w) (.cells #[va, .int .i64 a1, .int .i64 a2, .int .i64 a3, .int .i64 a4] 61)) (.cells #[vb, .int .i64 b1, .int .i64 a2, .int .i64 a3, .int .i64 a4] 61)
  have D1 := blk_on A1 (below_cells (.cells #[vb, .int .i64 b1, .int .i64 a2, .int .i64 a3, .int .i64 a4] 61))
  clear A1
  have p0 := (blk_at D1).cell 0 _ rfl
  have p1 := (blk_at D1).cell 1 _ rfl
  have p2 := (blk_at D1).cell 2 _ rfl
  have p3 := (blk_at D1).cell 3 _ rfl
  have p4 := (blk_at D1).cell 4 _ rfl
  have q0 := (blk_at A2).cell 0 _ rfl
  have q1 := (blk_at A2).cell 1 _ rfl
  have q2 := (blk_at A2).cell 2 _ rfl
  have q3 := (blk_at A2).cell 3 _ rfl
  have q4 := (blk_at A2).cell 4 _ rfl
  go_wp2
  go_ret
  exact ⟨rfl, B1⟩
set_option maxHeartbeats 4000000 in
theorem rcmp_g (va vb : Value) (a1 a2 a3 a4 b1 b4 : Int) (h : b4 < a4) (w : World) :
    Calls Try.prog 58 #[.agg #[va, .int .i64 a1, .int .i64 a2, .int .i64 a3, .int .i64 a4], .agg #[vb, .int .i64 b1, .int .i64 a2, .int .i64 a3, .int .i64 b4]] w fun e w' => e = .returned (.int .i64 (1)) ∧ Below w.heap.size w w' := by
  have n4 : a4 ≠ b4 := by omega
  have m4 : (a4 == b4) = false := beq_false_of_ne n4
  have l4 : ¬ a4 < b4 := by omega
  go_enter Try.func58, Try.ntmps58
  have A1 := blk_new w #[va, .int .i64 a1, .int .i64 a2, .int .i64 a3, .int .i64 a4] 61
  have A2 := blk_new (w.alloc (.cells #[va, .int .i64 a1, .int .i64 a2, .int .i64 a3, .int .i64 a4] 61)) #[vb, .int .i64 b1, .int .i64 a2, .int .i64 a3, .int .i64 b4] 61
  rw [World.size_alloc] at A2
  have B1 := below_new (below_cells (w := w) (.cells #[va, .int .i64 a1, .int .i64 a2, .int .i64 a3, .int .i64 a4] 61)) (.cells #[vb, .int .i64 b1, .int .i64 a2, .int .i64 a3, .int .i64 b4] 61)
  have D1 := blk_on A1 (below_cells (.cells #[vb, .int .i64 b1, .int .i64 a2, .int .i64 a3, .int .i64 b4] 61))
  clear A1
  have p0 := (blk_at D1).cell 0 _ rfl
  have p1 := (blk_at D1).cell 1 _ rfl
  have p2 := (blk_at D1).cell 2 _ rfl
  have p3 := (blk_at D1).cell 3 _ rfl
  have p4 := (blk_at D1).cell 4 _ rfl
  have q0 := (blk_at A2).cell 0 _ rfl
  have q1 := (blk_at A2).cell 1 _ rfl
  have q2 := (blk_at A2).cell 2 _ rfl
  have q3 := (blk_at A2).cell 3 _ rfl
  have q4 := (blk_at A2).cell 4 _ rfl
  go_wp2
  go_ret
  exact ⟨rfl, B1⟩
theorem rcmp_any (va vb : Value) (a1 a2 a3 a4 b1 b2 b3 b4 : Int) (w : World) :
    Calls Try.prog 58 #[.agg #[va, .int .i64 a1, .int .i64 a2, .int .i64 a3, .int .i64 a4], .agg #[vb, .int .i64 b1, .int .i64 b2, .int .i64 b3, .int .i64 b4]] w fun e w' => e = .returned (.int .i64 (cmpS a2 a3 a4 b2 b3 b4)) ∧ Below w.heap.size w w' := by
  have hc : cmpS a2 a3 a4 b2 b3 b4 = if a2 < b2 then -1 else if b2 < a2 then 1 else if a3 < b3 then -1 else if b3 < a3 then 1 else if a4 < b4 then -1 else if b4 < a4 then 1 else 0 := by
    unfold cmpS or3I ordI
    repeat' split
    all_goals omega
  rw [hc]
  by_cases h1 : a2 < b2
  · rw [if_pos h1]; exact rcmp_a va vb a1 a2 a3 a4 b1 b2 b3 b4 h1 w
  rw [if_neg h1]
  by_cases h2 : b2 < a2
  · rw [if_pos h2]; exact rcmp_b va vb a1 a2 a3 a4 b1 b2 b3 b4 h2 w
  rw [if_neg h2]
  obtain rfl : a2 = b2 := by omega
  by_cases h3 : a3 < b3
  · rw [if_pos h3]; exact rcmp_c va vb a1 a2 a3 a4 b1 b3 b4 h3 w
  rw [if_neg h3]
  by_cases h4 : b3 < a3
  · rw [if_pos h4]; exact rcmp_d va vb a1 a2 a3 a4 b1 b3 b4 h4 w
  rw [if_neg h4]
  obtain rfl : a3 = b3 := by omega
  by_cases h5 : a4 < b4
  · rw [if_pos h5]; exact rcmp_e va vb a1 a2 a3 a4 b1 b4 h5 w
  rw [if_neg h5]
  by_cases h6 : b4 < a4
  · rw [if_pos h6]; exact rcmp_g va vb a1 a2 a3 a4 b1 b4 h6 w
  rw [if_neg h6]
  obtain rfl : a4 = b4 := by omega
  exact rcmp_f va vb a1 a2 a3 a4 b1 w
end Go.Proofs.Ytkhlpbipkkbghaa
