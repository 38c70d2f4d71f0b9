/- The units of package span, gone through by a function: the iterator's contract. -/
import Derived.RangeFuncNested
import Derived.RangeFuncBound
import Derived.RangeFuncCalls
import Derived.RangeFuncLeaves
import Derived.Shelf.Abstract
import Derived.Shelf.RegionOpen
import Derived.WalkKit
import Derived.OwnWalkIn
import Derived.TacticsInMore
import Derived.LoopNIn
import Derived.LoopIn
import Derived.Handy
import Derived.Test.YtmiahbaadlddjaaDoorSpanB
namespace Go.Proofs.YtmiahbaadlddjaaDoor
open Go Go.Proofs Go.RowKit Go.Shelf
set_option maxRecDepth 100000
attribute [local go_sem] Oper.semAt_some
def unitWord : Fin 5 → List UInt8
  | 0 => [100]
  | 1 => [104]
  | 2 => [109]
  | 3 => [115]
  | 4 => [109, 115]
def unitSize : Fin 5 → Nat
  | 0 => 86400000
  | 1 => 3600000
  | 2 => 60000
  | 3 => 1000
  | 4 => 1
def unitMost : Fin 5 → Nat
  | 0 => 18446744073709551615
  | 1 => 23
  | 2 => 59
  | 3 => 59
  | 4 => 999
def unitV (u : Fin 5) : Value := .agg #[.string ⟨(unitWord u).toArray⟩, .int .u64 (unitSize u : Int), .int .u64 (unitMost u : Int)]
theorem ix0 (W : World) : (Instr.index 64 (.agg #[.string ⟨#[100]⟩, .int .u64 86400000, .int .u64 18446744073709551615, .string ⟨#[104]⟩, .int .u64 3600000, .int .u64 23, .string ⟨#[109]⟩, .int .u64 60000, .int .u64 59, .string ⟨#[115]⟩, .int .u64 1000, .int .u64 59, .string ⟨#[109, 115]⟩, .int .u64 1, .int .u64 999]) (.int .i64 0)).run Tryd.prog W = .ok (.agg #[.string ⟨#[100]⟩, .int .u64 86400000, .int .u64 18446744073709551615]) W := by kernel_rfl
theorem ix1 (W : World) : (Instr.index 64 (.agg #[.string ⟨#[100]⟩, .int .u64 86400000, .int .u64 18446744073709551615, .string ⟨#[104]⟩, .int .u64 3600000, .int .u64 23, .string ⟨#[109]⟩, .int .u64 60000, .int .u64 59, .string ⟨#[115]⟩, .int .u64 1000, .int .u64 59, .string ⟨#[109, 115]⟩, .int .u64 1, .int .u64 999]) (.int .i64 1)).run Tryd.prog W = .ok (.agg #[.string ⟨#[104]⟩, .int .u64 3600000, .int .u64 23]) W := by kernel_rfl
theorem ix2 (W : World) : (Instr.index 64 (.agg #[.string ⟨#[100]⟩, .int .u64 86400000, .int .u64 18446744073709551615, .string ⟨#[104]⟩, .int .u64 3600000, .int .u64 23, .string ⟨#[109]⟩, .int .u64 60000, .int .u64 59, .string ⟨#[115]⟩, .int .u64 1000, .int .u64 59, .string ⟨#[109, 115]⟩, .int .u64 1, .int .u64 999]) (.int .i64 2)).run Tryd.prog W = .ok (.agg #[.string ⟨#[109]⟩, .int .u64 60000, .int .u64 59]) W := by kernel_rfl
theorem ix3 (W : World) : (Instr.index 64 (.agg #[.string ⟨#[100]⟩, .int .u64 86400000, .int .u64 18446744073709551615, .string ⟨#[104]⟩, .int .u64 3600000, .int .u64 23, .string ⟨#[109]⟩, .int .u64 60000, .int .u64 59, .string ⟨#[115]⟩, .int .u64 1000, .int .u64 59, .string ⟨#[109, 115]⟩, .int .u64 1, .int .u64 999]) (.int .i64 3)).run Tryd.prog W = .ok (.agg #[.string ⟨#[115]⟩, .int .u64 1000, .int .u64 59]) W := by kernel_rfl
theorem ix4 (W : World) : (Instr.index 64 (.agg #[.string ⟨#[100]⟩, .int .u64 86400000, .int .u64 18446744073709551615, .string ⟨#[104]⟩, .int .u64 3600000, .int .u64 23, .string ⟨#[109]⟩, .int .u64 60000, .int .u64 59, .string ⟨#[115]⟩, .int .u64 1000, .int .u64 59, .string ⟨#[109, 115]⟩, .int .u64 1, .int .u64 999]) (.int .i64 4)).run Tryd.prog W = .ok (.agg #[.string ⟨#[109, 115]⟩, .int .u64 1, .int .u64 999]) W := by kernel_rfl
set_option maxHeartbeats 4000000 in
theorem units_stops (F : Fence) (n : Nat) (hf : F.fn 28) (hro : F.round = none) (hn : 1 ≤ n) (w : World) :
    SeqStops F n Tryd.prog 28 #[] unitV (fun xs => xs = [0, 1, 2, 3, 4]) (fun pre => pre <+: [0, 1, 2, 3, 4]) 5 w := fun l J Jx W hW hJ hJx hY h0 => by
  refine callsIn_of_wp Tryd.func28 rfl hf ?_ hro
  simp only [Tryd.ntmps28, List.size_toArray, List.length_cons, List.length_nil, Nat.reduceAdd, Nat.reduceSub, Array.replicate_succ, Array.replicate_zero, List.push_toArray, List.append_toArray, List.nil_append, List.cons_append]
  gi_wp2
  refine wpIn_loop_rounds 6 ?_
  have a0 := hJ [] W (W.alloc (.cells #[.string ⟨#[100]⟩, .int .u64 86400000, .int .u64 18446744073709551615] 51)) none h0 (World.grownBy_alloc _ _ none) (fun r e => by cases e)
  obtain ⟨f0, t0, s0, b0, y0, R0⟩ := hY [] 0 _ a0 (by simp)
  have z0 : (Instr.yield l #[.agg #[.string ⟨#[100]⟩, .int .u64 86400000, .int .u64 18446744073709551615]]).run Tryd.prog (W.alloc (.cells #[.string ⟨#[100]⟩, .int .u64 86400000, .int .u64 18446744073709551615] 51)) = .ok (.round l f0 t0 s0 b0) (W.alloc (.cells #[.string ⟨#[100]⟩, .int .u64 86400000, .int .u64 18446744073709551615] 51)) := y0
  clear y0 a0
  have i0 := ix0
  rw [roundsIn_succ]
  gi_wp2
  refine R0.mono ?_
  rintro e W1 (⟨rfl, hJ1, _⟩ | ⟨rfl, hx1⟩)
  · gi_wp2
    have a1 := hJ [0] W1 (W1.alloc (.cells #[.string ⟨#[104]⟩, .int .u64 3600000, .int .u64 23] 51)) none hJ1 (World.grownBy_alloc _ _ none) (fun r e => by cases e)
    obtain ⟨f1, t1, s1, b1, y1, R1⟩ := hY [0] 1 _ a1 (by simp)
    have z1 : (Instr.yield l #[.agg #[.string ⟨#[104]⟩, .int .u64 3600000, .int .u64 23]]).run Tryd.prog (W1.alloc (.cells #[.string ⟨#[104]⟩, .int .u64 3600000, .int .u64 23] 51)) = .ok (.round l f1 t1 s1 b1) (W1.alloc (.cells #[.string ⟨#[104]⟩, .int .u64 3600000, .int .u64 23] 51)) := y1
    clear y1 a1
    have i1 := ix1
    rw [roundsIn_succ]
    gi_wp2
    refine R1.mono ?_
    rintro e W2 (⟨rfl, hJ2, _⟩ | ⟨rfl, hx2⟩)
    · gi_wp2
      have a2 := hJ [0, 1] W2 (W2.alloc (.cells #[.string ⟨#[109]⟩, .int .u64 60000, .int .u64 59] 51)) none hJ2 (World.grownBy_alloc _ _ none) (fun r e => by cases e)
      obtain ⟨f2, t2, s2, b2, y2, R2⟩ := hY [0, 1] 2 _ a2 (by simp)
      have z2 : (Instr.yield l #[.agg #[.string ⟨#[109]⟩, .int .u64 60000, .int .u64 59]]).run Tryd.prog (W2.alloc (.cells #[.string ⟨#[109]⟩, .int .u64 60000, .int .u64 59] 51)) = .ok (.round l f2 t2 s2 b2) (W2.alloc (.cells #[.string ⟨#[109]⟩, .int .u64 60000, .int .u64 59] 51)) := y2
      clear y2 a2
      have i2 := ix2
      rw [roundsIn_succ]
      gi_wp2
      refine R2.mono ?_
      rintro e W3 (⟨rfl, hJ3, _⟩ | ⟨rfl, hx3⟩)
      · gi_wp2
        have a3 := hJ [0, 1, 2] W3 (W3.alloc (.cells #[.string ⟨#[115]⟩, .int .u64 1000, .int .u64 59] 51)) none hJ3 (World.grownBy_alloc _ _ none) (fun r e => by cases e)
        obtain ⟨f3, t3, s3, b3, y3, R3⟩ := hY [0, 1, 2] 3 _ a3 (by simp)
        have z3 : (Instr.yield l #[.agg #[.string ⟨#[115]⟩, .int .u64 1000, .int .u64 59]]).run Tryd.prog (W3.alloc (.cells #[.string ⟨#[115]⟩, .int .u64 1000, .int .u64 59] 51)) = .ok (.round l f3 t3 s3 b3) (W3.alloc (.cells #[.string ⟨#[115]⟩, .int .u64 1000, .int .u64 59] 51)) := y3
        clear y3 a3
        have i3 := ix3
        rw [roundsIn_succ]
        gi_wp2
        refine R3.mono ?_
        rintro e W4 (⟨rfl, hJ4, _⟩ | ⟨rfl, hx4⟩)
        · gi_wp2
          have a4 := hJ [0, 1, 2, 3] W4 (W4.alloc (.cells #[.string ⟨#[109, 115]⟩, .int .u64 1, .int .u64 999] 51)) none hJ4 (World.grownBy_alloc _ _ none) (fun r e => by cases e)
          obtain ⟨f4, t4, s4, b4, y4, R4⟩ := hY [0, 1, 2, 3] 4 _ a4 (by simp)
          have z4 : (Instr.yield l #[.agg #[.string ⟨#[109, 115]⟩, .int .u64 1, .int .u64 999]]).run Tryd.prog (W4.alloc (.cells #[.string ⟨#[109, 115]⟩, .int .u64 1, .int .u64 999] 51)) = .ok (.round l f4 t4 s4 b4) (W4.alloc (.cells #[.string ⟨#[109, 115]⟩, .int .u64 1, .int .u64 999] 51)) := y4
          clear y4 a4
          have i4 := ix4
          rw [roundsIn_succ]
          gi_wp2
          refine R4.mono ?_
          rintro e W5 (⟨rfl, hJ5, _⟩ | ⟨rfl, hx5⟩)
          · gi_wp2
            rw [roundsIn_succ]
            gi_wp2
            go_end0
            exact ⟨⟨_, rfl⟩, .inl ⟨[0, 1, 2, 3, 4], rfl, hJ5⟩⟩
          · gi_wp2
            refine bodyPost_ret (results_none rfl _ _ _) rfl ?_
            exact ⟨⟨_, rfl⟩, .inr ⟨[0, 1, 2, 3, 4], by decide, hx5⟩⟩
        · gi_wp2
          refine bodyPost_ret (results_none rfl _ _ _) rfl ?_
          exact ⟨⟨_, rfl⟩, .inr ⟨[0, 1, 2, 3], by decide, hx4⟩⟩
      · gi_wp2
        refine bodyPost_ret (results_none rfl _ _ _) rfl ?_
        exact ⟨⟨_, rfl⟩, .inr ⟨[0, 1, 2], by decide, hx3⟩⟩
    · gi_wp2
      refine bodyPost_ret (results_none rfl _ _ _) rfl ?_
      exact ⟨⟨_, rfl⟩, .inr ⟨[0, 1], by decide, hx2⟩⟩
  · gi_wp2
    refine bodyPost_ret (results_none rfl _ _ _) rfl ?_
    exact ⟨⟨_, rfl⟩, .inr ⟨[0], by decide, hx1⟩⟩
end Go.Proofs.YtmiahbaadlddjaaDoor
