/- The reference's numbers of 128 bits: Neg, Add. -/
import Derived.Test.YtkhlpbipkkbghaaRefB
namespace Go.Proofs.Ytkhlpbipkkbghaa
open Go Go.Proofs Go.RowKit
set_option maxRecDepth 100000
theorem ref_add_ok (h1 l1 h2 l2 h l : Int) (i1 : InI h1 l1) (i2 : InI h2 l2) (i : InI h l) (v : val h l = val h1 l1 + val h2 l2) (W : World) :
    Calls Try.prog 40 #[.agg #[.int .i64 h1, .int .u64 l1], .agg #[.int .i64 h2, .int .u64 l2]] W fun e w' => e = .returned (.tuple #[.agg #[.int .i64 h, .int .u64 l], .int .i64 0]) ∧ Below W.heap.size W w' := by
  have R := Lib.hid (fun W => ref_raw h1 l1 h2 l2 h l 0 i1 i2 i (by omega) W)
  have hc : ¬ ((h1 < 0 ↔ h2 < 0) ∧ (h1 < 0 ↔ 0 ≤ h)) := by obtain ⟨_, _, _, _⟩ := i1; obtain ⟨_, _, _, _⟩ := i2; obtain ⟨_, _, _, _⟩ := i; unfold val at v; omega
  clear v i i1 i2
  by_cases x1 : h1 < 0 <;> by_cases x2 : h2 < 0 <;> by_cases x3 : h < 0
  all_goals (first | (exfalso; omega) | skip)
  all_goals
    clear hc
    first | (have d1 : decide (h1 < 0) = true := by simpa using x1) | (have d1 : decide (h1 < 0) = false := by simpa using x1)
    first | (have d2 : decide (h2 < 0) = true := by simpa using x2) | (have d2 : decide (h2 < 0) = false := by simpa using x2)
    first | (have d3 : decide (h < 0) = true := by simpa using x3) | (have d3 : decide (h < 0) = false := by simpa using x3)
    go_enter Try.func40, Try.ntmps40
    go_wp2_with fail
    refine (R.out _).mono ?_
    rintro e w1 ⟨rfl, hb1⟩
    have DA : At w1 (W.heap.size) [.int .i64 h1, .int .u64 l1] := by have h := (((At.new (W) #[.int .i64 h1, .int .u64 l1] 31).alloc (.cells #[.int .i64 h2, .int .u64 l2] 31)).alloc (.cells #[.int .i64 0, .int .u64 0] 31)).below hb1; simpa using h
    have DC : At w1 (W.heap.size + 1) [.int .i64 h2, .int .u64 l2] := by have h := ((At.new ((W).alloc (.cells #[.int .i64 h1, .int .u64 l1] 31)) #[.int .i64 h2, .int .u64 l2] 31).alloc (.cells #[.int .i64 0, .int .u64 0] 31)).below hb1; simpa using h
    have DR : At w1 (W.heap.size + 1 + 1) [.int .i64 0, .int .u64 0] := by have h := (At.new (((W).alloc (.cells #[.int .i64 h1, .int .u64 l1] 31)).alloc (.cells #[.int .i64 h2, .int .u64 l2] 31)) #[.int .i64 0, .int .u64 0] 31).below hb1; simpa using h
    have B : Below W.heap.size W w1 := below_then (below_new (below_new (below_new (Below.refl _ _) (.cells #[.int .i64 h1, .int .u64 l1] 31)) (.cells #[.int .i64 h2, .int .u64 l2] 31)) (.cells #[.int .i64 0, .int .u64 0] 31)) hb1
    clear hb1
    have aA0 := DA.cell 0 _ rfl
    have aA1 := DA.cell 1 _ rfl
    have nA := DA.lt
    have aC0 := DC.cell 0 _ rfl
    have aC1 := DC.cell 1 _ rfl
    have nC := DC.lt
    have aR0 := DR.cell 0 _ rfl
    have zR0 := DR.free 0 _ rfl
    have aR1 := DR.cell 1 _ rfl
    have zR1 := DR.free 1 _ rfl
    have nR := DR.lt
    go_wp2_with fail
    refine bodyPost_ret (by simp [results, Try.results40, go_sem, aR0, aR1, nR]; try rfl) rfl ?_
    exact ⟨rfl, by go_grown⟩
theorem ref_add_no (h1 l1 h2 l2 h l k : Int) (i1 : InI h1 l1) (i2 : InI h2 l2) (i : InI h l) (v : val h l = val h1 l1 + val h2 l2 + k * 340282366920938463463374607431768211456) (hk : k ≠ 0) (W : World) :
    Calls Try.prog 40 #[.agg #[.int .i64 h1, .int .u64 l1], .agg #[.int .i64 h2, .int .u64 l2]] W fun e w' => e = .returned (.tuple #[.agg #[.int .i64 0, .int .u64 0], .int .i64 7]) ∧ Below W.heap.size W w' := by
  have R := Lib.hid (fun W => ref_raw h1 l1 h2 l2 h l k i1 i2 i v W)
  have hc : (h1 < 0 ∧ h2 < 0 ∧ 0 ≤ h) ∨ (0 ≤ h1 ∧ 0 ≤ h2 ∧ h < 0) := by obtain ⟨_, _, _, _⟩ := i1; obtain ⟨_, _, _, _⟩ := i2; obtain ⟨_, _, _, _⟩ := i; unfold val at v; omega
  clear v i i1 i2 hk
  rcases hc with ⟨x1, x2, x3⟩ | ⟨x1, x2, x3⟩
  all_goals
    first | (have d1 : decide (h1 < 0) = true := by simpa using x1) | (have d1 : decide (h1 < 0) = false := by simpa using x1)
    first | (have d2 : decide (h2 < 0) = true := by simpa using x2) | (have d2 : decide (h2 < 0) = false := by simpa using x2)
    first | (have d3 : decide (h < 0) = true := by simpa using x3) | (have d3 : decide (h < 0) = false := by simpa using x3)
    go_enter Try.func40, Try.ntmps40
    go_wp2_with fail
    refine (R.out _).mono ?_
    rintro e w1 ⟨rfl, hb1⟩
    have DA : At w1 (W.heap.size) [.int .i64 h1, .int .u64 l1] := by have h := (((At.new (W) #[.int .i64 h1, .int .u64 l1] 31).alloc (.cells #[.int .i64 h2, .int .u64 l2] 31)).alloc (.cells #[.int .i64 0, .int .u64 0] 31)).below hb1; simpa using h
    have DC : At w1 (W.heap.size + 1) [.int .i64 h2, .int .u64 l2] := by have h := ((At.new ((W).alloc (.cells #[.int .i64 h1, .int .u64 l1] 31)) #[.int .i64 h2, .int .u64 l2] 31).alloc (.cells #[.int .i64 0, .int .u64 0] 31)).below hb1; simpa using h
    have DR : At w1 (W.heap.size + 1 + 1) [.int .i64 0, .int .u64 0] := by have h := (At.new (((W).alloc (.cells #[.int .i64 h1, .int .u64 l1] 31)).alloc (.cells #[.int .i64 h2, .int .u64 l2] 31)) #[.int .i64 0, .int .u64 0] 31).below hb1; simpa using h
    have B : Below W.heap.size W w1 := below_then (below_new (below_new (below_new (Below.refl _ _) (.cells #[.int .i64 h1, .int .u64 l1] 31)) (.cells #[.int .i64 h2, .int .u64 l2] 31)) (.cells #[.int .i64 0, .int .u64 0] 31)) hb1
    clear hb1
    have aA0 := DA.cell 0 _ rfl
    have aA1 := DA.cell 1 _ rfl
    have nA := DA.lt
    have aC0 := DC.cell 0 _ rfl
    have aC1 := DC.cell 1 _ rfl
    have nC := DC.lt
    have aR0 := DR.cell 0 _ rfl
    have zR0 := DR.free 0 _ rfl
    have aR1 := DR.cell 1 _ rfl
    have zR1 := DR.free 1 _ rfl
    have nR := DR.lt
    go_wp2_with fail
    refine bodyPost_ret (by simp [results, Try.results40, go_sem, aR0, aR1, nR]; try rfl) rfl ?_
    exact ⟨rfl, by go_grown⟩
end Go.Proofs.Ytkhlpbipkkbghaa
