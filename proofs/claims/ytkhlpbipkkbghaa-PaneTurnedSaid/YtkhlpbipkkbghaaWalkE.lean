/- compare: which of two numbers of three limbs is greater. -/
import Derived.Test.YtkhlpbipkkbghaaWalkA
import Derived.Test.YtkhlpbipkkbghaaAt
import Derived.Test.YtkhlpbipkkbghaaMath
import Derived.Lib.Hide
namespace Go.Proofs.Ytkhlpbipkkbghaa
open Go Go.Proofs Go.RowKit
set_option maxRecDepth 100000

theorem compare_int64 (a b : Int) (w : World) :
    Calls Try.prog 32 #[.int .i64 a, .int .i64 b] w fun e w' => e = .returned (.int .i64 (cmpI a b)) ∧ w = w' := by
  have hr : ∀ v, (.int .i64 v : Value) = .int .i64 (cmpI a b) → Ending.returned (.int .i64 v) = .returned (.int .i64 (cmpI a b)) := fun v h => by rw [h]
  rcases cmpI_cases a b with ⟨h, e⟩ | ⟨h, e⟩ | ⟨h, e⟩
  all_goals
    have E := Lib.hid e
    clear e
    try subst h
    go_enter Try.func32, Try.ntmps32
    go_wp2
    go_ret
    exact ⟨by rw [E.out]; rfl, rfl⟩
theorem compare_uint64 (a b : Int) (w : World) :
    Calls Try.prog 49 #[.int .u64 a, .int .u64 b] w fun e w' => e = .returned (.int .i64 (cmpI a b)) ∧ w = w' := by
  have hr : ∀ v, (.int .i64 v : Value) = .int .i64 (cmpI a b) → Ending.returned (.int .i64 v) = .returned (.int .i64 (cmpI a b)) := fun v h => by rw [h]
  rcases cmpI_cases a b with ⟨h, e⟩ | ⟨h, e⟩ | ⟨h, e⟩
  all_goals
    have E := Lib.hid e
    clear e
    try subst h
    go_enter Try.func49, Try.ntmps49
    go_wp2
    go_ret
    exact ⟨by rw [E.out]; rfl, rfl⟩
theorem or_any (a b : Int) (B : Nat) (w : World) (hX : At w B [.int .i64 a, .int .i64 b]) :
    Calls Try.prog 31 #[.slice (some ⟨B, 0, none⟩) 2 2] w fun e w' => e = .returned (.int .i64 (orI a b)) ∧ w = w' := by
  have h0 := hX.cell 0 _ rfl
  have h1 := hX.cell 1 _ rfl
  have E : Hid (orI a b = if a = 0 then b else a) := rfl
  go_enter Try.func31, Try.ntmps31
  go_wp2
  go_rounds 3
  all_goals go_ret
  all_goals refine ⟨?_, rfl⟩
  all_goals rw [E]
  · have h : (a != 0) = true := by assumption
    rw [if_neg (by simpa using h)]; rfl
  all_goals
    have h : (a != 0) = false := by assumption
    rw [if_pos (by simpa using h)]
  · rfl
  · have h : (b != 0) = false := by assumption
    rw [show b = 0 by simpa using h]; rfl

theorem cmpStep_any (c a b : Int) (w : World) :
    Calls Try.prog 48 #[.int .i64 c, .agg #[.int .u64 a, .int .u64 b]] w fun e w' => e = .returned (.int .i64 (orI (cmpI a b) c)) ∧ Below w.heap.size w w' := by
  go_enter Try.func48, Try.ntmps48
  go_wp2_with (go_at_call 49; refine (compare_uint64 a b _).mono ?_; rintro e w1 ⟨rfl, rfl⟩)
  refine (or_any (cmpI a b) c _ _ (by have h := At.new (w.alloc (.cells #[.int .u64 a, .int .u64 b] 94)) #[.int .i64 (cmpI a b), .int .i64 c] 3; simpa using h)).mono ?_
  rintro e w1 ⟨rfl, rfl⟩
  go_wp2
  go_ret
  exact ⟨rfl, by go_grown⟩

set_option maxHeartbeats 1000000 in
theorem foldCmp_any (B : Nat) (c a0 b0 a1 b1 a2 b2 : Int) (w : World) (hX : At w B [.int .u64 a0, .int .u64 b0, .int .u64 a1, .int .u64 b1, .int .u64 a2, .int .u64 b2]) :
    Calls Try.prog 46 #[.slice (some ⟨B, 0, none⟩) 3 3, .int .i64 c, .func (.func 48) #[] #[]] w fun e w' =>
      e = .returned (.int .i64 (orI (cmpI a2 b2) (orI (cmpI a1 b1) (orI (cmpI a0 b0) c)))) ∧ Below w.heap.size w w' := by
  have hlt := hX.lt
  have x0 := hX.cell 0 _ rfl
  have x1 := hX.cell 1 _ rfl
  go_enter Try.func46, Try.ntmps46
  go_wp2_with fail
  refine wp_loop_rounds 4 ?_
  rw [rounds_succ]
  go_wp2_with fail
  refine (cmpStep_any (c) a0 b0 _).mono ?_
  rintro e w1 ⟨rfl, hb⟩
  have hB1 : Below w.heap.size w w1 := Below.trans (by go_grown) (hb.mono (by simp))
  clear hb x0 x1
  have x0 := below_cell (hX.cell 2 _ rfl) hB1 rfl
  have x1 := below_cell (hX.cell 3 _ rfl) hB1 rfl
  have hlt1 : B < w1.heap.size := Nat.lt_of_lt_of_le hlt hB1.size
  go_wp2_with fail
  rw [rounds_succ]
  go_wp2_with fail
  refine (cmpStep_any (orI (cmpI a0 b0) c) a1 b1 _).mono ?_
  rintro e w2 ⟨rfl, hb⟩
  have hB2 : Below w.heap.size w w2 := Below.trans (hB1.alloc hB1.size _) (hb.mono (by have := hB1.size; simp; omega))
  clear hB1
  clear hb x0 x1
  clear hlt1
  have x0 := below_cell (hX.cell 4 _ rfl) hB2 rfl
  have x1 := below_cell (hX.cell 5 _ rfl) hB2 rfl
  have hlt2 : B < w2.heap.size := Nat.lt_of_lt_of_le hlt hB2.size
  go_wp2_with fail
  rw [rounds_succ]
  go_wp2_with fail
  refine (cmpStep_any (orI (cmpI a1 b1) (orI (cmpI a0 b0) c)) a2 b2 _).mono ?_
  rintro e w3 ⟨rfl, hb⟩
  have hB3 : Below w.heap.size w w3 := Below.trans (hB2.alloc hB2.size _) (hb.mono (by have := hB2.size; simp; omega))
  clear hB2
  clear hb x0 x1
  clear hlt2
  go_wp2_with fail
  rw [rounds_succ]
  go_wp2
  go_ret
  exact ⟨rfl, hB3⟩

theorem pairs_at (a0 a1 a2 b0 b1 b2 : Int) (w : World) :
    Calls Try.prog 47 #[.agg #[.int .u64 a0, .int .u64 a1, .int .u64 a2], .agg #[.int .u64 b0, .int .u64 b1, .int .u64 b2]] w fun e w' => e = .returned (.slice (some ⟨w.heap.size + 1 + 1, 0, none⟩) 3 3) ∧ Below w.heap.size w w' ∧ At w' (w.heap.size + 1 + 1) [.int .u64 a0, .int .u64 b0, .int .u64 a1, .int .u64 b1, .int .u64 a2, .int .u64 b2] :=
  (pairs_any a0 a1 a2 b0 b1 b2 w).mono fun _ _ h => ⟨h.1, h.2.1, At.of_block h.2.2⟩

/-- compare: the limbs of two numbers, each less than 2^191 away from nought. -/
theorem compare_any (x y x0 x1 x2 y0 y1 y2 : Int) (hx : IsL x x0 x1 x2) (hy : IsL y y0 y1 y2)
    (h1 : -3138550867693340381917894711603833208051177722232017256448 ≤ x) (h2 : x < 3138550867693340381917894711603833208051177722232017256448)
    (h3 : -3138550867693340381917894711603833208051177722232017256448 ≤ y) (h4 : y < 3138550867693340381917894711603833208051177722232017256448) (w : World) :
    Calls Try.prog 34 #[.agg #[.int .u64 x0, .int .u64 x1, .int .u64 x2], .agg #[.int .u64 y0, .int .u64 y1, .int .u64 y2]] w fun e w' => e = .returned (.int .i64 (cmpI x y)) ∧ Below w.heap.size w w' := by
  have E := Lib.hid (cmp_limbs hx hy h1 h2 h3 h4)
  clear h1 h2 h3 h4 hx hy
  go_enter Try.func34, Try.ntmps34
  go_wp2_with fail
  refine (compare_int64 (wrap64 x2) (wrap64 y2) _).mono ?_
  rintro e wc ⟨rfl, rfl⟩
  go_wp2_with fail
  refine (pairs_at x0 x1 x2 y0 y1 y2 _).mono ?_
  rintro e w1 ⟨rfl, hb, hX⟩
  have hB : Below w.heap.size w w1 := Below.trans (by go_grown) (hb.mono (by simp; omega))
  have hX' : At w1 (w.heap.size + 1 + 1 + 1 + 1) [.int .u64 x0, .int .u64 y0, .int .u64 x1, .int .u64 y1, .int .u64 x2, .int .u64 y2] := by simpa using hX
  clear hb hX
  go_wp2_with fail
  refine (foldCmp_any _ 0 x0 y0 x1 y1 x2 y2 _ hX').mono ?_
  rintro e w2 ⟨rfl, hb⟩
  have hB2 : Below w.heap.size w w2 := Below.trans hB (hb.mono hB.size)
  clear hb hB hX'
  go_wp2_with fail
  refine (or_any (cmpI (wrap64 x2) (wrap64 y2)) (orI (cmpI x2 y2) (orI (cmpI x1 y1) (orI (cmpI x0 y0) 0))) _ _ (by exact At.new w2 #[.int .i64 (cmpI (wrap64 x2) (wrap64 y2)), .int .i64 (orI (cmpI x2 y2) (orI (cmpI x1 y1) (orI (cmpI x0 y0) 0)))] 3)).mono ?_
  rintro e w3 ⟨rfl, rfl⟩
  go_wp2
  go_ret
  exact ⟨by rw [E.out]; rfl, hB2.alloc hB2.size _⟩
end Go.Proofs.Ytkhlpbipkkbghaa
