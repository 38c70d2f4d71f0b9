/- The law on ratios, walked. -/
import Derived.Test.YtmggiclikbacjaaDoorLawTwo
import Derived.Test.YtmggiclikbacjaaDoorRefG
namespace Go.Proofs.YtmggiclikbacjaaDoor
open Go Go.Proofs Go.RowKit
set_option maxRecDepth 100000
attribute [local go_sem] cell_set
set_option maxHeartbeats 4000000 in
theorem ratio_no (h1 l1 b num den : Int) (hd : b < 1 ∨ den < 1) (w : World) (ht : Tab w) :
    Calls Tryd.prog 6 #[.agg #[.int .i64 h1, .int .u64 l1], .int .i64 b, .int .i64 num, .int .i64 den] w fun e w' => e = .returned (.bool true) ∧ Below w.heap.size w w' := by
  have K := Lib.hid known_any
  have HT := Lib.hid ht
  have OA := Lib.hid lawOf_any
  have X := Lib.hid (fun W => Ratio_no h1 l1 b num den hd W)
  have Y := Lib.hid (fun W => ref_ratio_no h1 l1 b num den hd W)
  clear ht hd
  · skip
    go_enter Tryd.func6, Tryd.ntmps6
    go_wp2_with fail
    refine (K.out _ (HT.out.below (below_cells _))).mono ?_
    rintro e w1 ⟨rfl, hb1⟩
    have DA : At w1 (w.heap.size) [.int .i64 h1, .int .u64 l1] := by have h := (At.new (w) #[.int .i64 h1, .int .u64 l1] 24).below hb1; simpa using h
    have B : Below w.heap.size w w1 := below_then (below_new (Below.refl _ _) (.cells #[.int .i64 h1, .int .u64 l1] 24)) hb1
    clear hb1
    have aA0 := DA.cell 0 _ rfl
    have aA1 := DA.cell 1 _ rfl
    have nA := DA.lt
    go_wp2_with fail
    refine (X.out _).mono ?_
    rintro e w2 ⟨rfl, hb2⟩
    clear aA0 aA1 nA
    have DA := DA.below hb2
    have B : Below w.heap.size w w2 := below_then (B) hb2
    clear hb2
    have aA0 := DA.cell 0 _ rfl
    have aA1 := DA.cell 1 _ rfl
    have nA := DA.lt
    go_wp2_with fail
    refine (OA.out _ _ _).mono ?_
    rintro e w3 ⟨rfl, hb3⟩
    clear aA0 aA1 nA
    have DA := DA.below hb3
    have B : Below w.heap.size w w3 := below_then (B) hb3
    clear hb3
    have aA0 := DA.cell 0 _ rfl
    have aA1 := DA.cell 1 _ rfl
    have nA := DA.lt
    go_wp2_with fail
    refine (Y.out _).mono ?_
    rintro e w4 ⟨rfl, hb4⟩
    clear aA0 aA1 nA
    have DA := DA.below hb4
    have B : Below w.heap.size w w4 := below_then (B) hb4
    clear hb4
    have aA0 := DA.cell 0 _ rfl
    have aA1 := DA.cell 1 _ rfl
    have nA := DA.lt
    go_wp2
    go_ret
    exact ⟨rfl, by go_grown⟩
set_option maxHeartbeats 4000000 in
theorem ratio_big (h1 l1 b num den r : Int)
    (X : Hid (∀ W, Calls Tryd.prog 24 #[.agg #[.int .i64 h1, .int .u64 l1], .int .i64 b, .int .i64 num, .int .i64 den] W fun e w' => e = .returned (.tuple #[.int .i64 r, .int .i64 0]) ∧ Below W.heap.size W w'))
    (Y : Hid (∀ W, Calls Tryd.prog 25 #[.agg #[.int .i64 h1, .int .u64 l1], .int .i64 b, .int .i64 num, .int .i64 den] W fun e w' => e = .returned (.tuple #[.int .i64 r, .int .i64 0]) ∧ Below W.heap.size W w'))
    (hg : 1073741824 < b ∨ 1073741824 < den ∨ h1 ≠ 0 ∨ 1073741824 < l1 ∨ num < 0 ∨ 1073741824 < num) (w : World) (ht : Tab w) :
    Calls Tryd.prog 6 #[.agg #[.int .i64 h1, .int .u64 l1], .int .i64 b, .int .i64 num, .int .i64 den] w fun e w' => e = .returned (.bool true) ∧ Below w.heap.size w w' := by
  have K := Lib.hid known_any
  have HT := Lib.hid ht
  have OA := Lib.hid lawOf_any
  have k : (decide (1073741824 < b) = true) ∨ (decide (1073741824 < b) = false ∧ ((decide (1073741824 < den) = true) ∨ (decide (1073741824 < den) = false ∧ ((h1 == 0) = false ∨ ((h1 == 0) = true ∧ (decide (1073741824 < l1) = true ∨ (decide (1073741824 < l1) = false ∧ (decide (num < 0) = true ∨ (decide (num < 0) = false ∧ decide (1073741824 < num) = true))))))))) := by
    simp only [decide_eq_true_eq, decide_eq_false_iff_not, beq_iff_eq, beq_eq_false_iff_ne]
    omega
  clear ht hg
  rcases k with d1 | ⟨d1, d2 | ⟨d2, d3 | ⟨d3, d4 | ⟨d4, d5 | ⟨d5, d6⟩⟩⟩⟩⟩
  all_goals
    first | (have d7 : (h1 != 0) = true := by simpa using d3) | (have d7 : (h1 != 0) = false := by simpa using d3) | skip
    go_enter Tryd.func6, Tryd.ntmps6
    go_wp2_with fail
    refine (K.out _ (HT.out.below (below_cells _))).mono ?_
    rintro e w1 ⟨rfl, hb1⟩
    have DA : At w1 (w.heap.size) [.int .i64 h1, .int .u64 l1] := by have h := (At.new (w) #[.int .i64 h1, .int .u64 l1] 24).below hb1; simpa using h
    have B : Below w.heap.size w w1 := below_then (below_new (Below.refl _ _) (.cells #[.int .i64 h1, .int .u64 l1] 24)) hb1
    clear hb1
    have aA0 := DA.cell 0 _ rfl
    have aA1 := DA.cell 1 _ rfl
    have nA := DA.lt
    go_wp2_with fail
    refine (X.out _).mono ?_
    rintro e w2 ⟨rfl, hb2⟩
    clear aA0 aA1 nA
    have DA := DA.below hb2
    have B : Below w.heap.size w w2 := below_then (B) hb2
    clear hb2
    have aA0 := DA.cell 0 _ rfl
    have aA1 := DA.cell 1 _ rfl
    have nA := DA.lt
    go_wp2_with fail
    refine (OA.out _ _ _).mono ?_
    rintro e w3 ⟨rfl, hb3⟩
    clear aA0 aA1 nA
    have DA := DA.below hb3
    have B : Below w.heap.size w w3 := below_then (B) hb3
    clear hb3
    have aA0 := DA.cell 0 _ rfl
    have aA1 := DA.cell 1 _ rfl
    have nA := DA.lt
    go_wp2_with fail
    refine (Y.out _).mono ?_
    rintro e w4 ⟨rfl, hb4⟩
    clear aA0 aA1 nA
    have DA := DA.below hb4
    have B : Below w.heap.size w w4 := below_then (B) hb4
    clear hb4
    have aA0 := DA.cell 0 _ rfl
    have aA1 := DA.cell 1 _ rfl
    have nA := DA.lt
    go_wp2
    go_ret
    exact ⟨rfl, by go_grown⟩
set_option maxHeartbeats 4000000 in
theorem ratio_small (l1 b num den r x y : Int)
    (X : Hid (∀ W, Calls Tryd.prog 24 #[.agg #[.int .i64 0, .int .u64 l1], .int .i64 b, .int .i64 num, .int .i64 den] W fun e w' => e = .returned (.tuple #[.int .i64 r, .int .i64 0]) ∧ Below W.heap.size W w'))
    (Y : Hid (∀ W, Calls Tryd.prog 25 #[.agg #[.int .i64 0, .int .u64 l1], .int .i64 b, .int .i64 num, .int .i64 den] W fun e w' => e = .returned (.tuple #[.int .i64 r, .int .i64 0]) ∧ Below W.heap.size W w'))
    (e1 : IntKind.i64.wrap l1 = l1) (e2 : IntKind.i64.wrap (l1 * den) = x) (e3 : IntKind.i64.wrap (num * b) = y) (hr : r = cmpI x y)
    (d1 : decide (1073741824 < b) = false) (d2 : decide (1073741824 < den) = false) (d4 : decide (1073741824 < l1) = false) (d5 : decide (num < 0) = false) (d6 : decide (1073741824 < num) = false) (w : World) (ht : Tab w) :
    Calls Tryd.prog 6 #[.agg #[.int .i64 0, .int .u64 l1], .int .i64 b, .int .i64 num, .int .i64 den] w fun e w' => e = .returned (.bool true) ∧ Below w.heap.size w w' := by
  have K := Lib.hid known_any
  have HT := Lib.hid ht
  have OA := Lib.hid lawOf_any
  have k : (decide (x < y) = true ∧ r = -1) ∨ (decide (x < y) = false ∧ ((x == y) = true ∧ r = 0 ∨ ((x == y) = false ∧ decide (y < x) = true ∧ r = 1))) := by
    subst hr
    simp only [decide_eq_true_eq, decide_eq_false_iff_not, beq_iff_eq, beq_eq_false_iff_ne]
    rcases cmpI_cases x y with ⟨u, v⟩ | ⟨u, v⟩ | ⟨u, v⟩ <;> omega
  clear ht hr
  rcases k with ⟨d7, rfl⟩ | ⟨d7, ⟨d8, rfl⟩ | ⟨d8, d9, rfl⟩⟩
  all_goals
    go_enter Tryd.func6, Tryd.ntmps6
    go_wp2_with fail
    refine (K.out _ (HT.out.below (below_cells _))).mono ?_
    rintro e w1 ⟨rfl, hb1⟩
    have DA : At w1 (w.heap.size) [.int .i64 0, .int .u64 l1] := by have h := (At.new (w) #[.int .i64 0, .int .u64 l1] 24).below hb1; simpa using h
    have B : Below w.heap.size w w1 := below_then (below_new (Below.refl _ _) (.cells #[.int .i64 0, .int .u64 l1] 24)) hb1
    clear hb1
    have aA0 := DA.cell 0 _ rfl
    have aA1 := DA.cell 1 _ rfl
    have nA := DA.lt
    go_wp2_with fail
    refine (X.out _).mono ?_
    rintro e w2 ⟨rfl, hb2⟩
    clear aA0 aA1 nA
    have DA := DA.below hb2
    have B : Below w.heap.size w w2 := below_then (B) hb2
    clear hb2
    have aA0 := DA.cell 0 _ rfl
    have aA1 := DA.cell 1 _ rfl
    have nA := DA.lt
    go_wp2_with fail
    refine (OA.out _ _ _).mono ?_
    rintro e w3 ⟨rfl, hb3⟩
    clear aA0 aA1 nA
    have DA := DA.below hb3
    have B : Below w.heap.size w w3 := below_then (B) hb3
    clear hb3
    have aA0 := DA.cell 0 _ rfl
    have aA1 := DA.cell 1 _ rfl
    have nA := DA.lt
    go_wp2_with fail
    refine (Y.out _).mono ?_
    rintro e w4 ⟨rfl, hb4⟩
    clear aA0 aA1 nA
    have DA := DA.below hb4
    have B : Below w.heap.size w w4 := below_then (B) hb4
    clear hb4
    have aA0 := DA.cell 0 _ rfl
    have aA1 := DA.cell 1 _ rfl
    have nA := DA.lt
    go_wp2
    go_ret
    exact ⟨rfl, by go_grown⟩
theorem ratio_law (h1 l1 b num den : Int) (i1 : InI h1 l1) (hb : I64 b) (hn : I64 num) (hd : I64 den) (w : World) (ht : Tab w) :
    Calls Tryd.prog 6 #[.agg #[.int .i64 h1, .int .u64 l1], .int .i64 b, .int .i64 num, .int .i64 den] w fun e w' => e = .returned (.bool true) ∧ Below w.heap.size w w' := by
  by_cases h : b < 1 ∨ den < 1
  · exact ratio_no h1 l1 b num den h w ht
  · have X := Lib.hid (fun W => Ratio_ok h1 l1 b num den i1 (by omega) hb hn (by omega) hd W)
    have Y : Hid (∀ W, Calls Tryd.prog 25 #[.agg #[.int .i64 h1, .int .u64 l1], .int .i64 b, .int .i64 num, .int .i64 den] W fun e w' => e = .returned (.tuple #[.int .i64 (cmpI (val h1 l1 * den) (num * b)), .int .i64 0]) ∧ Below W.heap.size W w') := by
      unfold I64 at hb hd
      obtain ⟨b, rfl⟩ := Int.eq_ofNat_of_zero_le (a := b) (by omega)
      obtain ⟨d, rfl⟩ := Int.eq_ofNat_of_zero_le (a := den) (by omega)
      exact fun W => ref_ratio_ok h1 l1 num b d i1 hn (by omega) (by omega) (by omega) (by omega) W
    by_cases hg : 1073741824 < b ∨ 1073741824 < den ∨ h1 ≠ 0 ∨ 1073741824 < l1 ∨ num < 0 ∨ 1073741824 < num
    · exact ratio_big h1 l1 b num den _ X Y hg w ht
    · obtain rfl : h1 = 0 := by omega
      have j := i1
      obtain ⟨_, _, j1, j2⟩ := j
      have m1 : -((1073741824 * 1073741824 : Nat) : Int) ≤ l1 * den ∧ l1 * den ≤ ((1073741824 * 1073741824 : Nat) : Int) := mul_bd2 l1 den _ _ (by omega) (by omega)
      have m2 : -((1073741824 * 1073741824 : Nat) : Int) ≤ num * b ∧ num * b ≤ ((1073741824 * 1073741824 : Nat) : Int) := mul_bd2 num b _ _ (by omega) (by omega)
      have hv : val 0 l1 = l1 := by unfold val; omega
      rw [hv] at X Y
      exact ratio_small l1 b num den _ (l1 * den) (num * b) X Y (by rw [IntKind.wrap_i64]; omega) (by rw [IntKind.wrap_i64]; omega) (by rw [IntKind.wrap_i64]; omega) rfl
        (by simp; omega) (by simp; omega) (by simp; omega) (by simp; omega) (by simp; omega) w ht
end Go.Proofs.YtmggiclikbacjaaDoor
