/- The reference's Ratio. -/
import Derived.Test.YtmggiclikbacjaaDoorRefF
namespace Go.Proofs.YtmggiclikbacjaaDoor
open Go Go.Proofs Go.RowKit
set_option maxRecDepth 100000
attribute [local go_sem] cell_set
theorem ref_ratio_no (h1 l1 b num den : Int) (hd : b < 1 ∨ den < 1) (W : World) :
    Calls Tryd.prog 25 #[.agg #[.int .i64 h1, .int .u64 l1], .int .i64 b, .int .i64 num, .int .i64 den] W fun e w' => e = .returned (.tuple #[.int .i64 0, .int .i64 1]) ∧ Below W.heap.size W w' := by
  by_cases hb : b < 1
  · clear hd
    go_enter Tryd.func25, Tryd.ntmps25
    go_wp2
    go_returns
    exact ⟨rfl, by go_grown⟩
  · have hd' : den < 1 := by omega
    clear hd
    go_enter Tryd.func25, Tryd.ntmps25
    go_wp2
    go_returns
    exact ⟨rfl, by go_grown⟩
theorem limbs3 (N : Nat) : ∃ x2 x1 x0 : Nat, x1 < 18446744073709551616 ∧ x0 < 18446744073709551616 ∧ x2 * 340282366920938463463374607431768211456 + x1 * 18446744073709551616 + x0 = N :=
  ⟨N / 340282366920938463463374607431768211456, N / 18446744073709551616 % 18446744073709551616, N % 18446744073709551616, by omega, by omega, by omega⟩
theorem abs_mul_nat (v : Int) (d : Nat) : ((v.natAbs * d : Nat) : Int) = if v < 0 then -(v * d) else v * d := by
  rw [Int.natCast_mul]
  split
  · rw [show ((v.natAbs : Nat) : Int) = -v by omega, Int.neg_mul]
  · rw [show ((v.natAbs : Nat) : Int) = v by omega]
theorem cmpI_neg2 (x y : Int) : cmpI (-y) (-x) = cmpI x y := by unfold cmpI; split <;> split <;> (try split) <;> (try split) <;> omega
theorem mul_neg_nat (v : Int) (d : Nat) (hv : v < 0) (hd : 1 ≤ d) : v * d < 0 := Int.mul_neg_of_neg_of_pos hv (by omega)
theorem mul_nn_nat (v : Int) (d : Nat) (hv : 0 ≤ v) : 0 ≤ v * d := Int.mul_nonneg hv (by omega)
set_option maxHeartbeats 2000000 in
theorem ref_ratio_ok (h1 l1 num : Int) (b d : Nat) (i1 : InI h1 l1) (hn : I64 num) (hb : 1 ≤ b) (hb' : b ≤ 9223372036854775807) (hd : 1 ≤ d) (hd' : d ≤ 9223372036854775807) (W : World) :
    Calls Tryd.prog 25 #[.agg #[.int .i64 h1, .int .u64 l1], .int .i64 b, .int .i64 num, .int .i64 d] W fun e w' => e = .returned (.tuple #[.int .i64 (cmpI (val h1 l1 * d) (num * b)), .int .i64 0]) ∧ Below W.heap.size W w' := by
  have s1 : h1 < 0 ↔ val h1 l1 < 0 := by obtain ⟨_, _, _, _⟩ := i1; unfold val; omega
  have g1 : decide ((b : Int) < 1) = false := by simp; omega
  have g2 : decide ((d : Int) < 1) = false := by simp; omega
  have g3 : decide (b = 0) = false := by simp; omega
  have g4 : decide (d = 0) = false := by simp; omega
  have g5 : (b == 0) = false := by simp; omega
  have g6 : (d == 0) = false := by simp; omega
  have am := abs_mul_nat (val h1 l1) d
  have an := abs_mul_nat num b
  by_cases x1 : h1 < 0 <;> by_cases x2 : num < 0
  all_goals
    first | (have d1 : decide (h1 < 0) = true := by simpa using x1) | (have d1 : decide (h1 < 0) = false := by simpa using x1)
    first | (have d2 : decide (num < 0) = true := by simpa using x2) | (have d2 : decide (num < 0) = false := by simpa using x2)
    simp only [← s1, x1, x2, if_true, if_false] at am an
  · have hc : cmpI (val h1 l1 * d) (num * b) = cmpI ((num.natAbs * b : Nat) : Int) (((val h1 l1).natAbs * d : Nat) : Int) := by
      rw [am, an, cmpI_neg2]
    obtain ⟨ph, pl, p1, p2, p3, P⟩ := plain_any h1 l1 i1
    obtain ⟨x2', x1', x0', y1, y0, xv⟩ := limbs3 ((val h1 l1).natAbs * d)
    obtain ⟨z2', z1', z0', t1, t0, zv⟩ := limbs3 (num.natAbs * b)
    have PP := Lib.hid P
    have SZ := Lib.hid (fun W => size_any num hn W)
    unfold I64 at hn
    have TX := Lib.hid (fun W => three_any ph pl d x2' x1' x0' p1 p2 (by omega) y1 y0 (by rw [xv, p3]) W)
    have TY := Lib.hid (fun W => three_any 0 num.natAbs b z2' z1' z0' (by omega) (by omega) (by omega) t1 t0 (by rw [zv]; simp) W)
    have OV := Lib.hid (fun W => over_any z2' z1' z0' x2' x1' x0' t1 t0 y1 y0 W)
    have e1 : IntKind.u64.wrap (d : Int) = (d : Int) := by rw [IntKind.wrap_u64]; omega
    have e2 : IntKind.u64.wrap (b : Int) = (b : Int) := by rw [IntKind.wrap_u64]; omega
    rw [hc, ← xv, ← zv]
    generalize cmpI _ _ = c at *
    generalize num.natAbs = nn at *
    clear s1 am an i1 hn hb hb' hd hd' hc P p1 p2 p3 y1 y0 xv t1 t0 zv
    go_enter Tryd.func25, Tryd.ntmps25
    go_wp2_with fail
    refine (PP.out _).mono ?_
    rintro e w1 ⟨rfl, hb1⟩
    have DA : At w1 (W.heap.size) [.int .i64 h1, .int .u64 l1] := by have h := (At.new (W) #[.int .i64 h1, .int .u64 l1] 29).below hb1; simpa using h
    have B : Below W.heap.size W w1 := below_then (below_new (Below.refl _ _) (.cells #[.int .i64 h1, .int .u64 l1] 29)) hb1
    clear hb1
    have aA0 := DA.cell 0 _ rfl
    have aA1 := DA.cell 1 _ rfl
    have nA := DA.lt
    go_wp2_with fail
    refine (TX.out _).mono ?_
    rintro e w2 ⟨rfl, hb2⟩
    clear aA0 aA1 nA
    have DA := DA.below hb2
    have B : Below W.heap.size W w2 := below_then (B) hb2
    clear hb2
    have aA0 := DA.cell 0 _ rfl
    have aA1 := DA.cell 1 _ rfl
    have nA := DA.lt
    go_wp2_with fail
    refine (SZ.out _).mono ?_
    rintro e w0 ⟨rfl, rfl⟩
    go_wp2_with fail
    refine (TY.out _).mono ?_
    rintro e w3 ⟨rfl, hb3⟩
    clear aA0 aA1 nA
    have DA := (DA.alloc (.cells #[.int .u64 x2', .int .u64 x1', .int .u64 x0'] 58)).below hb3
    have DX : At w3 (w2.heap.size) [.int .u64 x2', .int .u64 x1', .int .u64 x0'] := by have h := (At.new (w2) #[.int .u64 x2', .int .u64 x1', .int .u64 x0'] 58).below hb3; simpa using h
    have B : Below W.heap.size W w3 := below_then (below_new (B) (.cells #[.int .u64 x2', .int .u64 x1', .int .u64 x0'] 58)) hb3
    clear hb3
    have aA0 := DA.cell 0 _ rfl
    have aA1 := DA.cell 1 _ rfl
    have nA := DA.lt
    have aX0 := DX.cell 0 _ rfl
    have aX1 := DX.cell 1 _ rfl
    have aX2 := DX.cell 2 _ rfl
    have nX := DX.lt
    go_wp2_with fail
    refine (OV.out _).mono ?_
    rintro e w4 ⟨rfl, hb4⟩
    clear aA0 aA1 nA aX0 aX1 aX2 nX
    have DA := (DA.alloc (.cells #[.int .u64 z2', .int .u64 z1', .int .u64 z0'] 58)).below hb4
    have DX := (DX.alloc (.cells #[.int .u64 z2', .int .u64 z1', .int .u64 z0'] 58)).below hb4
    have DY : At w4 (w3.heap.size) [.int .u64 z2', .int .u64 z1', .int .u64 z0'] := by have h := (At.new (w3) #[.int .u64 z2', .int .u64 z1', .int .u64 z0'] 58).below hb4; simpa using h
    have B : Below W.heap.size W w4 := below_then (below_new (B) (.cells #[.int .u64 z2', .int .u64 z1', .int .u64 z0'] 58)) hb4
    clear hb4
    have aA0 := DA.cell 0 _ rfl
    have aA1 := DA.cell 1 _ rfl
    have nA := DA.lt
    have aX0 := DX.cell 0 _ rfl
    have aX1 := DX.cell 1 _ rfl
    have aX2 := DX.cell 2 _ rfl
    have nX := DX.lt
    have aY0 := DY.cell 0 _ rfl
    have aY1 := DY.cell 1 _ rfl
    have aY2 := DY.cell 2 _ rfl
    have nY := DY.lt
    go_wp2_with fail
    go_ret2
    exact ⟨rfl, by go_grown⟩
  · have hc : cmpI (val h1 l1 * d) (num * b) = -1 := by
      have u := mul_neg_nat (val h1 l1) d (s1.1 x1) hd
      have v := mul_nn_nat num b (by omega)
      unfold cmpI; rw [if_pos (by omega)]
    rw [hc]
    clear hc s1 am an i1 hn hb hb' hd hd'
    go_enter Tryd.func25, Tryd.ntmps25
    go_wp2
    go_ret2
    exact ⟨rfl, by go_grown⟩
  · have hc : cmpI (val h1 l1 * d) (num * b) = 1 := by
      have u := mul_neg_nat num b x2 hb
      have v := mul_nn_nat (val h1 l1) d (by omega)
      unfold cmpI; rw [if_neg (by omega), if_pos (by omega)]
    rw [hc]
    clear hc s1 am an i1 hn hb hb' hd hd'
    go_enter Tryd.func25, Tryd.ntmps25
    go_wp2
    go_ret2
    exact ⟨rfl, by go_grown⟩
  · have hc : cmpI (val h1 l1 * d) (num * b) = cmpI (((val h1 l1).natAbs * d : Nat) : Int) ((num.natAbs * b : Nat) : Int) := by
      rw [am, an]
    obtain ⟨ph, pl, p1, p2, p3, P⟩ := plain_any h1 l1 i1
    obtain ⟨x2', x1', x0', y1, y0, xv⟩ := limbs3 ((val h1 l1).natAbs * d)
    obtain ⟨z2', z1', z0', t1, t0, zv⟩ := limbs3 (num.natAbs * b)
    have PP := Lib.hid P
    have SZ := Lib.hid (fun W => size_any num hn W)
    unfold I64 at hn
    have TX := Lib.hid (fun W => three_any ph pl d x2' x1' x0' p1 p2 (by omega) y1 y0 (by rw [xv, p3]) W)
    have TY := Lib.hid (fun W => three_any 0 num.natAbs b z2' z1' z0' (by omega) (by omega) (by omega) t1 t0 (by rw [zv]; simp) W)
    have OV := Lib.hid (fun W => over_any x2' x1' x0' z2' z1' z0' y1 y0 t1 t0 W)
    have e1 : IntKind.u64.wrap (d : Int) = (d : Int) := by rw [IntKind.wrap_u64]; omega
    have e2 : IntKind.u64.wrap (b : Int) = (b : Int) := by rw [IntKind.wrap_u64]; omega
    rw [hc, ← xv, ← zv]
    generalize cmpI _ _ = c at *
    generalize num.natAbs = nn at *
    clear s1 am an i1 hn hb hb' hd hd' hc P p1 p2 p3 y1 y0 xv t1 t0 zv
    go_enter Tryd.func25, Tryd.ntmps25
    go_wp2_with fail
    refine (PP.out _).mono ?_
    rintro e w1 ⟨rfl, hb1⟩
    have DA : At w1 (W.heap.size) [.int .i64 h1, .int .u64 l1] := by have h := (At.new (W) #[.int .i64 h1, .int .u64 l1] 29).below hb1; simpa using h
    have B : Below W.heap.size W w1 := below_then (below_new (Below.refl _ _) (.cells #[.int .i64 h1, .int .u64 l1] 29)) hb1
    clear hb1
    have aA0 := DA.cell 0 _ rfl
    have aA1 := DA.cell 1 _ rfl
    have nA := DA.lt
    go_wp2_with fail
    refine (TX.out _).mono ?_
    rintro e w2 ⟨rfl, hb2⟩
    clear aA0 aA1 nA
    have DA := DA.below hb2
    have B : Below W.heap.size W w2 := below_then (B) hb2
    clear hb2
    have aA0 := DA.cell 0 _ rfl
    have aA1 := DA.cell 1 _ rfl
    have nA := DA.lt
    go_wp2_with fail
    refine (SZ.out _).mono ?_
    rintro e w0 ⟨rfl, rfl⟩
    go_wp2_with fail
    refine (TY.out _).mono ?_
    rintro e w3 ⟨rfl, hb3⟩
    clear aA0 aA1 nA
    have DA := (DA.alloc (.cells #[.int .u64 x2', .int .u64 x1', .int .u64 x0'] 58)).below hb3
    have DX : At w3 (w2.heap.size) [.int .u64 x2', .int .u64 x1', .int .u64 x0'] := by have h := (At.new (w2) #[.int .u64 x2', .int .u64 x1', .int .u64 x0'] 58).below hb3; simpa using h
    have B : Below W.heap.size W w3 := below_then (below_new (B) (.cells #[.int .u64 x2', .int .u64 x1', .int .u64 x0'] 58)) hb3
    clear hb3
    have aA0 := DA.cell 0 _ rfl
    have aA1 := DA.cell 1 _ rfl
    have nA := DA.lt
    have aX0 := DX.cell 0 _ rfl
    have aX1 := DX.cell 1 _ rfl
    have aX2 := DX.cell 2 _ rfl
    have nX := DX.lt
    go_wp2_with fail
    refine (OV.out _).mono ?_
    rintro e w4 ⟨rfl, hb4⟩
    clear aA0 aA1 nA aX0 aX1 aX2 nX
    have DA := (DA.alloc (.cells #[.int .u64 z2', .int .u64 z1', .int .u64 z0'] 58)).below hb4
    have DX := (DX.alloc (.cells #[.int .u64 z2', .int .u64 z1', .int .u64 z0'] 58)).below hb4
    have DY : At w4 (w3.heap.size) [.int .u64 z2', .int .u64 z1', .int .u64 z0'] := by have h := (At.new (w3) #[.int .u64 z2', .int .u64 z1', .int .u64 z0'] 58).below hb4; simpa using h
    have B : Below W.heap.size W w4 := below_then (below_new (B) (.cells #[.int .u64 z2', .int .u64 z1', .int .u64 z0'] 58)) hb4
    clear hb4
    have aA0 := DA.cell 0 _ rfl
    have aA1 := DA.cell 1 _ rfl
    have nA := DA.lt
    have aX0 := DX.cell 0 _ rfl
    have aX1 := DX.cell 1 _ rfl
    have aX2 := DX.cell 2 _ rfl
    have nX := DX.lt
    have aY0 := DY.cell 0 _ rfl
    have aY1 := DY.cell 1 _ rfl
    have aY2 := DY.cell 2 _ rfl
    have nY := DY.lt
    go_wp2_with fail
    go_ret2
    exact ⟨rfl, by go_grown⟩
end Go.Proofs.YtmggiclikbacjaaDoor
