/- The reference's size, three, over, plain. -/
import Derived.Test.YtmggiclikbacjaaDoorRefD
namespace Go.Proofs.YtmggiclikbacjaaDoor
open Go Go.Proofs Go.RowKit
set_option maxRecDepth 100000
attribute [local go_sem] cell_set
theorem ret_intE {k : IntKind} {a b : Int} (h : a = b) : Ending.returned (.int k a) = .returned (.int k b) := by rw [h]
theorem size_any (n : Int) (hn : I64 n) (W : World) :
    Calls Tryd.prog 45 #[.int .i64 n] W fun e w' => e = .returned (.int .u64 ((n.natAbs : Nat) : Int)) ∧ W = w' := by
  unfold I64 at hn
  by_cases hc : n < 0
  · have e1 : IntKind.u64.wrap (-IntKind.u64.wrap n) = ((n.natAbs : Nat) : Int) := by rw [IntKind.wrap_u64, IntKind.wrap_u64]; omega
    go_enter Tryd.func45, Tryd.ntmps45
    go_wp2
    go_ret
    exact ⟨rfl, rfl⟩
  · have e1 : IntKind.u64.wrap n = ((n.natAbs : Nat) : Int) := by rw [IntKind.wrap_u64]; omega
    go_enter Tryd.func45, Tryd.ntmps45
    go_wp2
    go_ret
    exact ⟨rfl, rfl⟩
theorem three_nat (hi lo b x2 x1 x0 : Nat) (hh : hi < 18446744073709551616) (hl : lo < 18446744073709551616) (hb : b < 18446744073709551616)
    (h1 : x1 < 18446744073709551616) (h0 : x0 < 18446744073709551616) (hv : x2 * 340282366920938463463374607431768211456 + x1 * 18446744073709551616 + x0 = (hi * 18446744073709551616 + lo) * b) :
    lo * b % 18446744073709551616 = x0 ∧
    ((hi * b % 18446744073709551616 + lo * b / 18446744073709551616 < 18446744073709551616 ∧ x1 = hi * b % 18446744073709551616 + lo * b / 18446744073709551616 ∧ x2 = hi * b / 18446744073709551616) ∨
     (¬ hi * b % 18446744073709551616 + lo * b / 18446744073709551616 < 18446744073709551616 ∧ x1 = hi * b % 18446744073709551616 + lo * b / 18446744073709551616 - 18446744073709551616 ∧ x2 = hi * b / 18446744073709551616 + 1)) ∧ hi * b / 18446744073709551616 < 18446744073709551615 ∧ lo * b / 18446744073709551616 < 18446744073709551616 := by
  have e : (hi * 18446744073709551616 + lo) * b = hi * b * 18446744073709551616 + lo * b := by rw [Nat.add_mul, Nat.mul_right_comm]
  have b1 : hi * b ≤ 18446744073709551615 * 18446744073709551615 := Nat.mul_le_mul (by omega) (by omega)
  have b2 : lo * b ≤ 18446744073709551615 * 18446744073709551615 := Nat.mul_le_mul (by omega) (by omega)
  rw [e] at hv
  generalize hi * b = p at *
  generalize lo * b = q at *
  omega
set_option maxHeartbeats 1000000 in
theorem three_any (hi lo b x2 x1 x0 : Nat) (hh : hi < 18446744073709551616) (hl : lo < 18446744073709551616) (hb : b < 18446744073709551616)
    (h1 : x1 < 18446744073709551616) (h0 : x0 < 18446744073709551616) (hv : x2 * 340282366920938463463374607431768211456 + x1 * 18446744073709551616 + x0 = (hi * 18446744073709551616 + lo) * b) (W : World) :
    Calls Tryd.prog 49 #[.int .u64 hi, .int .u64 lo, .int .u64 b] W fun e w' => e = .returned (.agg #[.int .u64 x2, .int .u64 x1, .int .u64 x0]) ∧ Below W.heap.size W w' := by
  obtain ⟨k0, k, kg, kh⟩ := three_nat hi lo b x2 x1 x0 hh hl hb h1 h0 hv
  have HA := Lib.hid (fun W => half_any lo b hl hb W)
  have HB := Lib.hid (fun W => half_any hi b hh hb W)
  rw [k0] at HA
  generalize lo * b / 18446744073709551616 = h at *
  generalize hi * b / 18446744073709551616 = g at *
  have km : hi * b % 18446744073709551616 < 18446744073709551616 := Nat.mod_lt _ (by omega)
  generalize hi * b % 18446744073709551616 = m at *
  clear hv k0
  rcases k with ⟨a1, a2, a3⟩ | ⟨a1, a2, a3⟩
  · have e1 : IntKind.u64.wrap ((m : Int) + (h : Int)) = (x1 : Int) := by rw [IntKind.wrap_u64]; omega
    have d1 : decide (x1 < m) = false := by simp; omega
    subst a3
    have E1 := Lib.hid e1
    clear hh hl hb h1 h0 kg kh km a1 a2 e1
    go_enter Tryd.func49, Tryd.ntmps49
    go_wp2_with fail
    refine (HA.out _).mono ?_
    rintro e w1 ⟨rfl, rfl⟩
    go_wp2_with fail
    refine (HB.out _).mono ?_
    rintro e w1 ⟨rfl, rfl⟩
    have e1 := E1.out
    go_wp2
    go_returns
    exact ⟨rfl, by go_grown⟩
  · have e1 : IntKind.u64.wrap ((m : Int) + (h : Int)) = (x1 : Int) := by rw [IntKind.wrap_u64]; omega
    have d1 : decide (x1 < m) = true := by simp; omega
    have e2 : IntKind.u64.wrap ((g : Int) + 1) = (x2 : Int) := by rw [IntKind.wrap_u64]; omega
    have E1 := Lib.hid e1
    have E2 := Lib.hid e2
    clear hh hl hb h1 h0 kg kh km a1 a2 a3 e1 e2
    go_enter Tryd.func49, Tryd.ntmps49
    go_wp2_with fail
    refine (HA.out _).mono ?_
    rintro e w1 ⟨rfl, rfl⟩
    go_wp2_with fail
    refine (HB.out _).mono ?_
    rintro e w1 ⟨rfl, rfl⟩
    have e1 := E1.out
    have e2 := E2.out
    go_wp2
    go_returns
    exact ⟨rfl, by go_grown⟩
theorem wrap_exN (v : Int) : ∃ h l k : Int, InI h l ∧ val h l = v + k * 340282366920938463463374607431768211456 := by
  refine ⟨wrap64 (v / 18446744073709551616), v % 18446744073709551616, ?_⟩
  have e : ∃ k : Int, wrap64 (v / 18446744073709551616) = v / 18446744073709551616 + k * 18446744073709551616 := ⟨(wrap64 (v / 18446744073709551616) - v / 18446744073709551616) / 18446744073709551616, by unfold wrap64; omega⟩
  obtain ⟨k, hk⟩ := e
  refine ⟨k, ⟨by unfold wrap64; omega, by unfold wrap64; omega, by omega, by omega⟩, by rw [hk]; unfold val; omega⟩
theorem plain_any (h1 l1 : Int) (i1 : InI h1 l1) : ∃ ph pl : Nat, ph < 18446744073709551616 ∧ pl < 18446744073709551616 ∧ ph * 18446744073709551616 + pl = (val h1 l1).natAbs ∧ ∀ W,
    Calls Tryd.prog 48 #[.agg #[.int .i64 h1, .int .u64 l1]] W fun e w' => e = .returned (.tuple #[.int .u64 ph, .int .u64 pl]) ∧ Below W.heap.size W w' := by
  have j := i1
  obtain ⟨p1, p2, p3, p4⟩ := j
  by_cases hc : h1 < 0
  · obtain ⟨h, l, k, i, v⟩ := wrap_exN (- val h1 l1)
    have M := Lib.hid (fun W => ref_minus h1 l1 h l k i1 i v W)
    have q := i
    obtain ⟨q1, q2, q3, q4⟩ := q
    have e1 : (((h % 18446744073709551616).toNat : Nat) : Int) = IntKind.u64.wrap h := by rw [IntKind.wrap_u64]; omega
    have e2 : ((l.toNat : Nat) : Int) = l := by omega
    refine ⟨(h % 18446744073709551616).toNat, l.toNat, by omega, by omega, by unfold val at *; omega, fun W => ?_⟩
    rw [e1, e2]
    clear e1 e2 q1 q2 q3 q4 p1 p2 p3 p4 v i i1
    go_enter Tryd.func48, Tryd.ntmps48
    go_wp2_with fail
    refine (M.out _).mono ?_
    rintro e w1 ⟨rfl, hb1⟩
    have DA : At w1 (W.heap.size) [.int .i64 h1, .int .u64 l1] := by have h := (At.new (W) #[.int .i64 h1, .int .u64 l1] 29).below hb1; simpa using h
    have B : Below W.heap.size W w1 := below_then (below_new (Below.refl _ _) (.cells #[.int .i64 h1, .int .u64 l1] 29)) hb1
    clear hb1
    have aA0 := DA.cell 0 _ rfl
    have aA1 := DA.cell 1 _ rfl
    have nA := DA.lt
    go_wp2_with fail
    go_quiet (fail)
    go_wp2
    go_ret2
    exact ⟨rfl, below_drewN (by go_grown) _⟩
  · have e1 : ((h1.toNat : Nat) : Int) = h1 := by omega
    have e2 : ((l1.toNat : Nat) : Int) = l1 := by omega
    have e3 : IntKind.u64.wrap h1 = h1 := by rw [IntKind.wrap_u64]; omega
    refine ⟨h1.toNat, l1.toNat, by omega, by omega, by unfold val; omega, fun W => ?_⟩
    rw [e1, e2]
    clear e1 e2 p1 p2 p3 p4 i1
    go_enter Tryd.func48, Tryd.ntmps48
    go_wp2_with fail
    go_quiet (fail)
    go_wp2
    go_ret2
    exact ⟨rfl, below_drewN (by go_grown) _⟩
theorem over_cases (a2 a1 a0 b2 b1 b0 : Nat) (ha1 : a1 < 18446744073709551616) (ha0 : a0 < 18446744073709551616) (hb1 : b1 < 18446744073709551616) (hb0 : b0 < 18446744073709551616) :
    (a2 < b2 ∨ a2 = b2 ∧ (a1 < b1 ∨ a1 = b1 ∧ a0 < b0)) ∧ cmpI ((a2 * 340282366920938463463374607431768211456 + a1 * 18446744073709551616 + a0 : Nat) : Int) ((b2 * 340282366920938463463374607431768211456 + b1 * 18446744073709551616 + b0 : Nat) : Int) = -1 ∨
    (b2 < a2 ∨ a2 = b2 ∧ (b1 < a1 ∨ a1 = b1 ∧ b0 < a0)) ∧ cmpI ((a2 * 340282366920938463463374607431768211456 + a1 * 18446744073709551616 + a0 : Nat) : Int) ((b2 * 340282366920938463463374607431768211456 + b1 * 18446744073709551616 + b0 : Nat) : Int) = 1 ∨
    (a2 = b2 ∧ a1 = b1 ∧ a0 = b0) ∧ cmpI ((a2 * 340282366920938463463374607431768211456 + a1 * 18446744073709551616 + a0 : Nat) : Int) ((b2 * 340282366920938463463374607431768211456 + b1 * 18446744073709551616 + b0 : Nat) : Int) = 0 := by
  rcases cmpI_cases ((a2 * 340282366920938463463374607431768211456 + a1 * 18446744073709551616 + a0 : Nat) : Int) ((b2 * 340282366920938463463374607431768211456 + b1 * 18446744073709551616 + b0 : Nat) : Int) with ⟨x, y⟩ | ⟨x, y⟩ | ⟨x, y⟩
  · left; exact ⟨by omega, y⟩
  · right; right; exact ⟨by omega, y⟩
  · right; left; exact ⟨by omega, y⟩
set_option maxHeartbeats 2000000 in
theorem over_any (a2 a1 a0 b2 b1 b0 : Nat) (ha1 : a1 < 18446744073709551616) (ha0 : a0 < 18446744073709551616) (hb1 : b1 < 18446744073709551616) (hb0 : b0 < 18446744073709551616) (W : World) :
    Calls Tryd.prog 50 #[.agg #[.int .u64 a2, .int .u64 a1, .int .u64 a0], .agg #[.int .u64 b2, .int .u64 b1, .int .u64 b0]] W fun e w' =>
      e = .returned (.int .i64 (cmpI ((a2 * 340282366920938463463374607431768211456 + a1 * 18446744073709551616 + a0 : Nat) : Int) ((b2 * 340282366920938463463374607431768211456 + b1 * 18446744073709551616 + b0 : Nat) : Int))) ∧ Below W.heap.size W w' := by
  have hh := over_cases a2 a1 a0 b2 b1 b0 ha1 ha0 hb1 hb0
  clear ha1 ha0 hb1 hb0
  generalize cmpI _ _ = c at *
  have k : (∃ x : Int, (decide (a2 < b2) = true ∧ x = -1 ∨ decide (a2 < b2) = false ∧ (decide (b2 < a2) = true ∧ x = 1 ∨ decide (b2 < a2) = false ∧ (decide (a1 < b1) = true ∧ x = -1 ∨ decide (a1 < b1) = false ∧ (decide (b1 < a1) = true ∧ x = 1 ∨ decide (b1 < a1) = false ∧ (decide (a0 < b0) = true ∧ x = -1 ∨ decide (a0 < b0) = false ∧ (decide (b0 < a0) = true ∧ x = 1 ∨ decide (b0 < a0) = false ∧ x = 0)))))) ∧ c = x) := by
    refine ⟨c, ?_, rfl⟩
    simp only [decide_eq_true_eq, decide_eq_false_iff_not]
    omega
  obtain ⟨x, k, rfl⟩ := k
  clear hh
  rcases k with ⟨d1, rfl⟩ | ⟨d1, ⟨d2, rfl⟩ | ⟨d2, ⟨d3, rfl⟩ | ⟨d3, ⟨d4, rfl⟩ | ⟨d4, ⟨d5, rfl⟩ | ⟨d5, ⟨d6, rfl⟩ | ⟨d6, rfl⟩⟩⟩⟩⟩⟩
  all_goals
    go_enter Tryd.func50, Tryd.ntmps50
    go_wp2_with fail
    refine wp_loop_rounds 4 ?_
    iterate 4 (try (rw [rounds_succ]; go_wp2_with fail; (try (go_quiet (fail); go_wp2_with fail)); (try (go_quiet (fail); go_wp2_with fail))))
    go_ret
    exact ⟨rfl, by repeat (refine below_drewN ?_ _)
                   go_grown⟩
end Go.Proofs.YtmggiclikbacjaaDoor
