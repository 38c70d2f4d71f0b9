/- The reference's Mul. -/
import Derived.Test.YtmggiclikbacjaaDoorRefE
namespace Go.Proofs.YtmggiclikbacjaaDoor
open Go Go.Proofs Go.RowKit
set_option maxRecDepth 100000
attribute [local go_sem] cell_set
theorem absmul (a b : Int) : ((a.natAbs * b.natAbs : Nat) : Int) = if (a < 0) ↔ (b < 0) then a * b else -(a * b) := by
  rw [Int.natCast_mul]
  by_cases ha : a < 0 <;> by_cases hb : b < 0 <;> simp only [ha, hb, if_true, if_false, iff_true, iff_false, not_true]
  · rw [show ((a.natAbs : Nat) : Int) = -a by omega, show ((b.natAbs : Nat) : Int) = -b by omega, Int.neg_mul_neg]
  · rw [show ((a.natAbs : Nat) : Int) = -a by omega, show ((b.natAbs : Nat) : Int) = b by omega, Int.neg_mul]
  · rw [show ((a.natAbs : Nat) : Int) = a by omega, show ((b.natAbs : Nat) : Int) = -b by omega, Int.mul_neg]
  · rw [show ((a.natAbs : Nat) : Int) = a by omega, show ((b.natAbs : Nat) : Int) = b by omega]
theorem ref_mul (a b h l : Int) (ha : I64 a) (hb : I64 b) (i : InI h l) (v : val h l = a * b) (W : World) :
    Calls Tryd.prog 20 #[.int .i64 a, .int .i64 b] W fun e w' => e = .returned (.agg #[.int .i64 h, .int .u64 l]) ∧ Below W.heap.size W w' := by
  have SA := Lib.hid (fun W => size_any a ha W)
  have SB := Lib.hid (fun W => size_any b hb W)
  unfold I64 at ha hb
  have HA := Lib.hid (fun W => half_any a.natAbs b.natAbs (by omega) (by omega) W)
  have bd : a.natAbs * b.natAbs ≤ 9223372036854775808 * 9223372036854775808 := Nat.mul_le_mul (by omega) (by omega)
  have am := absmul a b
  generalize a.natAbs * b.natAbs = m at *
  have q : ∃ hi lo : Int, hi = ((m / 18446744073709551616 : Nat) : Int) ∧ lo = ((m % 18446744073709551616 : Nat) : Int) := ⟨_, _, rfl, rfl⟩
  obtain ⟨hi, lo, q1, q2⟩ := q
  have jn : InI hi lo := ⟨by omega, by omega, by omega, by omega⟩
  have jv : val hi lo = (m : Int) := by unfold val; omega
  have e1 : IntKind.i64.wrap hi = hi := by rw [IntKind.wrap_i64]; omega
  rw [← q1, ← q2] at HA
  have E1 := Lib.hid e1
  clear ha hb bd e1 q1 q2
  by_cases xa : a < 0 <;> by_cases xb : b < 0
  all_goals
    first | (have d1 : decide (a < 0) = true := by simpa using xa) | (have d1 : decide (a < 0) = false := by simpa using xa)
    first | (have d2 : decide (b < 0) = true := by simpa using xb) | (have d2 : decide (b < 0) = false := by simpa using xb)
    simp only [xa, xb, if_true, if_false, iff_true, iff_false, not_true] at am
  · obtain ⟨r1, r2⟩ := val_inj i jn (by rw [v, jv, am])
    subst r1 r2
    clear am v jv jn i
    have e1 := E1.out
    go_enter Tryd.func20, Tryd.ntmps20
    go_wp2_with fail
    refine (SA.out _).mono ?_
    rintro e w0 ⟨rfl, rfl⟩
    go_wp2_with fail
    refine (SB.out _).mono ?_
    rintro e w0 ⟨rfl, rfl⟩
    go_wp2_with fail
    refine (HA.out _).mono ?_
    rintro e w0 ⟨rfl, rfl⟩
    go_wp2_with fail
    refine bodyPost_ret (by simp [results, Tryd.results20, go_sem]; try rfl) rfl ?_
    exact ⟨rfl, by go_grown⟩
  · have M := Lib.hid (fun W => ref_minus hi lo h l 0 jn i (by rw [v, jv, am]; omega) W)
    clear am v jv jn i
    have e1 := E1.out
    go_enter Tryd.func20, Tryd.ntmps20
    go_wp2_with fail
    refine (SA.out _).mono ?_
    rintro e w0 ⟨rfl, rfl⟩
    go_wp2_with fail
    refine (SB.out _).mono ?_
    rintro e w0 ⟨rfl, rfl⟩
    go_wp2_with fail
    refine (HA.out _).mono ?_
    rintro e w0 ⟨rfl, rfl⟩
    go_wp2_with fail
    refine (M.out _).mono ?_
    rintro e w1 ⟨rfl, hb1⟩
    have DR : At w1 (W.heap.size) [.int .i64 0, .int .u64 0] := by have h := ((At.new (W) #[.int .i64 0, .int .u64 0] 29).alloc (.cells #[.int .i64 hi, .int .u64 lo] 29)).below hb1; simpa using h
    have DC : At w1 (W.heap.size + 1) [.int .i64 hi, .int .u64 lo] := by have h := (At.new ((W).alloc (.cells #[.int .i64 0, .int .u64 0] 29)) #[.int .i64 hi, .int .u64 lo] 29).below hb1; simpa using h
    have B : Below W.heap.size W w1 := below_then (below_new (below_new (Below.refl _ _) (.cells #[.int .i64 0, .int .u64 0] 29)) (.cells #[.int .i64 hi, .int .u64 lo] 29)) hb1
    clear hb1
    have aR0 := DR.cell 0 _ rfl
    have zR0 := DR.free 0 _ rfl
    have aR1 := DR.cell 1 _ rfl
    have zR1 := DR.free 1 _ rfl
    have nR := DR.lt
    have aC0 := DC.cell 0 _ rfl
    have aC1 := DC.cell 1 _ rfl
    have nC := DC.lt
    go_wp2_with fail
    refine bodyPost_ret (by simp [results, Tryd.results20, go_sem, aR0, aR1]; try rfl) rfl ?_
    exact ⟨rfl, by go_grown⟩
  · have M := Lib.hid (fun W => ref_minus hi lo h l 0 jn i (by rw [v, jv, am]; omega) W)
    clear am v jv jn i
    have e1 := E1.out
    go_enter Tryd.func20, Tryd.ntmps20
    go_wp2_with fail
    refine (SA.out _).mono ?_
    rintro e w0 ⟨rfl, rfl⟩
    go_wp2_with fail
    refine (SB.out _).mono ?_
    rintro e w0 ⟨rfl, rfl⟩
    go_wp2_with fail
    refine (HA.out _).mono ?_
    rintro e w0 ⟨rfl, rfl⟩
    go_wp2_with fail
    refine (M.out _).mono ?_
    rintro e w1 ⟨rfl, hb1⟩
    have DR : At w1 (W.heap.size) [.int .i64 0, .int .u64 0] := by have h := ((At.new (W) #[.int .i64 0, .int .u64 0] 29).alloc (.cells #[.int .i64 hi, .int .u64 lo] 29)).below hb1; simpa using h
    have DC : At w1 (W.heap.size + 1) [.int .i64 hi, .int .u64 lo] := by have h := (At.new ((W).alloc (.cells #[.int .i64 0, .int .u64 0] 29)) #[.int .i64 hi, .int .u64 lo] 29).below hb1; simpa using h
    have B : Below W.heap.size W w1 := below_then (below_new (below_new (Below.refl _ _) (.cells #[.int .i64 0, .int .u64 0] 29)) (.cells #[.int .i64 hi, .int .u64 lo] 29)) hb1
    clear hb1
    have aR0 := DR.cell 0 _ rfl
    have zR0 := DR.free 0 _ rfl
    have aR1 := DR.cell 1 _ rfl
    have zR1 := DR.free 1 _ rfl
    have nR := DR.lt
    have aC0 := DC.cell 0 _ rfl
    have aC1 := DC.cell 1 _ rfl
    have nC := DC.lt
    go_wp2_with fail
    refine bodyPost_ret (by simp [results, Tryd.results20, go_sem, aR0, aR1]; try rfl) rfl ?_
    exact ⟨rfl, by go_grown⟩
  · obtain ⟨r1, r2⟩ := val_inj i jn (by rw [v, jv, am])
    subst r1 r2
    clear am v jv jn i
    have e1 := E1.out
    go_enter Tryd.func20, Tryd.ntmps20
    go_wp2_with fail
    refine (SA.out _).mono ?_
    rintro e w0 ⟨rfl, rfl⟩
    go_wp2_with fail
    refine (SB.out _).mono ?_
    rintro e w0 ⟨rfl, rfl⟩
    go_wp2_with fail
    refine (HA.out _).mono ?_
    rintro e w0 ⟨rfl, rfl⟩
    go_wp2_with fail
    refine bodyPost_ret (by simp [results, Tryd.results20, go_sem]; try rfl) rfl ?_
    exact ⟨rfl, by go_grown⟩
end Go.Proofs.YtmggiclikbacjaaDoor
