/- Mul, plus, Ratio: of package wide. -/
import Derived.Test.YtkhlpbipkkbghaaWalkF
namespace Go.Proofs.Ytkhlpbipkkbghaa
open Go Go.Proofs Go.RowKit
set_option maxRecDepth 100000

theorem u64_wrap_range (n : Int) : 0 ≤ IntKind.u64.wrap n ∧ IntKind.u64.wrap n < 18446744073709551616 := by rw [IntKind.wrap_u64]; omega

theorem mul_parts (a b h l : Int) (ha : I64 a) (hb : I64 b) (i : InI h l) (hv : val h l = a * b) :
    IntKind.u64.wrap a * IntKind.u64.wrap b % 18446744073709551616 = l ∧
    wrap64 (wrap64 (wrap64 (IntKind.u64.wrap a * IntKind.u64.wrap b / 18446744073709551616) - sgn a b) - sgn b a) = h := by
  obtain ⟨_, _, _, _⟩ := i
  unfold I64 at ha hb
  unfold val at hv
  rw [IntKind.wrap_u64, IntKind.wrap_u64]
  unfold sgn wrap64
  have ea : a % 18446744073709551616 = if a < 0 then a + 18446744073709551616 else a := by split <;> omega
  have eb : b % 18446744073709551616 = if b < 0 then b + 18446744073709551616 else b := by split <;> omega
  rw [ea, eb]
  split <;> split
  · have e : (a + 18446744073709551616) * (b + 18446744073709551616) = a * b + 18446744073709551616 * (a + b + 18446744073709551616) := by
      rw [Int.add_mul, Int.mul_add, Int.mul_add, Int.mul_comm a 18446744073709551616]; omega
    rw [e, ← hv]; omega
  · have e : (a + 18446744073709551616) * b = a * b + 18446744073709551616 * b := by rw [Int.add_mul]
    rw [e, ← hv]; omega
  · have e : a * (b + 18446744073709551616) = a * b + 18446744073709551616 * a := by rw [Int.mul_add, Int.mul_comm a 18446744073709551616]
    rw [e, ← hv]; omega
  · rw [← hv]; omega

theorem plus_parts (h1 l1 n h l : Int) (i1 : InI h1 l1) (hn : I64 n) (i : InI h l) (hv : val h l = val h1 l1 + n) :
    (l1 + IntKind.u64.wrap n) % 18446744073709551616 = l ∧
    wrap64 (wrap64 (h1 + n / 9223372036854775808) + wrap64 ((l1 + IntKind.u64.wrap n) / 18446744073709551616)) = h := by
  obtain ⟨_, _, _, _⟩ := i
  obtain ⟨_, _, _, _⟩ := i1
  unfold I64 at hn
  unfold val at hv
  rw [IntKind.wrap_u64]
  have en : n % 18446744073709551616 = if n < 0 then n + 18446744073709551616 else n := by split <;> omega
  have ed : n / 9223372036854775808 = if n < 0 then -1 else 0 := by split <;> omega
  rw [en, ed]
  unfold wrap64
  split <;> omega

/-- Ratio, of numbers that may not be. -/
theorem Ratio_no (h1 l1 b num den : Int) (hd : b < 1 ∨ den < 1) (w : World) :
    Calls Try.prog 18 #[.agg #[.int .i64 h1, .int .u64 l1], .int .i64 b, .int .i64 num, .int .i64 den] w fun e w' => e = .returned (.tuple #[.int .i64 0, .int .i64 1]) ∧ Below w.heap.size w w' := by
  by_cases hb : b < 1
  · clear hd
    go_enter Try.func18, Try.ntmps18
    go_wp2
    go_returns
    exact ⟨rfl, by go_grown⟩
  · have hd' : den < 1 := by omega
    clear hd
    go_enter Try.func18, Try.ntmps18
    go_wp2
    go_returns
    exact ⟨rfl, by go_grown⟩

/-- Ratio: how a by b stands to num by den. -/
theorem Ratio_ok (h1 l1 b num den : Int) (i1 : InI h1 l1) (hb : 1 ≤ b) (hb' : I64 b) (hn : I64 num) (hd : 1 ≤ den) (hd' : I64 den) (w : World) :
    Calls Try.prog 18 #[.agg #[.int .i64 h1, .int .u64 l1], .int .i64 b, .int .i64 num, .int .i64 den] w fun e w' => e = .returned (.tuple #[.int .i64 (cmpI (val h1 l1 * den) (num * b)), .int .i64 0]) ∧ Below w.heap.size w w' := by
  obtain ⟨x0, x1, x2, hx⟩ := isL_ex (val h1 l1)
  obtain ⟨y0, y1, y2, hy⟩ := isL_ex (val h1 l1 * den)
  obtain ⟨nh, nl, ni, nv⟩ := fits_ex (v := num) (by unfold I64 at hn; unfold Fits; omega)
  obtain ⟨z0, z1, z2, hz⟩ := isL_ex num
  obtain ⟨t0, t1, t2, ht⟩ := isL_ex (num * b)
  have f1 := i1.fits
  unfold I64 at hb' hn hd'
  unfold Fits at f1
  have bx : -3138550867693340381917894711603833208051177722232017256448 ≤ val h1 l1 * den ∧ val h1 l1 * den < 3138550867693340381917894711603833208051177722232017256448 := by
    have q1 : val h1 l1 * den ≤ 170141183460469231731687303715884105728 * 9223372036854775807 := by
      have := Int.mul_le_mul_of_nonneg_right (a := val h1 l1) (b := 170141183460469231731687303715884105728) (c := den) (by omega) (by omega)
      have := Int.mul_le_mul_of_nonneg_left (a := den) (b := 9223372036854775807) (c := 170141183460469231731687303715884105728) (by omega) (by omega)
      omega
    have q2 : -170141183460469231731687303715884105728 * 9223372036854775807 ≤ val h1 l1 * den := by
      have := Int.mul_le_mul_of_nonneg_right (a := -170141183460469231731687303715884105728) (b := val h1 l1) (c := den) (by omega) (by omega)
      have := Int.mul_le_mul_of_nonneg_left (a := den) (b := 9223372036854775807) (c := 170141183460469231731687303715884105728) (by omega) (by omega)
      omega
    omega
  have bt : -3138550867693340381917894711603833208051177722232017256448 ≤ num * b ∧ num * b < 3138550867693340381917894711603833208051177722232017256448 := by
    have q1 : num * b ≤ 9223372036854775808 * 9223372036854775807 := by
      have := Int.mul_le_mul_of_nonneg_right (a := num) (b := 9223372036854775808) (c := b) (by omega) (by omega)
      have := Int.mul_le_mul_of_nonneg_left (a := b) (b := 9223372036854775807) (c := 9223372036854775808) (by omega) (by omega)
      omega
    have q2 : -9223372036854775808 * 9223372036854775807 ≤ num * b := by
      have := Int.mul_le_mul_of_nonneg_right (a := -9223372036854775808) (b := num) (c := b) (by omega) (by omega)
      have := Int.mul_le_mul_of_nonneg_left (a := b) (b := 9223372036854775807) (c := 9223372036854775808) (by omega) (by omega)
      omega
    omega
  have X := Lib.hid (fun W => extend_l h1 l1 x0 x1 x2 i1 hx W)
  have S := Lib.hid (fun W => scale_any (val h1 l1) den x0 x1 x2 y0 y1 y2 hx hy (by omega) W)
  have O := Lib.hid (fun W => Of_any num nh nl hn ni nv W)
  have Y := Lib.hid (fun W => extend_l nh nl z0 z1 z2 ni (by rw [nv]; exact hz) W)
  have T := Lib.hid (fun W => scale_any num b z0 z1 z2 t0 t1 t2 hz ht (by omega) W)
  have C := Lib.hid (fun W => compare_any _ _ y0 y1 y2 t0 t1 t2 hy ht bx.1 bx.2 bt.1 bt.2 W)
  have wb : IntKind.u64.wrap b = b := by rw [IntKind.wrap_u64]; omega
  have wd : IntKind.u64.wrap den = den := by rw [IntKind.wrap_u64]; omega
  generalize cmpI (val h1 l1 * den) (num * b) = c at *
  clear hx hy hz ht bx bt f1 i1 ni nv hn hb' hd'
  have nb : ¬ b < 1 := by omega
  have nd : ¬ den < 1 := by omega
  go_enter Try.func18, Try.ntmps18
  go_wp2_with fail
  refine (X.out _).mono ?_
  rintro e w1 ⟨rfl, hb1⟩
  have B1 : Below w.heap.size w w1 := Below.trans (by go_grown) (hb1.mono (by simp))
  clear hb1
  go_wp2_with fail
  refine (S.out _).mono ?_
  rintro e w2 ⟨rfl, hb1⟩
  have B2 : Below w.heap.size w w2 := B1.trans (hb1.mono B1.size)
  clear hb1 B1
  go_wp2_with fail
  refine (O.out _).mono ?_
  rintro e w3 ⟨rfl, hb1⟩
  have B3 : Below w.heap.size w w3 := B2.trans (hb1.mono B2.size)
  clear hb1 B2
  go_wp2_with fail
  refine (Y.out _).mono ?_
  rintro e w4 ⟨rfl, hb1⟩
  have B4 : Below w.heap.size w w4 := B3.trans (hb1.mono B3.size)
  clear hb1 B3
  go_wp2_with fail
  refine (T.out _).mono ?_
  rintro e w5 ⟨rfl, hb1⟩
  have B5 : Below w.heap.size w w5 := B4.trans (hb1.mono B4.size)
  clear hb1 B4
  go_wp2_with fail
  refine (C.out _).mono ?_
  rintro e w6 ⟨rfl, hb1⟩
  have B6 : Below w.heap.size w w6 := B5.trans (hb1.mono B5.size)
  clear hb1 B5
  go_wp2
  go_returns
  exact ⟨rfl, B6⟩
end Go.Proofs.Ytkhlpbipkkbghaa
