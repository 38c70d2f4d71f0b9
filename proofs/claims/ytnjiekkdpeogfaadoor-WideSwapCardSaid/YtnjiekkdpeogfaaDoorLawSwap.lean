/- The law on two ratios, walked. -/
import Derived.Test.YtnjiekkdpeogfaaDoorWalkK
import Derived.Test.YtnjiekkdpeogfaaDoorLawA
namespace Go.Proofs.YtnjiekkdpeogfaaDoor
open Go Go.Proofs Go.RowKit
set_option maxRecDepth 100000
theorem cmpI_swap (x y : Int) : cmpI y x = -cmpI x y := by unfold cmpI; split <;> split <;> (try split) <;> omega
theorem cmpI_scale (x y k : Int) (hk : 0 < k) : cmpI (x * k) (y * k) = cmpI x y := by
  have h1 : (x * k < y * k) ↔ x < y := Int.mul_lt_mul_right hk
  have h2 : (y * k < x * k) ↔ y < x := Int.mul_lt_mul_right hk
  unfold cmpI
  simp only [h1, h2]
theorem small_prod (a k : Int) (ha : -2147483648 ≤ a ∧ a ≤ 2147483647) (hk : 1 ≤ k ∧ k ≤ 65536) : I64 (a * k) := by
  have h := mul_bd2 a k 2147483648 65536 (by omega) (by omega)
  unfold I64
  simp only [Nat.reduceMul] at h
  omega
theorem step_prod (b k : Int) (hb : 1 ≤ b ∧ b ≤ 1099511627776) (hk : 1 ≤ k ∧ k ≤ 65536) : 1 ≤ b * k ∧ b * k ≤ 72057594037927936 := by
  have h := mul_bd2 b k 1099511627776 65536 (by omega) (by omega)
  simp only [Nat.reduceMul] at h
  have : 1 * 1 ≤ b * k := Int.mul_le_mul hb.1 hk.1 (by omega) (by omega)
  omega

set_option maxHeartbeats 2000000 in
theorem swap_law (a b c d k : Int) (ha : -2147483648 ≤ a ∧ a ≤ 2147483647) (hb : -9223372036854775808 ≤ b ∧ b ≤ 9223372036854775807) (hc : -2147483648 ≤ c ∧ c ≤ 2147483647) (hd : -9223372036854775808 ≤ d ∧ d ≤ 9223372036854775807) (hk : 0 ≤ k ∧ k ≤ 65535) (w : World) (ht : Tab w) :
    Calls Tryd.prog 11 #[.int .i32 a, .int .i64 b, .int .i32 c, .int .i64 d, .int .u16 k] w fun e w' => e = .returned (.bool true) ∧ Below w.heap.size w w' := by
  have K := Lib.hid (known_any w ht)
  by_cases h1 : b < 1
  · clear ha hb hc hd hk
    go_enter Tryd.func11, Tryd.ntmps11
    go_wp2_with fail
    refine K.out.mono ?_
    rintro e w1 ⟨rfl, B1⟩
    go_wp2
    go_ret
    exact ⟨rfl, B1⟩
  by_cases h2 : d < 1
  · clear ha hb hc hd hk
    go_enter Tryd.func11, Tryd.ntmps11
    go_wp2_with fail
    refine K.out.mono ?_
    rintro e w1 ⟨rfl, B1⟩
    go_wp2
    go_ret
    exact ⟨rfl, B1⟩
  by_cases h3 : 1099511627776 < b
  · clear ha hb hc hd hk
    go_enter Tryd.func11, Tryd.ntmps11
    go_wp2_with fail
    refine K.out.mono ?_
    rintro e w1 ⟨rfl, B1⟩
    go_wp2
    go_ret
    exact ⟨rfl, B1⟩
  by_cases h4 : 1099511627776 < d
  · clear ha hb hc hd hk
    go_enter Tryd.func11, Tryd.ntmps11
    go_wp2_with fail
    refine K.out.mono ?_
    rintro e w1 ⟨rfl, B1⟩
    go_wp2
    go_ret
    exact ⟨rfl, B1⟩
  obtain ⟨f, hf⟩ : ∃ f : Int, f = 1 + k := ⟨_, rfl⟩
  have hf1 : 1 ≤ f ∧ f ≤ 65536 := by omega
  have hbf := step_prod b f (by omega) hf1
  have haf := small_prod a f ha hf1
  obtain ⟨p1, q1, i1, v1⟩ := fits_ex (v := a) (by unfold Fits; omega)
  obtain ⟨p2, q2, i2, v2⟩ := fits_ex (v := c) (by unfold Fits; omega)
  obtain ⟨p3, q3, i3, v3⟩ := fits_ex (v := a * f) (by unfold Fits; unfold I64 at haf; omega)
  have O1 := Lib.hid (fun W => Of_any a p1 q1 (by unfold I64; omega) i1 v1 W)
  have O2 := Lib.hid (fun W => Of_any c p2 q2 (by unfold I64; omega) i2 v2 W)
  have M := Lib.hid (fun W => Mul_any a f p3 q3 (by unfold I64; omega) (by unfold I64; omega) i3 v3 W)
  have hR1 := fun W => Ratio_ok p1 q1 b c d i1 (by omega) hb (by unfold I64; omega) (by omega) hd W
  have hR2 := fun W => Ratio_ok p2 q2 d a b i2 (by omega) hd (by unfold I64; omega) (by omega) hb W
  have hR3 := fun W => Ratio_ok p3 q3 (b * f) c d i3 (by omega) (by unfold I64; omega) (by unfold I64; omega) (by omega) hd W
  rw [v1] at hR1
  rw [v2] at hR2
  rw [v3] at hR3
  have s2 : cmpI (c * b) (a * d) = -cmpI (a * d) (c * b) := cmpI_swap _ _
  have s3 : cmpI (a * f * d) (c * (b * f)) = cmpI (a * d) (c * b) := by
    rw [show a * f * d = a * d * f by rw [Int.mul_assoc, Int.mul_comm f d, ← Int.mul_assoc], show c * (b * f) = c * b * f by rw [Int.mul_assoc]]
    exact cmpI_scale _ _ _ (by omega)
  rw [s2] at hR2
  rw [s3] at hR3
  have hcr : -1 ≤ cmpI (a * d) (c * b) ∧ cmpI (a * d) (c * b) ≤ 1 := by rcases cmpI_cases (a * d) (c * b) with ⟨_, h⟩ | ⟨_, h⟩ | ⟨_, h⟩ <;> rw [h] <;> omega
  generalize cmpI (a * d) (c * b) = r at *
  have R1 := Lib.hid hR1
  have R2 := Lib.hid hR2
  have R3 := Lib.hid hR3
  have e1 : 1 + k = f := hf.symm
  have n1 : ¬ b < 1 := h1
  have hbf2 : b * f ≤ 72057594037927936 := hbf.2
  have hbf1 : 1 ≤ b * f := hbf.1
  clear s2 s3 hR1 hR2 hR3 i1 v1 i2 v2 i3 v3 hf haf hbf ht
  obtain ⟨r1, r2⟩ := hcr
  go_enter Tryd.func11, Tryd.ntmps11
  go_wp2_with fail
  refine K.out.mono ?_
  rintro e w1 ⟨rfl, B1⟩
  go_wp2_with fail
  refine (O1.out _).mono ?_
  rintro e w2 ⟨rfl, hb1⟩
  have B2 := below_then B1 hb1
  clear hb1 B1
  go_wp2_with fail
  refine (R1.out _).mono ?_
  rintro e w3 ⟨rfl, hb1⟩
  have B3 := below_then B2 hb1
  clear hb1 B2
  go_wp2_with fail
  refine (O2.out _).mono ?_
  rintro e w4 ⟨rfl, hb1⟩
  have B4 := below_then B3 hb1
  clear hb1 B3
  go_wp2_with fail
  refine (R2.out _).mono ?_
  rintro e w5 ⟨rfl, hb1⟩
  have B5 := below_then B4 hb1
  clear hb1 B4
  go_wp2_with fail
  refine (M.out _).mono ?_
  rintro e w6 ⟨rfl, hb1⟩
  have B6 := below_then B5 hb1
  clear hb1 B5
  go_wp2_with fail
  refine (R3.out _).mono ?_
  rintro e w7 ⟨rfl, hb1⟩
  have B7 := below_then B6 hb1
  clear hb1 B6
  go_wp2
  go_ret
  exact ⟨rfl, B7⟩
end Go.Proofs.YtnjiekkdpeogfaaDoor
