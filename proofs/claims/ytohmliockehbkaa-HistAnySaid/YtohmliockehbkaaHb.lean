/- hist.Bucket, hist.Bound, the reference's Bucket and Bound. -/
import Derived.Test.YtohmliockehbkaaHa
import Derived.Test.YtohmliockehbkaaShelf
import Derived.Lib.ItoaNum
import Derived.Lib.Hide
namespace Go.Proofs.Ytohmliockehbkaa
open Go Go.Proofs Go.RowKit
set_option maxRecDepth 100000
/-- an int64 -/
def I64 (v : Int) : Prop := -9223372036854775808 ≤ v ∧ v ≤ 9223372036854775807
def bucketR (v : Int) : Nat := if v < 1 then 0 else Lib.bitLen v.toNat
def boundR (i : Int) : Int := if i < 1 then 0 else if 62 < i then 9223372036854775807 else 2 ^ i.toNat - 1
theorem bucketR_low {v : Int} (h : v < 1) : bucketR v = 0 := if_pos h
theorem bucketR_high {v : Int} (h : ¬ v < 1) : bucketR v = Lib.bitLen v.toNat := if_neg h
theorem pow_cast (k : Nat) : ((2 ^ k : Nat) : Int) = 2 ^ k := Int.natCast_pow 2 k
theorem bits_of {v : Int} (h : 1 ≤ v) (h1 : v ≤ 9223372036854775807) : 1 ≤ bucketR v ∧ (2 : Int) ^ (bucketR v - 1) ≤ v ∧ v < (2 : Int) ^ bucketR v ∧ bucketR v ≤ 63 := by
  obtain ⟨n, rfl⟩ : ∃ n : Nat, v = (n : Int) := ⟨v.toNat, by omega⟩
  rw [bucketR_high (by omega), Int.toNat_natCast]
  have hb := Lib.bitLenAux_bounds 64 n (by omega) (by omega)
  show 1 ≤ Lib.bitLen n ∧ _
  change 1 ≤ Lib.bitLen n ∧ 2 ^ (Lib.bitLen n - 1) ≤ n ∧ n < 2 ^ Lib.bitLen n at hb
  obtain ⟨q1, q2, q3⟩ := hb
  refine ⟨q1, by rw [← pow_cast]; exact Int.ofNat_le.2 q2, by rw [← pow_cast]; exact Int.ofNat_lt.2 q3, ?_⟩
  rcases Nat.lt_or_ge 63 (Lib.bitLen n) with h | h
  · have : (2 : Nat) ^ 63 ≤ 2 ^ (Lib.bitLen n - 1) := Nat.pow_le_pow_right (by omega) (by omega)
    omega
  · exact h
theorem bucketR_le (v : Int) (h1 : v ≤ 9223372036854775807) : bucketR v ≤ 63 := by
  by_cases h : v < 1
  · rw [bucketR_low h]; omega
  · exact (bits_of (by omega) h1).2.2.2
theorem wrap_u64 {n : Int} (h0 : 0 ≤ n) (h : n < 18446744073709551616) : IntKind.u64.wrap n = n := by
  have : IntKind.u64.wrap n = n % 18446744073709551616 := by unfold IntKind.wrap; rfl
  rw [this]; omega
set_option maxHeartbeats 4000000 in
theorem bucket_any (v : Int) (h : I64 v) (w : World) : Calls Try.prog 9 #[.int .i64 v] w fun e w' => e = .returned (.int .i64 (bucketR v : Int)) ∧ w' = w := by
  obtain ⟨h0, h1⟩ := h
  by_cases hv : v < 1
  · rw [bucketR_low hv]
    go_enter Try.func9, Try.ntmps9
    go_wp2
    go_ret
    exact ⟨rfl, rfl⟩
  · rw [bucketR_high hv]
    have hL := Lib.hid (Try.bits_Len64 v w (by omega) (by omega))
    have hw : IntKind.u64.wrap v = v := wrap_u64 (by omega) (by omega)
    go_enter Try.func9, Try.ntmps9
    go_wp2_with fail
    refine hL.out.mono ?_
    rintro e w1 ⟨rfl, rfl⟩
    go_wp2
    go_ret
    exact ⟨rfl, rfl⟩
theorem wr64 {n : Int} (h : -9223372036854775808 ≤ n) (k : n ≤ 9223372036854775807) : wrap64 n = n := by rw [wrap64]; omega
theorem pow_62 {k : Nat} (hk : k ≤ 62) : (1 : Int) ≤ 2 ^ k ∧ (2 : Int) ^ k ≤ 4611686018427387904 := by
  have h : 2 ^ k ≤ 4611686018427387904 := Nat.le_trans (Nat.pow_le_pow_right (by omega) hk) (by decide)
  have h2 : 1 ≤ 2 ^ k := Nat.one_le_two_pow
  have e := pow_cast k
  rw [← e]
  generalize 2 ^ k = n at *
  omega
theorem pow_wrap {k : Nat} (hk : k ≤ 62) : wrap64 (wrap64 (2 ^ k) - 1) = 2 ^ k - 1 := by
  have := pow_62 hk
  rw [wr64 (n := 2 ^ k) (by omega) (by omega), wr64 (by omega) (by omega)]
set_option maxHeartbeats 4000000 in
theorem bound_any (i : Int) (h : I64 i) (w : World) : Calls Try.prog 16 #[.int .i64 i] w fun e w' => e = .returned (.int .i64 (boundR i)) ∧ w' = w := by
  obtain ⟨h0, h1⟩ := h
  by_cases hv : i < 1
  · rw [show boundR i = 0 from if_pos hv]
    go_enter Try.func16, Try.ntmps16
    go_wp2
    go_ret
    exact ⟨rfl, rfl⟩
  · by_cases hw : 62 < i
    · rw [show boundR i = 9223372036854775807 from by unfold boundR; rw [if_neg hv, if_pos hw]]
      go_enter Try.func16, Try.ntmps16
      go_wp2
      go_ret
      exact ⟨rfl, rfl⟩
    · rw [show boundR i = 2 ^ i.toNat - 1 from by unfold boundR; rw [if_neg hv, if_neg hw]]
      obtain ⟨k, rfl⟩ : ∃ k : Nat, i = (k : Int) := ⟨i.toNat, by omega⟩
      rw [Int.toNat_natCast]
      go_enter Try.func16, Try.ntmps16
      go_wp2
      go_ret
      rw [pow_wrap (by omega)]
      exact ⟨rfl, rfl⟩
set_option maxHeartbeats 4000000 in
theorem rbound_any (i : Int) (h : I64 i) (w : World) : Calls Try.prog 17 #[.int .i64 i] w fun e w' => e = .returned (.int .i64 (boundR i)) ∧ w' = w := by
  obtain ⟨h0, h1⟩ := h
  by_cases hv : i < 1
  · rw [show boundR i = 0 from if_pos hv]
    go_enter Try.func17, Try.ntmps17
    go_wp2
    go_ret
    exact ⟨rfl, rfl⟩
  · by_cases hw : 62 < i
    · rw [show boundR i = 9223372036854775807 from by unfold boundR; rw [if_neg hv, if_pos hw]]
      go_enter Try.func17, Try.ntmps17
      go_wp2
      go_ret
      exact ⟨rfl, rfl⟩
    · rw [show boundR i = 2 ^ i.toNat - 1 from by unfold boundR; rw [if_neg hv, if_neg hw]]
      obtain ⟨k, rfl⟩ : ∃ k : Nat, i = (k : Int) := ⟨i.toNat, by omega⟩
      rw [Int.toNat_natCast]
      have hu : IntKind.u64.wrap (k : Int) = (k : Int) := wrap_u64 (by omega) (by omega)
      go_enter Try.func17, Try.ntmps17
      go_wp2
      go_ret
      rw [pow_wrap (by omega)]
      exact ⟨rfl, rfl⟩
set_option maxHeartbeats 4000000 in
theorem rbucket_any (v : Int) (h : I64 v) (w : World) : Calls Try.prog 10 #[.int .i64 v] w fun e w' => e = .returned (.int .i64 (bucketR v : Int)) ∧ w' = w := by
  obtain ⟨h0, h1⟩ := h
  go_enter Try.func10, Try.ntmps10
  go_wp2
  go_loopw [0, 3] (fun x n wr => wr = w ∧ ∃ (X N : Int), x = .int .i64 X ∧ n = .int .i64 N ∧ X ≤ v ∧ -9223372036854775808 ≤ X ∧ 0 ≤ N ∧ N + (bucketR X : Int) = (bucketR v : Int)) (fun x _ _ => (intOf x).toNat)
  case atStart => exact ⟨rfl, v, 0, rfl, rfl, Int.le_refl _, h0, Int.le_refl _, by omega⟩
  case round =>
    obtain ⟨rfl, X, N, rfl, rfl, hX, hX0, hN, hE⟩ := hrel
    have hb := bucketR_le X (by omega)
    have hv63 := bucketR_le v h1
    by_cases hx : 0 < X
    · have hs : bucketR X = 1 + bucketR (X / 2) := by
        rw [bucketR_high (by omega)]
        obtain ⟨k, rfl⟩ : ∃ k : Nat, X = (k : Int) := ⟨X.toNat, by omega⟩
        rw [Int.toNat_natCast, Lib.bitLen_half k (by omega) (by omega)]
        by_cases h2 : (k : Int) / 2 < 1
        · rw [bucketR_low h2, show k / 2 = 0 from by omega]; rfl
        · rw [bucketR_high h2, show ((k : Int) / 2).toNat = k / 2 from by omega]
      have HS := Lib.hid hs
      have HE := Lib.hid hE
      clear hs hE
      go_wp2
      go_roundw
      case rel =>
        have h2 := HE.out
        rw [HS.out] at h2
        rw [wr64 (by omega) (by omega)]
        exact ⟨trivial, X / 2, N + 1, rfl, rfl, by omega, by omega, by omega, by omega⟩
      case measure => simp [intOf]; omega
    · have hz : bucketR X = 0 := bucketR_low (by omega)
      rw [hz] at hE
      have hn : N = (bucketR v : Int) := by omega
      subst hn
      clear hE hz hb
      go_wp2
      go_ret
      exact ⟨rfl, rfl⟩
end Go.Proofs.Ytohmliockehbkaa
