/- belfrylaw13.HistBounds, walked. -/
import Derived.Test.YtohmliockehbkaaHk
namespace Go.Proofs.Ytohmliockehbkaa
open Go Go.Proofs Go.RowKit Go.Shelf
set_option maxRecDepth 100000
namespace LawHistBounds
theorem bound_of {v : Int} (h1 : 1 ≤ v) (hi : v ≤ 9223372036854775807) : v ≤ boundR (bucketR v : Int) ∧ boundR ((bucketR v : Int) - 1) < v := by
  obtain ⟨q1, q2, q3, q4⟩ := bits_of h1 hi
  generalize bucketR v = k at *
  constructor
  · unfold boundR
    rw [if_neg (by omega)]
    split
    · exact hi
    · rw [Int.toNat_natCast]; omega
  · obtain ⟨m, rfl⟩ : ∃ m, k = m + 1 := ⟨k - 1, by omega⟩
    rw [show ((m + 1 : Nat) : Int) - 1 = (m : Int) by omega]
    rw [Nat.add_sub_cancel] at q2
    unfold boundR
    split
    · omega
    · rw [if_neg (by omega), Int.toNat_natCast]; omega
set_option maxHeartbeats 8000000 in
theorem any (v i : Int) (w : World) (hv : I64 v) (hi : I64 i) : Calls Try.prog 5 #[.int .i64 v, .int .i64 i] w fun e w' => e = .returned (.bool true) ∧ Below w.heap.size w w' := by
  have K := Lib.hid (known_any w)
  have hk := bucketR_le v hv.2
  have B := Lib.hid (fun W => bucket_any v hv W)
  have P := Lib.hid (fun W => bound_any i hi W)
  have R := Lib.hid (fun W => rbound_any i hi W)
  have P1 := Lib.hid (fun W => bound_any (bucketR v : Int) (by unfold I64; omega) W)
  have P2 := Lib.hid (fun W => bound_any ((bucketR v : Int) - 1) (by unfold I64; omega) W)
  have hw : wrap64 ((bucketR v : Int) - 1) = (bucketR v : Int) - 1 := wr64 (by omega) (by omega)
  by_cases h1 : v < 1
  · rw [bucketR_low h1] at *
    clear hw P1 P2
    go_enter Try.func5, Try.ntmps5
    go_wp2_with fail
    refine K.out.mono ?_
    rintro e w1 ⟨rfl, hb⟩
    go_wp2_with fail
    refine (B.out _).mono ?_
    rintro e w2 ⟨rfl, rfl⟩
    go_wp2_with fail
    refine (P.out _).mono ?_
    rintro e w3 ⟨rfl, rfl⟩
    go_wp2_with fail
    refine (R.out _).mono ?_
    rintro e w4 ⟨rfl, rfl⟩
    go_wp2
    go_ret
    exact ⟨rfl, hb⟩
  · obtain ⟨q1, q2⟩ := bound_of (v := v) (by omega) hv.2
    have h2 : 1 ≤ v := by omega
    generalize bucketR v = k at *
    go_enter Try.func5, Try.ntmps5
    go_wp2_with fail
    refine K.out.mono ?_
    rintro e w1 ⟨rfl, hb⟩
    go_wp2_with fail
    refine (B.out _).mono ?_
    rintro e w2 ⟨rfl, rfl⟩
    go_wp2_with fail
    refine (P.out _).mono ?_
    rintro e w3 ⟨rfl, rfl⟩
    go_wp2_with fail
    refine (R.out _).mono ?_
    rintro e w4 ⟨rfl, rfl⟩
    go_wp2_with fail
    refine (P1.out _).mono ?_
    rintro e w5 ⟨rfl, rfl⟩
    go_wp2_with fail
    refine (P2.out _).mono ?_
    rintro e w6 ⟨rfl, rfl⟩
    go_wp2
    go_ret
    exact ⟨rfl, hb⟩
end LawHistBounds
end Go.Proofs.Ytohmliockehbkaa
