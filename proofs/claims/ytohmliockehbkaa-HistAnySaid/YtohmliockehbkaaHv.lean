/- hist: what a quantile's bound has below it: mathematics alone. -/
import Derived.Test.YtohmliockehbkaaHu
namespace Go.Proofs.Ytohmliockehbkaa
open Go Go.Proofs
theorem boundR_nat (i : Nat) : 0 ≤ boundR (i : Int) ∧ boundR (i : Int) ≤ 9223372036854775807 := by
  unfold boundR
  split
  · omega
  · split
    · omega
    · rw [Int.toNat_natCast]
      have := pow_62 (k := i) (by omega)
      omega
theorem le_bound {x : Int} (hx : I64 x) {i : Nat} (hi : i ≤ 63) : x ≤ boundR (i : Int) ↔ bucketR x ≤ i := by
  by_cases h1 : x < 1
  · rw [bucketR_low h1]
    have := boundR_nat i
    constructor <;> intro _ <;> omega
  · obtain ⟨q1, q2, q3, q4⟩ := bits_of (v := x) (by omega) hx.2
    generalize bucketR x = k at *
    rcases Nat.lt_or_ge i 1 with h0 | h0
    · obtain rfl : i = 0 := by omega
      have : boundR ((0 : Nat) : Int) = 0 := rfl
      rw [this]
      constructor <;> intro _ <;> omega
    · rcases Nat.lt_or_ge 62 i with h2 | h2
      · have : boundR (i : Int) = 9223372036854775807 := by unfold boundR; rw [if_neg (by omega), if_pos (by omega)]
        rw [this]
        constructor <;> intro _
        · omega
        · exact hx.2
      · have hb : boundR (i : Int) = 2 ^ i - 1 := by unfold boundR; rw [if_neg (by omega), if_neg (by omega), Int.toNat_natCast]
        rw [hb]
        constructor
        · intro h
          rcases Nat.lt_or_ge i k with h3 | h3
          · have e : (2 : Nat) ^ i ≤ 2 ^ (k - 1) := Nat.pow_le_pow_right (by omega) (by omega)
            have := pow_cast i
            have := pow_cast (k - 1)
            omega
          · exact h3
        · intro h
          have e : (2 : Nat) ^ k ≤ 2 ^ i := Nat.pow_le_pow_right (by omega) h
          have := pow_cast i
          have := pow_cast k
          omega
theorem bucket_bound {i : Nat} (hi : i ≤ 63) : bucketR (boundR (i : Int)) = i := by
  have hI : I64 (boundR (i : Int)) := by have := boundR_nat i; unfold I64; omega
  have h1 := (le_bound hI hi).1 (Int.le_refl _)
  rcases Nat.lt_or_ge (bucketR (boundR (i : Int))) i with h | h
  · exfalso
    have h2 := (le_bound hI (i := i - 1) (by omega)).2 (by omega)
    have h3 : boundR ((i - 1 : Nat) : Int) < boundR (i : Int) := by
      rcases Nat.lt_or_ge 1 i with h0 | h0
      · have e1 : boundR ((i - 1 : Nat) : Int) = 2 ^ (i - 1) - 1 := by unfold boundR; rw [if_neg (by omega), if_neg (by omega), Int.toNat_natCast]
        rw [e1]
        have p1 := pow_62 (k := i - 1) (by omega)
        rcases Nat.lt_or_ge 62 i with h4 | h4
        · have : boundR (i : Int) = 9223372036854775807 := by unfold boundR; rw [if_neg (by omega), if_pos (by omega)]
          rw [this]; omega
        · have : boundR (i : Int) = 2 ^ i - 1 := by unfold boundR; rw [if_neg (by omega), if_neg (by omega), Int.toNat_natCast]
          rw [this]
          have e : (2 : Nat) ^ (i - 1) < 2 ^ i := Nat.pow_lt_pow_right (by omega) (by omega)
          have := pow_cast i
          have := pow_cast (i - 1)
          omega
      · obtain rfl : i = 1 := by omega
        decide
    omega
  · omega
/-- found: as many up to it as are needed, none of the elder ones is enough -/
theorem scan_found {h : List Int} {need : Int} : ∀ (m k : Nat) (i : Nat), k + m = 65 → scanQ need h (sumB h (allI.take k)) (allI.drop k) = some i →
    0 < sumB h (allI.take (i + 1)) ∧ need ≤ 100 * sumB h (allI.take (i + 1)) ∧ (k < i → ¬ (0 < sumB h (allI.take i) ∧ need ≤ 100 * sumB h (allI.take i))) := by
  intro m
  induction m with
  | zero =>
    intro k i hk hs
    rw [List.drop_of_length_le (by rw [allI_len]; omega)] at hs
    cases hs
  | succ m ih =>
    intro k i hk hs
    have hlt : k < 65 := by omega
    have hsum : sumB h (allI.take (k + 1)) = sumB h (allI.take k) + nth h k := by rw [take_succ hlt, sumB_snoc]
    rw [drop_at hlt] at hs
    unfold scanQ at hs
    rw [show nth h (⟨k, hlt⟩ : Fin 65).val = nth h k from rfl, ← hsum] at hs
    split at hs
    · rename_i hc
      injection hs with e
      obtain rfl : k = i := e
      exact ⟨hc.1, hc.2, fun q => by omega⟩
    · rename_i hc
      have hge := (scan_ge m (k + 1) _ i (by omega) hs).1
      obtain ⟨q1, q2, q3⟩ := ih (k + 1) i (by omega) hs
      refine ⟨q1, q2, fun hki => ?_⟩
      rcases Nat.lt_or_ge (k + 1) i with h1 | h1
      · exact q3 h1
      · obtain rfl : i = k + 1 := by omega
        exact hc
theorem ranks {l : List Int} (hI : All64 l) (hpos : 0 < l.length) (hl : l.length ≤ 100) {q : Int} (h0 : 0 ≤ q) (h1 : q ≤ 100) :
    ∃ i : Nat, i ≤ 63 ∧ quantR (histR l) q = (boundR (i : Int), true) ∧ 0 < cntB l (i + 1) ∧ q * (l.length : Int) ≤ 100 * cntB l (i + 1) ∧ (0 < i → cntB l i = 0 ∨ 100 * cntB l i < q * (l.length : Int)) := by
  have hs := histR_small hI (by omega)
  have hq : quantR (histR l) q = qOf (scanQ (q * (l.length : Int)) (histR l) 0 allI) := by
    unfold quantR
    rw [if_neg (by omega), count_hist hI]
  have hneed : q * (l.length : Int) ≤ 100 * (l.length : Int) := Int.mul_le_mul_of_nonneg_right (by omega) (by omega)
  have h64 : sumB (histR l) (allI.take 64) = (l.length : Int) := by rw [sum_cnt hI 64 (by omega), cnt_all hI (by omega)]
  cases e : scanQ (q * (l.length : Int)) (histR l) 0 allI with
  | none =>
    exfalso
    have key : ∀ k, k ≤ 63 → NotYet (q * (l.length : Int)) (histR l) (allI.take k) := by
      intro k
      induction k with
      | zero => intro _; exact notYet_nil _ _
      | succ k ih =>
        intro hk
        have hn := ih (by omega)
        rw [take_succ (show k < 65 by omega)]
        refine notYet_snoc hn (fun hc => ?_)
        have := found_all (found_snoc hn hc) (by rw [← take_succ (show k < 65 by omega)]; exact List.take_prefix _ _)
        rw [this] at e; cases e
    have hn := key 63 (by omega)
    rw [take_succ (show 63 < 65 by omega), sumB_snoc] at h64
    have := found_all (found_snoc (i := ⟨63, by omega⟩) hn (by rw [h64]; omega)) (by rw [← take_succ (show 63 < 65 by omega)]; exact List.take_prefix _ _)
    rw [this] at e; cases e
  | some i =>
    have hf := scan_found (h := histR l) 65 0 i (by omega) (by rw [List.drop_zero]; exact e)
    have hlt := (scan_ge 65 0 0 i (by omega) (by rw [List.drop_zero]; exact e)).2
    obtain ⟨q1, q2, q3⟩ := hf
    rw [sum_cnt hI _ (by omega)] at q1 q2 q3
    have hi : i ≤ 63 := by
      rcases Nat.lt_or_ge 63 i with h | h
      · exfalso
        obtain rfl : i = 64 := by omega
        refine q3 (by omega) ?_
        rw [cnt_all hI (by omega)]
        omega
      · exact h
    refine ⟨i, hi, by rw [hq, e]; rfl, q1, q2, fun h => ?_⟩
    have := q3 h
    have := (cntB_bounds l i).1
    omega
end Go.Proofs.Ytohmliockehbkaa
