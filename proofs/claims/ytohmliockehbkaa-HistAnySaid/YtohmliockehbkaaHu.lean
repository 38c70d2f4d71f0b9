/- hist: rows of given counts; a greater quantile is not below: mathematics alone. -/
import Derived.Test.YtohmliockehbkaaHk
namespace Go.Proofs.Ytohmliockehbkaa
open Go Go.Proofs
theorem scan_ge {h : List Int} {need : Int} : ∀ (m k : Nat) (u : Int) (i : Nat), k + m = 65 → scanQ need h u (allI.drop k) = some i → k ≤ i ∧ i < 65 := by
  intro m
  induction m with
  | zero =>
    intro k u i hk hs
    rw [List.drop_of_length_le (by rw [allI_len]; omega)] at hs
    cases hs
  | succ m ih =>
    intro k u i hk hs
    rw [drop_at (show k < 65 by omega)] at hs
    unfold scanQ at hs
    split at hs
    · injection hs with e
      have : k = i := e
      omega
    · have := ih (k + 1) _ i (by omega) hs
      omega
theorem scan_mono {h : List Int} {n1 n2 : Int} (hn : n1 ≤ n2) : ∀ (m k : Nat) (u : Int) (i j : Nat), k + m = 65 → scanQ n1 h u (allI.drop k) = some i → scanQ n2 h u (allI.drop k) = some j → i ≤ j := by
  intro m
  induction m with
  | zero =>
    intro k u i j hk hs
    rw [List.drop_of_length_le (by rw [allI_len]; omega)] at hs
    cases hs
  | succ m ih =>
    intro k u i j hk hs ht
    have h2 := (scan_ge (m + 1) k u j hk ht).1
    rw [drop_at (show k < 65 by omega)] at hs ht
    unfold scanQ at hs ht
    split at hs
    · injection hs with e
      have : k = i := e
      omega
    · rename_i hc
      rw [if_neg (fun q => hc ⟨q.1, Int.le_trans hn q.2⟩)] at ht
      exact ih (k + 1) _ i j (by omega) hs ht
theorem bound_mono {i j : Nat} (h : i ≤ j) (hj : j < 65) : boundR (i : Int) ≤ boundR (j : Int) := by
  unfold boundR
  by_cases h1 : (i : Int) < 1
  · rw [if_pos h1]
    split
    · omega
    · split
      · omega
      · rw [Int.toNat_natCast]
        have := pow_62 (k := j) (by omega)
        omega
  · rw [if_neg h1, if_neg (show ¬ (j : Int) < 1 by omega)]
    by_cases h2 : (62 : Int) < (i : Int)
    · rw [if_pos h2, if_pos (show (62 : Int) < (j : Int) by omega)]; omega
    · rw [if_neg h2]
      split
      · rw [Int.toNat_natCast]
        have := pow_62 (k := i) (by omega)
        omega
      · rw [Int.toNat_natCast, Int.toNat_natCast]
        have : (2 : Nat) ^ i ≤ 2 ^ j := Nat.pow_le_pow_right (by omega) h
        have := pow_cast i
        have := pow_cast j
        omega
theorem quant_mono {h : List Int} (s : Small h) {q p a c : Int} (hq : quantR h q = (a, true)) (hp : quantR h p = (c, true)) (hqp : q ≤ p) : a ≤ c := by
  unfold quantR at hq hp
  split at hq
  · injection hq with _ e; cases e
  split at hp
  · injection hp with _ e; cases e
  have hn : q * countR h ≤ p * countR h := Int.mul_le_mul_of_nonneg_right hqp (countR_bounds s).1
  cases e1 : scanQ (q * countR h) h 0 allI with
  | none => rw [e1] at hq; injection hq with _ e; cases e
  | some i =>
    cases e2 : scanQ (p * countR h) h 0 allI with
    | none => rw [e2] at hp; injection hp with _ e; cases e
    | some j =>
      rw [e1] at hq
      rw [e2] at hp
      injection hq with e3 _
      injection hp with e4 _
      have h3 := scan_mono hn 65 0 0 i j (by omega) (by rw [List.drop_zero]; exact e1) (by rw [List.drop_zero]; exact e2)
      have h4 := (scan_ge 65 0 0 j (by omega) (by rw [List.drop_zero]; exact e2)).2
      rw [← e3, ← e4]
      exact bound_mono h3 h4
/-- a row of which k counts are laid -/
def rowL (l : List Int) (k : Nat) : List Int := l.take k ++ List.replicate (65 - k) 0
theorem rowL_zero (l : List Int) : rowL l 0 = zs65 := by simp [rowL, zs65]
theorem rowL_len {l : List Int} (hl : l.length ≤ 65) {k : Nat} (hk : k ≤ l.length) : (rowL l k).length = 65 := by
  unfold rowL
  rw [List.length_append, List.length_take, List.length_replicate]
  omega
theorem rowL_set {l : List Int} (hl : l.length ≤ 65) {k : Nat} {x : Int} (hx : l[k]? = some x) : (rowL l k).set k x = rowL l (k + 1) := by
  have hk := (List.getElem?_eq_some_iff.1 hx).1
  unfold rowL
  rw [take_snoc' hx, List.set_append_right _ _ (by rw [List.length_take]; omega)]
  rw [List.length_take, Nat.min_eq_left (by omega), Nat.sub_self]
  obtain ⟨m, hm⟩ : ∃ m, 65 - k = m + 1 := ⟨64 - k, by omega⟩
  rw [hm, show 65 - (k + 1) = m by omega, List.replicate_succ, List.set_cons_zero, List.append_assoc]
  rfl
theorem rowL_small {l : List Int} (hl : l.length ≤ 65) (hx : ∀ x ∈ l, 0 ≤ x ∧ x ≤ 65535) : Small (rowL l l.length) := by
  have key : ∀ x ∈ rowL l l.length, 0 ≤ x ∧ x ≤ 65535 := fun x h => by
    unfold rowL at h
    rcases List.mem_append.1 h with h | h
    · exact hx x (List.mem_of_mem_take h)
    · rw [List.eq_of_mem_replicate h]; omega
  exact ⟨rowL_len hl (Nat.le_refl _), fun x h => (key x h).1, fun x h => by have := (key x h).2; omega⟩
end Go.Proofs.Ytohmliockehbkaa
