/- Decimals there and back: plain lists; and Parse of what Text wrote. -/
import Derived.Test.YtmggiclikbacjaaDoorWalkX
import Derived.Test.YtmggiclikbacjaaDoorRefM
namespace Go.Proofs.YtmggiclikbacjaaDoor
open Go Go.Proofs Go.RowKit
set_option maxRecDepth 100000
theorem ofNat_dig (r : Nat) (h : r < 10) : (UInt8.ofNat (48 + r)).toNat = 48 + r := by
  rw [UInt8.toNat_ofNat']; omega
theorem decDigits_step (n : Nat) (h : 10 ≤ n) : Lib.decDigits n = Lib.decDigits (n / 10) ++ [UInt8.ofNat (48 + n % 10)] := by
  rw [Lib.decDigits, dif_neg (by omega)]
theorem decDigits_small (n : Nat) (h : n < 10) : Lib.decDigits n = [UInt8.ofNat (48 + n)] := by
  rw [Lib.decDigits, dif_pos h]
theorem valD_dec : ∀ n : Nat, valD (Lib.decDigits n) = n := by
  intro n
  induction n using Nat.strongRecOn with
  | ind n ih =>
    by_cases h : n < 10
    · rw [decDigits_small n h]; unfold valD; simp only [List.foldl_cons, List.foldl_nil, ofNat_dig n h]; omega
    · rw [decDigits_step n (by omega), valD_snoc, ih (n / 10) (by omega), ofNat_dig _ (Nat.mod_lt _ (by omega))]; omega
theorem dec_shape : ∀ n : Nat, ∃ c t, Lib.decDigits n = c :: t ∧ (c :: t).all isDig = true ∧ (c.toNat = 48 → n = 0) := by
  intro n
  induction n using Nat.strongRecOn with
  | ind n ih =>
    by_cases h : n < 10
    · refine ⟨_, [], decDigits_small n h, ?_, fun e => ?_⟩
      · simp only [List.all_cons, List.all_nil, isDig, ofNat_dig n h]; simp; omega
      · rw [ofNat_dig n h] at e; omega
    · obtain ⟨c, t, e, a, z⟩ := ih (n / 10) (by omega)
      refine ⟨c, t ++ [UInt8.ofNat (48 + n % 10)], ?_, ?_, fun e' => ?_⟩
      · rw [decDigits_step n (by omega), e]; rfl
      · rw [← List.cons_append, List.all_append, a]
        simp only [List.all_cons, List.all_nil, isDig, ofNat_dig _ (Nat.mod_lt n (show 10 > 0 by omega))]
        simp; omega
      · have := z e'; omega
theorem isDec_dec (n : Nat) : isDec (Lib.decDigits n) = true := by
  obtain ⟨c, t, e, a, z⟩ := dec_shape n
  by_cases h : c.toNat = 48
  · have hn := z h
    subst hn
    rw [decDigits_small 0 (by omega)]
    decide
  · rw [e, isDec_cons, a]; simp [h]
theorem dec_nought (n : Nat) : Lib.decDigits n = [48] ↔ n = 0 := by
  constructor
  · intro h
    have := valD_dec n
    rw [h] at this
    rw [← this]; rfl
  · intro h; subst h; rw [decDigits_small 0 (by omega)]; rfl
theorem dec_head (n : Nat) : Lib.hasPrefix (Lib.decDigits n) [45] = false := by
  obtain ⟨c, t, e, a, _⟩ := dec_shape n
  rw [e]
  simp only [List.all_cons, Bool.and_eq_true, isDig, decide_eq_true_eq] at a
  unfold Lib.hasPrefix
  have : (45 == c) = false := by rw [beq_eq_false_iff_ne]; intro h; subst h; have := a.1.1; simp at this
  simp [List.isPrefixOf, this]
theorem itoa_prefix (v : Int) : Lib.hasPrefix (Lib.itoa v) [45] = decide (v < 0) ∧ Lib.trimPrefix (Lib.itoa v) [45] = Lib.decDigits v.natAbs := by
  unfold Lib.itoa Lib.trimPrefix
  by_cases h : v < 0
  · rw [if_pos h]
    have : Lib.hasPrefix (45 :: Lib.decDigits v.natAbs) [45] = true := by simp [Lib.hasPrefix, List.isPrefixOf]
    rw [this]; simp [h]
  · rw [if_neg h, dec_head]
    simp [h]
    congr 1; omega
theorem signed_itoa (v : Int) : signed (decide (v < 0)) (Lib.decDigits v.natAbs) = v := by
  unfold signed
  rw [valD_dec]
  by_cases h : v < 0 <;> simp [h] <;> omega
theorem itoa_len (h l : Int) (i : InI h l) : (Lib.decDigits (val h l).natAbs).length ≤ 39 ∧ (Lib.itoa (val h l)).length ≤ 40 := by
  have f := i.fits
  unfold Fits at f
  have h1 : (Lib.decDigits (val h l).natAbs).length ≤ 39 := len_pow 39 _ (by omega) (by
    have : (10 : Nat) ^ 39 = 1000000000000000000000000000000000000000 := by decide
    omega)
  refine ⟨h1, ?_⟩
  unfold Lib.itoa
  split
  · simp only [List.length_cons]; omega
  · rw [show (val h l).toNat = (val h l).natAbs by omega]; omega
theorem Parse_itoa (h l : Int) (i : InI h l) (W : World) :
    Calls Tryd.prog 18 #[.string ⟨(Lib.itoa (val h l)).toArray⟩] W fun e w' => e = .returned (.tuple #[.agg #[.int .i64 h, .int .u64 l], .int .i64 0]) ∧ Below W.heap.size W w' := by
  obtain ⟨a, b⟩ := itoa_prefix (val h l)
  obtain ⟨c, d⟩ := itoa_len h l i
  refine Parse_ok ⟨(Lib.itoa (val h l)).toArray⟩ ?_ (Lib.decDigits (val h l).natAbs) (decide (val h l < 0)) b a (isDec_dec _) c ?_ h l i (signed_itoa _).symm W
  · show (Lib.itoa (val h l)).length ≤ _; omega
  · rintro ⟨e1, e2⟩
    rw [dec_nought] at e2
    simp at e1
    omega
end Go.Proofs.YtmggiclikbacjaaDoor
