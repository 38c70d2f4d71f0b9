/- regex's sets: four words of 64 bits. -/
import Derived.Test.YtcfdpbbpdnpnnaaDoorProg
import Derived.Test.YtcfdpbbpdnpnnaaDoorAt
import Derived.Shelf.Abstract
import Derived.WalkKit
import Derived.Tactics
import Derived.Tactics2
import Derived.Handy
import Derived.KernelRfl
import Derived.WalkSpells
import Derived.Lib.Hide
import Derived.LoopTactic
import Derived.Laws.Bits64b
import Derived.RangeFuncNested
namespace Go.Proofs.YtcfdpbbpdnpnnaaDoor
open Go Go.Proofs Go.RowKit Go.Shelf
set_option maxRecDepth 100000
/-- a set as a number: a bit for each that is in it; its words -/
def wordN (m i : Nat) : Nat := m / 2 ^ (64 * i) % 2 ^ 64
def word (m i : Nat) : Int := (wordN m i : Int)
def setV (m : Nat) : Value := .agg #[.int .u64 (word m 0), .int .u64 (word m 1), .int .u64 (word m 2), .int .u64 (word m 3)]
theorem wordN_lt (m i : Nat) : wordN m i < 18446744073709551616 := Nat.mod_lt _ (by decide)
theorem wordN_bit (m q r : Nat) (hr : r < 64) : (wordN m q).testBit r = m.testBit (64 * q + r) := by
  unfold wordN
  rw [Nat.testBit_mod_two_pow, decide_eq_true hr, Bool.true_and, Nat.testBit_div_two_pow, Nat.add_comm]
theorem word_bit (m q r : Nat) (hr : r < 64) : (bits BinOp.and IntKind.u64 (word m q / 2 ^ r) 1 == 1) = m.testBit (64 * q + r) := by
  have hlt : wordN m q / 2 ^ r < 18446744073709551616 := Nat.lt_of_le_of_lt (Nat.div_le_self _ _) (wordN_lt m q)
  have h := bits_and_u64_nat (wordN m q / 2 ^ r) 1 hlt (by decide)
  have e : ((wordN m q / 2 ^ r : Nat) : Int) = word m q / 2 ^ r := by unfold word; simp
  rw [e] at h
  have h1 : ((1 : Nat) : Int) = 1 := rfl
  rw [h1] at h
  rw [h, ← wordN_bit m q r hr, Nat.testBit_eq_decide_div_mod_eq, Nat.and_one_is_mod]
  by_cases hb : wordN m q / 2 ^ r % 2 = 1
  · rw [hb]; rfl
  · have : wordN m q / 2 ^ r % 2 = 0 := by omega
    rw [this]; rfl
theorem word_or (m q r : Nat) (hr : r < 64) : bits BinOp.or IntKind.u64 (word m q) (IntKind.u64.wrap (2 ^ r)) = ((wordN m q ||| 2 ^ r : Nat) : Int) := by
  have hlt : 2 ^ r < 18446744073709551616 := by
    have : 2 ^ r < 2 ^ 64 := Nat.pow_lt_pow_right (by decide) hr
    exact this
  have h := bits_or_u64_nat (wordN m q) (2 ^ r) (wordN_lt m q) hlt
  have e : ((2 ^ r : Nat) : Int) = 2 ^ r := by simp
  rw [e] at h
  have ew : IntKind.u64.wrap (2 ^ r) = 2 ^ r := by
    have h2 : ((2 ^ r : Nat) : Int) < ((18446744073709551616 : Nat) : Int) := Int.ofNat_lt.2 hlt
    have h3 : (0 : Int) ≤ ((2 ^ r : Nat) : Int) := Int.natCast_nonneg _
    rw [e] at h2 h3
    rw [IntKind.wrap_u64]
    exact Int.emod_eq_of_lt h3 h2
  rw [ew]
  exact h
theorem word_put (m x i : Nat) (h : x / 64 ≠ i) (hp : wordN (m ||| 2 ^ x) i = if x / 64 = i then wordN m i ||| 2 ^ (x % 64) else wordN m i) : word (m ||| 2 ^ x) i = word m i := by
  unfold word; rw [hp, if_neg h]
theorem wordN_put (m x i : Nat) : wordN (m ||| 2 ^ x) i = if x / 64 = i then wordN m i ||| 2 ^ (x % 64) else wordN m i := by
  apply Nat.eq_of_testBit_eq
  intro j
  by_cases hj : j < 64
  · rw [wordN_bit _ _ _ hj, Nat.testBit_or, Nat.testBit_two_pow]
    split
    · rename_i h
      rw [Nat.testBit_or, wordN_bit _ _ _ hj, Nat.testBit_two_pow]
      congr 1
      rw [decide_eq_decide]
      omega
    · rename_i h
      rw [wordN_bit _ _ _ hj, decide_eq_false (by omega), Bool.or_false]
  · have big : ∀ a : Nat, a < 18446744073709551616 → a.testBit j = false := fun a ha => Nat.testBit_lt_two_pow (Nat.lt_of_lt_of_le (show a < 2 ^ 64 from ha) (Nat.pow_le_pow_right (by decide) (by omega)))
    rw [big _ (wordN_lt _ _)]
    split
    · have h2 : 2 ^ (x % 64) < 2 ^ 64 := Nat.pow_lt_pow_right (by decide) (by omega)
      exact (big _ (Nat.or_lt_two_pow (n := 64) (wordN_lt m i) h2)).symm
    · exact (big _ (wordN_lt _ _)).symm
theorem shas_any (m x : Nat) (hx : x < 256) (w : World) :
    Calls Tryd.prog 24 #[setV m, .int .u8 (x : Int)] w fun e w' => e = .returned (.bool (m.testBit x)) ∧ Below w.heap.size w w' := by
  have hr : x % 64 < 64 := Nat.mod_lt _ (by decide)
  have H := word_bit m (x / 64) (x % 64) hr
  rw [Nat.div_add_mod] at H
  have H := Lib.hid H
  unfold setV
  obtain hq | hq | hq | hq : x / 64 = 0 ∨ x / 64 = 1 ∨ x / 64 = 2 ∨ x / 64 = 3 := by omega
  · rw [hq] at H
    go_enter Tryd.func24, Tryd.ntmps24
    go_wp2
    go_ret
    exact ⟨by rw [← H.out]; rfl, by go_grown⟩
  · rw [hq] at H
    go_enter Tryd.func24, Tryd.ntmps24
    go_wp2
    go_ret
    exact ⟨by rw [← H.out]; rfl, by go_grown⟩
  · rw [hq] at H
    go_enter Tryd.func24, Tryd.ntmps24
    go_wp2
    go_ret
    exact ⟨by rw [← H.out]; rfl, by go_grown⟩
  · rw [hq] at H
    go_enter Tryd.func24, Tryd.ntmps24
    go_wp2
    go_ret
    exact ⟨by rw [← H.out]; rfl, by go_grown⟩
theorem swith_any (m x : Nat) (hx : x < 256) (w : World) :
    Calls Tryd.prog 30 #[setV m, .int .u8 (x : Int)] w fun e w' => e = .returned (setV (m ||| 2 ^ x)) ∧ Below w.heap.size w w' := by
  have hr : x % 64 < 64 := Nat.mod_lt _ (by decide)
  have H := Lib.hid (word_or m (x / 64) (x % 64) hr)
  have P := Lib.hid (wordN_put m x)
  unfold setV
  obtain hq | hq | hq | hq : x / 64 = 0 ∨ x / 64 = 1 ∨ x / 64 = 2 ∨ x / 64 = 3 := by omega
  · rw [hq] at H
    have e0 : word (m ||| 2 ^ x) 0 = bits BinOp.or IntKind.u64 (word m 0) (IntKind.u64.wrap (2 ^ (x % 64))) := by rw [H.out]; unfold word; rw [P.out, if_pos hq]
    have e1 : word (m ||| 2 ^ x) 1 = word m 1 := word_put m x 1 (by omega) (P.out 1)
    have e2 : word (m ||| 2 ^ x) 2 = word m 2 := word_put m x 2 (by omega) (P.out 2)
    have e3 : word (m ||| 2 ^ x) 3 = word m 3 := word_put m x 3 (by omega) (P.out 3)
    rw [e0, e1, e2, e3]
    clear e0 e1 e2 e3 H P
    go_enter Tryd.func30, Tryd.ntmps30
    go_wp2
    refine bodyPost_ret (by simp [results, Tryd.f30, go_sem]; try rfl) rfl ?_
    exact ⟨rfl, by go_grown⟩
  · rw [hq] at H
    have e1 : word (m ||| 2 ^ x) 1 = bits BinOp.or IntKind.u64 (word m 1) (IntKind.u64.wrap (2 ^ (x % 64))) := by rw [H.out]; unfold word; rw [P.out, if_pos hq]
    have e0 : word (m ||| 2 ^ x) 0 = word m 0 := word_put m x 0 (by omega) (P.out 0)
    have e2 : word (m ||| 2 ^ x) 2 = word m 2 := word_put m x 2 (by omega) (P.out 2)
    have e3 : word (m ||| 2 ^ x) 3 = word m 3 := word_put m x 3 (by omega) (P.out 3)
    rw [e0, e1, e2, e3]
    clear e0 e1 e2 e3 H P
    go_enter Tryd.func30, Tryd.ntmps30
    go_wp2
    refine bodyPost_ret (by simp [results, Tryd.f30, go_sem]; try rfl) rfl ?_
    exact ⟨rfl, by go_grown⟩
  · rw [hq] at H
    have e2 : word (m ||| 2 ^ x) 2 = bits BinOp.or IntKind.u64 (word m 2) (IntKind.u64.wrap (2 ^ (x % 64))) := by rw [H.out]; unfold word; rw [P.out, if_pos hq]
    have e0 : word (m ||| 2 ^ x) 0 = word m 0 := word_put m x 0 (by omega) (P.out 0)
    have e1 : word (m ||| 2 ^ x) 1 = word m 1 := word_put m x 1 (by omega) (P.out 1)
    have e3 : word (m ||| 2 ^ x) 3 = word m 3 := word_put m x 3 (by omega) (P.out 3)
    rw [e0, e1, e2, e3]
    clear e0 e1 e2 e3 H P
    go_enter Tryd.func30, Tryd.ntmps30
    go_wp2
    refine bodyPost_ret (by simp [results, Tryd.f30, go_sem]; try rfl) rfl ?_
    exact ⟨rfl, by go_grown⟩
  · rw [hq] at H
    have e3 : word (m ||| 2 ^ x) 3 = bits BinOp.or IntKind.u64 (word m 3) (IntKind.u64.wrap (2 ^ (x % 64))) := by rw [H.out]; unfold word; rw [P.out, if_pos hq]
    have e0 : word (m ||| 2 ^ x) 0 = word m 0 := word_put m x 0 (by omega) (P.out 0)
    have e1 : word (m ||| 2 ^ x) 1 = word m 1 := word_put m x 1 (by omega) (P.out 1)
    have e2 : word (m ||| 2 ^ x) 2 = word m 2 := word_put m x 2 (by omega) (P.out 2)
    rw [e0, e1, e2, e3]
    clear e0 e1 e2 e3 H P
    go_enter Tryd.func30, Tryd.ntmps30
    go_wp2
    refine bodyPost_ret (by simp [results, Tryd.f30, go_sem]; try rfl) rfl ?_
    exact ⟨rfl, by go_grown⟩
theorem bhas_any (m x : Nat) (hx : x < 256) (w : World) :
    Calls Tryd.prog 44 #[setV m, .int .u8 (x : Int)] w fun e w' => e = .returned (.bool (m.testBit x)) ∧ Below w.heap.size w w' := by
  have hr : x % 64 < 64 := Nat.mod_lt _ (by decide)
  have H := word_bit m (x / 64) (x % 64) hr
  rw [Nat.div_add_mod] at H
  have H := Lib.hid H
  unfold setV
  obtain hq | hq | hq | hq : x / 64 = 0 ∨ x / 64 = 1 ∨ x / 64 = 2 ∨ x / 64 = 3 := by omega
  · rw [hq] at H
    go_enter Tryd.func44, Tryd.ntmps44
    go_wp2
    go_ret
    exact ⟨by rw [← H.out]; rfl, by go_grown⟩
  · rw [hq] at H
    go_enter Tryd.func44, Tryd.ntmps44
    go_wp2
    go_ret
    exact ⟨by rw [← H.out]; rfl, by go_grown⟩
  · rw [hq] at H
    go_enter Tryd.func44, Tryd.ntmps44
    go_wp2
    go_ret
    exact ⟨by rw [← H.out]; rfl, by go_grown⟩
  · rw [hq] at H
    go_enter Tryd.func44, Tryd.ntmps44
    go_wp2
    go_ret
    exact ⟨by rw [← H.out]; rfl, by go_grown⟩
theorem bwith_any (m x : Nat) (hx : x < 256) (w : World) :
    Calls Tryd.prog 63 #[setV m, .int .u8 (x : Int)] w fun e w' => e = .returned (setV (m ||| 2 ^ x)) ∧ Below w.heap.size w w' := by
  have hr : x % 64 < 64 := Nat.mod_lt _ (by decide)
  have H := Lib.hid (word_or m (x / 64) (x % 64) hr)
  have P := Lib.hid (wordN_put m x)
  unfold setV
  obtain hq | hq | hq | hq : x / 64 = 0 ∨ x / 64 = 1 ∨ x / 64 = 2 ∨ x / 64 = 3 := by omega
  · rw [hq] at H
    have e0 : word (m ||| 2 ^ x) 0 = bits BinOp.or IntKind.u64 (word m 0) (IntKind.u64.wrap (2 ^ (x % 64))) := by rw [H.out]; unfold word; rw [P.out, if_pos hq]
    have e1 : word (m ||| 2 ^ x) 1 = word m 1 := word_put m x 1 (by omega) (P.out 1)
    have e2 : word (m ||| 2 ^ x) 2 = word m 2 := word_put m x 2 (by omega) (P.out 2)
    have e3 : word (m ||| 2 ^ x) 3 = word m 3 := word_put m x 3 (by omega) (P.out 3)
    rw [e0, e1, e2, e3]
    clear e0 e1 e2 e3 H P
    go_enter Tryd.func63, Tryd.ntmps63
    go_wp2
    refine bodyPost_ret (by simp [results, Tryd.f63, go_sem]; try rfl) rfl ?_
    exact ⟨rfl, by go_grown⟩
  · rw [hq] at H
    have e1 : word (m ||| 2 ^ x) 1 = bits BinOp.or IntKind.u64 (word m 1) (IntKind.u64.wrap (2 ^ (x % 64))) := by rw [H.out]; unfold word; rw [P.out, if_pos hq]
    have e0 : word (m ||| 2 ^ x) 0 = word m 0 := word_put m x 0 (by omega) (P.out 0)
    have e2 : word (m ||| 2 ^ x) 2 = word m 2 := word_put m x 2 (by omega) (P.out 2)
    have e3 : word (m ||| 2 ^ x) 3 = word m 3 := word_put m x 3 (by omega) (P.out 3)
    rw [e0, e1, e2, e3]
    clear e0 e1 e2 e3 H P
    go_enter Tryd.func63, Tryd.ntmps63
    go_wp2
    refine bodyPost_ret (by simp [results, Tryd.f63, go_sem]; try rfl) rfl ?_
    exact ⟨rfl, by go_grown⟩
  · rw [hq] at H
    have e2 : word (m ||| 2 ^ x) 2 = bits BinOp.or IntKind.u64 (word m 2) (IntKind.u64.wrap (2 ^ (x % 64))) := by rw [H.out]; unfold word; rw [P.out, if_pos hq]
    have e0 : word (m ||| 2 ^ x) 0 = word m 0 := word_put m x 0 (by omega) (P.out 0)
    have e1 : word (m ||| 2 ^ x) 1 = word m 1 := word_put m x 1 (by omega) (P.out 1)
    have e3 : word (m ||| 2 ^ x) 3 = word m 3 := word_put m x 3 (by omega) (P.out 3)
    rw [e0, e1, e2, e3]
    clear e0 e1 e2 e3 H P
    go_enter Tryd.func63, Tryd.ntmps63
    go_wp2
    refine bodyPost_ret (by simp [results, Tryd.f63, go_sem]; try rfl) rfl ?_
    exact ⟨rfl, by go_grown⟩
  · rw [hq] at H
    have e3 : word (m ||| 2 ^ x) 3 = bits BinOp.or IntKind.u64 (word m 3) (IntKind.u64.wrap (2 ^ (x % 64))) := by rw [H.out]; unfold word; rw [P.out, if_pos hq]
    have e0 : word (m ||| 2 ^ x) 0 = word m 0 := word_put m x 0 (by omega) (P.out 0)
    have e1 : word (m ||| 2 ^ x) 1 = word m 1 := word_put m x 1 (by omega) (P.out 1)
    have e2 : word (m ||| 2 ^ x) 2 = word m 2 := word_put m x 2 (by omega) (P.out 2)
    rw [e0, e1, e2, e3]
    clear e0 e1 e2 e3 H P
    go_enter Tryd.func63, Tryd.ntmps63
    go_wp2
    refine bodyPost_ret (by simp [results, Tryd.f63, go_sem]; try rfl) rfl ?_
    exact ⟨rfl, by go_grown⟩
end Go.Proofs.YtcfdpbbpdnpnnaaDoor
