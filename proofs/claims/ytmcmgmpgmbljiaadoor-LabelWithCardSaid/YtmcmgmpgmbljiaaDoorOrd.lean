/- How texts stand, by bytes: an order. -/
import Derived.Test.YtmcmgmpgmbljiaaDoorProg
namespace Go.Proofs.YtmcmgmpgmbljiaaDoor
open Go Go.Proofs
theorem bl_irr : ∀ x : List UInt8, Op.bytesLess x x = false
  | [] => rfl
  | a :: t => by
    show (decide (a < a) || (a == a && Op.bytesLess t t)) = false
    rw [bl_irr t]; simp
theorem bl_tot : ∀ x y : List UInt8, (Op.bytesLess x y || x == y) = !Op.bytesLess y x
  | [], [] => rfl
  | [], _ :: _ => rfl
  | _ :: _, [] => rfl
  | a :: x, b :: y => by
    have ih := bl_tot x y
    show (decide (a < b) || (a == b && Op.bytesLess x y) || (a :: x == b :: y)) = !(decide (b < a) || (b == a && Op.bytesLess y x))
    rcases Nat.lt_trichotomy a.toNat b.toNat with h | h | h
    · have h1 : a < b := h
      have h2 : ¬ b < a := fun h' => by have : b.toNat < a.toNat := h'; omega
      have h3 : (b == a) = false := by rw [beq_eq_false_iff_ne]; rintro rfl; omega
      simp [h1, h2, h3]
    · obtain rfl : a = b := UInt8.toNat.inj h
      have h2 : ¬ a < a := fun h' => by have : a.toNat < a.toNat := h'; omega
      have e : (a :: x == a :: y) = (x == y) := by simp
      rw [e]
      simp only [h2, decide_false, Bool.false_or, beq_self_eq_true, Bool.true_and]
      exact ih
    · have h1 : b < a := h
      have h2 : ¬ a < b := fun h' => by have : a.toNat < b.toNat := h'; omega
      have h3 : (a == b) = false := by rw [beq_eq_false_iff_ne]; rintro rfl; omega
      have e : (a :: x == b :: y) = false := by rw [beq_eq_false_iff_ne]; intro e'; injection e' with e1; subst e1; omega
      rw [e, h3]
      simp [h1, h2]
theorem bl_trans : ∀ x y z : List UInt8, Op.bytesLess x y = true → Op.bytesLess y z = true → Op.bytesLess x z = true
  | _, _, [], _, h => by revert h; unfold Op.bytesLess; simp
  | [], _, _ :: _, _, _ => rfl
  | _ :: _, [], _ :: _, h, _ => by cases h
  | a :: x, b :: y, c :: z, g1, g2 => by
    have h1 : (decide (a < b) || (a == b && Op.bytesLess x y)) = true := g1
    have h2 : (decide (b < c) || (b == c && Op.bytesLess y z)) = true := g2
    clear g1 g2
    show (decide (a < c) || (a == c && Op.bytesLess x z)) = true
    rw [Bool.or_eq_true, decide_eq_true_eq, Bool.and_eq_true, beq_iff_eq] at h1 h2 ⊢
    rcases h1 with p1 | ⟨rfl, p1⟩
    · rcases h2 with p2 | ⟨rfl, p2⟩
      · exact .inl (Nat.lt_trans p1 p2)
      · exact .inl p1
    · rcases h2 with p2 | ⟨rfl, p2⟩
      · exact .inl p2
      · exact .inr ⟨rfl, bl_trans x y z p1 p2⟩
theorem bl_asym {x y : List UInt8} (h : Op.bytesLess x y = true) : Op.bytesLess y x = false := by
  have := bl_tot x y
  rw [h, Bool.true_or] at this
  cases h2 : Op.bytesLess y x
  · rfl
  · rw [h2] at this; cases this
end Go.Proofs.YtmcmgmpgmbljiaaDoor
