/- Products fit 128 bits. -/
import Derived.Test.YtmggiclikbacjaaDoorMath
namespace Go.Proofs.YtmggiclikbacjaaDoor
open Go Go.Proofs Go.RowKit
theorem mul_bd2 (a b : Int) (A B : Nat) (ha : a.natAbs ≤ A) (hb : b.natAbs ≤ B) : -((A * B : Nat) : Int) ≤ a * b ∧ a * b ≤ ((A * B : Nat) : Int) := by
  have h := Nat.mul_le_mul ha hb
  rw [← Int.natAbs_mul] at h
  omega
theorem mul_fits (a b : Int) (ha : I64 a) (hb : I64 b) : Fits (a * b) := by
  unfold I64 at ha hb
  have h := mul_bd2 a b 9223372036854775808 9223372036854775808 (by omega) (by omega)
  unfold Fits
  simp only [Nat.reduceMul] at h
  omega
end Go.Proofs.YtmggiclikbacjaaDoor
