/- The reference's product of 64 bits by 64, size, Mul. -/
import Derived.Test.YtmggiclikbacjaaDoorRefC
import Derived.Test.YtmggiclikbacjaaDoorWalkH
import Derived.Lib.Mul64
namespace Go.Proofs.YtmggiclikbacjaaDoor
open Go Go.Proofs Go.RowKit
set_option maxRecDepth 100000
attribute [local go_sem] cell_set
theorem maskN (x : Nat) (hx : x < 18446744073709551616) : bits BinOp.and IntKind.u64 (x : Int) 4294967295 = ((x % 4294967296 : Nat) : Int) := by
  rw [mask32 _ (by omega) (by omega)]; omega
theorem divN (x : Nat) : (x : Int) / 4294967296 = ((x / 4294967296 : Nat) : Int) := by omega
theorem mulN (a b : Nat) : (a : Int) * (b : Int) = ((a * b : Nat) : Int) := (Int.natCast_mul a b).symm
theorem addN (a b : Nat) : (a : Int) + (b : Int) = ((a + b : Nat) : Int) := (Int.natCast_add a b).symm
theorem wrapN (a : Nat) (ha : a < 18446744073709551616) : IntKind.u64.wrap (a : Int) = (a : Int) := by rw [IntKind.wrap_u64]; omega
theorem or_parts (z d : Nat) (hd : d < 4294967296) : bits BinOp.or IntKind.u64 (IntKind.u64.wrap ((z : Int) * 4294967296)) (d : Int) = (((z * 4294967296) % 18446744073709551616 + d : Nat) : Int) := by
  rw [show IntKind.u64.wrap ((z : Int) * 4294967296) = (((z * 4294967296) % 18446744073709551616 : Nat) : Int) by rw [IntKind.wrap_u64]; omega, u64_or_nat _ _ (by omega) (by omega)]
  have e : (z * 4294967296) % 18446744073709551616 = (z % 4294967296) <<< 32 := by rw [Nat.shiftLeft_eq]; omega
  rw [e, ← Nat.shiftLeft_add_eq_or_of_lt (by omega)]
set_option maxHeartbeats 2000000 in
theorem half_any (x y : Nat) (hx : x < 18446744073709551616) (hy : y < 18446744073709551616) (W : World) :
    Calls Tryd.prog 44 #[.int .u64 x, .int .u64 y] W fun e w' => e = .returned (.tuple #[.int .u64 ((x * y / 18446744073709551616 : Nat) : Int), .int .u64 ((x * y % 18446744073709551616 : Nat) : Int)]) ∧ W = w' := by
  obtain ⟨bd, bt, bw, hhi⟩ := Lib.mul64_hi x y hx hy
  have ba := Lib.half_mul_le (a := x / 4294967296) (b := y / 4294967296) (by omega) (by omega)
  have bb := Lib.half_mul_le (a := x / 4294967296) (b := y % 4294967296) (by omega) (by omega)
  have bc := Lib.half_mul_le (a := x % 4294967296) (b := y / 4294967296) (by omega) (by omega)
  have ba' : x / 4294967296 * (y / 4294967296) < 18446744073709551616 := by omega
  have bb' : x / 4294967296 * (y % 4294967296) < 18446744073709551616 := by omega
  have bc' : x % 4294967296 * (y / 4294967296) < 18446744073709551616 := by omega
  have bw' : x % 4294967296 * (y / 4294967296) + (x / 4294967296 * (y % 4294967296) + x % 4294967296 * (y % 4294967296) / 4294967296) % 4294967296 < 18446744073709551616 := by omega
  have bh1 : x / 4294967296 * (y / 4294967296) + (x / 4294967296 * (y % 4294967296) + x % 4294967296 * (y % 4294967296) / 4294967296) / 4294967296 < 18446744073709551616 := by omega
  have bh : x / 4294967296 * (y / 4294967296) + (x / 4294967296 * (y % 4294967296) + x % 4294967296 * (y % 4294967296) / 4294967296) / 4294967296 + (x % 4294967296 * (y / 4294967296) + (x / 4294967296 * (y % 4294967296) + x % 4294967296 * (y % 4294967296) / 4294967296) % 4294967296) / 4294967296 < 18446744073709551616 := by omega
  have hh : x / 4294967296 * (y / 4294967296) + (x / 4294967296 * (y % 4294967296) + x % 4294967296 * (y % 4294967296) / 4294967296) / 4294967296 + (x % 4294967296 * (y / 4294967296) + (x / 4294967296 * (y % 4294967296) + x % 4294967296 * (y % 4294967296) / 4294967296) % 4294967296) / 4294967296 = x * y / 18446744073709551616 := by
    rw [← hhi, Nat.add_comm (x % 4294967296 * (y / 4294967296))]
  have hl : (x % 4294967296 * (y / 4294967296) + (x / 4294967296 * (y % 4294967296) + x % 4294967296 * (y % 4294967296) / 4294967296) % 4294967296) * 4294967296 % 18446744073709551616 + x % 4294967296 * (y % 4294967296) % 4294967296 = x * y % 18446744073709551616 := by
    have e : x * y = (x / 4294967296) * (y / 4294967296) * (4294967296 * 4294967296) + ((x / 4294967296) * (y % 4294967296) + (x % 4294967296) * (y / 4294967296)) * 4294967296 + (x % 4294967296) * (y % 4294967296) := by
      rw [← Lib.split_mul, Nat.div_add_mod' x 4294967296, Nat.div_add_mod' y 4294967296]
    clear hh hhi
    rw [e]
    generalize (x / 4294967296) * (y / 4294967296) = a at *
    generalize (x / 4294967296) * (y % 4294967296) = b at *
    generalize (x % 4294967296) * (y / 4294967296) = c at *
    generalize (x % 4294967296) * (y % 4294967296) = d at *
    omega
  have HH := Lib.hid hh
  have HL := Lib.hid hl
  clear hh hl hhi
  go_enter Tryd.func44, Tryd.ntmps44
  go_wp2
  simp only [maskN x hx, maskN y hy, divN, mulN, addN, wrapN _ bd, wrapN _ bb', wrapN _ bt, maskN _ bt, maskN _ bd, wrapN _ bc', wrapN _ bw', wrapN _ ba', wrapN _ bh1, wrapN _ bh]
  rw [or_parts _ _ (Nat.mod_lt _ (by omega)), HH.out, HL.out]
  go_ret2
  exact ⟨rfl, rfl⟩
end Go.Proofs.YtmggiclikbacjaaDoor
