/- label.Hash, Shard. -/
import Derived.Test.YtgldieboflmnhaaGreatDoorTxB
import Derived.Lib.AtoiErrMem
namespace Go.Proofs.YtgldieboflmnhaaGreatDoor
open Go Go.Proofs Go.RowKit Go.Shelf
set_option maxRecDepth 100000
def textL (zs : List SLab) : List UInt8 := (runS zs).1 ++ [125]
/-- FNV-1a, a byte more -/
def hStep (h : Int) (c : UInt8) : Int := IntKind.u64.wrap (bits BinOp.xor IntKind.u64 h (c.toNat : Int) * 1099511628211)
def hashI (l : List UInt8) : Int := l.foldl hStep 14695981039346656037
theorem step_nn (h : Int) (c : UInt8) : 0 ≤ hStep h c ∧ hStep h c < 18446744073709551616 := by
  unfold hStep; rw [IntKind.wrap_u64]; omega
theorem hash_bd (l : List UInt8) : 0 ≤ hashI l ∧ hashI l < 18446744073709551616 := by
  have g : ∀ (l : List UInt8) (h : Int), 0 ≤ h ∧ h < 18446744073709551616 → 0 ≤ l.foldl hStep h ∧ l.foldl hStep h < 18446744073709551616 := by
    intro l
    induction l with
    | nil => intro h hh; exact hh
    | cons c t ih => intro h _; rw [List.foldl_cons]; exact ih _ (step_nn h c)
  exact g l _ ⟨by omega, by omega⟩
def shardI (l : List UInt8) (n : Int) : Int := if n < 1 then 0 else hashI l % n
end Go.Proofs.YtgldieboflmnhaaGreatDoor
