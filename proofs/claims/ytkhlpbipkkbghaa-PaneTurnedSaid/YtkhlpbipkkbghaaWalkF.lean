/- Cmp, Neg, Mul, plus: of package wide. -/
import Derived.Test.YtkhlpbipkkbghaaWalkD
namespace Go.Proofs.Ytkhlpbipkkbghaa
open Go Go.Proofs Go.RowKit
set_option maxRecDepth 100000

theorem InI.not {h l : Int} (i : InI h l) : InI (-1 - h) (18446744073709551615 - l) := by
  obtain ⟨_, _, _, _⟩ := i; exact ⟨by omega, by omega, by omega, by omega⟩
theorem val_not (h l : Int) : val (-1 - h) (18446744073709551615 - l) + val 0 1 = -val h l := by unfold val; omega
theorem in01 : InI 0 1 := ⟨by omega, by omega, by omega, by omega⟩
end Go.Proofs.Ytkhlpbipkkbghaa
