/- The reference's numbers of 128 bits: raw, Add, minus, Neg, Cmp. -/
import Derived.Test.YtkhlpbipkkbghaaWalkA
import Derived.Test.YtkhlpbipkkbghaaAt
import Derived.Test.YtkhlpbipkkbghaaMath
import Derived.Lib.Hide
namespace Go.Proofs.Ytkhlpbipkkbghaa
open Go Go.Proofs Go.RowKit
set_option maxRecDepth 100000

theorem ref_raw (h1 l1 h2 l2 h l k : Int) (i1 : InI h1 l1) (i2 : InI h2 l2) (i : InI h l) (v : val h l = val h1 l1 + val h2 l2 + k * 340282366920938463463374607431768211456) (W : World) :
    Calls Try.prog 57 #[.agg #[.int .i64 h1, .int .u64 l1], .agg #[.int .i64 h2, .int .u64 l2]] W fun e w' => e = .returned (.agg #[.int .i64 h, .int .u64 l]) ∧ Below W.heap.size W w' := by
  obtain ⟨a1, a2, a3, a4⟩ := i1
  obtain ⟨b1, b2, b3, b4⟩ := i2
  obtain ⟨c1, c2, c3, c4⟩ := i
  unfold val at v
  have e1 : IntKind.u64.wrap (l1 + l2) = l := by rw [IntKind.wrap_u64]; omega
  by_cases hc : l < l1
  · have e2 : wrap64 (wrap64 (h1 + h2) + 1) = h := by unfold wrap64; omega
    clear v
    go_enter Try.func57, Try.ntmps57
    go_wp2_with fail
    go_returns
    exact ⟨rfl, by go_grown⟩
  · have e2 : IntKind.i64.wrap (h1 + h2) = h := by rw [IntKind.wrap_i64]; omega
    clear v
    go_enter Try.func57, Try.ntmps57
    go_wp2_with fail
    go_returns
    exact ⟨rfl, by go_grown⟩
end Go.Proofs.Ytkhlpbipkkbghaa
