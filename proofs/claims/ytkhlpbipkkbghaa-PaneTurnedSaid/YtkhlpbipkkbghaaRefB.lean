/- The reference's numbers of 128 bits: Of, minus, Neg, Add. -/
import Derived.Test.YtkhlpbipkkbghaaRefA
namespace Go.Proofs.Ytkhlpbipkkbghaa
open Go Go.Proofs Go.RowKit
set_option maxRecDepth 100000

theorem bcell {W w1 : World} (hb : Below W.heap.size W w1) : (∀ b o, b < W.heap.size → w1.cell? ⟨b, o, none⟩ = W.cell? ⟨b, o, none⟩) ∧ (∀ b o, b < W.heap.size → w1.frozen? ⟨b, o, none⟩ = W.frozen? ⟨b, o, none⟩) :=
  ⟨fun b o h => hb.cell (p := ⟨b, o, none⟩) h, fun b o h => hb.frozen (p := ⟨b, o, none⟩) h⟩
theorem cell_set {w : World} {p : Addr} {v : Value} (h : (w.cell? p).isSome = true) : (w.setCell p v).cell? p = some v := by
  obtain ⟨u, hu⟩ := Option.isSome_iff_exists.1 h
  exact World.cell?_setCell_same _ _ _ hu
attribute [local go_sem] cell_set
theorem ref_of (n : Int) (hn : I64 n) (W : World) :
    Calls Try.prog 26 #[.int .i64 n] W fun e w' => e = .returned (.agg #[.int .i64 (n / 9223372036854775808), .int .u64 (n % 18446744073709551616)]) ∧ Below W.heap.size W w' := by
  unfold I64 at hn
  have e1 : IntKind.u64.wrap n = n % 18446744073709551616 := by rw [IntKind.wrap_u64]
  by_cases hc : n < 0
  · have e2 : n / 9223372036854775808 = -1 := by omega
    rw [e2]
    have E := Lib.hid e1
    clear e2
    go_enter Try.func26, Try.ntmps26
    go_wp2_with fail
    go_returns
    exact ⟨rfl, by go_grown⟩
  · have e2 : n / 9223372036854775808 = 0 := by omega
    rw [e2]
    clear e2
    go_enter Try.func26, Try.ntmps26
    go_wp2_with fail
    go_returns
    exact ⟨rfl, by go_grown⟩
end Go.Proofs.Ytkhlpbipkkbghaa
