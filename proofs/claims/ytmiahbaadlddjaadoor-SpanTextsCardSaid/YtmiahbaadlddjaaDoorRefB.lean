/- The reference's numbers of 128 bits: Of, minus, Neg, Add. -/
import Derived.Test.YtmiahbaadlddjaaDoorRefA
namespace Go.Proofs.YtmiahbaadlddjaaDoor
open Go Go.Proofs Go.RowKit
set_option maxRecDepth 100000

theorem bcell {W w1 : World} (hb : Below W.heap.size W w1) : (∀ b o, b < W.heap.size → w1.cell? ⟨b, o, none⟩ = W.cell? ⟨b, o, none⟩) ∧ (∀ b o, b < W.heap.size → w1.frozen? ⟨b, o, none⟩ = W.frozen? ⟨b, o, none⟩) :=
  ⟨fun b o h => hb.cell (p := ⟨b, o, none⟩) h, fun b o h => hb.frozen (p := ⟨b, o, none⟩) h⟩
theorem cell_set {w : World} {p : Addr} {v : Value} (h : (w.cell? p).isSome = true) : (w.setCell p v).cell? p = some v := by
  obtain ⟨u, hu⟩ := Option.isSome_iff_exists.1 h
  exact World.cell?_setCell_same _ _ _ hu
attribute [local go_sem] cell_set
theorem ref_of (n : Int) (hn : I64 n) (W : World) :
    Calls Tryd.prog 34 #[.int .i64 n] W fun e w' => e = .returned (.agg #[.int .i64 (n / 9223372036854775808), .int .u64 (n % 18446744073709551616)]) ∧ Below W.heap.size W w' := by
  unfold I64 at hn
  have e1 : IntKind.u64.wrap n = n % 18446744073709551616 := by rw [IntKind.wrap_u64]
  by_cases hc : n < 0
  · have e2 : n / 9223372036854775808 = -1 := by omega
    rw [e2]
    have E := Lib.hid e1
    clear e2
    go_enter Tryd.func34, Tryd.ntmps34
    go_wp2_with fail
    go_returns
    exact ⟨rfl, by go_grown⟩
  · have e2 : n / 9223372036854775808 = 0 := by omega
    rw [e2]
    clear e2
    go_enter Tryd.func34, Tryd.ntmps34
    go_wp2_with fail
    go_returns
    exact ⟨rfl, by go_grown⟩
theorem ref_minus (h1 l1 h l k : Int) (i1 : InI h1 l1) (i : InI h l) (v : val h l = - val h1 l1 + k * 340282366920938463463374607431768211456) (W : World) :
    Calls Tryd.prog 40 #[.agg #[.int .i64 h1, .int .u64 l1]] W fun e w' => e = .returned (.agg #[.int .i64 h, .int .u64 l]) ∧ Below W.heap.size W w' := by
  have j : InI (-1 - h1) (18446744073709551615 - l1) := by obtain ⟨a, b, c, d⟩ := i1; exact ⟨by omega, by omega, by omega, by omega⟩
  have R := Lib.hid (fun W => ref_raw (-1 - h1) (18446744073709551615 - l1) 0 1 h l k j ⟨by omega, by omega, by omega, by omega⟩ i (by unfold val at *; omega) W)
  have x1 := xor_i64 h1 ⟨i1.h1, i1.h2⟩
  have x2 := xor_u64 l1 ⟨i1.l1, by have := i1.l2; omega⟩
  clear v i j
  go_enter Tryd.func40, Tryd.ntmps40
  go_wp2_with fail
  refine (R.out _).mono ?_
  rintro e w1 ⟨rfl, hb⟩
  have B := below_then (below_new (below_cells _) _) hb
  obtain ⟨hc, hf⟩ := bcell hb
  have lt := hb.size
  go_wp2
  refine bodyPost_ret (by simp [results, Tryd.results40, go_sem, hc]; try rfl) rfl ?_
  exact ⟨rfl, by go_grown⟩
end Go.Proofs.YtmiahbaadlddjaaDoor
