/- The reference's WideText. -/
import Derived.Test.YtmiahbaadlddjaaDoorRefH
namespace Go.Proofs.YtmiahbaadlddjaaDoor
open Go Go.Proofs Go.RowKit
set_option maxRecDepth 100000
attribute [local go_sem] cell_set
theorem wrap_exN (v : Int) : ∃ h l k : Int, InI h l ∧ val h l = v + k * 340282366920938463463374607431768211456 := by
  refine ⟨wrap64 (v / 18446744073709551616), v % 18446744073709551616, ?_⟩
  have e : ∃ k : Int, wrap64 (v / 18446744073709551616) = v / 18446744073709551616 + k * 18446744073709551616 := ⟨(wrap64 (v / 18446744073709551616) - v / 18446744073709551616) / 18446744073709551616, by unfold wrap64; omega⟩
  obtain ⟨k, hk⟩ := e
  refine ⟨k, ⟨by unfold wrap64; omega, by unfold wrap64; omega, by omega, by omega⟩, by rw [hk]; unfold val; omega⟩
theorem len39 (n : Nat) (h : n < 340282366920938463463374607431768211456) : (Lib.decDigits n).length ≤ 39 :=
  len_pow 39 n (by omega) (by have : (10 : Nat) ^ 39 = 1000000000000000000000000000000000000000 := by decide
                              omega)
set_option maxHeartbeats 1000000 in
theorem ref_text (h1 l1 : Int) (i1 : InI h1 l1) (W : World) :
    Calls Tryd.prog 33 #[.agg #[.int .i64 h1, .int .u64 l1]] W fun e w' => e = .returned (.string ⟨(Lib.itoa (val h1 l1)).toArray⟩) ∧ Below W.heap.size W w' := by
  have j := i1
  obtain ⟨p1, p2, p3, p4⟩ := j
  by_cases hc : h1 < 0
  · obtain ⟨h, l, k, i, v⟩ := wrap_exN (- val h1 l1)
    have M := Lib.hid (fun W => ref_minus h1 l1 h l k i1 i v W)
    have q := i
    obtain ⟨q1, q2, q3, q4⟩ := q
    obtain ⟨x, hx⟩ : ∃ x : Nat, (x : Int) = h % 18446744073709551616 := ⟨(h % 18446744073709551616).toNat, by omega⟩
    obtain ⟨y, rfl⟩ := Int.eq_ofNat_of_zero_le q3
    have e1 : IntKind.u64.wrap h = (x : Int) := by rw [IntKind.wrap_u64]; omega
    have hn : x * 18446744073709551616 + y = (val h1 l1).natAbs := by unfold val at *; omega
    have hneg : val h1 l1 < 0 := by unfold val; omega
    have hb : x * 18446744073709551616 + y < 340282366920938463463374607431768211456 := by omega
    have D := Lib.hid (fun W => digits_any x y (by omega) (by omega) W)
    have hl := len39 _ hb
    rw [Lib.itoa, if_pos hneg, ← hn]
    generalize Lib.decDigits (x * 18446744073709551616 + y) = d at *
    have g1 : ¬ 9223372036854775807 < 1 + d.length := by omega
    clear hn hneg hb hx q1 q2 q4 p1 p2 p3 p4 v i i1 q3 hl
    go_enter Tryd.func33, Tryd.ntmps33
    go_wp2_with fail
    refine (M.out _).mono ?_
    rintro e w1 ⟨rfl, hb1⟩
    have DA : At w1 (W.heap.size) [.int .i64 h1, .int .u64 l1] := by have h := (At.new (W) #[.int .i64 h1, .int .u64 l1] 61).below hb1; simpa using h
    have B : Below W.heap.size W w1 := below_then (below_new (Below.refl _ _) (.cells #[.int .i64 h1, .int .u64 l1] 61)) hb1
    clear hb1
    have aA0 := DA.cell 0 _ rfl
    have aA1 := DA.cell 1 _ rfl
    have nA := DA.lt
    go_wp2_with fail
    refine (D.out _).mono ?_
    rintro e w2 ⟨rfl, hb2⟩
    clear aA0 aA1 nA
    have DA := (DA.alloc (.cells #[.int .i64 h, .int .u64 (y : Int)] 61)).below hb2
    have DM : At w2 (w1.heap.size) [.int .i64 h, .int .u64 (y : Int)] := by have h := (At.new (w1) #[.int .i64 h, .int .u64 (y : Int)] 61).below hb2; simpa using h
    have B : Below W.heap.size W w2 := below_then (below_new (B) (.cells #[.int .i64 h, .int .u64 (y : Int)] 61)) hb2
    clear hb2
    have aA0 := DA.cell 0 _ rfl
    have aA1 := DA.cell 1 _ rfl
    have nA := DA.lt
    have aM0 := DM.cell 0 _ rfl
    have aM1 := DM.cell 1 _ rfl
    have nM := DM.lt
    go_wp2
    go_ret
    exact ⟨by rw [← bapp1]; rfl, by go_grown⟩
  · obtain ⟨x, rfl⟩ := Int.eq_ofNat_of_zero_le (a := h1) (by omega)
    obtain ⟨y, rfl⟩ := Int.eq_ofNat_of_zero_le p3
    have e1 : IntKind.u64.wrap (x : Int) = (x : Int) := by rw [IntKind.wrap_u64]; omega
    have hn : x * 18446744073709551616 + y = (val x y).toNat := by unfold val; omega
    have hneg : ¬ val x y < 0 := by unfold val; omega
    have D := Lib.hid (fun W => digits_any x y (by omega) (by omega) W)
    rw [Lib.itoa, if_neg hneg, ← hn]
    generalize Lib.decDigits (x * 18446744073709551616 + y) = d at *
    clear hn hneg p1 p2 p3 p4 i1
    go_enter Tryd.func33, Tryd.ntmps33
    go_wp2_with fail
    refine (D.out _).mono ?_
    rintro e w1 ⟨rfl, hb1⟩
    have DA : At w1 (W.heap.size) [.int .i64 (x : Int), .int .u64 (y : Int)] := by have h := (At.new (W) #[.int .i64 (x : Int), .int .u64 (y : Int)] 61).below hb1; simpa using h
    have B : Below W.heap.size W w1 := below_then (below_new (Below.refl _ _) (.cells #[.int .i64 (x : Int), .int .u64 (y : Int)] 61)) hb1
    clear hb1
    have aA0 := DA.cell 0 _ rfl
    have aA1 := DA.cell 1 _ rfl
    have nA := DA.lt
    go_wp2
    go_ret
    exact ⟨rfl, by go_grown⟩
end Go.Proofs.YtmiahbaadlddjaaDoor
