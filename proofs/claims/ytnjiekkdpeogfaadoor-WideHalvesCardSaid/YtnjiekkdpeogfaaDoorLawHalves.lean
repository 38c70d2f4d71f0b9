/- The law on a product by a sum, walked. -/
import Derived.Test.YtnjiekkdpeogfaaDoorWalkK
import Derived.Test.YtnjiekkdpeogfaaDoorLawA
namespace Go.Proofs.YtnjiekkdpeogfaaDoor
open Go Go.Proofs Go.RowKit
set_option maxRecDepth 100000
set_option maxHeartbeats 2000000 in
theorem halves_law (a b c : Int) (ha : -9223372036854775808 ≤ a ∧ a ≤ 9223372036854775807) (hb : -2147483648 ≤ b ∧ b ≤ 2147483647) (hc : -2147483648 ≤ c ∧ c ≤ 2147483647) (w : World) (ht : Tab w) :
    Calls Tryd.prog 10 #[.int .i64 a, .int .i32 b, .int .i32 c] w fun e w' => e = .returned (.bool true) ∧ Below w.heap.size w w' := by
  obtain ⟨h1, l1, i1, v1⟩ := fits_ex (mul_fits a b ha (by unfold I64; omega))
  obtain ⟨h2, l2, i2, v2⟩ := fits_ex (mul_fits a c ha (by unfold I64; omega))
  obtain ⟨h3, l3, i3, v3⟩ := fits_ex (mul_fits a (b + c) ha (by unfold I64; omega))
  have K := Lib.hid (known_any w ht)
  have M1 := Lib.hid (fun W => Mul_any a b h1 l1 ha (by unfold I64; omega) i1 v1 W)
  have M2 := Lib.hid (fun W => Mul_any a c h2 l2 ha (by unfold I64; omega) i2 v2 W)
  have M3 := Lib.hid (fun W => Mul_any a (b + c) h3 l3 ha (by unfold I64; omega) i3 v3 W)
  have S := Lib.hid (fun W => Add_ok h1 l1 h2 l2 h3 l3 i1 i2 i3 (by rw [v1, v2, v3, Int.mul_add]) W)
  have e1 : IntKind.i64.wrap b = b := by rw [IntKind.wrap_i64]; omega
  have e2 : IntKind.i64.wrap c = c := by rw [IntKind.wrap_i64]; omega
  have e3 : IntKind.i64.wrap (b + c) = b + c := by rw [IntKind.wrap_i64]; omega
  have e4 : wrap64 b = b := by unfold wrap64; omega
  have e5 : wrap64 c = c := by unfold wrap64; omega
  clear i1 v1 i2 v2 i3 v3 ht ha
  go_enter Tryd.func10, Tryd.ntmps10
  go_wp2_with fail
  refine K.out.mono ?_
  rintro e w1 ⟨rfl, B1⟩
  go_wp2_with fail
  refine (M1.out _).mono ?_
  rintro e w2 ⟨rfl, hb1⟩
  have B2 := below_then B1 hb1
  clear hb1 B1
  go_wp2_with fail
  refine (M2.out _).mono ?_
  rintro e w3 ⟨rfl, hb1⟩
  have B3 := below_then B2 hb1
  clear hb1 B2
  go_wp2_with fail
  refine (S.out _).mono ?_
  rintro e w4 ⟨rfl, hb1⟩
  have B4 := below_new (below_then B3 hb1) (.cells #[.int .i64 h3, .int .u64 l3] 24)
  have D := At.new w4 #[.int .i64 h3, .int .u64 l3] 24
  clear hb1 B3
  go_wp2_with fail
  generalize w4.alloc (.cells #[.int .i64 h3, .int .u64 l3] 24) = W4 at *
  generalize w4.heap.size = b4 at *
  have c0 := D.cell 0 _ rfl
  have c1 := D.cell 1 _ rfl
  clear D K M1 M2 S
  go_region_held3 (fun w' => w'.cell? ⟨b4, 0, none⟩ = some (.int .i64 h3) ∧ w'.cell? ⟨b4, 1, none⟩ = some (.int .u64 l3) ∧ Below w.heap.size w w')
    (first
      | ((repeat' apply And.intro) <;> first | go_cell | exact B4.drew)
      | (go_split_ands
         (repeat' apply And.intro) <;> first | (refine cell_later hb1 ?_; with_reducible assumption) | (refine below_then ?_ hb1; with_reducible assumption)))
    (first
      | (go_at_call 20; refine (M3.out _).mono ?_; rintro e w1 ⟨rfl, hb1⟩))
  all_goals
    rename_i hH
    have hB := hH.2.2
    clear hH
    go_wp2
    go_ret
    exact ⟨rfl, hB⟩
end Go.Proofs.YtnjiekkdpeogfaaDoor
