/- The law on a number turned over, walked. -/
import Derived.Test.YtnjiekkdpeogfaaDoorWalkK
import Derived.Test.YtnjiekkdpeogfaaDoorLawA
namespace Go.Proofs.YtnjiekkdpeogfaaDoor
open Go Go.Proofs Go.RowKit
set_option maxRecDepth 100000
theorem in00 : InI 0 0 := ⟨by omega, by omega, by omega, by omega⟩
theorem cmpI_neg (v : Int) : cmpI v (-v) = cmpI v 0 := by unfold cmpI; split <;> split <;> (try split) <;> (try split) <;> omega
set_option maxHeartbeats 4000000 in
theorem neg_least (w : World) (ht : Tab w) :
    Calls Tryd.prog 8 #[.agg #[.int .i64 (-9223372036854775808), .int .u64 0]] w fun e w' => e = .returned (.bool true) ∧ Below w.heap.size w w' := by
  have K := Lib.hid known_any
  have N := Lib.hid (fun W => Neg_no (-9223372036854775808) 0 ⟨by omega, by omega, by omega, by omega⟩ (by unfold Fits val; omega) W)
  have HT := Lib.hid ht
  clear ht
  go_enter Tryd.func8, Tryd.ntmps8
  go_wp2_with fail
  refine (K.out _ (HT.out.below (below_cells _))).mono ?_
  rintro e w1 ⟨rfl, hb1⟩
  have D := (At.new w #[.int .i64 (-9223372036854775808), .int .u64 0] 24).below hb1
  have B1 := below_then (below_cells _) hb1
  clear hb1
  have c0 := D.cell 0 _ rfl
  have c1 := D.cell 1 _ rfl
  go_wp2_with fail
  refine (N.out _).mono ?_
  rintro e w2 ⟨rfl, hb1⟩
  have D2 := D.below hb1
  have B2 := below_then B1 hb1
  clear hb1 B1 D c0 c1
  have c0 := D2.cell 0 _ rfl
  have c1 := D2.cell 1 _ rfl
  have lt := D2.lt
  go_wp2
  go_ret
  exact ⟨rfl, below_new B2 _⟩

set_option maxHeartbeats 8000000 in
theorem neg_other (h l : Int) (i : InI h l) (hm : ¬ (h = -9223372036854775808 ∧ l = 0)) (w : World) (ht : Tab w) :
    Calls Tryd.prog 8 #[.agg #[.int .i64 h, .int .u64 l]] w fun e w' => e = .returned (.bool true) ∧ Below w.heap.size w w' := by
  obtain ⟨h2, l2, i2, v2⟩ := fits_ex (v := -val h l) (by obtain ⟨_, _, _, _⟩ := i; unfold Fits val; omega)
  have K := Lib.hid known_any
  have N := Lib.hid (fun W => Neg_ok h l h2 l2 i i2 v2 W)
  have S := Lib.hid (fun W => Add_ok h l h2 l2 0 0 i i2 in00 (by rw [v2]; unfold val; omega) W)
  have N2 := Lib.hid (fun W => Neg_ok h2 l2 h l i2 i (by rw [v2]; omega) W)
  have hA := fun W => Cmp_any h l h2 l2 i i2 W
  have hBB := fun W => Cmp_any h l 0 0 i in00 W
  rw [v2, cmpI_neg] at hA
  rw [show val 0 0 = 0 by decide] at hBB
  generalize cmpI (val h l) 0 = c at *
  have CA := Lib.hid hA
  have CB := Lib.hid hBB
  have HT := Lib.hid ht
  clear hA hBB ht v2 i i2
  by_cases hh : h = -9223372036854775808
  · subst hh
    have hl0 : (l == 0) = false := by rw [beq_eq_false_iff_ne]; intro hl; exact hm ⟨rfl, hl⟩
    clear hm
    go_enter Tryd.func8, Tryd.ntmps8
    go_wp2_with fail
    refine (K.out _ (HT.out.below (below_cells _))).mono ?_
    rintro e w1 ⟨rfl, hb1⟩
    have D := (At.new w #[.int .i64 (-9223372036854775808), .int .u64 l] 24).below hb1
    have B1 := below_then (below_cells _) hb1
    clear hb1
    have c0 := D.cell 0 _ rfl
    have c1 := D.cell 1 _ rfl
    go_wp2_with fail
    refine (N.out _).mono ?_
    rintro e w2 ⟨rfl, hb1⟩
    have D2 := (D.below hb1).alloc (.cells #[.int .i64 h2, .int .u64 l2] 24)
    have B2 := below_new (below_then B1 hb1) (.cells #[.int .i64 h2, .int .u64 l2] 24)
    have E2 := At.new w2 #[.int .i64 h2, .int .u64 l2] 24
    have q0 := (D.below hb1).cell 0 _ rfl
    have q1 := (D.below hb1).cell 1 _ rfl
    have lt := (D.below hb1).lt
    clear hb1 B1 D c0 c1
    go_wp2_with fail
    refine (S.out _).mono ?_
    rintro e w3 ⟨rfl, hb1⟩
    have D3 := (D2.below hb1).alloc (.cells #[.int .i64 0, .int .u64 0] 24)
    have E3 := (E2.below hb1).alloc (.cells #[.int .i64 0, .int .u64 0] 24)
    have F3 := At.new w3 #[.int .i64 0, .int .u64 0] 24
    have B3 := below_new (below_then B2 hb1) (.cells #[.int .i64 0, .int .u64 0] 24)
    have q0' := (E2.below hb1).cell 0 _ rfl
    have q1' := (E2.below hb1).cell 1 _ rfl
    have lt' := (E2.below hb1).lt
    clear hb1 B2 D2 E2 q0 q1 lt
    go_wp2_with fail
    refine (N2.out _).mono ?_
    rintro e w4 ⟨rfl, hb1⟩
    have D4 := (D3.below hb1).alloc (.cells #[.int .i64 (-9223372036854775808), .int .u64 l] 24)
    have E4 := (E3.below hb1).alloc (.cells #[.int .i64 (-9223372036854775808), .int .u64 l] 24)
    have F4 := (F3.below hb1).alloc (.cells #[.int .i64 (-9223372036854775808), .int .u64 l] 24)
    have G4 := At.new w4 #[.int .i64 (-9223372036854775808), .int .u64 l] 24
    have B4 := below_new (below_then B3 hb1) (.cells #[.int .i64 (-9223372036854775808), .int .u64 l] 24)
    clear hb1 B3 D3 E3 F3 q0' q1' lt'
    go_wp2_with fail
    generalize w4.alloc (.cells #[.int .i64 (-9223372036854775808), .int .u64 l] 24) = W4 at *
    generalize w4.heap.size = b4 at *
    generalize w3.heap.size = b3 at *
    generalize w2.heap.size = b2 at *
    have a0 := D4.cell 0 _ rfl
    have a1 := D4.cell 1 _ rfl
    have x0 := E4.cell 0 _ rfl
    have x1 := E4.cell 1 _ rfl
    have y0 := F4.cell 0 _ rfl
    have y1 := F4.cell 1 _ rfl
    have z0 := G4.cell 0 _ rfl
    have z1 := G4.cell 1 _ rfl
    clear D4 E4 F4 G4 K N S N2 HT
    go_region_held3 (fun w' => w'.cell? ⟨w.heap.size, 0, none⟩ = some (.int .i64 (-9223372036854775808)) ∧ w'.cell? ⟨w.heap.size, 1, none⟩ = some (.int .u64 l) ∧ w'.cell? ⟨b2, 0, none⟩ = some (.int .i64 h2) ∧ w'.cell? ⟨b2, 1, none⟩ = some (.int .u64 l2) ∧
        w'.cell? ⟨b3, 0, none⟩ = some (.int .i64 0) ∧ w'.cell? ⟨b3, 1, none⟩ = some (.int .u64 0) ∧ w'.cell? ⟨b4, 0, none⟩ = some (.int .i64 (-9223372036854775808)) ∧ w'.cell? ⟨b4, 1, none⟩ = some (.int .u64 l) ∧ Below w.heap.size w w')
      (first
        | ((repeat' apply And.intro) <;> first | go_cell | exact B4.drew)
        | (go_split_ands
           (repeat' apply And.intro) <;> first | (refine cell_later hb1 ?_; with_reducible assumption) | (refine below_then ?_ hb1; with_reducible assumption)))
      (first
        | (go_at_call 18; (with_reducible refine (CA.out _).mono ?_); rintro e w1 ⟨rfl, hb1⟩)
        | (go_at_call 18; (with_reducible refine (CB.out _).mono ?_); rintro e w1 ⟨rfl, hb1⟩))
    all_goals
      rename_i hH
      have hB := hH.2.2.2.2.2.2.2.2
      clear hH
      go_wp2
      go_ret
      exact ⟨rfl, hB⟩
  · have hh0 : (h == -9223372036854775808) = false := by rw [beq_eq_false_iff_ne]; exact hh
    clear hm hh
    go_enter Tryd.func8, Tryd.ntmps8
    go_wp2_with fail
    refine (K.out _ (HT.out.below (below_cells _))).mono ?_
    rintro e w1 ⟨rfl, hb1⟩
    have D := (At.new w #[.int .i64 h, .int .u64 l] 24).below hb1
    have B1 := below_then (below_cells _) hb1
    clear hb1
    have c0 := D.cell 0 _ rfl
    have c1 := D.cell 1 _ rfl
    go_wp2_with fail
    refine (N.out _).mono ?_
    rintro e w2 ⟨rfl, hb1⟩
    have D2 := (D.below hb1).alloc (.cells #[.int .i64 h2, .int .u64 l2] 24)
    have B2 := below_new (below_then B1 hb1) (.cells #[.int .i64 h2, .int .u64 l2] 24)
    have E2 := At.new w2 #[.int .i64 h2, .int .u64 l2] 24
    have q0 := (D.below hb1).cell 0 _ rfl
    have q1 := (D.below hb1).cell 1 _ rfl
    have lt := (D.below hb1).lt
    clear hb1 B1 D c0 c1
    go_wp2_with fail
    refine (S.out _).mono ?_
    rintro e w3 ⟨rfl, hb1⟩
    have D3 := (D2.below hb1).alloc (.cells #[.int .i64 0, .int .u64 0] 24)
    have E3 := (E2.below hb1).alloc (.cells #[.int .i64 0, .int .u64 0] 24)
    have F3 := At.new w3 #[.int .i64 0, .int .u64 0] 24
    have B3 := below_new (below_then B2 hb1) (.cells #[.int .i64 0, .int .u64 0] 24)
    have q0' := (E2.below hb1).cell 0 _ rfl
    have q1' := (E2.below hb1).cell 1 _ rfl
    have lt' := (E2.below hb1).lt
    clear hb1 B2 D2 E2 q0 q1 lt
    go_wp2_with fail
    refine (N2.out _).mono ?_
    rintro e w4 ⟨rfl, hb1⟩
    have D4 := (D3.below hb1).alloc (.cells #[.int .i64 h, .int .u64 l] 24)
    have E4 := (E3.below hb1).alloc (.cells #[.int .i64 h, .int .u64 l] 24)
    have F4 := (F3.below hb1).alloc (.cells #[.int .i64 h, .int .u64 l] 24)
    have G4 := At.new w4 #[.int .i64 h, .int .u64 l] 24
    have B4 := below_new (below_then B3 hb1) (.cells #[.int .i64 h, .int .u64 l] 24)
    clear hb1 B3 D3 E3 F3 q0' q1' lt'
    go_wp2_with fail
    generalize w4.alloc (.cells #[.int .i64 h, .int .u64 l] 24) = W4 at *
    generalize w4.heap.size = b4 at *
    generalize w3.heap.size = b3 at *
    generalize w2.heap.size = b2 at *
    have a0 := D4.cell 0 _ rfl
    have a1 := D4.cell 1 _ rfl
    have x0 := E4.cell 0 _ rfl
    have x1 := E4.cell 1 _ rfl
    have y0 := F4.cell 0 _ rfl
    have y1 := F4.cell 1 _ rfl
    have z0 := G4.cell 0 _ rfl
    have z1 := G4.cell 1 _ rfl
    clear D4 E4 F4 G4 K N S N2 HT
    go_region_held3 (fun w' => w'.cell? ⟨w.heap.size, 0, none⟩ = some (.int .i64 h) ∧ w'.cell? ⟨w.heap.size, 1, none⟩ = some (.int .u64 l) ∧ w'.cell? ⟨b2, 0, none⟩ = some (.int .i64 h2) ∧ w'.cell? ⟨b2, 1, none⟩ = some (.int .u64 l2) ∧
        w'.cell? ⟨b3, 0, none⟩ = some (.int .i64 0) ∧ w'.cell? ⟨b3, 1, none⟩ = some (.int .u64 0) ∧ w'.cell? ⟨b4, 0, none⟩ = some (.int .i64 h) ∧ w'.cell? ⟨b4, 1, none⟩ = some (.int .u64 l) ∧ Below w.heap.size w w')
      (first
        | ((repeat' apply And.intro) <;> first | go_cell | exact B4.drew)
        | (go_split_ands
           (repeat' apply And.intro) <;> first | (refine cell_later hb1 ?_; with_reducible assumption) | (refine below_then ?_ hb1; with_reducible assumption)))
      (first
        | (go_at_call 18; (with_reducible refine (CA.out _).mono ?_); rintro e w1 ⟨rfl, hb1⟩)
        | (go_at_call 18; (with_reducible refine (CB.out _).mono ?_); rintro e w1 ⟨rfl, hb1⟩))
    all_goals
      rename_i hH
      have hB := hH.2.2.2.2.2.2.2.2
      clear hH
      go_wp2
      go_ret
      exact ⟨rfl, hB⟩

theorem neg_law (h l : Int) (i : InI h l) (w : World) (ht : Tab w) :
    Calls Tryd.prog 8 #[.agg #[.int .i64 h, .int .u64 l]] w fun e w' => e = .returned (.bool true) ∧ Below w.heap.size w w' := by
  by_cases hm : h = -9223372036854775808 ∧ l = 0
  · rw [hm.1, hm.2]; exact neg_least w ht
  · exact neg_other h l i hm w ht
end Go.Proofs.YtnjiekkdpeogfaaDoor
