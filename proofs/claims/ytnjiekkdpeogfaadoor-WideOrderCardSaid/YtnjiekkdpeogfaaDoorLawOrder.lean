/- The law on the order, which sums keep, walked. -/
import Derived.Test.YtnjiekkdpeogfaaDoorWalkK
import Derived.Test.YtnjiekkdpeogfaaDoorLawA
namespace Go.Proofs.YtnjiekkdpeogfaaDoor
open Go Go.Proofs Go.RowKit
set_option maxRecDepth 100000
theorem cmpI_trans (x y z : Int) (h1 : cmpI x y ≤ 0) (h2 : cmpI y z ≤ 0) : cmpI x z ≤ 0 := by
  rcases cmpI_cases x y with ⟨p, q⟩ | ⟨p, q⟩ | ⟨p, q⟩ <;> rcases cmpI_cases y z with ⟨r, s⟩ | ⟨r, s⟩ | ⟨r, s⟩ <;> rcases cmpI_cases x z with ⟨u, v⟩ | ⟨u, v⟩ | ⟨u, v⟩ <;> omega
theorem cmpI_add (x y c : Int) : cmpI (x + c) (y + c) = cmpI x y := by unfold cmpI; split <;> split <;> (try split) <;> (try split) <;> omega
theorem cmpI_bd (x y : Int) : -1 ≤ cmpI x y ∧ cmpI x y ≤ 1 := by rcases cmpI_cases x y with ⟨_, h⟩ | ⟨_, h⟩ | ⟨_, h⟩ <;> rw [h] <;> omega
/-- what Add answers, whichever it is -/
theorem Add_ex (h1 l1 h2 l2 : Int) (i1 : InI h1 l1) (i2 : InI h2 l2) : ∃ h l e0 : Int, InI h l ∧ ((e0 = 0 ∧ val h l = val h1 l1 + val h2 l2) ∨ e0 = 7) ∧
    Hid (∀ W, Calls Tryd.prog 13 #[.agg #[.int .i64 h1, .int .u64 l1], .agg #[.int .i64 h2, .int .u64 l2]] W fun e w' => e = .returned (.tuple #[.agg #[.int .i64 h, .int .u64 l], .int .i64 e0]) ∧ Below W.heap.size W w') := by
  by_cases hf : Fits (val h1 l1 + val h2 l2)
  · obtain ⟨h, l, i, v⟩ := fits_ex hf
    exact ⟨h, l, 0, i, .inl ⟨rfl, v⟩, fun W => Add_ok h1 l1 h2 l2 h l i1 i2 i v W⟩
  · exact ⟨0, 0, 7, ⟨by omega, by omega, by omega, by omega⟩, .inr rfl, fun W => Add_no h1 l1 h2 l2 i1 i2 hf W⟩

set_option maxHeartbeats 16000000 in
theorem order_law (h1 l1 h2 l2 h3 l3 : Int) (i1 : InI h1 l1) (i2 : InI h2 l2) (i3 : InI h3 l3) (w : World) (ht : Tab w) :
    Calls Tryd.prog 9 #[.agg #[.int .i64 h1, .int .u64 l1], .agg #[.int .i64 h2, .int .u64 l2], .agg #[.int .i64 h3, .int .u64 l3]] w fun e w' => e = .returned (.bool true) ∧ Below w.heap.size w w' := by
  have K := Lib.hid known_any
  have HT := Lib.hid ht
  obtain ⟨ph, pl, pe, ip, vp, PA⟩ := Add_ex h1 l1 h3 l3 i1 i3
  obtain ⟨qh, ql, qe, iq, vq, QA⟩ := Add_ex h2 l2 h3 l3 i2 i3
  have hXA := fun W => Cmp_any h1 l1 h2 l2 i1 i2 W
  have hYA := fun W => Cmp_any h2 l2 h3 l3 i2 i3 W
  have hZA := fun W => Cmp_any h1 l1 h3 l3 i1 i3 W
  have hCA := fun W => Cmp_any ph pl qh ql ip iq W
  have hz := cmpI_trans (val h1 l1) (val h2 l2) (val h3 l3)
  have hx := cmpI_bd (val h1 l1) (val h2 l2)
  have hy := cmpI_bd (val h2 l2) (val h3 l3)
  have hzz := cmpI_bd (val h1 l1) (val h3 l3)
  have hc : (pe = 0 ∧ qe = 0 ∧ cmpI (val h1 l1) (val h2 l2) = cmpI (val ph pl) (val qh ql)) ∨ (pe = 7 ∧ (qe = 0 ∨ qe = 7)) ∨ (pe = 0 ∧ qe = 7) := by
    rcases vp with ⟨a, b⟩ | a <;> rcases vq with ⟨c, d⟩ | c
    · exact .inl ⟨a, c, by rw [b, d, cmpI_add]⟩
    · exact .inr (.inr ⟨a, c⟩)
    · exact .inr (.inl ⟨a, .inl c⟩)
    · exact .inr (.inl ⟨a, .inr c⟩)
  generalize cmpI (val h1 l1) (val h2 l2) = x at *
  generalize cmpI (val h2 l2) (val h3 l3) = y at *
  generalize cmpI (val h1 l1) (val h3 l3) = z at *
  generalize cmpI (val ph pl) (val qh ql) = v at *
  have XA := Lib.hid hXA
  have YA := Lib.hid hYA
  have ZA := Lib.hid hZA
  have CA := Lib.hid hCA
  obtain ⟨x1, x2⟩ := hx
  obtain ⟨y1, y2⟩ := hy
  obtain ⟨z1, z2⟩ := hzz
  clear hXA hYA hZA hCA vp vq i1 i2 i3 ip iq ht
  by_cases hxy : x ≤ 0 ∧ y ≤ 0
  · obtain ⟨hx0, hy0⟩ := hxy
    have hz0 : ¬ 0 < z := by have := hz hx0 hy0; omega
    clear hz
    rcases hc with ⟨rfl, rfl, rfl⟩ | ⟨rfl, rfl | rfl⟩ | ⟨rfl, rfl⟩
    all_goals
      go_enter Tryd.func9, Tryd.ntmps9
      go_wp2_with fail
      refine (K.out _ (HT.out.below (below_new (below_new (below_cells _) _) _))).mono ?_
      rintro e w1 ⟨rfl, hb1⟩
      have D1 := (((At.new w #[.int .i64 h1, .int .u64 l1] 24).alloc (.cells #[.int .i64 h2, .int .u64 l2] 24)).alloc (.cells #[.int .i64 h3, .int .u64 l3] 24)).below hb1
      have D2 : At w1 (w.heap.size + 1) [.int .i64 h2, .int .u64 l2] := by
        have h := ((At.new (w.alloc (.cells #[.int .i64 h1, .int .u64 l1] 24)) #[.int .i64 h2, .int .u64 l2] 24).alloc (.cells #[.int .i64 h3, .int .u64 l3] 24)).below hb1
        simpa using h
      have D3 : At w1 (w.heap.size + 1 + 1) [.int .i64 h3, .int .u64 l3] := by
        have h := (At.new ((w.alloc (.cells #[.int .i64 h1, .int .u64 l1] 24)).alloc (.cells #[.int .i64 h2, .int .u64 l2] 24)) #[.int .i64 h3, .int .u64 l3] 24).below hb1
        simpa using h
      have B := below_then (below_new (below_new (below_cells (.cells #[.int .i64 h1, .int .u64 l1] 24)) (.cells #[.int .i64 h2, .int .u64 l2] 24)) (.cells #[.int .i64 h3, .int .u64 l3] 24)) hb1
      clear hb1
      have a0 := D1.cell 0 _ rfl
      have a1 := D1.cell 1 _ rfl
      have b0 := D2.cell 0 _ rfl
      have b1 := D2.cell 1 _ rfl
      have c0 := D3.cell 0 _ rfl
      have c1 := D3.cell 1 _ rfl
      go_wp2_with fail
      refine (XA.out _).mono ?_
      rintro e w2 ⟨rfl, hb1⟩
      have D1 := D1.below hb1
      have D2 := D2.below hb1
      have D3 := D3.below hb1
      have B := below_then B hb1
      clear hb1
      clear a0 a1 b0 b1 c0 c1
      have a0 := D1.cell 0 _ rfl
      have a1 := D1.cell 1 _ rfl
      have b0 := D2.cell 0 _ rfl
      have b1 := D2.cell 1 _ rfl
      have c0 := D3.cell 0 _ rfl
      have c1 := D3.cell 1 _ rfl
      go_wp2_with fail
      refine (YA.out _).mono ?_
      rintro e w3 ⟨rfl, hb1⟩
      have D1 := D1.below hb1
      have D2 := D2.below hb1
      have D3 := D3.below hb1
      have B := below_then B hb1
      clear hb1
      clear a0 a1 b0 b1 c0 c1
      have a0 := D1.cell 0 _ rfl
      have a1 := D1.cell 1 _ rfl
      have b0 := D2.cell 0 _ rfl
      have b1 := D2.cell 1 _ rfl
      have c0 := D3.cell 0 _ rfl
      have c1 := D3.cell 1 _ rfl
      go_wp2_with fail
      refine (ZA.out _).mono ?_
      rintro e w4 ⟨rfl, hb1⟩
      have D1 := D1.below hb1
      have D2 := D2.below hb1
      have D3 := D3.below hb1
      have B := below_then B hb1
      clear hb1
      clear a0 a1 b0 b1 c0 c1
      have a0 := D1.cell 0 _ rfl
      have a1 := D1.cell 1 _ rfl
      have b0 := D2.cell 0 _ rfl
      have b1 := D2.cell 1 _ rfl
      have c0 := D3.cell 0 _ rfl
      have c1 := D3.cell 1 _ rfl
      go_wp2_with fail
      refine (PA.out _).mono ?_
      rintro e w5 ⟨rfl, hb1⟩
      have D1 := D1.below hb1
      have D2 := D2.below hb1
      have D3 := D3.below hb1
      have B := below_then B hb1
      clear hb1
      clear a0 a1 b0 b1 c0 c1
      have a0 := D1.cell 0 _ rfl
      have a1 := D1.cell 1 _ rfl
      have b0 := D2.cell 0 _ rfl
      have b1 := D2.cell 1 _ rfl
      have c0 := D3.cell 0 _ rfl
      have c1 := D3.cell 1 _ rfl
      have n1 := D1.lt
      have n2 := D2.lt
      have n3 := D3.lt
      go_wp2_with fail
      refine (QA.out _).mono ?_
      rintro e w6 ⟨rfl, hb1⟩
      have D4 := (At.new w5 #[.int .i64 ph, .int .u64 pl] 24).below hb1
      have B := below_then (below_new B _) hb1
      clear hb1 n1 n2 n3 D1 D2 D3
      clear a0 a1 b0 b1 c0 c1
      have d0 := D4.cell 0 _ rfl
      have d1 := D4.cell 1 _ rfl
      have d2 := D4.lt
      go_wp2_with (go_at_call 18; refine (CA.out _).mono ?_; rintro e w7 ⟨rfl, hb7⟩)
      go_ret
      first
        | exact ⟨rfl, below_new B _⟩
        | exact ⟨rfl, below_then (below_new B _) hb7⟩
  · clear hz z1 z2
    rcases hc with ⟨rfl, rfl, rfl⟩ | ⟨rfl, rfl | rfl⟩ | ⟨rfl, rfl⟩
    all_goals
      by_cases hx0 : x ≤ 0
      all_goals
        have hy0 : x ≤ 0 → ¬ y ≤ 0 := fun h h' => hxy ⟨h, h'⟩
        first
          | (have hy1 : ¬ y ≤ 0 := hy0 hx0; clear hxy hy0; skip)
          | (clear hxy hy0; skip)
        go_enter Tryd.func9, Tryd.ntmps9
        go_wp2_with fail
        refine (K.out _ (HT.out.below (below_new (below_new (below_cells _) _) _))).mono ?_
        rintro e w1 ⟨rfl, hb1⟩
        have D1 := (((At.new w #[.int .i64 h1, .int .u64 l1] 24).alloc (.cells #[.int .i64 h2, .int .u64 l2] 24)).alloc (.cells #[.int .i64 h3, .int .u64 l3] 24)).below hb1
        have D2 : At w1 (w.heap.size + 1) [.int .i64 h2, .int .u64 l2] := by
          have h := ((At.new (w.alloc (.cells #[.int .i64 h1, .int .u64 l1] 24)) #[.int .i64 h2, .int .u64 l2] 24).alloc (.cells #[.int .i64 h3, .int .u64 l3] 24)).below hb1
          simpa using h
        have D3 : At w1 (w.heap.size + 1 + 1) [.int .i64 h3, .int .u64 l3] := by
          have h := (At.new ((w.alloc (.cells #[.int .i64 h1, .int .u64 l1] 24)).alloc (.cells #[.int .i64 h2, .int .u64 l2] 24)) #[.int .i64 h3, .int .u64 l3] 24).below hb1
          simpa using h
        have B := below_then (below_new (below_new (below_cells (.cells #[.int .i64 h1, .int .u64 l1] 24)) (.cells #[.int .i64 h2, .int .u64 l2] 24)) (.cells #[.int .i64 h3, .int .u64 l3] 24)) hb1
        clear hb1
        have a0 := D1.cell 0 _ rfl
        have a1 := D1.cell 1 _ rfl
        have b0 := D2.cell 0 _ rfl
        have b1 := D2.cell 1 _ rfl
        have c0 := D3.cell 0 _ rfl
        have c1 := D3.cell 1 _ rfl
        go_wp2_with fail
        refine (XA.out _).mono ?_
        rintro e w2 ⟨rfl, hb1⟩
        have D1 := D1.below hb1
        have D2 := D2.below hb1
        have D3 := D3.below hb1
        have B := below_then B hb1
        clear hb1
        clear a0 a1 b0 b1 c0 c1
        have a0 := D1.cell 0 _ rfl
        have a1 := D1.cell 1 _ rfl
        have b0 := D2.cell 0 _ rfl
        have b1 := D2.cell 1 _ rfl
        have c0 := D3.cell 0 _ rfl
        have c1 := D3.cell 1 _ rfl
        go_wp2_with fail
        refine (YA.out _).mono ?_
        rintro e w3 ⟨rfl, hb1⟩
        have D1 := D1.below hb1
        have D2 := D2.below hb1
        have D3 := D3.below hb1
        have B := below_then B hb1
        clear hb1
        clear a0 a1 b0 b1 c0 c1
        have a0 := D1.cell 0 _ rfl
        have a1 := D1.cell 1 _ rfl
        have b0 := D2.cell 0 _ rfl
        have b1 := D2.cell 1 _ rfl
        have c0 := D3.cell 0 _ rfl
        have c1 := D3.cell 1 _ rfl
        go_wp2_with fail
        refine (PA.out _).mono ?_
        rintro e w5 ⟨rfl, hb1⟩
        have D1 := D1.below hb1
        have D2 := D2.below hb1
        have D3 := D3.below hb1
        have B := below_then B hb1
        clear hb1
        clear a0 a1 b0 b1 c0 c1
        have a0 := D1.cell 0 _ rfl
        have a1 := D1.cell 1 _ rfl
        have b0 := D2.cell 0 _ rfl
        have b1 := D2.cell 1 _ rfl
        have c0 := D3.cell 0 _ rfl
        have c1 := D3.cell 1 _ rfl
        have n1 := D1.lt
        have n2 := D2.lt
        have n3 := D3.lt
        go_wp2_with fail
        refine (QA.out _).mono ?_
        rintro e w6 ⟨rfl, hb1⟩
        have D4 := (At.new w5 #[.int .i64 ph, .int .u64 pl] 24).below hb1
        have B := below_then (below_new B _) hb1
        clear hb1 n1 n2 n3 D1 D2 D3
        clear a0 a1 b0 b1 c0 c1
        have d0 := D4.cell 0 _ rfl
        have d1 := D4.cell 1 _ rfl
        have d2 := D4.lt
        go_wp2_with (go_at_call 18; refine (CA.out _).mono ?_; rintro e w7 ⟨rfl, hb7⟩)
        go_ret
        first
          | exact ⟨rfl, below_new B _⟩
          | exact ⟨rfl, below_then (below_new B _) hb7⟩
end Go.Proofs.YtnjiekkdpeogfaaDoor
