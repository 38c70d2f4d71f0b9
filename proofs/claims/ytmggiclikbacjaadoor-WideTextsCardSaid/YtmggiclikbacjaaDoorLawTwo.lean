/- The law on any two numbers of 128 bits, walked. -/
import Derived.Test.YtmggiclikbacjaaDoorWalkK
import Derived.Test.YtmggiclikbacjaaDoorLawA
import Derived.Test.YtmggiclikbacjaaDoorRefC
namespace Go.Proofs.YtmggiclikbacjaaDoor
open Go Go.Proofs Go.RowKit
set_option maxRecDepth 100000
attribute [local go_sem] cell_set
theorem lawOf_any (h l : Int) (W : World) : Calls Tryd.prog 12 #[.agg #[.int .i64 h, .int .u64 l]] W fun e w' => e = .returned (.agg #[.int .i64 h, .int .u64 l]) ∧ Below W.heap.size W w' := by
  go_enter Tryd.func12, Tryd.ntmps12
  go_wp2
  go_returns
  exact ⟨rfl, by go_grown⟩
theorem wrap_ex (v : Int) : ∃ h l k : Int, InI h l ∧ val h l = v + k * 340282366920938463463374607431768211456 := by
  refine ⟨wrap64 (v / 18446744073709551616), v % 18446744073709551616, ?_⟩
  have e : ∃ k : Int, wrap64 (v / 18446744073709551616) = v / 18446744073709551616 + k * 18446744073709551616 := ⟨(wrap64 (v / 18446744073709551616) - v / 18446744073709551616) / 18446744073709551616, by unfold wrap64; omega⟩
  obtain ⟨k, hk⟩ := e
  refine ⟨k, ⟨by unfold wrap64; omega, by unfold wrap64; omega, by omega, by omega⟩, by rw [hk]; unfold val; omega⟩
theorem add_both (h1 l1 h2 l2 : Int) (i1 : InI h1 l1) (i2 : InI h2 l2) : ∃ h l e0 : Int,
    Hid (∀ W, Calls Tryd.prog 10 #[.agg #[.int .i64 h1, .int .u64 l1], .agg #[.int .i64 h2, .int .u64 l2]] W fun e w' => e = .returned (.tuple #[.agg #[.int .i64 h, .int .u64 l], .int .i64 e0]) ∧ Below W.heap.size W w') ∧
    Hid (∀ W, Calls Tryd.prog 11 #[.agg #[.int .i64 h1, .int .u64 l1], .agg #[.int .i64 h2, .int .u64 l2]] W fun e w' => e = .returned (.tuple #[.agg #[.int .i64 h, .int .u64 l], .int .i64 e0]) ∧ Below W.heap.size W w') := by
  by_cases hf : Fits (val h1 l1 + val h2 l2)
  · obtain ⟨h, l, i, v⟩ := fits_ex hf
    exact ⟨h, l, 0, fun W => Add_ok h1 l1 h2 l2 h l i1 i2 i v W, fun W => ref_add_ok h1 l1 h2 l2 h l i1 i2 i v W⟩
  · obtain ⟨h, l, k, i, v⟩ := wrap_ex (val h1 l1 + val h2 l2)
    refine ⟨0, 0, 7, fun W => Add_no h1 l1 h2 l2 i1 i2 hf W, fun W => ref_add_no h1 l1 h2 l2 h l k i1 i2 i v (fun hk => hf ?_) W⟩
    rw [hk, Int.zero_mul, Int.add_zero] at v
    rw [← v]; exact i.fits
theorem neg_both (h1 l1 : Int) (i1 : InI h1 l1) : ∃ h l e0 : Int,
    Hid (∀ W, Calls Tryd.prog 13 #[.agg #[.int .i64 h1, .int .u64 l1]] W fun e w' => e = .returned (.tuple #[.agg #[.int .i64 h, .int .u64 l], .int .i64 e0]) ∧ Below W.heap.size W w') ∧
    Hid (∀ W, Calls Tryd.prog 14 #[.agg #[.int .i64 h1, .int .u64 l1]] W fun e w' => e = .returned (.tuple #[.agg #[.int .i64 h, .int .u64 l], .int .i64 e0]) ∧ Below W.heap.size W w') := by
  by_cases hf : Fits (- val h1 l1)
  · obtain ⟨h, l, i, v⟩ := fits_ex hf
    exact ⟨h, l, 0, fun W => Neg_ok h1 l1 h l i1 i v W, fun W => ref_neg_ok h1 l1 h l i1 i v W⟩
  · have hv : val h1 l1 = -170141183460469231731687303715884105728 := by have := i1.fits; unfold Fits at *; omega
    exact ⟨0, 0, 7, fun W => Neg_no h1 l1 i1 hf W, fun W => ref_neg_no h1 l1 h1 l1 i1 i1 (by rw [hv]; omega) W⟩
theorem cmpI_turn (x y : Int) : cmpI y x = - cmpI x y := by unfold cmpI; split <;> split <;> (try split) <;> (try split) <;> omega

set_option maxHeartbeats 16000000 in
theorem two_law (h1 l1 h2 l2 : Int) (i1 : InI h1 l1) (i2 : InI h2 l2) (w : World) (ht : Tab w) :
    Calls Tryd.prog 3 #[.agg #[.int .i64 h1, .int .u64 l1], .agg #[.int .i64 h2, .int .u64 l2]] w fun e w' => e = .returned (.bool true) ∧ Below w.heap.size w w' := by
  have K := Lib.hid known_any
  have HT := Lib.hid ht
  obtain ⟨ch, cl, ce, XA, YA⟩ := add_both h1 l1 h2 l2 i1 i2
  obtain ⟨nh, nl, ne, XN, YN⟩ := neg_both h1 l1 i1
  have hA := fun W => Cmp_any h1 l1 h2 l2 i1 i2 W
  have hBB := fun W => Cmp_any h2 l2 h1 l1 i2 i1 W
  have hC := fun W => ref_cmp h1 l1 h2 l2 i1 i2 W
  rw [cmpI_turn] at hBB
  have hx : -1 ≤ cmpI (val h1 l1) (val h2 l2) ∧ cmpI (val h1 l1) (val h2 l2) ≤ 1 := by rcases cmpI_cases (val h1 l1) (val h2 l2) with ⟨_, h⟩ | ⟨_, h⟩ | ⟨_, h⟩ <;> rw [h] <;> omega
  generalize cmpI (val h1 l1) (val h2 l2) = x at *
  have CA := Lib.hid hA
  have CB := Lib.hid hBB
  have CR := Lib.hid hC
  have OA := Lib.hid lawOf_any
  have ex : IntKind.i64.wrap (0 - x) = -x := by rw [IntKind.wrap_i64]; omega
  have ex2 : IntKind.i64.wrap (-x) = -x := by rw [IntKind.wrap_i64]; omega
  clear hA hBB hC hx i1 i2 ht
  go_enter Tryd.func3, Tryd.ntmps3
  go_wp2_with fail
  refine (K.out _ (HT.out.below (below_new (below_cells _) _))).mono ?_
  rintro e w1 ⟨rfl, hb1⟩
  have DA : At w1 (w.heap.size) [.int .i64 h1, .int .u64 l1] := by have h := ((At.new (w) #[.int .i64 h1, .int .u64 l1] 24).alloc (.cells #[.int .i64 h2, .int .u64 l2] 24)).below hb1; simpa using h
  have DC : At w1 (w.heap.size + 1) [.int .i64 h2, .int .u64 l2] := by have h := (At.new ((w).alloc (.cells #[.int .i64 h1, .int .u64 l1] 24)) #[.int .i64 h2, .int .u64 l2] 24).below hb1; simpa using h
  have B : Below w.heap.size w w1 := below_then (below_new (below_new (Below.refl _ _) (.cells #[.int .i64 h1, .int .u64 l1] 24)) (.cells #[.int .i64 h2, .int .u64 l2] 24)) hb1
  clear hb1
  have aA0 := DA.cell 0 _ rfl
  have aA1 := DA.cell 1 _ rfl
  have nA := DA.lt
  have aC0 := DC.cell 0 _ rfl
  have aC1 := DC.cell 1 _ rfl
  have nC := DC.lt
  go_wp2_with fail
  refine (XA.out _).mono ?_
  rintro e w2 ⟨rfl, hb2⟩
  clear aA0 aA1 nA aC0 aC1 nC
  have DA := DA.below hb2
  have DC := DC.below hb2
  have B : Below w.heap.size w w2 := below_then (B) hb2
  clear hb2
  have aA0 := DA.cell 0 _ rfl
  have aA1 := DA.cell 1 _ rfl
  have nA := DA.lt
  have aC0 := DC.cell 0 _ rfl
  have aC1 := DC.cell 1 _ rfl
  have nC := DC.lt
  clear aA0 aA1 nA aC0 aC1 nC
  have DA := (DA.alloc (.cells #[.int .i64 ch, .int .u64 cl] 24))
  have DC := (DC.alloc (.cells #[.int .i64 ch, .int .u64 cl] 24))
  have DP : At ((w2).alloc (.cells #[.int .i64 ch, .int .u64 cl] 24)) (w2.heap.size) [.int .i64 ch, .int .u64 cl] := by have h := (At.new (w2) #[.int .i64 ch, .int .u64 cl] 24); simpa using h
  have B : Below w.heap.size w ((w2).alloc (.cells #[.int .i64 ch, .int .u64 cl] 24)) := below_new (B) (.cells #[.int .i64 ch, .int .u64 cl] 24)
  go_wp2_with fail
  generalize (w2).alloc (.cells #[.int .i64 ch, .int .u64 cl] 24) = W1 at *
  generalize w2.heap.size = bP at *
  have aA0 := DA.cell 0 _ rfl
  have aA1 := DA.cell 1 _ rfl
  have nA := DA.lt
  have aC0 := DC.cell 0 _ rfl
  have aC1 := DC.cell 1 _ rfl
  have nC := DC.lt
  have aP0 := DP.cell 0 _ rfl
  have aP1 := DP.cell 1 _ rfl
  have nP := DP.lt
  have lB := B.size
  go_upto_region 4 with (fail)
  go_cut [7, 8] (fun s7 s8 wx => ∃ bQ : Nat, s7 = .pointer (some ⟨bQ, 0, none⟩) ∧ s8 = .int .i64 ce ∧ At wx bQ [.int .i64 ch, .int .u64 cl] ∧ At wx (w.heap.size) [.int .i64 h1, .int .u64 l1] ∧ At wx (w.heap.size + 1) [.int .i64 h2, .int .u64 l2] ∧ At wx (bP) [.int .i64 ch, .int .u64 cl] ∧ Below w.heap.size w wx)
  case first =>
    go_region_held3 (fun w' => w'.cell? ⟨w.heap.size, 0, none⟩ = some (.int .i64 h1) ∧ w'.cell? ⟨w.heap.size, 1, none⟩ = some (.int .u64 l1) ∧ w'.cell? ⟨w.heap.size + 1, 0, none⟩ = some (.int .i64 h2) ∧ w'.cell? ⟨w.heap.size + 1, 1, none⟩ = some (.int .u64 l2) ∧ w'.cell? ⟨bP, 0, none⟩ = some (.int .i64 ch) ∧ w'.cell? ⟨bP, 1, none⟩ = some (.int .u64 cl) ∧ At w' (w.heap.size) [.int .i64 h1, .int .u64 l1] ∧ At w' (w.heap.size + 1) [.int .i64 h2, .int .u64 l2] ∧ At w' (bP) [.int .i64 ch, .int .u64 cl] ∧ Below w.heap.size w w' ∧ W1.heap.size ≤ w'.heap.size)
      (first
        | ((repeat' apply And.intro) <;> first | go_cell | exact DA.drew | exact DC.drew | exact DP.drew | exact B.drew | exact Nat.le_refl _)
        | (go_split_ands
           (repeat' apply And.intro) <;> first | (refine cell_later hb1 ?_; with_reducible assumption) | (refine At.below ?_ hb1; with_reducible assumption) | (refine below_then ?_ hb1; with_reducible assumption) | (refine Nat.le_trans ?_ hb1.size; first | with_reducible assumption | (simp; done) | (simp; omega)))
        | (go_split_ands
           (repeat' apply And.intro) <;> first | (refine cell_later (below_cells _) ?_; with_reducible assumption) | (refine At.alloc ?_ _; with_reducible assumption) | (refine below_new ?_ _; with_reducible assumption) | (refine At.drew (At.alloc ?_ _); with_reducible assumption) | (refine Below.drew (below_new ?_ _); with_reducible assumption) | go_cell | (simp; omega) | (simp; done))
        | (go_split_ands
           (repeat' apply And.intro) <;> first | go_cell | (refine At.far (At.far ?_ (by omega) _) (by omega) _; with_reducible assumption) | (refine Below.setCell (Below.setCell ?_ ?_ _) ?_ _ <;> first | with_reducible assumption | (dsimp only; omega)) | (simp; omega)))
      (first
        | (go_at_call 12; (with_reducible refine (OA.out _ _ _).mono ?_); rintro e w1 ⟨rfl, hb1⟩; go_split_ands; have kA : At w1 (w.heap.size) [.int .i64 h1, .int .u64 l1] := At.below (by with_reducible assumption) hb1; have kC : At w1 (w.heap.size + 1) [.int .i64 h2, .int .u64 l2] := At.below (by with_reducible assumption) hb1; have kP : At w1 (bP) [.int .i64 ch, .int .u64 cl] := At.below (by with_reducible assumption) hb1; have kB : Below w.heap.size w w1 := below_then (by with_reducible assumption) hb1; have kS : W1.heap.size ≤ w1.heap.size := Nat.le_trans (by first | with_reducible assumption | (simp; done) | (simp; omega)) hb1.size; have kT := kB.size; have kA0 := kA.cell 0 _ rfl; have kA1 := kA.cell 1 _ rfl; have kC0 := kC.cell 0 _ rfl; have kC1 := kC.cell 1 _ rfl; have kP0 := kP.cell 0 _ rfl; have kP1 := kP.cell 1 _ rfl; first | (have nP := At.below nP hb1; have q0 := nP.cell 0 _ rfl; have g0 := nP.free 0 _ rfl; have q1 := nP.cell 1 _ rfl; have g1 := nP.free 1 _ rfl; have nl := nP.lt) | (have nP := At.below (At.drew (At.new _ #[.int .i64 0, .int .u64 0] 29)) hb1; have q0 := nP.cell 0 _ rfl; have g0 := nP.free 0 _ rfl; have q1 := nP.cell 1 _ rfl; have g1 := nP.free 1 _ rfl; have nl := nP.lt) | (have nP := At.below (At.new _ #[.int .i64 0, .int .u64 0] 29) hb1; have q0 := nP.cell 0 _ rfl; have g0 := nP.free 0 _ rfl; have q1 := nP.cell 1 _ rfl; have g1 := nP.free 1 _ rfl; have nl := nP.lt) | skip)
        | (go_at_call 11; (with_reducible refine (YA.out _).mono ?_); rintro e w1 ⟨rfl, hb1⟩; go_split_ands; have kA : At w1 (w.heap.size) [.int .i64 h1, .int .u64 l1] := At.below (by with_reducible assumption) hb1; have kC : At w1 (w.heap.size + 1) [.int .i64 h2, .int .u64 l2] := At.below (by with_reducible assumption) hb1; have kP : At w1 (bP) [.int .i64 ch, .int .u64 cl] := At.below (by with_reducible assumption) hb1; have kB : Below w.heap.size w w1 := below_then (by with_reducible assumption) hb1; have kS : W1.heap.size ≤ w1.heap.size := Nat.le_trans (by first | with_reducible assumption | (simp; done) | (simp; omega)) hb1.size; have kT := kB.size; have kA0 := kA.cell 0 _ rfl; have kA1 := kA.cell 1 _ rfl; have kC0 := kC.cell 0 _ rfl; have kC1 := kC.cell 1 _ rfl; have kP0 := kP.cell 0 _ rfl; have kP1 := kP.cell 1 _ rfl; first | (have nP := At.below nP hb1; have q0 := nP.cell 0 _ rfl; have g0 := nP.free 0 _ rfl; have q1 := nP.cell 1 _ rfl; have g1 := nP.free 1 _ rfl; have nl := nP.lt) | (have nP := At.below (At.drew (At.new _ #[.int .i64 0, .int .u64 0] 29)) hb1; have q0 := nP.cell 0 _ rfl; have g0 := nP.free 0 _ rfl; have q1 := nP.cell 1 _ rfl; have g1 := nP.free 1 _ rfl; have nl := nP.lt) | (have nP := At.below (At.new _ #[.int .i64 0, .int .u64 0] 29) hb1; have q0 := nP.cell 0 _ rfl; have g0 := nP.free 0 _ rfl; have q1 := nP.cell 1 _ rfl; have g1 := nP.free 1 _ rfl; have nl := nP.lt) | skip))
    all_goals
      rename_i hH
      go_wp2_with fail
      go_meet
      obtain ⟨-, -, -, -, -, -, hA, hC, hP, hBe, -⟩ := hH
      first
        | exact ⟨_, rfl, rfl, At.new _ _ _, hA, hC, hP, hBe⟩
        | exact ⟨_, rfl, rfl, (nP.set 0 _).set 1 _, hA, hC, hP, hBe⟩
  case rest =>
    obtain ⟨bQ, rfl, rfl, DQ, DA, DC, DP, B⟩ := hcut
    clear aA0 aA1 nA aC0 aC1 nC aP0 aP1 nP lB
    have aA0 := DA.cell 0 _ rfl
    have aA1 := DA.cell 1 _ rfl
    have nA := DA.lt
    have aC0 := DC.cell 0 _ rfl
    have aC1 := DC.cell 1 _ rfl
    have nC := DC.lt
    have aP0 := DP.cell 0 _ rfl
    have aP1 := DP.cell 1 _ rfl
    have nP := DP.lt
    have aQ0 := DQ.cell 0 _ rfl
    have aQ1 := DQ.cell 1 _ rfl
    have nQ := DQ.lt
    go_wp2_with fail
    refine (XN.out _).mono ?_
    rintro e w3 ⟨rfl, hb3⟩
    clear aA0 aA1 nA aC0 aC1 nC aP0 aP1 nP aQ0 aQ1 nQ
    have DA := DA.below hb3
    have DC := DC.below hb3
    have DP := DP.below hb3
    have DQ := DQ.below hb3
    have B : Below w.heap.size w w3 := below_then (B) hb3
    clear hb3
    have aA0 := DA.cell 0 _ rfl
    have aA1 := DA.cell 1 _ rfl
    have nA := DA.lt
    have aC0 := DC.cell 0 _ rfl
    have aC1 := DC.cell 1 _ rfl
    have nC := DC.lt
    have aP0 := DP.cell 0 _ rfl
    have aP1 := DP.cell 1 _ rfl
    have nP := DP.lt
    have aQ0 := DQ.cell 0 _ rfl
    have aQ1 := DQ.cell 1 _ rfl
    have nQ := DQ.lt
    go_wp2_with fail
    refine (OA.out _ _ _).mono ?_
    rintro e w4 ⟨rfl, hb4⟩
    clear aA0 aA1 nA aC0 aC1 nC aP0 aP1 nP aQ0 aQ1 nQ
    have DA := (DA.alloc (.cells #[.int .i64 nh, .int .u64 nl] 24)).below hb4
    have DC := (DC.alloc (.cells #[.int .i64 nh, .int .u64 nl] 24)).below hb4
    have DP := (DP.alloc (.cells #[.int .i64 nh, .int .u64 nl] 24)).below hb4
    have DQ := (DQ.alloc (.cells #[.int .i64 nh, .int .u64 nl] 24)).below hb4
    have DN : At w4 (w3.heap.size) [.int .i64 nh, .int .u64 nl] := by have h := (At.new (w3) #[.int .i64 nh, .int .u64 nl] 24).below hb4; simpa using h
    have B : Below w.heap.size w w4 := below_then (below_new (B) (.cells #[.int .i64 nh, .int .u64 nl] 24)) hb4
    clear hb4
    have aA0 := DA.cell 0 _ rfl
    have aA1 := DA.cell 1 _ rfl
    have nA := DA.lt
    have aC0 := DC.cell 0 _ rfl
    have aC1 := DC.cell 1 _ rfl
    have nC := DC.lt
    have aP0 := DP.cell 0 _ rfl
    have aP1 := DP.cell 1 _ rfl
    have nP := DP.lt
    have aQ0 := DQ.cell 0 _ rfl
    have aQ1 := DQ.cell 1 _ rfl
    have nQ := DQ.lt
    have aN0 := DN.cell 0 _ rfl
    have aN1 := DN.cell 1 _ rfl
    have nN := DN.lt
    go_wp2_with fail
    refine (YN.out _).mono ?_
    rintro e w5 ⟨rfl, hb5⟩
    clear aA0 aA1 nA aC0 aC1 nC aP0 aP1 nP aQ0 aQ1 nQ aN0 aN1 nN
    have DA := DA.below hb5
    have DC := DC.below hb5
    have DP := DP.below hb5
    have DQ := DQ.below hb5
    have DN := DN.below hb5
    have B : Below w.heap.size w w5 := below_then (B) hb5
    clear hb5
    have aA0 := DA.cell 0 _ rfl
    have aA1 := DA.cell 1 _ rfl
    have nA := DA.lt
    have aC0 := DC.cell 0 _ rfl
    have aC1 := DC.cell 1 _ rfl
    have nC := DC.lt
    have aP0 := DP.cell 0 _ rfl
    have aP1 := DP.cell 1 _ rfl
    have nP := DP.lt
    have aQ0 := DQ.cell 0 _ rfl
    have aQ1 := DQ.cell 1 _ rfl
    have nQ := DQ.lt
    have aN0 := DN.cell 0 _ rfl
    have aN1 := DN.cell 1 _ rfl
    have nN := DN.lt
    clear aA0 aA1 nA aC0 aC1 nC aP0 aP1 nP aQ0 aQ1 nQ aN0 aN1 nN
    have DA := (DA.alloc (.cells #[.int .i64 nh, .int .u64 nl] 29))
    have DC := (DC.alloc (.cells #[.int .i64 nh, .int .u64 nl] 29))
    have DP := (DP.alloc (.cells #[.int .i64 nh, .int .u64 nl] 29))
    have DQ := (DQ.alloc (.cells #[.int .i64 nh, .int .u64 nl] 29))
    have DN := (DN.alloc (.cells #[.int .i64 nh, .int .u64 nl] 29))
    have DM : At ((w5).alloc (.cells #[.int .i64 nh, .int .u64 nl] 29)) (w5.heap.size) [.int .i64 nh, .int .u64 nl] := by have h := (At.new (w5) #[.int .i64 nh, .int .u64 nl] 29); simpa using h
    have B : Below w.heap.size w ((w5).alloc (.cells #[.int .i64 nh, .int .u64 nl] 29)) := below_new (B) (.cells #[.int .i64 nh, .int .u64 nl] 29)
    go_wp2_with fail
    generalize (w5).alloc (.cells #[.int .i64 nh, .int .u64 nl] 29) = W9 at *
    generalize w5.heap.size = bM at *
    have aA0 := DA.cell 0 _ rfl
    have aA1 := DA.cell 1 _ rfl
    have nA := DA.lt
    have aC0 := DC.cell 0 _ rfl
    have aC1 := DC.cell 1 _ rfl
    have nC := DC.lt
    have aP0 := DP.cell 0 _ rfl
    have aP1 := DP.cell 1 _ rfl
    have nP := DP.lt
    have aQ0 := DQ.cell 0 _ rfl
    have aQ1 := DQ.cell 1 _ rfl
    have nQ := DQ.lt
    have aN0 := DN.cell 0 _ rfl
    have aN1 := DN.cell 1 _ rfl
    have nN := DN.lt
    have aM0 := DM.cell 0 _ rfl
    have aM1 := DM.cell 1 _ rfl
    have nM := DM.lt
    clear DA DC DP DQ DN DM
    go_region_held3 (fun w' => w'.cell? ⟨w.heap.size, 0, none⟩ = some (.int .i64 h1) ∧ w'.cell? ⟨w.heap.size, 1, none⟩ = some (.int .u64 l1) ∧ w'.cell? ⟨w.heap.size + 1, 0, none⟩ = some (.int .i64 h2) ∧ w'.cell? ⟨w.heap.size + 1, 1, none⟩ = some (.int .u64 l2) ∧ w'.cell? ⟨bP, 0, none⟩ = some (.int .i64 ch) ∧ w'.cell? ⟨bP, 1, none⟩ = some (.int .u64 cl) ∧ w'.cell? ⟨bQ, 0, none⟩ = some (.int .i64 ch) ∧ w'.cell? ⟨bQ, 1, none⟩ = some (.int .u64 cl) ∧ w'.cell? ⟨w3.heap.size, 0, none⟩ = some (.int .i64 nh) ∧ w'.cell? ⟨w3.heap.size, 1, none⟩ = some (.int .u64 nl) ∧ w'.cell? ⟨bM, 0, none⟩ = some (.int .i64 nh) ∧ w'.cell? ⟨bM, 1, none⟩ = some (.int .u64 nl) ∧ Below w.heap.size w w')
      (first
        | ((repeat' apply And.intro) <;> first | go_cell | exact B.drew)
        | (go_split_ands
           (repeat' apply And.intro) <;> first | (refine cell_later hb1 ?_; with_reducible assumption) | (refine below_then ?_ hb1; with_reducible assumption)))
      (first
        | (go_at_call 12; (with_reducible refine (OA.out _ _ _).mono ?_); rintro e w1 ⟨rfl, hb1⟩)
        | (go_at_call 15; (with_reducible refine (CA.out _).mono ?_); rintro e w1 ⟨rfl, hb1⟩)
        | (go_at_call 15; (with_reducible refine (CB.out _).mono ?_); rintro e w1 ⟨rfl, hb1⟩)
        | (go_at_call 16; (with_reducible refine (CR.out _).mono ?_); rintro e w1 ⟨rfl, hb1⟩))
    all_goals
      rename_i hH
      have hB := hH.2.2.2.2.2.2.2.2.2.2.2.2
      clear hH
      go_wp2
      go_ret
      exact ⟨rfl, hB⟩
end Go.Proofs.YtmggiclikbacjaaDoor
