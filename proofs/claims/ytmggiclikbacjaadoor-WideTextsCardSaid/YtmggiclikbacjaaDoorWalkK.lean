/- known: the few values that every law of the layer asks first. -/
import Derived.Test.YtmggiclikbacjaaDoorWalkU
import Derived.Test.YtmggiclikbacjaaDoorWalkV
import Derived.Test.YtmggiclikbacjaaDoorWalkX
namespace Go.Proofs.YtmggiclikbacjaaDoor
open Go Go.Proofs Go.RowKit
set_option maxRecDepth 100000

theorem text_known : Lib.itoa (val 1152921504606846975 18446744073709551615) = [50, 49, 50, 54, 55, 54, 52, 55, 57, 51, 50, 53, 53, 56, 54, 53, 51, 57, 54, 54, 52, 54, 48, 57, 49, 50, 57, 54, 52, 52, 56, 53, 53, 49, 51, 50, 49, 53] := by
  rw [show val 1152921504606846975 18446744073709551615 = ((21267647932558653966460912964485513215 : Nat) : Int) by decide, Lib.itoa_nonneg]
  decide +kernel
theorem t_known (W : World) (ht : Tab W) : Calls Tryd.prog 19 #[.agg #[.int .i64 1152921504606846975, .int .u64 18446744073709551615]] W fun e w' => e = .returned (.string ⟨#[50, 49, 50, 54, 55, 54, 52, 55, 57, 51, 50, 53, 53, 56, 54, 53, 51, 57, 54, 54, 52, 54, 48, 57, 49, 50, 57, 54, 52, 52, 56, 53, 53, 49, 51, 50, 49, 53]⟩) ∧ Below W.heap.size W w' := by
  have := Text_any 1152921504606846975 18446744073709551615 ⟨by omega, by omega, by omega, by omega⟩ W ht
  rwa [text_known] at this
theorem parse_known (W : World) : Calls Tryd.prog 18 #[.string ⟨#[45, 49, 50]⟩] W fun e w' => e = .returned (.tuple #[.agg #[.int .i64 (-1), .int .u64 18446744073709551604], .int .i64 0]) ∧ Below W.heap.size W w' :=
  Parse_ok ⟨#[45, 49, 50]⟩ (by decide) [49, 50] true (by decide) (by decide) (by decide) (by decide) (by decide) (-1) 18446744073709551604 ⟨by omega, by omega, by omega, by omega⟩ (by decide) W

theorem of_small (n : Int) (hn : -100 ≤ n ∧ n < 0) (W : World) : Calls Tryd.prog 22 #[.int .i64 n] W fun e w' => e = .returned (.agg #[.int .i64 (-1), .int .u64 (n + 18446744073709551616)]) ∧ Below W.heap.size W w' :=
  Of_any n (-1) (n + 18446744073709551616) (by unfold I64; omega) ⟨by omega, by omega, by omega, by omega⟩ (by unfold val; omega) W
theorem sum_known (W : World) : Calls Tryd.prog 27 #[.slice (some ⟨W.heap.size, 0, none⟩) 2 2] (W.alloc (.cells #[.int .i64 3, .int .i64 (-4)] 2)) fun e w' => e = .returned (.agg #[.int .i64 (-1), .int .u64 18446744073709551615]) ∧ Below (W.alloc (.cells #[.int .i64 3, .int .i64 (-4)] 2)).heap.size (W.alloc (.cells #[.int .i64 3, .int .i64 (-4)] 2)) w' := by
  refine Sum_any W.heap.size 0 2 2 [3, -4] rfl (by omega) (by intro c hc; simp at hc; rcases hc with rfl | rfl <;> (unfold I64; omega)) _ (by simp) ?_ (-1) 18446744073709551615 ⟨by omega, by omega, by omega, by omega⟩ (by decide)
  intro k c h
  have hA := At.new W #[.int .i64 3, .int .i64 (-4)] 2
  rw [Nat.zero_add]
  match k, h with
  | 0, h => simp at h; subst h; exact hA.cell 0 _ rfl
  | 1, h => simp at h; subst h; exact hA.cell 1 _ rfl

set_option maxHeartbeats 4000000 in
theorem known_any (w : World) (ht : Tab w) :
    Calls Tryd.prog 9 #[] w fun e w' => e = .returned (.bool true) ∧ Below w.heap.size w w' := by
  have M := Lib.hid (fun W => Mul_any 4611686018427387904 4611686018427387904 1152921504606846976 0 (by unfold I64; omega) (by unfold I64; omega) ⟨by omega, by omega, by omega, by omega⟩ (by decide) W)
  have O1 := Lib.hid (fun W => Of_any (-1) (-1) 18446744073709551615 (by unfold I64; omega) ⟨by omega, by omega, by omega, by omega⟩ (by decide) W)
  have AB := Lib.hid (fun W => Add_ok 1152921504606846976 0 (-1) 18446744073709551615 1152921504606846975 18446744073709551615 ⟨by omega, by omega, by omega, by omega⟩ ⟨by omega, by omega, by omega, by omega⟩ ⟨by omega, by omega, by omega, by omega⟩ (by decide) W)
  have NG := Lib.hid (fun W => Neg_ok 1152921504606846975 18446744073709551615 (-1152921504606846976) 1 ⟨by omega, by omega, by omega, by omega⟩ ⟨by omega, by omega, by omega, by omega⟩ (by decide) W)
  have AO := Lib.hid (fun W => Add_no 9223372036854775807 0 1 0 ⟨by omega, by omega, by omega, by omega⟩ ⟨by omega, by omega, by omega, by omega⟩ (by unfold Fits val; omega) W)
  have O2 := Lib.hid (fun W => Of_any 1 0 1 (by unfold I64; omega) ⟨by omega, by omega, by omega, by omega⟩ (by decide) W)
  have R1 := Lib.hid (fun W => Ratio_ok 0 1 3 33 100 ⟨by omega, by omega, by omega, by omega⟩ (by omega) (by unfold I64; omega) (by unfold I64; omega) (by omega) (by unfold I64; omega) W)
  rw [show cmpI (val 0 1 * 100) (33 * 3) = 1 by decide] at R1
  have R2 := Lib.hid (fun W => Ratio_no 0 1 0 1 1 (by omega) W)
  have P := Lib.hid parse_known
  have T := Lib.hid t_known
  have CM := Lib.hid (fun W => Cmp_any 1152921504606846975 18446744073709551615 1152921504606846976 0 ⟨by omega, by omega, by omega, by omega⟩ ⟨by omega, by omega, by omega, by omega⟩ W)
  rw [show cmpI (val 1152921504606846975 18446744073709551615) (val 1152921504606846976 0) = -1 by decide] at CM
  have SM := Lib.hid sum_known
  have HT := Lib.hid ht
  clear ht
  go_enter Tryd.func9, Tryd.ntmps9
  go_wp2_with fail
  refine (M.out _).mono ?_
  rintro e w1 ⟨rfl, hb⟩
  go_wp2_with fail
  have B1 : Below w.heap.size w (w1.alloc (.cells #[.int .i64 1152921504606846976, .int .u64 0] 24)) := hb.alloc hb.size _
  have C1 : At (w1.alloc (.cells #[.int .i64 1152921504606846976, .int .u64 0] 24)) w1.heap.size [.int .i64 1152921504606846976, .int .u64 0] := At.new w1 _ _
  clear hb
  generalize w1.alloc (.cells #[.int .i64 1152921504606846976, .int .u64 0] 24) = W1 at *
  generalize w1.heap.size = b1 at *
  have x0 := C1.cell 0 _ rfl
  have x1 := C1.cell 1 _ rfl
  have l1 := C1.lt
  have lB := B1.size
  go_upto_region 2 with (fail)
  go_cut [2, 3] (fun s2 s3 wx => ∃ b2 : Nat, s2 = .pointer (some ⟨b2, 0, none⟩) ∧ s3 = .int .i64 0 ∧ At wx b2 [.int .i64 1152921504606846975, .int .u64 18446744073709551615] ∧ At wx b1 [.int .i64 1152921504606846976, .int .u64 0] ∧ Below w.heap.size w wx ∧ b1 < b2)
  case first =>
    go_region_held3 (fun w' => w'.cell? ⟨b1, 0, none⟩ = some (.int .i64 1152921504606846976) ∧ w'.cell? ⟨b1, 1, none⟩ = some (.int .u64 0) ∧ At w' b1 [.int .i64 1152921504606846976, .int .u64 0] ∧ Below w.heap.size w w' ∧ W1.heap.size ≤ w'.heap.size)
      (first
        | ((repeat' apply And.intro) <;> first | go_cell | exact C1.drew | exact B1.drew | exact Nat.le_refl _)
        | (go_split_ands
           (repeat' apply And.intro) <;> first | (refine cell_later hb ?_; with_reducible assumption) | (refine At.below ?_ hb; with_reducible assumption) | (refine below_then ?_ hb; with_reducible assumption) | (refine Nat.le_trans ?_ hb.size; first | with_reducible assumption | (simp; done) | (simp; omega)))
        | (go_split_ands
           (repeat' apply And.intro) <;> first | (refine cell_later (below_cells _) ?_; with_reducible assumption) | (refine At.alloc ?_ _; with_reducible assumption) | (refine below_new ?_ _; with_reducible assumption) | (refine At.drew (At.alloc ?_ _); with_reducible assumption) | (refine Below.drew (below_new ?_ _); with_reducible assumption) | go_cell | (simp; omega) | (simp; done))
        | (go_split_ands
           (repeat' apply And.intro) <;> first | go_cell | (refine At.far (At.far ?_ (by omega) _) (by omega) _; with_reducible assumption) | (refine Below.setCell (Below.setCell ?_ ?_ _) ?_ _ <;> first | with_reducible assumption | (dsimp only; omega)) | (simp; omega)))
      (first
        | (go_at_call 22; refine (O1.out _).mono ?_; rintro e w1 ⟨rfl, hb⟩; go_split_ands; have kA : At w1 b1 [.int .i64 1152921504606846976, .int .u64 0] := At.below (by with_reducible assumption) hb; have kB : Below w.heap.size w w1 := below_then (by with_reducible assumption) hb; have kS : W1.heap.size ≤ w1.heap.size := Nat.le_trans (by first | with_reducible assumption | (simp; done) | (simp; omega)) hb.size; have kT := kB.size; have k0 := kA.cell 0 _ rfl; have k1 := kA.cell 1 _ rfl; first | (have nP := At.below nP hb; have q0 := nP.cell 0 _ rfl; have q1 := nP.cell 1 _ rfl; have g0 := nP.free 0 _ rfl; have g1 := nP.free 1 _ rfl; have nl := nP.lt) | (have nP := At.below (At.drew (At.new _ #[.int .i64 0, .int .u64 0] 24)) hb; have q0 := nP.cell 0 _ rfl; have q1 := nP.cell 1 _ rfl; have g0 := nP.free 0 _ rfl; have g1 := nP.free 1 _ rfl; have nl := nP.lt) | (have nP := At.below (At.new _ #[.int .i64 0, .int .u64 0] 24) hb; have q0 := nP.cell 0 _ rfl; have q1 := nP.cell 1 _ rfl; have g0 := nP.free 0 _ rfl; have g1 := nP.free 1 _ rfl; have nl := nP.lt) | skip)
        | (go_at_call 10; refine (AB.out _).mono ?_; rintro e w1 ⟨rfl, hb⟩; go_split_ands; have kA : At w1 b1 [.int .i64 1152921504606846976, .int .u64 0] := At.below (by with_reducible assumption) hb; have kB : Below w.heap.size w w1 := below_then (by with_reducible assumption) hb; have kS : W1.heap.size ≤ w1.heap.size := Nat.le_trans (by first | with_reducible assumption | (simp; done) | (simp; omega)) hb.size; have kT := kB.size; have k0 := kA.cell 0 _ rfl; have k1 := kA.cell 1 _ rfl; first | (have nP := At.below nP hb; have q0 := nP.cell 0 _ rfl; have q1 := nP.cell 1 _ rfl; have g0 := nP.free 0 _ rfl; have g1 := nP.free 1 _ rfl; have nl := nP.lt) | (have nP := At.below (At.drew (At.new _ #[.int .i64 0, .int .u64 0] 24)) hb; have q0 := nP.cell 0 _ rfl; have q1 := nP.cell 1 _ rfl; have g0 := nP.free 0 _ rfl; have g1 := nP.free 1 _ rfl; have nl := nP.lt) | (have nP := At.below (At.new _ #[.int .i64 0, .int .u64 0] 24) hb; have q0 := nP.cell 0 _ rfl; have q1 := nP.cell 1 _ rfl; have g0 := nP.free 0 _ rfl; have g1 := nP.free 1 _ rfl; have nl := nP.lt) | skip))
    all_goals
      rename_i hH
      go_wp2_with fail
      go_meet
      obtain ⟨-, -, hA, hBe, -⟩ := hH
      first
        | exact ⟨_, rfl, rfl, At.new _ _ _, hA, hBe, by omega⟩
        | exact ⟨_, rfl, rfl, (nP.set 0 _).set 1 _, hA, hBe, by omega⟩
  case rest =>
    obtain ⟨b2, rfl, rfl, C2, D1, B2, l2⟩ := hcut
    clear C1 B1 x0 x1 l1 lB l2
    have y0 := C2.cell 0 _ rfl
    have y1 := C2.cell 1 _ rfl
    go_wp2_with fail
    refine (NG.out _).mono ?_
    rintro e w3 ⟨rfl, hb⟩
    have D1 := D1.below hb
    have D2 := C2.below hb
    have E := below_then B2 hb
    clear hb B2 C2 y0 y1
    go_wp2_with fail
    refine (AO.out _).mono ?_
    rintro e w4 ⟨rfl, hb⟩
    have D1 := (D1.alloc _).below hb
    have D2 := (D2.alloc _).below hb
    have D4 := (At.new w3 #[.int .i64 (-1152921504606846976), .int .u64 1] 24).below hb
    have E := below_then (below_new E _) hb
    clear hb
    generalize w3.heap.size = b4 at *
    go_wp2_with fail
    refine (O2.out _).mono ?_
    rintro e w5 ⟨rfl, hb⟩
    have D1 := (D1.alloc _).below hb
    have D2 := (D2.alloc _).below hb
    have D4 := (D4.alloc _).below hb
    have E := below_then (below_new E _) hb
    clear hb
    go_wp2_with fail
    refine (R1.out _).mono ?_
    rintro e w6 ⟨rfl, hb⟩
    have D1 := D1.below hb
    have D2 := D2.below hb
    have D4 := D4.below hb
    have E := below_then E hb
    clear hb
    go_wp2_with fail
    refine (O2.out _).mono ?_
    rintro e w7 ⟨rfl, hb⟩
    have D1 := D1.below hb
    have D2 := D2.below hb
    have D4 := D4.below hb
    have E := below_then E hb
    clear hb
    go_wp2_with fail
    refine (R2.out _).mono ?_
    rintro e w8 ⟨rfl, hb⟩
    have D1 := D1.below hb
    have D2 := D2.below hb
    have D4 := D4.below hb
    have E := below_then E hb
    clear hb
    go_wp2_with fail
    refine (P.out _).mono ?_
    rintro e w9 ⟨rfl, hb⟩
    have D1 := (D1.below hb).alloc (.cells #[.int .i64 (-1), .int .u64 18446744073709551604] 24)
    have D2 := (D2.below hb).alloc (.cells #[.int .i64 (-1), .int .u64 18446744073709551604] 24)
    have D4 := (D4.below hb).alloc (.cells #[.int .i64 (-1), .int .u64 18446744073709551604] 24)
    have D12 := At.new w9 #[.int .i64 (-1), .int .u64 18446744073709551604] 24
    have E := below_new (below_then E hb) (.cells #[.int .i64 (-1), .int .u64 18446744073709551604] 24)
    clear hb
    go_wp2_with fail
    generalize w9.alloc (.cells #[.int .i64 (-1), .int .u64 18446744073709551604] 24) = W9 at *
    generalize w9.heap.size = b12 at *
    have c0 := D1.cell 0 _ rfl
    have c1 := D1.cell 1 _ rfl
    have d0 := D2.cell 0 _ rfl
    have d1 := D2.cell 1 _ rfl
    have e0 := D4.cell 0 _ rfl
    have g0 := D12.cell 0 _ rfl
    have g1 := D12.cell 1 _ rfl
    clear D1 D2 D4 D12 M O1 AB NG AO O2 R1 R2 P
    go_region_held3 (fun w' => w'.cell? ⟨b1, 0, none⟩ = some (.int .i64 1152921504606846976) ∧ w'.cell? ⟨b1, 1, none⟩ = some (.int .u64 0) ∧ w'.cell? ⟨b2, 0, none⟩ = some (.int .i64 1152921504606846975) ∧ w'.cell? ⟨b2, 1, none⟩ = some (.int .u64 18446744073709551615) ∧
        w'.cell? ⟨b4, 0, none⟩ = some (.int .i64 (-1152921504606846976)) ∧ w'.cell? ⟨b12, 0, none⟩ = some (.int .i64 (-1)) ∧ w'.cell? ⟨b12, 1, none⟩ = some (.int .u64 18446744073709551604) ∧ Below w.heap.size w w')
      (first
        | ((repeat' apply And.intro) <;> first | go_cell | exact E.drew)
        | (go_split_ands
           (repeat' apply And.intro) <;> first | (refine cell_later hb ?_; with_reducible assumption) | (refine below_then ?_ hb; with_reducible assumption))
        | (go_split_ands
           (repeat' apply And.intro) <;> first | (refine cell_later (below_cells _) ?_; with_reducible assumption) | (refine below_new ?_ _; with_reducible assumption)))
      (first
        | (go_at_call 19; go_split_ands; refine (T.out _ (HT.out.below (by with_reducible assumption))).mono ?_; rintro e w1 ⟨rfl, hb⟩)
        | (go_at_call 22; refine (of_small _ (by omega) _).mono ?_; rintro e w1 ⟨rfl, hb⟩)
        | (go_at_call 15; refine (CM.out _).mono ?_; rintro e w1 ⟨rfl, hb⟩)
        | (go_at_call 27; refine (SM.out _).mono ?_; rintro e w1 ⟨rfl, hb⟩))
    all_goals
      rename_i hH
      have hB := hH.2.2.2.2.2.2.2
      clear hH
      go_wp2
      go_ret
      exact ⟨rfl, hB⟩
end Go.Proofs.YtmggiclikbacjaaDoor
