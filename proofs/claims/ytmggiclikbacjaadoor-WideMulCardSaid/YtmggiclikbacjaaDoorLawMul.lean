/- The law on products, walked. -/
import Derived.Test.YtmggiclikbacjaaDoorLawTwo
import Derived.Test.YtmggiclikbacjaaDoorRefI
import Derived.Test.YtmggiclikbacjaaDoorTextM
namespace Go.Proofs.YtmggiclikbacjaaDoor
open Go Go.Proofs Go.RowKit
set_option maxRecDepth 100000
attribute [local go_sem] cell_set
set_option maxHeartbeats 16000000 in
theorem mul_law (a b : Int) (ha : I64 a) (hb : I64 b) (w : World) (ht : Tab w) :
    Calls Tryd.prog 4 #[.int .i64 a, .int .i64 b] w fun e w' => e = .returned (.bool true) ∧ Below w.heap.size w w' := by
  have K := Lib.hid known_any
  have HT := Lib.hid ht
  obtain ⟨h, l, i, v⟩ := fits_ex (mul_fits a b ha hb)
  obtain ⟨ah, al, ai, av⟩ := fits_ex (v := a) (by unfold I64 at ha; unfold Fits; omega)
  have M1 := Lib.hid (fun W => Mul_any a b h l ha hb i v W)
  have M2 := Lib.hid (fun W => Mul_any b a h l hb ha i (by rw [v, Int.mul_comm]) W)
  have M3 := Lib.hid (fun W => Mul_any a 1 ah al ha (by unfold I64; omega) ai (by rw [av, Int.mul_one]) W)
  have MR := Lib.hid (fun W => ref_mul a b h l ha hb i v W)
  have OW := Lib.hid (fun W => Of_any a ah al ha ai av W)
  have T := Lib.hid (fun W ht => Text_any h l i W ht)
  have TR := Lib.hid (fun W => ref_text h l i W)
  have PA := Lib.hid (fun W => Parse_itoa h l i W)
  have OA := Lib.hid lawOf_any
  generalize Lib.itoa (val h l) = tx at *
  clear ha hb ht i v ai av
  go_enter Tryd.func4, Tryd.ntmps4
  go_wp2_with fail
  refine (K.out _ HT.out).mono ?_
  rintro e w1 ⟨rfl, hb1⟩
  have B : Below w.heap.size w w1 := below_then (Below.refl _ _) hb1
  clear hb1
  go_wp2_with fail
  refine (M1.out _).mono ?_
  rintro e w2 ⟨rfl, hb2⟩
  have B : Below w.heap.size w w2 := below_then (B) hb2
  clear hb2
  go_wp2_with fail
  refine (T.out _ (HT.out.below (by have h := below_new B (.cells #[.int .i64 h, .int .u64 l] 24); exact h))).mono ?_
  rintro e w3 ⟨rfl, hb3⟩
  have DP : At w3 (w2.heap.size) [.int .i64 h, .int .u64 l] := by have h := (At.new (w2) #[.int .i64 h, .int .u64 l] 24).below hb3; simpa using h
  have B : Below w.heap.size w w3 := below_then (below_new (B) (.cells #[.int .i64 h, .int .u64 l] 24)) hb3
  clear hb3
  have aP0 := DP.cell 0 _ rfl
  have aP1 := DP.cell 1 _ rfl
  have nP := DP.lt
  go_wp2_with fail
  refine (PA.out _).mono ?_
  rintro e w4 ⟨rfl, hb4⟩
  clear aP0 aP1 nP
  have DP := DP.below hb4
  have B : Below w.heap.size w w4 := below_then (B) hb4
  clear hb4
  have aP0 := DP.cell 0 _ rfl
  have aP1 := DP.cell 1 _ rfl
  have nP := DP.lt
  clear aP0 aP1 nP
  have DP := (DP.alloc (.cells #[.int .i64 h, .int .u64 l] 24))
  have DX : At ((w4).alloc (.cells #[.int .i64 h, .int .u64 l] 24)) (w4.heap.size) [.int .i64 h, .int .u64 l] := by have h := (At.new (w4) #[.int .i64 h, .int .u64 l] 24); simpa using h
  have B : Below w.heap.size w ((w4).alloc (.cells #[.int .i64 h, .int .u64 l] 24)) := below_new (B) (.cells #[.int .i64 h, .int .u64 l] 24)
  go_wp2_with fail
  generalize (w4).alloc (.cells #[.int .i64 h, .int .u64 l] 24) = W9 at *
  generalize w4.heap.size = bX at *
  have aP0 := DP.cell 0 _ rfl
  have aP1 := DP.cell 1 _ rfl
  have nP := DP.lt
  have aX0 := DX.cell 0 _ rfl
  have aX1 := DX.cell 1 _ rfl
  have nX := DX.lt
  clear DP DX
  go_region_held3 (fun w' => w'.cell? ⟨w2.heap.size, 0, none⟩ = some (.int .i64 h) ∧ w'.cell? ⟨w2.heap.size, 1, none⟩ = some (.int .u64 l) ∧ w'.cell? ⟨bX, 0, none⟩ = some (.int .i64 h) ∧ w'.cell? ⟨bX, 1, none⟩ = some (.int .u64 l) ∧ Below w.heap.size w w')
    (first
      | ((repeat' apply And.intro) <;> first | go_cell | exact B.drew)
      | (go_split_ands
         (repeat' apply And.intro) <;> first | (refine cell_later hb1 ?_; with_reducible assumption) | (refine below_then ?_ hb1; with_reducible assumption)))
    (first
      | (go_at_call 12; (with_reducible refine (OA.out _ _ _).mono ?_); rintro e w1 ⟨rfl, hb1⟩)
      | (go_at_call 20; (with_reducible refine (MR.out _).mono ?_); rintro e w1 ⟨rfl, hb1⟩)
      | (go_at_call 17; (with_reducible refine (M2.out _).mono ?_); rintro e w1 ⟨rfl, hb1⟩)
      | (go_at_call 17; (with_reducible refine (M3.out _).mono ?_); rintro e w1 ⟨rfl, hb1⟩)
      | (go_at_call 21; (with_reducible refine (TR.out _).mono ?_); rintro e w1 ⟨rfl, hb1⟩)
      | (go_at_call 22; (with_reducible refine (OW.out _).mono ?_); rintro e w1 ⟨rfl, hb1⟩)
      | (go_at_call 19; go_split_ands; refine (T.out _ (HT.out.below (by with_reducible assumption))).mono ?_; rintro e w1 ⟨rfl, hb1⟩))
  all_goals
    rename_i hH
    have hB := hH.2.2.2.2
    clear hH
    go_wp2
    go_ret
    exact ⟨rfl, hB⟩
end Go.Proofs.YtmggiclikbacjaaDoor
