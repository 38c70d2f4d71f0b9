/- Cmp, Neg, Mul, plus: of package wide. -/
import Derived.Test.YtmggiclikbacjaaDoorWalkD
namespace Go.Proofs.YtmggiclikbacjaaDoor
open Go Go.Proofs Go.RowKit
set_option maxRecDepth 100000

/-- Cmp. -/
theorem Cmp_any (h1 l1 h2 l2 : Int) (i1 : InI h1 l1) (i2 : InI h2 l2) (w : World) :
    Calls Tryd.prog 15 #[.agg #[.int .i64 h1, .int .u64 l1], .agg #[.int .i64 h2, .int .u64 l2]] w fun e w' => e = .returned (.int .i64 (cmpI (val h1 l1) (val h2 l2))) ∧ Below w.heap.size w w' := by
  obtain ⟨x0, x1, x2, hx⟩ := isL_ex (val h1 l1)
  obtain ⟨y0, y1, y2, hy⟩ := isL_ex (val h2 l2)
  have f1 := i1.fits
  have f2 := i2.fits
  unfold Fits at f1 f2
  have X := Lib.hid (fun W => extend_l h1 l1 x0 x1 x2 i1 hx W)
  have Y := Lib.hid (fun W => extend_l h2 l2 y0 y1 y2 i2 hy W)
  have Z := Lib.hid (fun W => compare_any _ _ x0 x1 x2 y0 y1 y2 hx hy (by omega) (by omega) (by omega) (by omega) W)
  generalize cmpI (val h1 l1) (val h2 l2) = c at *
  clear hx hy i1 i2 f1 f2
  go_enter Tryd.func15, Tryd.ntmps15
  go_wp2_with fail
  go_region_held3 (fun w' => w'.cell? ⟨w.heap.size, 0, none⟩ = some (.int .i64 h1) ∧ w'.cell? ⟨w.heap.size, 1, none⟩ = some (.int .u64 l1) ∧
      w'.cell? ⟨w.heap.size + 1, 0, none⟩ = some (.int .i64 h2) ∧ w'.cell? ⟨w.heap.size + 1, 1, none⟩ = some (.int .u64 l2) ∧ w.heap.size ≤ w'.heap.size ∧ Below w.heap.size w w')
    (first
      | ((repeat' apply And.intro) <;> first | go_cell | (simp; omega) | (with_reducible exact (((Below.refl _ _).alloc (Nat.le_refl _) _).alloc (by simp) _).drew))
      | (go_split_ands
         (repeat' apply And.intro) <;> first | (refine cell_later hb ?_; with_reducible assumption) | (refine Nat.le_trans ?_ hb.size; with_reducible assumption) | (refine Below.trans ?_ (hb.mono ?_) <;> with_reducible assumption)))
    (first
      | (go_at_call_of 30 (Value.agg #[.int .i64 h1, .int .u64 l1]); refine (X.out _).mono ?_; rintro e w1 ⟨rfl, hb⟩)
      | (go_at_call_of 30 (Value.agg #[.int .i64 h2, .int .u64 l2]); refine (Y.out _).mono ?_; rintro e w1 ⟨rfl, hb⟩)
      | (go_at_call 33; refine (Z.out _).mono ?_; rintro e w1 ⟨rfl, hb⟩))
  all_goals
    rename_i hH
    have hB := hH.2.2.2.2.2
    clear hH
    go_wp2
    go_ret
    exact ⟨rfl, hB⟩

set_option maxHeartbeats 2000000 in
theorem Neg_raw (h1 l1 hh ll e0 : Int) (i1 : InI h1 l1)
    (hn : ∀ W, Calls Tryd.prog 10 #[.agg #[.int .i64 (-1 - h1), .int .u64 (18446744073709551615 - l1)], .agg #[.int .i64 0, .int .u64 1]] W fun e w' => e = .returned (.tuple #[.agg #[.int .i64 hh, .int .u64 ll], .int .i64 e0]) ∧ Below W.heap.size W w') (w : World) :
    Calls Tryd.prog 13 #[.agg #[.int .i64 h1, .int .u64 l1]] w fun e w' => e = .returned (.tuple #[.agg #[.int .i64 hh, .int .u64 ll], .int .i64 e0]) ∧ Below w.heap.size w w' := by
  have O := Lib.hid (fun W => Of_any 1 0 1 (by unfold I64; omega) ⟨by omega, by omega, by omega, by omega⟩ (by unfold val; omega) W)
  have b1 := xor_i64 h1 ⟨i1.h1, i1.h2⟩
  have b2 := xor_u64 l1 ⟨i1.l1, i1.l2⟩
  have N := Lib.hid hn
  clear i1 hn
  go_enter Tryd.func13, Tryd.ntmps13
  go_wp2_with fail
  go_region_held3 (fun w' => w'.cell? ⟨w.heap.size, 0, none⟩ = some (.int .i64 h1) ∧ w'.cell? ⟨w.heap.size, 1, none⟩ = some (.int .u64 l1) ∧
      OwnN 2 w' (w.heap.size + 1) ∧ w.heap.size ≤ w'.heap.size ∧ Below w.heap.size w w')
    (first
      | ((repeat' apply And.intro) <;> first | go_cell | (have h := (At.new (w.alloc (.cells #[.int .i64 h1, .int .u64 l1] 24)) #[.int .i64 0, .int .u64 0] 24).drew.own; simpa using h) | (simp; omega) | (with_reducible exact (((Below.refl _ _).alloc (Nat.le_refl _) _).alloc (by simp) _).drew))
      | (go_split_ands
         (repeat' apply And.intro) <;> first | (refine cell_later hb ?_; with_reducible assumption) | (refine OwnN.below ?_ hb; with_reducible assumption) | (refine Nat.le_trans ?_ hb.size; with_reducible assumption) | (refine Below.trans ?_ (hb.mono ?_) <;> with_reducible assumption))
      | (go_split_ands
         (repeat' apply And.intro) <;> first | go_cell | (refine OwnN.set (OwnN.set ?_ _ _) _ _; with_reducible assumption) | (simp; with_reducible assumption) | go_grown))
    (first
      | (go_at_call 22; refine (O.out _).mono ?_; rintro e w1 ⟨rfl, hb⟩)
      | (go_at_call 10; refine (N.out _).mono ?_; rintro e w1 ⟨rfl, hb⟩; go_split_ands; have hO : OwnN 2 w1 (w.heap.size + 1) := OwnN.below (by with_reducible assumption) hb; obtain ⟨v0, v1, hA⟩ := hO.two; have r0 := hA.cell 0 _ rfl; have r1 := hA.cell 1 _ rfl; have q0 := hA.free 0 _ rfl; have q1 := hA.free 1 _ rfl))
  all_goals
    rename_i hH
    have hB := hH.2.2.2.2
    clear hH
    go_wp2
    have s0 := same0 r0
    have s1 := same1 r1
    refine bodyPost_ret (v := .tuple #[.agg #[.int .i64 hh, .int .u64 ll], .int .i64 e0]) (by simp [results, Tryd.results13, go_sem, s0, s1]) rfl ⟨rfl, by go_grown⟩

theorem InI.not {h l : Int} (i : InI h l) : InI (-1 - h) (18446744073709551615 - l) := by
  obtain ⟨_, _, _, _⟩ := i; exact ⟨by omega, by omega, by omega, by omega⟩
theorem val_not (h l : Int) : val (-1 - h) (18446744073709551615 - l) + val 0 1 = -val h l := by unfold val; omega
theorem in01 : InI 0 1 := ⟨by omega, by omega, by omega, by omega⟩
/-- Neg, where the number turned over fits. -/
theorem Neg_ok (h1 l1 h l : Int) (i1 : InI h1 l1) (i : InI h l) (hv : val h l = -val h1 l1) (w : World) :
    Calls Tryd.prog 13 #[.agg #[.int .i64 h1, .int .u64 l1]] w fun e w' => e = .returned (.tuple #[.agg #[.int .i64 h, .int .u64 l], .int .i64 0]) ∧ Below w.heap.size w w' :=
  Neg_raw h1 l1 h l 0 i1 (fun W => Add_ok _ _ 0 1 h l i1.not in01 i (by rw [val_not]; exact hv) W) w
theorem Neg_no (h1 l1 : Int) (i1 : InI h1 l1) (hf : ¬ Fits (-val h1 l1)) (w : World) :
    Calls Tryd.prog 13 #[.agg #[.int .i64 h1, .int .u64 l1]] w fun e w' => e = .returned (.tuple #[.agg #[.int .i64 0, .int .u64 0], .int .i64 7]) ∧ Below w.heap.size w w' :=
  Neg_raw h1 l1 0 0 7 i1 (fun W => Add_no _ _ 0 1 i1.not in01 (by rw [val_not]; exact hf) W) w
end Go.Proofs.YtmggiclikbacjaaDoor
