/- Add, Neg, Cmp, Of: of package wide. -/
import Derived.Test.YtkhlpbipkkbghaaWalkB
namespace Go.Proofs.Ytkhlpbipkkbghaa
open Go Go.Proofs Go.RowKit
set_option maxRecDepth 100000

theorem narrow_ok (v a b c hi lo : Int) (h : IsL v a b c) (i : InI hi lo) (hv : val hi lo = v) (w : World) :
    Calls Try.prog 42 #[.agg #[.int .u64 a, .int .u64 b, .int .u64 c]] w fun e w' => e = .returned (.tuple #[.agg #[.int .i64 hi, .int .u64 lo], .int .i64 0]) ∧ Below w.heap.size w w' := by
  obtain ⟨e1, e2, e3⟩ := narrow_yes h i hv
  refine (narrow_any a b c true e3 w).mono fun _ _ hh => ⟨hh.1.trans ?_, hh.2⟩
  rw [narrowV, e2, e1]
theorem narrow_err (v a b c : Int) (h : IsL v a b c) (h1 : -3138550867693340381917894711603833208051177722232017256448 ≤ v) (h2 : v < 3138550867693340381917894711603833208051177722232017256448) (hf : ¬ Fits v) (w : World) :
    Calls Try.prog 42 #[.agg #[.int .u64 a, .int .u64 b, .int .u64 c]] w fun e w' => e = .returned (.tuple #[.agg #[.int .i64 0, .int .u64 0], .int .i64 7]) ∧ Below w.heap.size w w' :=
  (narrow_any a b c false (narrow_no h h1 h2 hf) w).mono fun _ _ hh => ⟨hh.1, hh.2⟩

theorem extend_l (hi lo a b c : Int) (i : InI hi lo) (h : IsL (val hi lo) a b c) (w : World) :
    Calls Try.prog 36 #[.agg #[.int .i64 hi, .int .u64 lo]] w fun e w' => e = .returned (.agg #[.int .u64 a, .int .u64 b, .int .u64 c]) ∧ Below w.heap.size w w' := by
  obtain ⟨e1, e2, e3⟩ := isL_inj h (isL_extend i)
  rw [e1, e2, e3]
  exact extend_any hi lo w

set_option maxHeartbeats 2000000 in
theorem Add_raw (h1 l1 h2 l2 h l e0 : Int) (i1 : InI h1 l1) (i2 : InI h2 l2)
    (hn : ∀ a b c W, IsL (val h1 l1 + val h2 l2) a b c → Calls Try.prog 42 #[.agg #[.int .u64 a, .int .u64 b, .int .u64 c]] W fun e w' => e = .returned (.tuple #[.agg #[.int .i64 h, .int .u64 l], .int .i64 e0]) ∧ Below W.heap.size W w') (w : World) :
    Calls Try.prog 28 #[.agg #[.int .i64 h1, .int .u64 l1], .agg #[.int .i64 h2, .int .u64 l2]] w fun e w' => e = .returned (.tuple #[.agg #[.int .i64 h, .int .u64 l], .int .i64 e0]) ∧ Below w.heap.size w w' := by
  obtain ⟨x0, x1, x2, hx⟩ := isL_ex (val h1 l1)
  obtain ⟨y0, y1, y2, hy⟩ := isL_ex (val h2 l2)
  obtain ⟨z0, z1, z2, hz⟩ := isL_ex (val h1 l1 + val h2 l2)
  have X := Lib.hid (fun W => extend_l h1 l1 x0 x1 x2 i1 hx W)
  have Y := Lib.hid (fun W => extend_l h2 l2 y0 y1 y2 i2 hy W)
  have Z := Lib.hid (fun W => add_any _ _ x0 x1 x2 y0 y1 y2 z0 z1 z2 hx hy hz W)
  have N := Lib.hid (fun W => hn z0 z1 z2 W hz)
  clear hx hy hz hn i1 i2
  go_enter Try.func28, Try.ntmps28
  go_wp2_with fail
  go_region_held3 (fun w' => w'.cell? ⟨w.heap.size, 0, none⟩ = some (.int .i64 h1) ∧ w'.cell? ⟨w.heap.size, 1, none⟩ = some (.int .u64 l1) ∧
      w'.cell? ⟨w.heap.size + 1, 0, none⟩ = some (.int .i64 h2) ∧ w'.cell? ⟨w.heap.size + 1, 1, none⟩ = some (.int .u64 l2) ∧ OwnN 2 w' (w.heap.size + 1 + 1) ∧ w.heap.size ≤ w'.heap.size ∧ Below w.heap.size w w')
    (first
      | ((repeat' apply And.intro) <;> first | go_cell | (have h := (At.new ((w.alloc (.cells #[.int .i64 h1, .int .u64 l1] 27)).alloc (.cells #[.int .i64 h2, .int .u64 l2] 27)) #[.int .i64 0, .int .u64 0] 27).drew.own; simpa using h) | (simp; omega) | (with_reducible exact ((((Below.refl _ _).alloc (Nat.le_refl _) _).alloc (by simp) _).alloc (by simp; omega) _).drew))
      | (go_split_ands
         (repeat' apply And.intro) <;> first | (refine cell_later hb ?_; with_reducible assumption) | (refine OwnN.below ?_ hb; with_reducible assumption) | (refine Nat.le_trans ?_ hb.size; with_reducible assumption) | (refine Below.trans ?_ (hb.mono ?_) <;> with_reducible assumption))
      | (go_split_ands
         (repeat' apply And.intro) <;> first | go_cell | (refine OwnN.set (OwnN.set ?_ _ _) _ _; with_reducible assumption) | (simp; with_reducible assumption) | go_grown))
    (first
      | (go_at_call_of 36 (Value.agg #[.int .i64 h1, .int .u64 l1]); refine (X.out _).mono ?_; rintro e w1 ⟨rfl, hb⟩)
      | (go_at_call_of 36 (Value.agg #[.int .i64 h2, .int .u64 l2]); refine (Y.out _).mono ?_; rintro e w1 ⟨rfl, hb⟩)
      | (go_at_call 43; refine (Z.out _).mono ?_; rintro e w1 ⟨rfl, hb⟩)
      | (go_at_call 42; refine (N.out _).mono ?_; rintro e w1 ⟨rfl, hb⟩; go_split_ands; have hO : OwnN 2 w1 (w.heap.size + 1 + 1) := OwnN.below (by with_reducible assumption) hb; obtain ⟨v0, v1, hA⟩ := hO.two; have r0 := hA.cell 0 _ rfl; have r1 := hA.cell 1 _ rfl; have q0 := hA.free 0 _ rfl; have q1 := hA.free 1 _ rfl))
  all_goals
    rename_i hH
    have hB := hH.2.2.2.2.2.2
    clear hH
    go_wp2
    have s0 := same0 r0
    have s1 := same1 r1
    refine bodyPost_ret (v := .tuple #[.agg #[.int .i64 h, .int .u64 l], .int .i64 e0]) (by simp [results, Try.results28, go_sem, s0, s1]) rfl ⟨rfl, by go_grown⟩

/-- Add, where the sum fits. -/
theorem Add_ok (h1 l1 h2 l2 h l : Int) (i1 : InI h1 l1) (i2 : InI h2 l2) (i : InI h l) (hv : val h l = val h1 l1 + val h2 l2) (w : World) :
    Calls Try.prog 28 #[.agg #[.int .i64 h1, .int .u64 l1], .agg #[.int .i64 h2, .int .u64 l2]] w fun e w' => e = .returned (.tuple #[.agg #[.int .i64 h, .int .u64 l], .int .i64 0]) ∧ Below w.heap.size w w' :=
  Add_raw h1 l1 h2 l2 h l 0 i1 i2 (fun a b c W hl => narrow_ok _ a b c h l hl i hv W) w
/-- Add, where it does not. -/
theorem Add_no (h1 l1 h2 l2 : Int) (i1 : InI h1 l1) (i2 : InI h2 l2) (hf : ¬ Fits (val h1 l1 + val h2 l2)) (w : World) :
    Calls Try.prog 28 #[.agg #[.int .i64 h1, .int .u64 l1], .agg #[.int .i64 h2, .int .u64 l2]] w fun e w' => e = .returned (.tuple #[.agg #[.int .i64 0, .int .u64 0], .int .i64 7]) ∧ Below w.heap.size w w' :=
  Add_raw h1 l1 h2 l2 0 0 7 i1 i2 (fun a b c W hl => narrow_err _ a b c hl (by have := i1.fits; have := i2.fits; unfold Fits at *; omega) (by have := i1.fits; have := i2.fits; unfold Fits at *; omega) hf W) w

/-- Of. -/
theorem Of_any (n h l : Int) (hn : I64 n) (i : InI h l) (hv : val h l = n) (w : World) :
    Calls Try.prog 19 #[.int .i64 n] w fun e w' => e = .returned (.agg #[.int .i64 h, .int .u64 l]) ∧ Below w.heap.size w w' := by
  have e1 : n / 9223372036854775808 = h ∧ IntKind.u64.wrap n = l := by
    obtain ⟨_, _, _, _⟩ := i
    unfold I64 at hn; unfold val at hv; rw [IntKind.wrap_u64]; omega
  have E := Lib.hid e1
  clear e1 hn i hv
  go_enter Try.func19, Try.ntmps19
  go_wp2
  go_returns
  exact ⟨by rw [E.out.1, E.out.2], by go_grown⟩
end Go.Proofs.Ytkhlpbipkkbghaa
