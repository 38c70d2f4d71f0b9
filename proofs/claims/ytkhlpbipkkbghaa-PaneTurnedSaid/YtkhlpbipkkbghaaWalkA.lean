/- The leaf functions of package wide, walked: what extend, then, pairs answer. No conditions beside the fields' ranges. -/
import Derived.Test.YtkhlpbipkkbghaaShelf
import Derived.Tactics
import Derived.Tactics2
import Derived.WalkKit
import Derived.Outline
import Derived.Handy
import Derived.Deep.RegionHeld3
import Derived.Deep.DeepCutAuto
import Derived.Deep.QuietTactic
import Derived.BigQuiet
import Derived.KernelRfl
import Derived.WalkSpells
import Derived.WalkLawsBesides
import Derived.Laws.StructEq
import Derived.Laws.Externs
namespace Go.Proofs.Ytkhlpbipkkbghaa
open Go Go.Proofs Go.RowKit
set_option maxRecDepth 100000

theorem extend_any (hi lo : Int) (w : World) :
    Calls Try.prog 36 #[.agg #[.int .i64 hi, .int .u64 lo]] w fun e w' => e = .returned (.agg #[.int .u64 lo, .int .u64 (IntKind.u64.wrap hi), .int .u64 (IntKind.u64.wrap (hi / 9223372036854775808))]) ∧ Below w.heap.size w w' := by
  go_enter Try.func36, Try.ntmps36
  go_wp2
  go_returns
  exact ⟨rfl, by go_grown⟩

theorem then_any (a0 a1 a2 c x y : Int) (w : World) :
    Calls Try.prog 54 #[.agg #[.int .u64 a0, .int .u64 a1, .int .u64 a2, .int .u64 c], .int .u64 x, .int .u64 y] w fun e w' => e = .returned (.agg #[.int .u64 a1, .int .u64 a2, .int .u64 x, .int .u64 y]) ∧ Below w.heap.size w w' := by
  go_enter Try.func54, Try.ntmps54
  go_wp2
  go_returns
  exact ⟨rfl, by go_grown⟩

theorem pairs_any (a0 a1 a2 b0 b1 b2 : Int) (w : World) :
    Calls Try.prog 47 #[.agg #[.int .u64 a0, .int .u64 a1, .int .u64 a2], .agg #[.int .u64 b0, .int .u64 b1, .int .u64 b2]] w fun e w' => e = .returned (.slice (some ⟨w.heap.size + 1 + 1, 0, none⟩) 3 3) ∧ Below w.heap.size w w' ∧ w'.heap[w.heap.size + 1 + 1]? = some (.cells #[.int .u64 a0, .int .u64 b0, .int .u64 a1, .int .u64 b1, .int .u64 a2, .int .u64 b2] 94 (0, 0)) := by
  go_enter Try.func47, Try.ntmps47
  go_wp2
  go_returns
  exact ⟨rfl, by go_grown, by have h := heap_alloc_new ((w.alloc (.cells #[.int .u64 a0, .int .u64 a1, .int .u64 a2] 77)).alloc (.cells #[.int .u64 b0, .int .u64 b1, .int .u64 b2] 77)) (.cells #[.int .u64 a0, .int .u64 b0, .int .u64 a1, .int .u64 b1, .int .u64 a2, .int .u64 b2] 94); simpa using h⟩

theorem same0 {w : World} {b : Nat} {u : Value} (h : w.cell? ⟨b, 0, none⟩ = some u) (x : Value) : (w.setCell ⟨b, 0, none⟩ x).cell? ⟨b, 0, none⟩ = some x := World.cell?_setCell_same _ _ _ h
theorem same1 {w : World} {b : Nat} {u : Value} (h : w.cell? ⟨b, 1, none⟩ = some u) (x y : Value) : ((w.setCell ⟨b, 0, none⟩ x).setCell ⟨b, 1, none⟩ y).cell? ⟨b, 1, none⟩ = some y :=
  World.cell?_setCell_same _ _ _ ((World.cell?_setCell_other _ _ _ _ (by simp)).trans h)
theorem same2 {w : World} {b : Nat} {u : Value} (h : w.cell? ⟨b, 2, none⟩ = some u) (x y z : Value) : (((w.setCell ⟨b, 0, none⟩ x).setCell ⟨b, 1, none⟩ y).setCell ⟨b, 2, none⟩ z).cell? ⟨b, 2, none⟩ = some z :=
  World.cell?_setCell_same _ _ _ ((World.cell?_setCell_other _ _ _ _ (by simp)).trans ((World.cell?_setCell_other _ _ _ _ (by simp)).trans h))
theorem same3 {w : World} {b : Nat} {u : Value} (h : w.cell? ⟨b, 3, none⟩ = some u) (x y z t : Value) : ((((w.setCell ⟨b, 0, none⟩ x).setCell ⟨b, 1, none⟩ y).setCell ⟨b, 2, none⟩ z).setCell ⟨b, 3, none⟩ t).cell? ⟨b, 3, none⟩ = some t :=
  World.cell?_setCell_same _ _ _ ((World.cell?_setCell_other _ _ _ _ (by simp)).trans ((World.cell?_setCell_other _ _ _ _ (by simp)).trans ((World.cell?_setCell_other _ _ _ _ (by simp)).trans h)))
theorem frz_later {w wx : World} {b o : Nat} (hb : Below w.heap.size w wx) (hl : b < w.heap.size) (h : w.frozen? ⟨b, o, none⟩ = false) : wx.frozen? ⟨b, o, none⟩ = false :=
  (hb.frozen (p := ⟨b, o, none⟩) hl).trans h

theorem eq_limbs (w : World) (a0 a1 a2 b0 b1 b2 : Int) : (Op.equalIn 10000 77 (.agg #[.int .u64 a0, .int .u64 a1, .int .u64 a2]) (.agg #[.int .u64 b0, .int .u64 b1, .int .u64 b2])).run Try.prog w = .ok (a0 == b0 && (a1 == b1 && a2 == b2)) w := by
  have hs : ∀ w, (sizeOf 25).run Try.prog w = .ok 1 w := fun w => by kernel_rfl
  have p0 : ∀ w x y z, (part 25 #[x, y, z] 0).run Try.prog w = .ok x w := fun w x y z => by kernel_rfl
  have p1 : ∀ w x y z, (part 25 #[x, y, z] 1).run Try.prog w = .ok y w := fun w x y z => by kernel_rfl
  have p2 : ∀ w x y z, (part 25 #[x, y, z] 2).run Try.prog w = .ok z w := fun w x y z => by kernel_rfl
  have e : ∀ w a b, (Op.equalIn 9999 25 (.int .u64 a) (.int .u64 b)).run Try.prog w = .ok (a == b) w := fun w a b => run_equalIn_int w 9998 25 .u64 .u64 a b Try.underlying25
  show (Op.equalIn (9999 + 1) 77 _ _).run Try.prog w = _
  unfold Op.equalIn
  simp only [Sem.run_bind, run_underlying Try.underlying77, Result.andThen_ok, hs]
  rw [show (forIn (m := Sem) [:3] = forIn (m := Sem) (β := Option Bool × Unit) [0, 1, 2]) from ?_]
  · simp only [List.forIn_cons, List.forIn_nil, Sem.run_bind, Sem.run_ite, Result.andThen_ok, p0, e]
    generalize h0 : (a0 == b0) = r0
    generalize h1 : (a1 == b1) = r1
    generalize h2 : (a2 == b2) = r2
    cases r0 <;> cases r1 <;> cases r2 <;> simp [p1, p2, e, h1, h2, -beq_eq_false_iff_ne, -beq_iff_eq]
  · funext b f
    rw [Std.Legacy.Range.forIn_eq_forIn_range']
    rfl

/-- what narrow answers, by whether the three limbs are a number of 128 bits -/
def narrowV (a0 a1 : Int) : Bool → Ending
  | true => .returned (.tuple #[.agg #[.int .i64 (wrap64 a1), .int .u64 a0], .int .i64 0])
  | false => .returned (.tuple #[.agg #[.int .i64 0, .int .u64 0], .int .i64 7])

theorem narrow_any (a0 a1 a2 : Int) (q : Bool) (hq : (IntKind.u64.wrap (wrap64 a1) == a1 && IntKind.u64.wrap (wrap64 a1 / 9223372036854775808) == a2) = q) (w : World) :
    Calls Try.prog 42 #[.agg #[.int .u64 a0, .int .u64 a1, .int .u64 a2]] w fun e w' => e = narrowV a0 a1 q ∧ Below w.heap.size w w' := by
  have heq : ∀ w', Sem.run Try.prog (Op.equalIn 10000 77 (.agg #[.int .u64 a0, .int .u64 (IntKind.u64.wrap (wrap64 a1)), .int .u64 (IntKind.u64.wrap (wrap64 a1 / 9223372036854775808))]) (.agg #[.int .u64 a0, .int .u64 a1, .int .u64 a2])) w' = .ok q w' := fun w' => by
    rw [eq_limbs, hq]; simp
  clear hq
  cases q
  all_goals
    go_enter Try.func42, Try.ntmps42
    go_wp2_with fail
    go_region_held3 (fun w' => w'.cell? ⟨w.heap.size, 0, none⟩ = some (.int .u64 a0) ∧ w'.cell? ⟨w.heap.size, 1, none⟩ = some (.int .u64 a1) ∧ w'.cell? ⟨w.heap.size, 2, none⟩ = some (.int .u64 a2) ∧
        w'.cell? ⟨w.heap.size + 1 + 1, 0, none⟩ = some (.int .i64 (wrap64 a1)) ∧ w'.cell? ⟨w.heap.size + 1 + 1, 1, none⟩ = some (.int .u64 a0) ∧ w'.cell? ⟨w.heap.size + 1, 0, none⟩ = some (.int .i64 0) ∧ w'.cell? ⟨w.heap.size + 1, 1, none⟩ = some (.int .u64 0) ∧
        w'.frozen? ⟨w.heap.size + 1, 0, none⟩ = false ∧ w'.frozen? ⟨w.heap.size + 1, 1, none⟩ = false ∧ w.heap.size + 1 + 1 + 1 ≤ w'.heap.size ∧ Below w.heap.size w w')
      (first
        | ((repeat' apply And.intro) <;> first | go_cell | (with_reducible exact ((((Below.refl _ _).alloc (Nat.le_refl _) _).alloc (by simp) _).alloc (by simp; omega) _).drew))
        | (go_split_ands
           (repeat' apply And.intro) <;> first | (refine cell_later hb ?_; assumption) | (refine frz_later hb (by omega) ?_; assumption) | (exact Nat.le_trans (by assumption) hb.size) | (refine Below.trans (by assumption) (hb.mono ?_); omega)))
      (first | (go_at_call 36; refine (extend_any _ _ _).mono ?_; rintro e w1 ⟨rfl, hb⟩))
    rename_i hH
    obtain ⟨c0, c1, c2, c3, c4, c5, c6, f5, f6, _, hB⟩ := hH
    go_wp2
    have s0 := same0 c5
    have s1 := same1 c6
    first
      | (refine bodyPost_ret (v := .tuple #[.agg #[.int .i64 (wrap64 a1), .int .u64 a0], .int .i64 0]) (by simp [results, Try.results42, go_sem, s0, s1]) rfl ⟨rfl, by go_grown⟩)
      | (refine bodyPost_ret (v := .tuple #[.agg #[.int .i64 0, .int .u64 0], .int .i64 7]) (by simp [results, Try.results42, go_sem, s0, s1]) rfl ⟨rfl, by go_grown⟩)

theorem add64_any (x y c : Int) (hx : 0 ≤ x) (hy : 0 ≤ y) (hc0 : 0 ≤ c) (hc : c ≤ 1) (w : World) : (callFunc 53 #[.int .u64 x, .int .u64 y, .int .u64 c]).run Try.prog w =
    .ok (.value (.tuple #[.int .u64 ((x + y + c) % 18446744073709551616), .int .u64 ((x + y + c) / 18446744073709551616)])) w := by
  rw [run_callFunc_extern Try.func53 (by kernel_rfl) (by kernel_rfl) (by kernel_rfl) (e := add64Entry) (by kernel_rfl), run_add64 x y c hx hy hc0 hc]
  rfl

theorem addStep_any (m0 m1 m2 c a b : Int) (ha : 0 ≤ a) (hb : 0 ≤ b) (hc0 : 0 ≤ c) (hc : c ≤ 1) (w : World) :
    Calls Try.prog 60 #[.agg #[.int .u64 m0, .int .u64 m1, .int .u64 m2, .int .u64 c], .agg #[.int .u64 a, .int .u64 b]] w fun e w' =>
      e = .returned (.agg #[.int .u64 m1, .int .u64 m2, .int .u64 ((a + b + c) % 18446744073709551616), .int .u64 ((a + b + c) / 18446744073709551616)]) ∧ Below w.heap.size w w' := by
  have h64 := fun w' => add64_any a b c ha hb hc0 hc w'
  go_enter Try.func60, Try.ntmps60
  go_wp2_with fail
  go_region_held3 (fun w' => w'.cell? ⟨w.heap.size, 0, none⟩ = some (.int .u64 m0) ∧ w'.cell? ⟨w.heap.size, 1, none⟩ = some (.int .u64 m1) ∧ w'.cell? ⟨w.heap.size, 2, none⟩ = some (.int .u64 m2) ∧ w'.cell? ⟨w.heap.size, 3, none⟩ = some (.int .u64 c) ∧
      w'.cell? ⟨w.heap.size + 1, 0, none⟩ = some (.int .u64 a) ∧ w'.cell? ⟨w.heap.size + 1, 1, none⟩ = some (.int .u64 b) ∧ Below w.heap.size w w')
    (first
      | ((repeat' apply And.intro) <;> first | go_cell | (with_reducible exact ((((Below.refl _ _).alloc (Nat.le_refl _) _).alloc (by simp) _).alloc (by simp; omega) _).drew))
      | (go_split_ands
         (repeat' apply And.intro) <;> first | (refine cell_later hb1 ?_; assumption) | (refine Below.trans ?_ (hb1.mono ?_) <;> first | (with_reducible assumption) | (simp; done) | go_grown))
      | (go_split_ands; (repeat' apply And.intro) <;> first | go_cell | go_grown))
    (first
      | (go_at_call 54; refine (then_any _ _ _ _ _ _ _).mono ?_; rintro e w1 ⟨rfl, hb1⟩
         have r0 : w1.cell? ⟨w.heap.size + 1 + 1, 0, none⟩ = some (.int .u64 0) := cell_later hb1 (by go_cell)
         have z0 : w1.frozen? ⟨w.heap.size + 1 + 1, 0, none⟩ = false := frz_later hb1 (by simp) (by go_simp)
         have r1 : w1.cell? ⟨w.heap.size + 1 + 1, 1, none⟩ = some (.int .u64 0) := cell_later hb1 (by go_cell)
         have z1 : w1.frozen? ⟨w.heap.size + 1 + 1, 1, none⟩ = false := frz_later hb1 (by simp) (by go_simp)
         have r2 : w1.cell? ⟨w.heap.size + 1 + 1, 2, none⟩ = some (.int .u64 0) := cell_later hb1 (by go_cell)
         have z2 : w1.frozen? ⟨w.heap.size + 1 + 1, 2, none⟩ = false := frz_later hb1 (by simp) (by go_simp)
         have r3 : w1.cell? ⟨w.heap.size + 1 + 1, 3, none⟩ = some (.int .u64 0) := cell_later hb1 (by go_cell)
         have z3 : w1.frozen? ⟨w.heap.size + 1 + 1, 3, none⟩ = false := frz_later hb1 (by simp) (by go_simp)))
  rename_i hH
  have hB := hH.2.2.2.2.2.2
  clear hH
  go_wp2
  have s0 := same0 r0
  have s1 := same1 r1
  have s2 := same2 r2
  have s3 := same3 r3
  refine bodyPost_ret (v := .agg #[.int .u64 m1, .int .u64 m2, .int .u64 ((a + b + c) % 18446744073709551616), .int .u64 ((a + b + c) / 18446744073709551616)]) (by simp [results, Try.results60, go_sem, s0, s1, s2, s3]) rfl ⟨rfl, hB⟩
end Go.Proofs.Ytkhlpbipkkbghaa
