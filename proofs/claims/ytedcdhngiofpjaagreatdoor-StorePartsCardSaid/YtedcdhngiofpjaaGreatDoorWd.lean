/- wide and the reference of numbers: what stage 1 walked. -/
import Derived.BigQuiet
import Derived.Deep.DeepCutAuto
import Derived.Deep.QuietTactic
import Derived.Deep.RegionHeld3
import Derived.Handy
import Derived.KernelRfl
import Derived.Laws.Bits64
import Derived.Laws.BitsAllLaws
import Derived.Laws.Externs
import Derived.Laws.StructEq
import Derived.Lib.Hide
import Derived.Lib.Mul64
import Derived.Outline
import Derived.Tactics
import Derived.Tactics2
import Derived.WalkKit
import Derived.WalkLawsBesides
import Derived.WalkSpells
import Derived.Test.YtedcdhngiofpjaaGreatDoorAt
import Derived.Test.YtedcdhngiofpjaaGreatDoorShelf
import Derived.Test.YtedcdhngiofpjaaGreatDoorProg
namespace Go.Proofs.YtedcdhngiofpjaaGreatDoor
open Go Go.Proofs Go.RowKit Go.Shelf
set_option maxRecDepth 100000
/-- the three limbs of v, going round -/
structure IsL (v a b c : Int) : Prop where
  h0 : a = v % 18446744073709551616
  h1 : b = v / 18446744073709551616 % 18446744073709551616
  h2 : c = v / 18446744073709551616 / 18446744073709551616 % 18446744073709551616
theorem isL_ex (v : Int) : ∃ a b c, IsL v a b c := ⟨_, _, _, rfl, rfl, rfl⟩
theorem IsL.r0 {v a b c : Int} (h : IsL v a b c) : 0 ≤ a ∧ a < 18446744073709551616 := by rw [h.h0]; omega
theorem IsL.r1 {v a b c : Int} (h : IsL v a b c) : 0 ≤ b ∧ b < 18446744073709551616 := by rw [h.h1]; omega
theorem IsL.r2 {v a b c : Int} (h : IsL v a b c) : 0 ≤ c ∧ c < 18446744073709551616 := by rw [h.h2]; omega
/-- a number of 128 bits in two fields -/
structure InI (hi lo : Int) : Prop where
  h1 : -9223372036854775808 ≤ hi
  h2 : hi ≤ 9223372036854775807
  l1 : 0 ≤ lo
  l2 : lo < 18446744073709551616
def I64 (n : Int) : Prop := -9223372036854775808 ≤ n ∧ n ≤ 9223372036854775807
def val (hi lo : Int) : Int := hi * 18446744073709551616 + lo
/-- does a number fit 128 bits with a sign -/
def Fits (v : Int) : Prop := -170141183460469231731687303715884105728 ≤ v ∧ v < 170141183460469231731687303715884105728
theorem InI.fits {hi lo : Int} (h : InI hi lo) : Fits (val hi lo) := by
  obtain ⟨a, b, c, d⟩ := h; unfold Fits val; omega
theorem isL_extend {hi lo : Int} (h : InI hi lo) : IsL (val hi lo) lo (IntKind.u64.wrap hi) (IntKind.u64.wrap (hi / 9223372036854775808)) := by
  obtain ⟨a, b, c, d⟩ := h
  unfold val
  rw [IntKind.wrap_u64, IntKind.wrap_u64]
  refine ⟨by omega, by omega, by omega⟩
theorem isL_add {x y x0 x1 x2 y0 y1 y2 : Int} (hx : IsL x x0 x1 x2) (hy : IsL y y0 y1 y2) :
    IsL (x + y) ((x0 + y0 + 0) % 18446744073709551616) ((x1 + y1 + (x0 + y0 + 0) / 18446744073709551616) % 18446744073709551616)
      ((x2 + y2 + (x1 + y1 + (x0 + y0 + 0) / 18446744073709551616) / 18446744073709551616) % 18446744073709551616) := by
  obtain ⟨a, b, c⟩ := hx; obtain ⟨d, e, f⟩ := hy
  generalize hX1 : x / 18446744073709551616 = X1 at *
  generalize hY1 : y / 18446744073709551616 = Y1 at *
  generalize hX2 : X1 / 18446744073709551616 = X2 at *
  generalize hY2 : Y1 / 18446744073709551616 = Y2 at *
  generalize hk0 : (x0 + y0 + 0) / 18446744073709551616 = k0 at *
  have e1 : (x + y) / 18446744073709551616 = X1 + Y1 + k0 := by omega
  generalize hk1 : (x1 + y1 + k0) / 18446744073709551616 = k1 at *
  have e2 : (X1 + Y1 + k0) / 18446744073709551616 = X2 + Y2 + k1 := by omega
  refine ⟨by omega, by rw [e1]; omega, by rw [e1, e2]; omega⟩
theorem isL_inj {v a b c a' b' c' : Int} (h : IsL v a b c) (k : IsL v a' b' c') : a = a' ∧ b = b' ∧ c = c' :=
  ⟨h.h0.trans k.h0.symm, h.h1.trans k.h1.symm, h.h2.trans k.h2.symm⟩
theorem narrow_yes {v a b c hi lo : Int} (h : IsL v a b c) (hin : InI hi lo) (hv : val hi lo = v) :
    a = lo ∧ wrap64 b = hi ∧ (IntKind.u64.wrap (wrap64 b) == b && IntKind.u64.wrap (wrap64 b / 9223372036854775808) == c) = true := by
  obtain ⟨p, q, r, s⟩ := hin
  obtain ⟨x, y, z⟩ := h
  unfold val at hv
  subst hv
  have hb : wrap64 b = hi := by unfold wrap64; omega
  rw [hb, IntKind.wrap_u64, IntKind.wrap_u64]
  refine ⟨by omega, rfl, ?_⟩
  rw [Bool.and_eq_true, beq_iff_eq, beq_iff_eq]
  omega
theorem extend_any (hi lo : Int) (w : World) :
    Calls Tryz.prog 98 #[.agg #[.int .i64 hi, .int .u64 lo]] w fun e w' => e = .returned (.agg #[.int .u64 lo, .int .u64 (IntKind.u64.wrap hi), .int .u64 (IntKind.u64.wrap (hi / 9223372036854775808))]) ∧ Below w.heap.size w w' := by
  go_enter Tryz.func98, Tryz.ntmps98
  go_wp2
  go_returns
  exact ⟨rfl, by go_grown⟩
theorem then_any (a0 a1 a2 c x y : Int) (w : World) :
    Calls Tryz.prog 136 #[.agg #[.int .u64 a0, .int .u64 a1, .int .u64 a2, .int .u64 c], .int .u64 x, .int .u64 y] w fun e w' => e = .returned (.agg #[.int .u64 a1, .int .u64 a2, .int .u64 x, .int .u64 y]) ∧ Below w.heap.size w w' := by
  go_enter Tryz.func136, Tryz.ntmps136
  go_wp2
  go_returns
  exact ⟨rfl, by go_grown⟩
theorem pairs_any (a0 a1 a2 b0 b1 b2 : Int) (w : World) :
    Calls Tryz.prog 134 #[.agg #[.int .u64 a0, .int .u64 a1, .int .u64 a2], .agg #[.int .u64 b0, .int .u64 b1, .int .u64 b2]] w fun e w' => e = .returned (.slice (some ⟨w.heap.size + 1 + 1, 0, none⟩) 3 3) ∧ Below w.heap.size w w' ∧ w'.heap[w.heap.size + 1 + 1]? = some (.cells #[.int .u64 a0, .int .u64 b0, .int .u64 a1, .int .u64 b1, .int .u64 a2, .int .u64 b2] 235 (0, 0)) := by
  go_enter Tryz.func134, Tryz.ntmps134
  go_wp2
  go_returns
  exact ⟨rfl, by go_grown, by have h := heap_alloc_new ((w.alloc (.cells #[.int .u64 a0, .int .u64 a1, .int .u64 a2] 190)).alloc (.cells #[.int .u64 b0, .int .u64 b1, .int .u64 b2] 190)) (.cells #[.int .u64 a0, .int .u64 b0, .int .u64 a1, .int .u64 b1, .int .u64 a2, .int .u64 b2] 235); simpa using h⟩
theorem same0 {w : World} {b : Nat} {u : Value} (h : w.cell? ⟨b, 0, none⟩ = some u) (x : Value) : (w.setCell ⟨b, 0, none⟩ x).cell? ⟨b, 0, none⟩ = some x := World.cell?_setCell_same _ _ _ h
theorem same1 {w : World} {b : Nat} {u : Value} (h : w.cell? ⟨b, 1, none⟩ = some u) (x y : Value) : ((w.setCell ⟨b, 0, none⟩ x).setCell ⟨b, 1, none⟩ y).cell? ⟨b, 1, none⟩ = some y :=
  World.cell?_setCell_same _ _ _ ((World.cell?_setCell_other _ _ _ _ (by simp)).trans h)
theorem same2 {w : World} {b : Nat} {u : Value} (h : w.cell? ⟨b, 2, none⟩ = some u) (x y z : Value) : (((w.setCell ⟨b, 0, none⟩ x).setCell ⟨b, 1, none⟩ y).setCell ⟨b, 2, none⟩ z).cell? ⟨b, 2, none⟩ = some z :=
  World.cell?_setCell_same _ _ _ ((World.cell?_setCell_other _ _ _ _ (by simp)).trans ((World.cell?_setCell_other _ _ _ _ (by simp)).trans h))
theorem same3 {w : World} {b : Nat} {u : Value} (h : w.cell? ⟨b, 3, none⟩ = some u) (x y z t : Value) : ((((w.setCell ⟨b, 0, none⟩ x).setCell ⟨b, 1, none⟩ y).setCell ⟨b, 2, none⟩ z).setCell ⟨b, 3, none⟩ t).cell? ⟨b, 3, none⟩ = some t :=
  World.cell?_setCell_same _ _ _ ((World.cell?_setCell_other _ _ _ _ (by simp)).trans ((World.cell?_setCell_other _ _ _ _ (by simp)).trans ((World.cell?_setCell_other _ _ _ _ (by simp)).trans h)))
theorem frz_later {w wx : World} {b o : Nat} (hb : Below w.heap.size w wx) (hl : b < w.heap.size) (h : w.frozen? ⟨b, o, none⟩ = false) : wx.frozen? ⟨b, o, none⟩ = false :=
  (hb.frozen (p := ⟨b, o, none⟩) hl).trans h
theorem eq_limbs (w : World) (a0 a1 a2 b0 b1 b2 : Int) : (Op.equalIn 10000 190 (.agg #[.int .u64 a0, .int .u64 a1, .int .u64 a2]) (.agg #[.int .u64 b0, .int .u64 b1, .int .u64 b2])).run Tryz.prog w = .ok (a0 == b0 && (a1 == b1 && a2 == b2)) w := by
  have hs : ∀ w, (sizeOf 51).run Tryz.prog w = .ok 1 w := fun w => by kernel_rfl
  have p0 : ∀ w x y z, (part 51 #[x, y, z] 0).run Tryz.prog w = .ok x w := fun w x y z => by kernel_rfl
  have p1 : ∀ w x y z, (part 51 #[x, y, z] 1).run Tryz.prog w = .ok y w := fun w x y z => by kernel_rfl
  have p2 : ∀ w x y z, (part 51 #[x, y, z] 2).run Tryz.prog w = .ok z w := fun w x y z => by kernel_rfl
  have e : ∀ w a b, (Op.equalIn 9999 51 (.int .u64 a) (.int .u64 b)).run Tryz.prog w = .ok (a == b) w := fun w a b => run_equalIn_int w 9998 51 .u64 .u64 a b Tryz.underlying51
  show (Op.equalIn (9999 + 1) 190 _ _).run Tryz.prog w = _
  unfold Op.equalIn
  simp only [Sem.run_bind, run_underlying Tryz.underlying190, Result.andThen_ok, hs]
  rw [show (forIn (m := Sem) [:3] = forIn (m := Sem) (β := Option Bool × Unit) [0, 1, 2]) from ?_]
  · simp only [List.forIn_cons, List.forIn_nil, Sem.run_bind, Sem.run_ite, Result.andThen_ok, p0, e]
    generalize h0 : (a0 == b0) = r0
    generalize h1 : (a1 == b1) = r1
    generalize h2 : (a2 == b2) = r2
    cases r0 <;> cases r1 <;> cases r2 <;> simp [p1, p2, e, h1, h2, -beq_eq_false_iff_ne, -beq_iff_eq]
  · funext b f
    rw [Std.Legacy.Range.forIn_eq_forIn_range']
    rfl
/-- what narrow answers, by whether the three limbs are a number of 128 bits -/
def narrowV (a0 a1 : Int) : Bool → Ending
  | true => .returned (.tuple #[.agg #[.int .i64 (wrap64 a1), .int .u64 a0], .int .i64 0])
  | false => .returned (.tuple #[.agg #[.int .i64 0, .int .u64 0], .int .i64 7])
theorem narrow_any (a0 a1 a2 : Int) (q : Bool) (hq : (IntKind.u64.wrap (wrap64 a1) == a1 && IntKind.u64.wrap (wrap64 a1 / 9223372036854775808) == a2) = q) (w : World) :
    Calls Tryz.prog 96 #[.agg #[.int .u64 a0, .int .u64 a1, .int .u64 a2]] w fun e w' => e = narrowV a0 a1 q ∧ Below w.heap.size w w' := by
  have heq : ∀ w', Sem.run Tryz.prog (Op.equalIn 10000 190 (.agg #[.int .u64 a0, .int .u64 (IntKind.u64.wrap (wrap64 a1)), .int .u64 (IntKind.u64.wrap (wrap64 a1 / 9223372036854775808))]) (.agg #[.int .u64 a0, .int .u64 a1, .int .u64 a2])) w' = .ok q w' := fun w' => by
    rw [eq_limbs, hq]; simp
  clear hq
  cases q
  all_goals
    go_enter Tryz.func96, Tryz.ntmps96
    go_wp2_with fail
    go_region_held3 (fun w' => w'.cell? ⟨w.heap.size, 0, none⟩ = some (.int .u64 a0) ∧ w'.cell? ⟨w.heap.size, 1, none⟩ = some (.int .u64 a1) ∧ w'.cell? ⟨w.heap.size, 2, none⟩ = some (.int .u64 a2) ∧
        w'.cell? ⟨w.heap.size + 1 + 1, 0, none⟩ = some (.int .i64 (wrap64 a1)) ∧ w'.cell? ⟨w.heap.size + 1 + 1, 1, none⟩ = some (.int .u64 a0) ∧ w'.cell? ⟨w.heap.size + 1, 0, none⟩ = some (.int .i64 0) ∧ w'.cell? ⟨w.heap.size + 1, 1, none⟩ = some (.int .u64 0) ∧
        w'.frozen? ⟨w.heap.size + 1, 0, none⟩ = false ∧ w'.frozen? ⟨w.heap.size + 1, 1, none⟩ = false ∧ w.heap.size + 1 + 1 + 1 ≤ w'.heap.size ∧ Below w.heap.size w w')
      (first
        | ((repeat' apply And.intro) <;> first | go_cell | (with_reducible exact ((((Below.refl _ _).alloc (Nat.le_refl _) _).alloc (by simp) _).alloc (by simp; omega) _).drew))
        | (go_split_ands
           (repeat' apply And.intro) <;> first | (refine cell_later hb ?_; assumption) | (refine frz_later hb (by omega) ?_; assumption) | (exact Nat.le_trans (by assumption) hb.size) | (refine Below.trans (by assumption) (hb.mono ?_); omega)))
      (first | (go_at_call 98; refine (extend_any _ _ _).mono ?_; rintro e w1 ⟨rfl, hb⟩))
    rename_i hH
    obtain ⟨c0, c1, c2, c3, c4, c5, c6, f5, f6, _, hB⟩ := hH
    go_wp2
    have s0 := same0 c5
    have s1 := same1 c6
    first
      | (refine bodyPost_ret (v := .tuple #[.agg #[.int .i64 (wrap64 a1), .int .u64 a0], .int .i64 0]) (by simp [results, Tryz.results96, go_sem, s0, s1]) rfl ⟨rfl, by go_grown⟩)
      | (refine bodyPost_ret (v := .tuple #[.agg #[.int .i64 0, .int .u64 0], .int .i64 7]) (by simp [results, Tryz.results96, go_sem, s0, s1]) rfl ⟨rfl, by go_grown⟩)
theorem add64_any (x y c : Int) (hx : 0 ≤ x) (hy : 0 ≤ y) (hc0 : 0 ≤ c) (hc : c ≤ 1) (w : World) : (callFunc 137 #[.int .u64 x, .int .u64 y, .int .u64 c]).run Tryz.prog w =
    .ok (.value (.tuple #[.int .u64 ((x + y + c) % 18446744073709551616), .int .u64 ((x + y + c) / 18446744073709551616)])) w := by
  rw [run_callFunc_extern Tryz.func137 (by kernel_rfl) (by kernel_rfl) (by kernel_rfl) (e := add64Entry) (by kernel_rfl), run_add64 x y c hx hy hc0 hc]
  rfl
theorem addStep_any (m0 m1 m2 c a b : Int) (ha : 0 ≤ a) (hb : 0 ≤ b) (hc0 : 0 ≤ c) (hc : c ≤ 1) (w : World) :
    Calls Tryz.prog 135 #[.agg #[.int .u64 m0, .int .u64 m1, .int .u64 m2, .int .u64 c], .agg #[.int .u64 a, .int .u64 b]] w fun e w' =>
      e = .returned (.agg #[.int .u64 m1, .int .u64 m2, .int .u64 ((a + b + c) % 18446744073709551616), .int .u64 ((a + b + c) / 18446744073709551616)]) ∧ Below w.heap.size w w' := by
  have h64 := fun w' => add64_any a b c ha hb hc0 hc w'
  go_enter Tryz.func135, Tryz.ntmps135
  go_wp2_with fail
  go_region_held3 (fun w' => w'.cell? ⟨w.heap.size, 0, none⟩ = some (.int .u64 m0) ∧ w'.cell? ⟨w.heap.size, 1, none⟩ = some (.int .u64 m1) ∧ w'.cell? ⟨w.heap.size, 2, none⟩ = some (.int .u64 m2) ∧ w'.cell? ⟨w.heap.size, 3, none⟩ = some (.int .u64 c) ∧
      w'.cell? ⟨w.heap.size + 1, 0, none⟩ = some (.int .u64 a) ∧ w'.cell? ⟨w.heap.size + 1, 1, none⟩ = some (.int .u64 b) ∧ Below w.heap.size w w')
    (first
      | ((repeat' apply And.intro) <;> first | go_cell | (with_reducible exact ((((Below.refl _ _).alloc (Nat.le_refl _) _).alloc (by simp) _).alloc (by simp; omega) _).drew))
      | (go_split_ands
         (repeat' apply And.intro) <;> first | (refine cell_later hb1 ?_; assumption) | (refine Below.trans ?_ (hb1.mono ?_) <;> first | (with_reducible assumption) | (simp; done) | go_grown))
      | (go_split_ands; (repeat' apply And.intro) <;> first | go_cell | go_grown))
    (first
      | (go_at_call 136; refine (then_any _ _ _ _ _ _ _).mono ?_; rintro e w1 ⟨rfl, hb1⟩
         have r0 : w1.cell? ⟨w.heap.size + 1 + 1, 0, none⟩ = some (.int .u64 0) := cell_later hb1 (by go_cell)
         have z0 : w1.frozen? ⟨w.heap.size + 1 + 1, 0, none⟩ = false := frz_later hb1 (by simp) (by go_simp)
         have r1 : w1.cell? ⟨w.heap.size + 1 + 1, 1, none⟩ = some (.int .u64 0) := cell_later hb1 (by go_cell)
         have z1 : w1.frozen? ⟨w.heap.size + 1 + 1, 1, none⟩ = false := frz_later hb1 (by simp) (by go_simp)
         have r2 : w1.cell? ⟨w.heap.size + 1 + 1, 2, none⟩ = some (.int .u64 0) := cell_later hb1 (by go_cell)
         have z2 : w1.frozen? ⟨w.heap.size + 1 + 1, 2, none⟩ = false := frz_later hb1 (by simp) (by go_simp)
         have r3 : w1.cell? ⟨w.heap.size + 1 + 1, 3, none⟩ = some (.int .u64 0) := cell_later hb1 (by go_cell)
         have z3 : w1.frozen? ⟨w.heap.size + 1 + 1, 3, none⟩ = false := frz_later hb1 (by simp) (by go_simp)))
  rename_i hH
  have hB := hH.2.2.2.2.2.2
  clear hH
  go_wp2
  have s0 := same0 r0
  have s1 := same1 r1
  have s2 := same2 r2
  have s3 := same3 r3
  refine bodyPost_ret (v := .agg #[.int .u64 m1, .int .u64 m2, .int .u64 ((a + b + c) % 18446744073709551616), .int .u64 ((a + b + c) / 18446744073709551616)]) (by simp [results, Tryz.results135, go_sem, s0, s1, s2, s3]) rfl ⟨rfl, hB⟩
theorem field_made (a b c d : Int) (w : World) : Sem.run Tryz.prog (Instr.field 232 (.agg #[.int .u64 a, .int .u64 b, .int .u64 c, .int .u64 d]) 0) w = .ok (.agg #[.int .u64 a, .int .u64 b, .int .u64 c]) w := by kernel_rfl
theorem pairs_at (a0 a1 a2 b0 b1 b2 : Int) (w : World) :
    Calls Tryz.prog 134 #[.agg #[.int .u64 a0, .int .u64 a1, .int .u64 a2], .agg #[.int .u64 b0, .int .u64 b1, .int .u64 b2]] w fun e w' => e = .returned (.slice (some ⟨w.heap.size + 1 + 1, 0, none⟩) 3 3) ∧ Below w.heap.size w w' ∧ At w' (w.heap.size + 1 + 1) [.int .u64 a0, .int .u64 b0, .int .u64 a1, .int .u64 b1, .int .u64 a2, .int .u64 b2] :=
  (pairs_any a0 a1 a2 b0 b1 b2 w).mono fun _ _ h => ⟨h.1, h.2.1, At.of_block h.2.2⟩
set_option maxHeartbeats 1000000 in
theorem foldAdd_any (B : Nat) (m0 m1 m2 c a0 b0 a1 b1 a2 b2 : Int) (w : World) (hc : 0 ≤ c ∧ c ≤ 1)
    (ha0 : 0 ≤ a0 ∧ a0 < 18446744073709551616) (hb0 : 0 ≤ b0 ∧ b0 < 18446744073709551616) (ha1 : 0 ≤ a1 ∧ a1 < 18446744073709551616) (hb1 : 0 ≤ b1 ∧ b1 < 18446744073709551616) (ha2 : 0 ≤ a2 ∧ a2 < 18446744073709551616) (hb2 : 0 ≤ b2 ∧ b2 < 18446744073709551616)
    (hX : At w B [.int .u64 a0, .int .u64 b0, .int .u64 a1, .int .u64 b1, .int .u64 a2, .int .u64 b2]) :
    Calls Tryz.prog 133 #[.slice (some ⟨B, 0, none⟩) 3 3, .agg #[.int .u64 m0, .int .u64 m1, .int .u64 m2, .int .u64 c], .func (.func 135) #[] #[]] w fun e w' =>
      e = .returned (.agg #[.int .u64 ((a0 + b0 + c) % 18446744073709551616), .int .u64 ((a1 + b1 + ((a0 + b0 + c) / 18446744073709551616)) % 18446744073709551616), .int .u64 ((a2 + b2 + ((a1 + b1 + ((a0 + b0 + c) / 18446744073709551616)) / 18446744073709551616)) % 18446744073709551616), .int .u64 ((a2 + b2 + ((a1 + b1 + ((a0 + b0 + c) / 18446744073709551616)) / 18446744073709551616)) / 18446744073709551616)]) ∧ Below w.heap.size w w' := by
  have hlt := hX.lt
  have k1 : 0 ≤ ((a0 + b0 + c) / 18446744073709551616) ∧ ((a0 + b0 + c) / 18446744073709551616) ≤ 1 := by omega
  have k2 : 0 ≤ ((a1 + b1 + ((a0 + b0 + c) / 18446744073709551616)) / 18446744073709551616) ∧ ((a1 + b1 + ((a0 + b0 + c) / 18446744073709551616)) / 18446744073709551616) ≤ 1 := by omega
  have HC := Lib.hid (And.intro hc (And.intro ha0 (And.intro hb0 (And.intro ha1 (And.intro hb1 (And.intro ha2 (And.intro hb2 (And.intro k1 k2))))))))
  clear hc ha0 hb0 ha1 hb1 ha2 hb2 k1 k2
  have x0 := hX.cell 0 _ rfl
  have x1 := hX.cell 1 _ rfl
  go_enter Tryz.func133, Tryz.ntmps133
  go_wp2_with fail
  refine wp_loop_rounds 4 ?_
  rw [rounds_succ]
  go_wp2_with fail
  refine (addStep_any m0 m1 m2 c a0 b0 HC.out.2.1.1 HC.out.2.2.1.1 HC.out.1.1 HC.out.1.2 _).mono ?_
  rintro e w1 ⟨rfl, hb⟩
  have hA : At w1 w.heap.size [.int .u64 m0, .int .u64 m1, .int .u64 m2, .int .u64 c] := (((At.new w #[.int .u64 m0, .int .u64 m1, .int .u64 m2, .int .u64 c] 232).alloc _).alloc _).below hb
  have hR : At w1 (w.heap.size + 1) [.int .u64 0, .int .u64 0, .int .u64 0, .int .u64 0] := by
    have h := ((At.new (w.alloc (.cells #[.int .u64 m0, .int .u64 m1, .int .u64 m2, .int .u64 c] 232)) #[.int .u64 0, .int .u64 0, .int .u64 0, .int .u64 0] 232).alloc _).below hb
    simpa using h
  have hB : Below w.heap.size w w1 := Below.trans (by go_grown) (hb.mono (by simp; omega))
  clear hb x0 x1
  have c0 := hA.cell 0 _ rfl
  have cf0 := hA.free 0 _ rfl
  have c1 := hA.cell 1 _ rfl
  have cf1 := hA.free 1 _ rfl
  have c2 := hA.cell 2 _ rfl
  have cf2 := hA.free 2 _ rfl
  have c3 := hA.cell 3 _ rfl
  have cf3 := hA.free 3 _ rfl
  go_wp2_with fail
  have hA' : At ((((w1.setCell ⟨w.heap.size, 0, none⟩ (.int .u64 m1)).setCell ⟨w.heap.size, 1, none⟩ (.int .u64 m2)).setCell ⟨w.heap.size, 2, none⟩ (.int .u64 ((a0 + b0 + c) % 18446744073709551616))).setCell ⟨w.heap.size, 3, none⟩ (.int .u64 ((a0 + b0 + c) / 18446744073709551616))) w.heap.size [.int .u64 m1, .int .u64 m2, .int .u64 ((a0 + b0 + c) % 18446744073709551616), .int .u64 ((a0 + b0 + c) / 18446744073709551616)] := (((hA.set 0 _).set 1 _).set 2 _).set 3 _
  have hR' : At ((((w1.setCell ⟨w.heap.size, 0, none⟩ (.int .u64 m1)).setCell ⟨w.heap.size, 1, none⟩ (.int .u64 m2)).setCell ⟨w.heap.size, 2, none⟩ (.int .u64 ((a0 + b0 + c) % 18446744073709551616))).setCell ⟨w.heap.size, 3, none⟩ (.int .u64 ((a0 + b0 + c) / 18446744073709551616))) (w.heap.size + 1) [.int .u64 0, .int .u64 0, .int .u64 0, .int .u64 0] := (((hR.far (by omega) _).far (by omega) _).far (by omega) _).far (by omega) _
  have hB' : Below w.heap.size w ((((w1.setCell ⟨w.heap.size, 0, none⟩ (.int .u64 m1)).setCell ⟨w.heap.size, 1, none⟩ (.int .u64 m2)).setCell ⟨w.heap.size, 2, none⟩ (.int .u64 ((a0 + b0 + c) % 18446744073709551616))).setCell ⟨w.heap.size, 3, none⟩ (.int .u64 ((a0 + b0 + c) / 18446744073709551616))) := (((hB.setCell (by simp) _).setCell (by simp) _).setCell (by simp) _).setCell (by simp) _
  generalize ((((w1.setCell ⟨w.heap.size, 0, none⟩ (.int .u64 m1)).setCell ⟨w.heap.size, 1, none⟩ (.int .u64 m2)).setCell ⟨w.heap.size, 2, none⟩ (.int .u64 ((a0 + b0 + c) % 18446744073709551616))).setCell ⟨w.heap.size, 3, none⟩ (.int .u64 ((a0 + b0 + c) / 18446744073709551616))) = W1 at *
  clear c0 c1 c2 c3 cf0 cf1 cf2 cf3
  clear hA hR hB
  have hltW : B < W1.heap.size := Nat.lt_of_lt_of_le hlt hB'.size
  have hltA := hA'.lt
  have c0 := hA'.cell 0 _ rfl
  have c1 := hA'.cell 1 _ rfl
  have c2 := hA'.cell 2 _ rfl
  have c3 := hA'.cell 3 _ rfl
  have x0 := below_cell (hX.cell 2 _ rfl) hB' rfl
  have x1 := below_cell (hX.cell 3 _ rfl) hB' rfl
  rw [rounds_succ]
  go_wp2_with fail
  refine (addStep_any m1 m2 ((a0 + b0 + c) % 18446744073709551616) ((a0 + b0 + c) / 18446744073709551616) a1 b1 HC.out.2.2.2.1.1 HC.out.2.2.2.2.1.1 HC.out.2.2.2.2.2.2.2.1.1 HC.out.2.2.2.2.2.2.2.1.2 _).mono ?_
  rintro e w2 ⟨rfl, hb⟩
  have hA : At w2 w.heap.size [.int .u64 m1, .int .u64 m2, .int .u64 ((a0 + b0 + c) % 18446744073709551616), .int .u64 ((a0 + b0 + c) / 18446744073709551616)] := (hA'.alloc _).below hb
  have hR : At w2 (w.heap.size + 1) [.int .u64 0, .int .u64 0, .int .u64 0, .int .u64 0] := (hR'.alloc _).below hb
  have hB : Below w.heap.size w w2 := Below.trans (hB'.alloc hB'.size _) (hb.mono (by have := hB'.size; simp; omega))
  clear hb hA' hR' hB' x0 x1 hltW hltA
  clear c0 c1 c2 c3
  have c0 := hA.cell 0 _ rfl
  have cf0 := hA.free 0 _ rfl
  have c1 := hA.cell 1 _ rfl
  have cf1 := hA.free 1 _ rfl
  have c2 := hA.cell 2 _ rfl
  have cf2 := hA.free 2 _ rfl
  have c3 := hA.cell 3 _ rfl
  have cf3 := hA.free 3 _ rfl
  go_wp2_with fail
  have hA' : At ((((w2.setCell ⟨w.heap.size, 0, none⟩ (.int .u64 m2)).setCell ⟨w.heap.size, 1, none⟩ (.int .u64 ((a0 + b0 + c) % 18446744073709551616))).setCell ⟨w.heap.size, 2, none⟩ (.int .u64 ((a1 + b1 + ((a0 + b0 + c) / 18446744073709551616)) % 18446744073709551616))).setCell ⟨w.heap.size, 3, none⟩ (.int .u64 ((a1 + b1 + ((a0 + b0 + c) / 18446744073709551616)) / 18446744073709551616))) w.heap.size [.int .u64 m2, .int .u64 ((a0 + b0 + c) % 18446744073709551616), .int .u64 ((a1 + b1 + ((a0 + b0 + c) / 18446744073709551616)) % 18446744073709551616), .int .u64 ((a1 + b1 + ((a0 + b0 + c) / 18446744073709551616)) / 18446744073709551616)] := (((hA.set 0 _).set 1 _).set 2 _).set 3 _
  have hR' : At ((((w2.setCell ⟨w.heap.size, 0, none⟩ (.int .u64 m2)).setCell ⟨w.heap.size, 1, none⟩ (.int .u64 ((a0 + b0 + c) % 18446744073709551616))).setCell ⟨w.heap.size, 2, none⟩ (.int .u64 ((a1 + b1 + ((a0 + b0 + c) / 18446744073709551616)) % 18446744073709551616))).setCell ⟨w.heap.size, 3, none⟩ (.int .u64 ((a1 + b1 + ((a0 + b0 + c) / 18446744073709551616)) / 18446744073709551616))) (w.heap.size + 1) [.int .u64 0, .int .u64 0, .int .u64 0, .int .u64 0] := (((hR.far (by omega) _).far (by omega) _).far (by omega) _).far (by omega) _
  have hB' : Below w.heap.size w ((((w2.setCell ⟨w.heap.size, 0, none⟩ (.int .u64 m2)).setCell ⟨w.heap.size, 1, none⟩ (.int .u64 ((a0 + b0 + c) % 18446744073709551616))).setCell ⟨w.heap.size, 2, none⟩ (.int .u64 ((a1 + b1 + ((a0 + b0 + c) / 18446744073709551616)) % 18446744073709551616))).setCell ⟨w.heap.size, 3, none⟩ (.int .u64 ((a1 + b1 + ((a0 + b0 + c) / 18446744073709551616)) / 18446744073709551616))) := (((hB.setCell (by simp) _).setCell (by simp) _).setCell (by simp) _).setCell (by simp) _
  generalize ((((w2.setCell ⟨w.heap.size, 0, none⟩ (.int .u64 m2)).setCell ⟨w.heap.size, 1, none⟩ (.int .u64 ((a0 + b0 + c) % 18446744073709551616))).setCell ⟨w.heap.size, 2, none⟩ (.int .u64 ((a1 + b1 + ((a0 + b0 + c) / 18446744073709551616)) % 18446744073709551616))).setCell ⟨w.heap.size, 3, none⟩ (.int .u64 ((a1 + b1 + ((a0 + b0 + c) / 18446744073709551616)) / 18446744073709551616))) = W2 at *
  clear c0 c1 c2 c3 cf0 cf1 cf2 cf3
  clear hA hR hB
  have hltW : B < W2.heap.size := Nat.lt_of_lt_of_le hlt hB'.size
  have hltA := hA'.lt
  have c0 := hA'.cell 0 _ rfl
  have c1 := hA'.cell 1 _ rfl
  have c2 := hA'.cell 2 _ rfl
  have c3 := hA'.cell 3 _ rfl
  have x0 := below_cell (hX.cell 4 _ rfl) hB' rfl
  have x1 := below_cell (hX.cell 5 _ rfl) hB' rfl
  rw [rounds_succ]
  go_wp2_with fail
  refine (addStep_any m2 ((a0 + b0 + c) % 18446744073709551616) ((a1 + b1 + ((a0 + b0 + c) / 18446744073709551616)) % 18446744073709551616) ((a1 + b1 + ((a0 + b0 + c) / 18446744073709551616)) / 18446744073709551616) a2 b2 HC.out.2.2.2.2.2.1.1 HC.out.2.2.2.2.2.2.1.1 HC.out.2.2.2.2.2.2.2.2.1 HC.out.2.2.2.2.2.2.2.2.2 _).mono ?_
  rintro e w3 ⟨rfl, hb⟩
  have hA : At w3 w.heap.size [.int .u64 m2, .int .u64 ((a0 + b0 + c) % 18446744073709551616), .int .u64 ((a1 + b1 + ((a0 + b0 + c) / 18446744073709551616)) % 18446744073709551616), .int .u64 ((a1 + b1 + ((a0 + b0 + c) / 18446744073709551616)) / 18446744073709551616)] := (hA'.alloc _).below hb
  have hR : At w3 (w.heap.size + 1) [.int .u64 0, .int .u64 0, .int .u64 0, .int .u64 0] := (hR'.alloc _).below hb
  have hB : Below w.heap.size w w3 := Below.trans (hB'.alloc hB'.size _) (hb.mono (by have := hB'.size; simp; omega))
  clear hb hA' hR' hB' x0 x1 hltW hltA
  clear c0 c1 c2 c3
  have c0 := hA.cell 0 _ rfl
  have cf0 := hA.free 0 _ rfl
  have c1 := hA.cell 1 _ rfl
  have cf1 := hA.free 1 _ rfl
  have c2 := hA.cell 2 _ rfl
  have cf2 := hA.free 2 _ rfl
  have c3 := hA.cell 3 _ rfl
  have cf3 := hA.free 3 _ rfl
  go_wp2_with fail
  have hA' : At ((((w3.setCell ⟨w.heap.size, 0, none⟩ (.int .u64 ((a0 + b0 + c) % 18446744073709551616))).setCell ⟨w.heap.size, 1, none⟩ (.int .u64 ((a1 + b1 + ((a0 + b0 + c) / 18446744073709551616)) % 18446744073709551616))).setCell ⟨w.heap.size, 2, none⟩ (.int .u64 ((a2 + b2 + ((a1 + b1 + ((a0 + b0 + c) / 18446744073709551616)) / 18446744073709551616)) % 18446744073709551616))).setCell ⟨w.heap.size, 3, none⟩ (.int .u64 ((a2 + b2 + ((a1 + b1 + ((a0 + b0 + c) / 18446744073709551616)) / 18446744073709551616)) / 18446744073709551616))) w.heap.size [.int .u64 ((a0 + b0 + c) % 18446744073709551616), .int .u64 ((a1 + b1 + ((a0 + b0 + c) / 18446744073709551616)) % 18446744073709551616), .int .u64 ((a2 + b2 + ((a1 + b1 + ((a0 + b0 + c) / 18446744073709551616)) / 18446744073709551616)) % 18446744073709551616), .int .u64 ((a2 + b2 + ((a1 + b1 + ((a0 + b0 + c) / 18446744073709551616)) / 18446744073709551616)) / 18446744073709551616)] := (((hA.set 0 _).set 1 _).set 2 _).set 3 _
  have hR' : At ((((w3.setCell ⟨w.heap.size, 0, none⟩ (.int .u64 ((a0 + b0 + c) % 18446744073709551616))).setCell ⟨w.heap.size, 1, none⟩ (.int .u64 ((a1 + b1 + ((a0 + b0 + c) / 18446744073709551616)) % 18446744073709551616))).setCell ⟨w.heap.size, 2, none⟩ (.int .u64 ((a2 + b2 + ((a1 + b1 + ((a0 + b0 + c) / 18446744073709551616)) / 18446744073709551616)) % 18446744073709551616))).setCell ⟨w.heap.size, 3, none⟩ (.int .u64 ((a2 + b2 + ((a1 + b1 + ((a0 + b0 + c) / 18446744073709551616)) / 18446744073709551616)) / 18446744073709551616))) (w.heap.size + 1) [.int .u64 0, .int .u64 0, .int .u64 0, .int .u64 0] := (((hR.far (by omega) _).far (by omega) _).far (by omega) _).far (by omega) _
  have hB' : Below w.heap.size w ((((w3.setCell ⟨w.heap.size, 0, none⟩ (.int .u64 ((a0 + b0 + c) % 18446744073709551616))).setCell ⟨w.heap.size, 1, none⟩ (.int .u64 ((a1 + b1 + ((a0 + b0 + c) / 18446744073709551616)) % 18446744073709551616))).setCell ⟨w.heap.size, 2, none⟩ (.int .u64 ((a2 + b2 + ((a1 + b1 + ((a0 + b0 + c) / 18446744073709551616)) / 18446744073709551616)) % 18446744073709551616))).setCell ⟨w.heap.size, 3, none⟩ (.int .u64 ((a2 + b2 + ((a1 + b1 + ((a0 + b0 + c) / 18446744073709551616)) / 18446744073709551616)) / 18446744073709551616))) := (((hB.setCell (by simp) _).setCell (by simp) _).setCell (by simp) _).setCell (by simp) _
  generalize ((((w3.setCell ⟨w.heap.size, 0, none⟩ (.int .u64 ((a0 + b0 + c) % 18446744073709551616))).setCell ⟨w.heap.size, 1, none⟩ (.int .u64 ((a1 + b1 + ((a0 + b0 + c) / 18446744073709551616)) % 18446744073709551616))).setCell ⟨w.heap.size, 2, none⟩ (.int .u64 ((a2 + b2 + ((a1 + b1 + ((a0 + b0 + c) / 18446744073709551616)) / 18446744073709551616)) % 18446744073709551616))).setCell ⟨w.heap.size, 3, none⟩ (.int .u64 ((a2 + b2 + ((a1 + b1 + ((a0 + b0 + c) / 18446744073709551616)) / 18446744073709551616)) / 18446744073709551616))) = W3 at *
  clear c0 c1 c2 c3 cf0 cf1 cf2 cf3
  clear hA hR hB
  have hltW : B < W3.heap.size := Nat.lt_of_lt_of_le hlt hB'.size
  have hltA := hA'.lt
  have c0 := hA'.cell 0 _ rfl
  have c1 := hA'.cell 1 _ rfl
  have c2 := hA'.cell 2 _ rfl
  have c3 := hA'.cell 3 _ rfl
  have r0 := hR'.cell 0 _ rfl
  have rf0 := hR'.free 0 _ rfl
  have r1 := hR'.cell 1 _ rfl
  have rf1 := hR'.free 1 _ rfl
  have r2 := hR'.cell 2 _ rfl
  have rf2 := hR'.free 2 _ rfl
  have r3 := hR'.cell 3 _ rfl
  have rf3 := hR'.free 3 _ rfl
  have hltR := hR'.lt
  rw [rounds_succ]
  go_wp2
  have s0 := same0 r0
  have s1 := same1 r1
  have s2 := same2 r2
  have s3 := same3 r3
  refine bodyPost_ret (v := .agg #[.int .u64 ((a0 + b0 + c) % 18446744073709551616), .int .u64 ((a1 + b1 + ((a0 + b0 + c) / 18446744073709551616)) % 18446744073709551616), .int .u64 ((a2 + b2 + ((a1 + b1 + ((a0 + b0 + c) / 18446744073709551616)) / 18446744073709551616)) % 18446744073709551616), .int .u64 ((a2 + b2 + ((a1 + b1 + ((a0 + b0 + c) / 18446744073709551616)) / 18446744073709551616)) / 18446744073709551616)]) (by simp [results, Tryz.results133, go_sem, s0, s1, s2, s3]) rfl ⟨rfl, by go_grown⟩
/-- add: the limbs of x and of y to those of their sum. -/
theorem add_any (x y x0 x1 x2 y0 y1 y2 z0 z1 z2 : Int) (hx : IsL x x0 x1 x2) (hy : IsL y y0 y1 y2) (hz : IsL (x + y) z0 z1 z2) (w : World) :
    Calls Tryz.prog 97 #[.agg #[.int .u64 x0, .int .u64 x1, .int .u64 x2], .agg #[.int .u64 y0, .int .u64 y1, .int .u64 y2]] w fun e w' => e = .returned (.agg #[.int .u64 z0, .int .u64 z1, .int .u64 z2]) ∧ Below w.heap.size w w' := by
  obtain ⟨e0, e1, e2⟩ := isL_inj hz (isL_add hx hy)
  have hfs := fun (W : World) B => foldAdd_any B 0 0 0 0 x0 y0 x1 y1 x2 y2 W (by omega) hx.r0 hy.r0 hx.r1 hy.r1 hx.r2 hy.r2
  rw [← e0, ← e1, ← e2] at hfs
  generalize (x2 + y2 + (x1 + y1 + (x0 + y0 + 0) / 18446744073709551616) / 18446744073709551616) / 18446744073709551616 = kk at hfs
  have HF := Lib.hid hfs
  have hfm := field_made
  clear e0 e1 e2 hx hy hz hfs
  go_enter Tryz.func97, Tryz.ntmps97
  go_wp2_with fail
  refine (pairs_at x0 x1 x2 y0 y1 y2 _).mono ?_
  rintro e w1 ⟨rfl, hb, hX⟩
  have hX' : At w1 (w.heap.size + 1 + 1 + 1 + 1 + 1) [.int .u64 x0, .int .u64 y0, .int .u64 x1, .int .u64 y1, .int .u64 x2, .int .u64 y2] := by simpa using hX
  have hR1 : At w1 (w.heap.size + 1 + 1) [.int .u64 0, .int .u64 0, .int .u64 0] := by
    have h := (At.new ((w.alloc (.cells #[.int .u64 x0, .int .u64 x1, .int .u64 x2] 190)).alloc (.cells #[.int .u64 y0, .int .u64 y1, .int .u64 y2] 190)) #[.int .u64 0, .int .u64 0, .int .u64 0] 190).below hb
    simpa using h
  have hB1 : Below w.heap.size w w1 := Below.trans (by go_grown) (hb.mono (by simp; omega))
  clear hb hX
  go_wp2_with fail
  refine (HF.out _ _ hX').mono ?_
  rintro e w2 ⟨rfl, hb⟩
  have hR := hR1.below hb
  have hB : Below w.heap.size w w2 := Below.trans hB1 (hb.mono hB1.size)
  clear hb hR1 hB1 hX'
  have r0 := hR.cell 0 _ rfl
  have rf0 := hR.free 0 _ rfl
  have r1 := hR.cell 1 _ rfl
  have rf1 := hR.free 1 _ rfl
  have r2 := hR.cell 2 _ rfl
  have rf2 := hR.free 2 _ rfl
  go_wp2
  have s0 := same0 r0
  have s1 := same1 r1
  have s2 := same2 r2
  refine bodyPost_ret (v := .agg #[.int .u64 z0, .int .u64 z1, .int .u64 z2]) (by simp [results, Tryz.results97, go_sem, s0, s1, s2]) rfl ⟨rfl, by go_grown⟩
theorem narrow_ok (v a b c hi lo : Int) (h : IsL v a b c) (i : InI hi lo) (hv : val hi lo = v) (w : World) :
    Calls Tryz.prog 96 #[.agg #[.int .u64 a, .int .u64 b, .int .u64 c]] w fun e w' => e = .returned (.tuple #[.agg #[.int .i64 hi, .int .u64 lo], .int .i64 0]) ∧ Below w.heap.size w w' := by
  obtain ⟨e1, e2, e3⟩ := narrow_yes h i hv
  refine (narrow_any a b c true e3 w).mono fun _ _ hh => ⟨hh.1.trans ?_, hh.2⟩
  rw [narrowV, e2, e1]
theorem extend_l (hi lo a b c : Int) (i : InI hi lo) (h : IsL (val hi lo) a b c) (w : World) :
    Calls Tryz.prog 98 #[.agg #[.int .i64 hi, .int .u64 lo]] w fun e w' => e = .returned (.agg #[.int .u64 a, .int .u64 b, .int .u64 c]) ∧ Below w.heap.size w w' := by
  obtain ⟨e1, e2, e3⟩ := isL_inj h (isL_extend i)
  rw [e1, e2, e3]
  exact extend_any hi lo w
set_option maxHeartbeats 2000000 in
theorem Add_raw (h1 l1 h2 l2 h l e0 : Int) (i1 : InI h1 l1) (i2 : InI h2 l2)
    (hn : ∀ a b c W, IsL (val h1 l1 + val h2 l2) a b c → Calls Tryz.prog 96 #[.agg #[.int .u64 a, .int .u64 b, .int .u64 c]] W fun e w' => e = .returned (.tuple #[.agg #[.int .i64 h, .int .u64 l], .int .i64 e0]) ∧ Below W.heap.size W w') (w : World) :
    Calls Tryz.prog 60 #[.agg #[.int .i64 h1, .int .u64 l1], .agg #[.int .i64 h2, .int .u64 l2]] w fun e w' => e = .returned (.tuple #[.agg #[.int .i64 h, .int .u64 l], .int .i64 e0]) ∧ Below w.heap.size w w' := by
  obtain ⟨x0, x1, x2, hx⟩ := isL_ex (val h1 l1)
  obtain ⟨y0, y1, y2, hy⟩ := isL_ex (val h2 l2)
  obtain ⟨z0, z1, z2, hz⟩ := isL_ex (val h1 l1 + val h2 l2)
  have X := Lib.hid (fun W => extend_l h1 l1 x0 x1 x2 i1 hx W)
  have Y := Lib.hid (fun W => extend_l h2 l2 y0 y1 y2 i2 hy W)
  have Z := Lib.hid (fun W => add_any _ _ x0 x1 x2 y0 y1 y2 z0 z1 z2 hx hy hz W)
  have N := Lib.hid (fun W => hn z0 z1 z2 W hz)
  clear hx hy hz hn i1 i2
  go_enter Tryz.func60, Tryz.ntmps60
  go_wp2_with fail
  go_region_held3 (fun w' => w'.cell? ⟨w.heap.size, 0, none⟩ = some (.int .i64 h1) ∧ w'.cell? ⟨w.heap.size, 1, none⟩ = some (.int .u64 l1) ∧
      w'.cell? ⟨w.heap.size + 1, 0, none⟩ = some (.int .i64 h2) ∧ w'.cell? ⟨w.heap.size + 1, 1, none⟩ = some (.int .u64 l2) ∧ OwnN 2 w' (w.heap.size + 1 + 1) ∧ w.heap.size ≤ w'.heap.size ∧ Below w.heap.size w w')
    (first
      | ((repeat' apply And.intro) <;> first | go_cell | (have h := (At.new ((w.alloc (.cells #[.int .i64 h1, .int .u64 l1] 53)).alloc (.cells #[.int .i64 h2, .int .u64 l2] 53)) #[.int .i64 0, .int .u64 0] 53).drew.own; simpa using h) | (simp; omega) | (with_reducible exact ((((Below.refl _ _).alloc (Nat.le_refl _) _).alloc (by simp) _).alloc (by simp; omega) _).drew))
      | (go_split_ands
         (repeat' apply And.intro) <;> first | (refine cell_later hb ?_; with_reducible assumption) | (refine OwnN.below ?_ hb; with_reducible assumption) | (refine Nat.le_trans ?_ hb.size; with_reducible assumption) | (refine Below.trans ?_ (hb.mono ?_) <;> with_reducible assumption))
      | (go_split_ands
         (repeat' apply And.intro) <;> first | go_cell | (refine OwnN.set (OwnN.set ?_ _ _) _ _; with_reducible assumption) | (simp; with_reducible assumption) | go_grown))
    (first
      | (go_at_call_of 98 (Value.agg #[.int .i64 h1, .int .u64 l1]); refine (X.out _).mono ?_; rintro e w1 ⟨rfl, hb⟩)
      | (go_at_call_of 98 (Value.agg #[.int .i64 h2, .int .u64 l2]); refine (Y.out _).mono ?_; rintro e w1 ⟨rfl, hb⟩)
      | (go_at_call 97; refine (Z.out _).mono ?_; rintro e w1 ⟨rfl, hb⟩)
      | (go_at_call 96; refine (N.out _).mono ?_; rintro e w1 ⟨rfl, hb⟩; go_split_ands; have hO : OwnN 2 w1 (w.heap.size + 1 + 1) := OwnN.below (by with_reducible assumption) hb; obtain ⟨v0, v1, hA⟩ := hO.two; have r0 := hA.cell 0 _ rfl; have r1 := hA.cell 1 _ rfl; have q0 := hA.free 0 _ rfl; have q1 := hA.free 1 _ rfl))
  all_goals
    rename_i hH
    have hB := hH.2.2.2.2.2.2
    clear hH
    go_wp2
    have s0 := same0 r0
    have s1 := same1 r1
    refine bodyPost_ret (v := .tuple #[.agg #[.int .i64 h, .int .u64 l], .int .i64 e0]) (by simp [results, Tryz.results60, go_sem, s0, s1]) rfl ⟨rfl, by go_grown⟩
/-- Add, where the sum fits. -/
theorem Add_ok (h1 l1 h2 l2 h l : Int) (i1 : InI h1 l1) (i2 : InI h2 l2) (i : InI h l) (hv : val h l = val h1 l1 + val h2 l2) (w : World) :
    Calls Tryz.prog 60 #[.agg #[.int .i64 h1, .int .u64 l1], .agg #[.int .i64 h2, .int .u64 l2]] w fun e w' => e = .returned (.tuple #[.agg #[.int .i64 h, .int .u64 l], .int .i64 0]) ∧ Below w.heap.size w w' :=
  Add_raw h1 l1 h2 l2 h l 0 i1 i2 (fun a b c W hl => narrow_ok _ a b c h l hl i hv W) w
/-- Of. -/
theorem Of_any (n h l : Int) (hn : I64 n) (i : InI h l) (hv : val h l = n) (w : World) :
    Calls Tryz.prog 122 #[.int .i64 n] w fun e w' => e = .returned (.agg #[.int .i64 h, .int .u64 l]) ∧ Below w.heap.size w w' := by
  have e1 : n / 9223372036854775808 = h ∧ IntKind.u64.wrap n = l := by
    obtain ⟨_, _, _, _⟩ := i
    unfold I64 at hn; unfold val at hv; rw [IntKind.wrap_u64]; omega
  have E := Lib.hid e1
  clear e1 hn i hv
  go_enter Tryz.func122, Tryz.ntmps122
  go_wp2
  go_returns
  exact ⟨by rw [E.out.1, E.out.2], by go_grown⟩
theorem InI.not {h l : Int} (i : InI h l) : InI (-1 - h) (18446744073709551615 - l) := by
  obtain ⟨_, _, _, _⟩ := i; exact ⟨by omega, by omega, by omega, by omega⟩
theorem ref_raw (h1 l1 h2 l2 h l k : Int) (i1 : InI h1 l1) (i2 : InI h2 l2) (i : InI h l) (v : val h l = val h1 l1 + val h2 l2 + k * 340282366920938463463374607431768211456) (W : World) :
    Calls Tryz.prog 131 #[.agg #[.int .i64 h1, .int .u64 l1], .agg #[.int .i64 h2, .int .u64 l2]] W fun e w' => e = .returned (.agg #[.int .i64 h, .int .u64 l]) ∧ Below W.heap.size W w' := by
  obtain ⟨a1, a2, a3, a4⟩ := i1
  obtain ⟨b1, b2, b3, b4⟩ := i2
  obtain ⟨c1, c2, c3, c4⟩ := i
  unfold val at v
  have e1 : IntKind.u64.wrap (l1 + l2) = l := by rw [IntKind.wrap_u64]; omega
  by_cases hc : l < l1
  · have e2 : wrap64 (wrap64 (h1 + h2) + 1) = h := by unfold wrap64; omega
    clear v
    go_enter Tryz.func131, Tryz.ntmps131
    go_wp2_with fail
    go_returns
    exact ⟨rfl, by go_grown⟩
  · have e2 : IntKind.i64.wrap (h1 + h2) = h := by rw [IntKind.wrap_i64]; omega
    clear v
    go_enter Tryz.func131, Tryz.ntmps131
    go_wp2_with fail
    go_returns
    exact ⟨rfl, by go_grown⟩
theorem cell_set {w : World} {p : Addr} {v : Value} (h : (w.cell? p).isSome = true) : (w.setCell p v).cell? p = some v := by
  obtain ⟨u, hu⟩ := Option.isSome_iff_exists.1 h
  exact World.cell?_setCell_same _ _ _ hu
attribute [local go_sem] cell_set
theorem ref_of (n : Int) (hn : I64 n) (W : World) :
    Calls Tryz.prog 54 #[.int .i64 n] W fun e w' => e = .returned (.agg #[.int .i64 (n / 9223372036854775808), .int .u64 (n % 18446744073709551616)]) ∧ Below W.heap.size W w' := by
  unfold I64 at hn
  have e1 : IntKind.u64.wrap n = n % 18446744073709551616 := by rw [IntKind.wrap_u64]
  by_cases hc : n < 0
  · have e2 : n / 9223372036854775808 = -1 := by omega
    rw [e2]
    have E := Lib.hid e1
    clear e2
    go_enter Tryz.func54, Tryz.ntmps54
    go_wp2_with fail
    go_returns
    exact ⟨rfl, by go_grown⟩
  · have e2 : n / 9223372036854775808 = 0 := by omega
    rw [e2]
    clear e2
    go_enter Tryz.func54, Tryz.ntmps54
    go_wp2_with fail
    go_returns
    exact ⟨rfl, by go_grown⟩
theorem ref_add_ok (h1 l1 h2 l2 h l : Int) (i1 : InI h1 l1) (i2 : InI h2 l2) (i : InI h l) (v : val h l = val h1 l1 + val h2 l2) (W : World) :
    Calls Tryz.prog 92 #[.agg #[.int .i64 h1, .int .u64 l1], .agg #[.int .i64 h2, .int .u64 l2]] W fun e w' => e = .returned (.tuple #[.agg #[.int .i64 h, .int .u64 l], .int .i64 0]) ∧ Below W.heap.size W w' := by
  have R := Lib.hid (fun W => ref_raw h1 l1 h2 l2 h l 0 i1 i2 i (by omega) W)
  have hc : ¬ ((h1 < 0 ↔ h2 < 0) ∧ (h1 < 0 ↔ 0 ≤ h)) := by obtain ⟨_, _, _, _⟩ := i1; obtain ⟨_, _, _, _⟩ := i2; obtain ⟨_, _, _, _⟩ := i; unfold val at v; omega
  clear v i i1 i2
  by_cases x1 : h1 < 0 <;> by_cases x2 : h2 < 0 <;> by_cases x3 : h < 0
  all_goals (first | (exfalso; omega) | skip)
  all_goals
    clear hc
    first | (have d1 : decide (h1 < 0) = true := by simpa using x1) | (have d1 : decide (h1 < 0) = false := by simpa using x1)
    first | (have d2 : decide (h2 < 0) = true := by simpa using x2) | (have d2 : decide (h2 < 0) = false := by simpa using x2)
    first | (have d3 : decide (h < 0) = true := by simpa using x3) | (have d3 : decide (h < 0) = false := by simpa using x3)
    go_enter Tryz.func92, Tryz.ntmps92
    go_wp2_with fail
    refine (R.out _).mono ?_
    rintro e w1 ⟨rfl, hb1⟩
    have DA : At w1 (W.heap.size) [.int .i64 h1, .int .u64 l1] := by have h := (((At.new (W) #[.int .i64 h1, .int .u64 l1] 65).alloc (.cells #[.int .i64 h2, .int .u64 l2] 65)).alloc (.cells #[.int .i64 0, .int .u64 0] 65)).below hb1; simpa using h
    have DC : At w1 (W.heap.size + 1) [.int .i64 h2, .int .u64 l2] := by have h := ((At.new ((W).alloc (.cells #[.int .i64 h1, .int .u64 l1] 65)) #[.int .i64 h2, .int .u64 l2] 65).alloc (.cells #[.int .i64 0, .int .u64 0] 65)).below hb1; simpa using h
    have DR : At w1 (W.heap.size + 1 + 1) [.int .i64 0, .int .u64 0] := by have h := (At.new (((W).alloc (.cells #[.int .i64 h1, .int .u64 l1] 65)).alloc (.cells #[.int .i64 h2, .int .u64 l2] 65)) #[.int .i64 0, .int .u64 0] 65).below hb1; simpa using h
    have B : Below W.heap.size W w1 := below_then (below_new (below_new (below_new (Below.refl _ _) (.cells #[.int .i64 h1, .int .u64 l1] 65)) (.cells #[.int .i64 h2, .int .u64 l2] 65)) (.cells #[.int .i64 0, .int .u64 0] 65)) hb1
    clear hb1
    have aA0 := DA.cell 0 _ rfl
    have aA1 := DA.cell 1 _ rfl
    have nA := DA.lt
    have aC0 := DC.cell 0 _ rfl
    have aC1 := DC.cell 1 _ rfl
    have nC := DC.lt
    have aR0 := DR.cell 0 _ rfl
    have zR0 := DR.free 0 _ rfl
    have aR1 := DR.cell 1 _ rfl
    have zR1 := DR.free 1 _ rfl
    have nR := DR.lt
    go_wp2_with fail
    refine bodyPost_ret (by simp [results, Tryz.results92, go_sem, aR0, aR1, nR]; try rfl) rfl ?_
    exact ⟨rfl, by go_grown⟩
end Go.Proofs.YtedcdhngiofpjaaGreatDoor
