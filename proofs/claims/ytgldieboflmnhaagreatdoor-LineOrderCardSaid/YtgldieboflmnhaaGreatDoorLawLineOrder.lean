/- belfrylaw6.LineOrder: the walk. -/
import Derived.Test.YtgldieboflmnhaaGreatDoorKnown6W
namespace Go.Proofs.YtgldieboflmnhaaGreatDoor
open Go Go.Proofs Go.RowKit Go.Shelf
set_option maxRecDepth 100000
attribute [local go_sem] Oper.semAt_some
theorem cmpS_lt (a2 a3 a4 b2 b3 b4 : Int) : cmpS a2 a3 a4 b2 b3 b4 < 0 ↔ a2 < b2 ∨ a2 = b2 ∧ (a3 < b3 ∨ a3 = b3 ∧ a4 < b4) := by
  unfold cmpS orI ordI
  repeat' split
  all_goals omega
theorem cmpS_eq (a2 a3 a4 b2 b3 b4 : Int) : cmpS a2 a3 a4 b2 b3 b4 = 0 ↔ a2 = b2 ∧ a3 = b3 ∧ a4 = b4 := by
  unfold cmpS orI ordI
  repeat' split
  all_goals omega
theorem cmpS_tr (a2 a3 a4 b2 b3 b4 c2 c3 c4 : Int) (h1 : cmpS a2 a3 a4 b2 b3 b4 ≤ 0) (h2 : cmpS b2 b3 b4 c2 c3 c4 ≤ 0) : (cmpS a2 a3 a4 b2 b3 b4 = 0 ∧ cmpS b2 b3 b4 c2 c3 c4 = 0 ∧ cmpS a2 a3 a4 c2 c3 c4 = 0) ∨ cmpS a2 a3 a4 c2 c3 c4 < 0 := by
  have p1 := cmpS_lt a2 a3 a4 b2 b3 b4
  have p2 := cmpS_lt b2 b3 b4 c2 c3 c4
  have p3 := cmpS_lt a2 a3 a4 c2 c3 c4
  have q1 := cmpS_eq a2 a3 a4 b2 b3 b4
  have q2 := cmpS_eq b2 b3 b4 c2 c3 c4
  have q3 := cmpS_eq a2 a3 a4 c2 c3 c4
  generalize cmpS a2 a3 a4 b2 b3 b4 = x at *
  generalize cmpS b2 b3 b4 c2 c3 c4 = y at *
  generalize cmpS a2 a3 a4 c2 c3 c4 = z at *
  omega
/-- how two stand, and whether they are alike, by cases -/
theorem cmpS_cases (a2 a3 a4 b2 b3 b4 : Int) : (cmpS a2 a3 a4 b2 b3 b4 = 0 ∧ a2 = b2 ∧ a3 = b3 ∧ a4 = b4) ∨ (cmpS a2 a3 a4 b2 b3 b4 ≠ 0 ∧ a2 ≠ b2) ∨ (cmpS a2 a3 a4 b2 b3 b4 ≠ 0 ∧ a2 = b2 ∧ a3 ≠ b3) ∨ (cmpS a2 a3 a4 b2 b3 b4 ≠ 0 ∧ a2 = b2 ∧ a3 = b3 ∧ a4 ≠ b4) := by
  have q1 := cmpS_eq a2 a3 a4 b2 b3 b4
  generalize cmpS a2 a3 a4 b2 b3 b4 = x at *
  omega
set_option maxHeartbeats 4000000 in
theorem order_upt (va vb vc : Value) (a1 a2 a3 a4 b1 b2 b3 b4 c1 c2 c3 c4 : Int) (x y z : Int) (hx : cmpS a2 a3 a4 b2 b3 b4 = x) (hy : cmpS b2 b3 b4 c2 c3 c4 = y) (hz : cmpS a2 a3 a4 c2 c3 c4 = z) (x1 : ¬ x ≤ 0) (x0 : x ≠ 0) (h2 : a2 ≠ b2) (w : World) (ht : Tab w) (he : ErrsOk w) :
    Calls Tryz.prog 4 #[.agg #[va, .int .i64 a1, .int .i64 a2, .int .i64 a3, .int .i64 a4], .agg #[vb, .int .i64 b1, .int .i64 b2, .int .i64 b3, .int .i64 b4], .agg #[vc, .int .i64 c1, .int .i64 c2, .int .i64 c3, .int .i64 c4]] w fun e w' => e = .returned (.bool true) ∧ Below w.heap.size w w' := by
  have KN := Lib.hid (fun W (hW : Below w.heap.size w W) => known_any W (ht.below hW) (he.below hW))
  have CX := Lib.hid (fun W => lcompare_any va vb a1 a2 a3 a4 b1 b2 b3 b4 W)
  have CY := Lib.hid (fun W => lcompare_any vb vc b1 b2 b3 b4 c1 c2 c3 c4 W)
  have CZ := Lib.hid (fun W => lcompare_any va vc a1 a2 a3 a4 c1 c2 c3 c4 W)
  rw [hx] at CX
  rw [hy] at CY
  rw [hz] at CZ
  clear hx hy hz
  have xb : (x == (0 : Int)) = false := beq_false_of_ne x0
  go_enter Tryz.func4, Tryz.ntmps4
  go_wp2_with fail
  have A1 := blk_new w #[va, .int .i64 a1, .int .i64 a2, .int .i64 a3, .int .i64 a4] 25
  have A2 := blk_new (w.alloc (.cells #[va, .int .i64 a1, .int .i64 a2, .int .i64 a3, .int .i64 a4] 25)) #[vb, .int .i64 b1, .int .i64 b2, .int .i64 b3, .int .i64 b4] 25
  have A3 := blk_new ((w.alloc (.cells #[va, .int .i64 a1, .int .i64 a2, .int .i64 a3, .int .i64 a4] 25)).alloc (.cells #[vb, .int .i64 b1, .int .i64 b2, .int .i64 b3, .int .i64 b4] 25)) #[vc, .int .i64 c1, .int .i64 c2, .int .i64 c3, .int .i64 c4] 25
  rw [World.size_alloc] at A2
  rw [World.size_alloc, World.size_alloc] at A3
  have B1 := below_new (below_new (below_cells (w := w) (.cells #[va, .int .i64 a1, .int .i64 a2, .int .i64 a3, .int .i64 a4] 25)) (.cells #[vb, .int .i64 b1, .int .i64 b2, .int .i64 b3, .int .i64 b4] 25)) (.cells #[vc, .int .i64 c1, .int .i64 c2, .int .i64 c3, .int .i64 c4] 25)
  have D1 := blk_on (blk_on A1 (below_cells (.cells #[vb, .int .i64 b1, .int .i64 b2, .int .i64 b3, .int .i64 b4] 25))) (below_cells (.cells #[vc, .int .i64 c1, .int .i64 c2, .int .i64 c3, .int .i64 c4] 25))
  have D2 := blk_on A2 (below_cells (.cells #[vc, .int .i64 c1, .int .i64 c2, .int .i64 c3, .int .i64 c4] 25))
  clear A1 A2
  generalize ((w.alloc (.cells #[va, .int .i64 a1, .int .i64 a2, .int .i64 a3, .int .i64 a4] 25)).alloc (.cells #[vb, .int .i64 b1, .int .i64 b2, .int .i64 b3, .int .i64 b4] 25)).alloc (.cells #[vc, .int .i64 c1, .int .i64 c2, .int .i64 c3, .int .i64 c4] 25) = W0 at *
  refine (KN.out _ B1).mono ?_
  rintro e u0 ⟨rfl, hb⟩
  have E1 := blk_on D1 hb
  have E2 := blk_on D2 hb
  have E3 := blk_on A3 hb
  have C1 := B1.trans (hb.mono B1.size)
  clear D1 D2 A3 B1 hb
  have D1 := E1
  have D2 := E2
  have A3 := E3
  have B1 := C1
  clear E1 E2 E3 C1
  have p0 := (blk_at D1).cell 0 _ rfl
  have p1 := (blk_at D1).cell 1 _ rfl
  have p2 := (blk_at D1).cell 2 _ rfl
  have p3 := (blk_at D1).cell 3 _ rfl
  have p4 := (blk_at D1).cell 4 _ rfl
  have q0 := (blk_at D2).cell 0 _ rfl
  have q1 := (blk_at D2).cell 1 _ rfl
  have q2 := (blk_at D2).cell 2 _ rfl
  have q3 := (blk_at D2).cell 3 _ rfl
  have q4 := (blk_at D2).cell 4 _ rfl
  have r0 := (blk_at A3).cell 0 _ rfl
  have r1 := (blk_at A3).cell 1 _ rfl
  have r2 := (blk_at A3).cell 2 _ rfl
  have r3 := (blk_at A3).cell 3 _ rfl
  have r4 := (blk_at A3).cell 4 _ rfl
  go_wp2_with fail
  refine (CX.out _).mono ?_
  rintro e u1 ⟨rfl, hb⟩
  have E1 := blk_on D1 hb
  have E2 := blk_on D2 hb
  have E3 := blk_on A3 hb
  have C1 := B1.trans (hb.mono B1.size)
  clear D1 D2 A3 B1 hb p0 p1 p2 p3 p4 q0 q1 q2 q3 q4 r0 r1 r2 r3 r4
  have D1 := E1
  have D2 := E2
  have A3 := E3
  have B1 := C1
  clear E1 E2 E3 C1
  have p0 := (blk_at D1).cell 0 _ rfl
  have p1 := (blk_at D1).cell 1 _ rfl
  have p2 := (blk_at D1).cell 2 _ rfl
  have p3 := (blk_at D1).cell 3 _ rfl
  have p4 := (blk_at D1).cell 4 _ rfl
  have q0 := (blk_at D2).cell 0 _ rfl
  have q1 := (blk_at D2).cell 1 _ rfl
  have q2 := (blk_at D2).cell 2 _ rfl
  have q3 := (blk_at D2).cell 3 _ rfl
  have q4 := (blk_at D2).cell 4 _ rfl
  have r0 := (blk_at A3).cell 0 _ rfl
  have r1 := (blk_at A3).cell 1 _ rfl
  have r2 := (blk_at A3).cell 2 _ rfl
  have r3 := (blk_at A3).cell 3 _ rfl
  have r4 := (blk_at A3).cell 4 _ rfl
  go_wp2_with fail
  refine (CY.out _).mono ?_
  rintro e u2 ⟨rfl, hb⟩
  have E1 := blk_on D1 hb
  have E2 := blk_on D2 hb
  have E3 := blk_on A3 hb
  have C1 := B1.trans (hb.mono B1.size)
  clear D1 D2 A3 B1 hb p0 p1 p2 p3 p4 q0 q1 q2 q3 q4 r0 r1 r2 r3 r4
  have D1 := E1
  have D2 := E2
  have A3 := E3
  have B1 := C1
  clear E1 E2 E3 C1
  have p0 := (blk_at D1).cell 0 _ rfl
  have p1 := (blk_at D1).cell 1 _ rfl
  have p2 := (blk_at D1).cell 2 _ rfl
  have p3 := (blk_at D1).cell 3 _ rfl
  have p4 := (blk_at D1).cell 4 _ rfl
  have q0 := (blk_at D2).cell 0 _ rfl
  have q1 := (blk_at D2).cell 1 _ rfl
  have q2 := (blk_at D2).cell 2 _ rfl
  have q3 := (blk_at D2).cell 3 _ rfl
  have q4 := (blk_at D2).cell 4 _ rfl
  have r0 := (blk_at A3).cell 0 _ rfl
  have r1 := (blk_at A3).cell 1 _ rfl
  have r2 := (blk_at A3).cell 2 _ rfl
  have r3 := (blk_at A3).cell 3 _ rfl
  have r4 := (blk_at A3).cell 4 _ rfl
  go_wp2
  go_ret
  exact ⟨rfl, B1⟩
set_option maxHeartbeats 4000000 in
theorem order_dnt (va vb vc : Value) (a1 a2 a3 a4 b1 b2 b3 b4 c1 c2 c3 c4 : Int) (x y z : Int) (hx : cmpS a2 a3 a4 b2 b3 b4 = x) (hy : cmpS b2 b3 b4 c2 c3 c4 = y) (hz : cmpS a2 a3 a4 c2 c3 c4 = z) (x1 : x ≤ 0) (x0 : x ≠ 0) (y1 : ¬ y ≤ 0) (h2 : a2 ≠ b2) (w : World) (ht : Tab w) (he : ErrsOk w) :
    Calls Tryz.prog 4 #[.agg #[va, .int .i64 a1, .int .i64 a2, .int .i64 a3, .int .i64 a4], .agg #[vb, .int .i64 b1, .int .i64 b2, .int .i64 b3, .int .i64 b4], .agg #[vc, .int .i64 c1, .int .i64 c2, .int .i64 c3, .int .i64 c4]] w fun e w' => e = .returned (.bool true) ∧ Below w.heap.size w w' := by
  have KN := Lib.hid (fun W (hW : Below w.heap.size w W) => known_any W (ht.below hW) (he.below hW))
  have CX := Lib.hid (fun W => lcompare_any va vb a1 a2 a3 a4 b1 b2 b3 b4 W)
  have CY := Lib.hid (fun W => lcompare_any vb vc b1 b2 b3 b4 c1 c2 c3 c4 W)
  have CZ := Lib.hid (fun W => lcompare_any va vc a1 a2 a3 a4 c1 c2 c3 c4 W)
  rw [hx] at CX
  rw [hy] at CY
  rw [hz] at CZ
  clear hx hy hz
  have xb : (x == (0 : Int)) = false := beq_false_of_ne x0
  go_enter Tryz.func4, Tryz.ntmps4
  go_wp2_with fail
  have A1 := blk_new w #[va, .int .i64 a1, .int .i64 a2, .int .i64 a3, .int .i64 a4] 25
  have A2 := blk_new (w.alloc (.cells #[va, .int .i64 a1, .int .i64 a2, .int .i64 a3, .int .i64 a4] 25)) #[vb, .int .i64 b1, .int .i64 b2, .int .i64 b3, .int .i64 b4] 25
  have A3 := blk_new ((w.alloc (.cells #[va, .int .i64 a1, .int .i64 a2, .int .i64 a3, .int .i64 a4] 25)).alloc (.cells #[vb, .int .i64 b1, .int .i64 b2, .int .i64 b3, .int .i64 b4] 25)) #[vc, .int .i64 c1, .int .i64 c2, .int .i64 c3, .int .i64 c4] 25
  rw [World.size_alloc] at A2
  rw [World.size_alloc, World.size_alloc] at A3
  have B1 := below_new (below_new (below_cells (w := w) (.cells #[va, .int .i64 a1, .int .i64 a2, .int .i64 a3, .int .i64 a4] 25)) (.cells #[vb, .int .i64 b1, .int .i64 b2, .int .i64 b3, .int .i64 b4] 25)) (.cells #[vc, .int .i64 c1, .int .i64 c2, .int .i64 c3, .int .i64 c4] 25)
  have D1 := blk_on (blk_on A1 (below_cells (.cells #[vb, .int .i64 b1, .int .i64 b2, .int .i64 b3, .int .i64 b4] 25))) (below_cells (.cells #[vc, .int .i64 c1, .int .i64 c2, .int .i64 c3, .int .i64 c4] 25))
  have D2 := blk_on A2 (below_cells (.cells #[vc, .int .i64 c1, .int .i64 c2, .int .i64 c3, .int .i64 c4] 25))
  clear A1 A2
  generalize ((w.alloc (.cells #[va, .int .i64 a1, .int .i64 a2, .int .i64 a3, .int .i64 a4] 25)).alloc (.cells #[vb, .int .i64 b1, .int .i64 b2, .int .i64 b3, .int .i64 b4] 25)).alloc (.cells #[vc, .int .i64 c1, .int .i64 c2, .int .i64 c3, .int .i64 c4] 25) = W0 at *
  refine (KN.out _ B1).mono ?_
  rintro e u0 ⟨rfl, hb⟩
  have E1 := blk_on D1 hb
  have E2 := blk_on D2 hb
  have E3 := blk_on A3 hb
  have C1 := B1.trans (hb.mono B1.size)
  clear D1 D2 A3 B1 hb
  have D1 := E1
  have D2 := E2
  have A3 := E3
  have B1 := C1
  clear E1 E2 E3 C1
  have p0 := (blk_at D1).cell 0 _ rfl
  have p1 := (blk_at D1).cell 1 _ rfl
  have p2 := (blk_at D1).cell 2 _ rfl
  have p3 := (blk_at D1).cell 3 _ rfl
  have p4 := (blk_at D1).cell 4 _ rfl
  have q0 := (blk_at D2).cell 0 _ rfl
  have q1 := (blk_at D2).cell 1 _ rfl
  have q2 := (blk_at D2).cell 2 _ rfl
  have q3 := (blk_at D2).cell 3 _ rfl
  have q4 := (blk_at D2).cell 4 _ rfl
  have r0 := (blk_at A3).cell 0 _ rfl
  have r1 := (blk_at A3).cell 1 _ rfl
  have r2 := (blk_at A3).cell 2 _ rfl
  have r3 := (blk_at A3).cell 3 _ rfl
  have r4 := (blk_at A3).cell 4 _ rfl
  go_wp2_with fail
  refine (CX.out _).mono ?_
  rintro e u1 ⟨rfl, hb⟩
  have E1 := blk_on D1 hb
  have E2 := blk_on D2 hb
  have E3 := blk_on A3 hb
  have C1 := B1.trans (hb.mono B1.size)
  clear D1 D2 A3 B1 hb p0 p1 p2 p3 p4 q0 q1 q2 q3 q4 r0 r1 r2 r3 r4
  have D1 := E1
  have D2 := E2
  have A3 := E3
  have B1 := C1
  clear E1 E2 E3 C1
  have p0 := (blk_at D1).cell 0 _ rfl
  have p1 := (blk_at D1).cell 1 _ rfl
  have p2 := (blk_at D1).cell 2 _ rfl
  have p3 := (blk_at D1).cell 3 _ rfl
  have p4 := (blk_at D1).cell 4 _ rfl
  have q0 := (blk_at D2).cell 0 _ rfl
  have q1 := (blk_at D2).cell 1 _ rfl
  have q2 := (blk_at D2).cell 2 _ rfl
  have q3 := (blk_at D2).cell 3 _ rfl
  have q4 := (blk_at D2).cell 4 _ rfl
  have r0 := (blk_at A3).cell 0 _ rfl
  have r1 := (blk_at A3).cell 1 _ rfl
  have r2 := (blk_at A3).cell 2 _ rfl
  have r3 := (blk_at A3).cell 3 _ rfl
  have r4 := (blk_at A3).cell 4 _ rfl
  go_wp2_with fail
  refine (CY.out _).mono ?_
  rintro e u2 ⟨rfl, hb⟩
  have E1 := blk_on D1 hb
  have E2 := blk_on D2 hb
  have E3 := blk_on A3 hb
  have C1 := B1.trans (hb.mono B1.size)
  clear D1 D2 A3 B1 hb p0 p1 p2 p3 p4 q0 q1 q2 q3 q4 r0 r1 r2 r3 r4
  have D1 := E1
  have D2 := E2
  have A3 := E3
  have B1 := C1
  clear E1 E2 E3 C1
  have p0 := (blk_at D1).cell 0 _ rfl
  have p1 := (blk_at D1).cell 1 _ rfl
  have p2 := (blk_at D1).cell 2 _ rfl
  have p3 := (blk_at D1).cell 3 _ rfl
  have p4 := (blk_at D1).cell 4 _ rfl
  have q0 := (blk_at D2).cell 0 _ rfl
  have q1 := (blk_at D2).cell 1 _ rfl
  have q2 := (blk_at D2).cell 2 _ rfl
  have q3 := (blk_at D2).cell 3 _ rfl
  have q4 := (blk_at D2).cell 4 _ rfl
  have r0 := (blk_at A3).cell 0 _ rfl
  have r1 := (blk_at A3).cell 1 _ rfl
  have r2 := (blk_at A3).cell 2 _ rfl
  have r3 := (blk_at A3).cell 3 _ rfl
  have r4 := (blk_at A3).cell 4 _ rfl
  go_wp2
  go_ret
  exact ⟨rfl, B1⟩
set_option maxHeartbeats 4000000 in
theorem order_ddt (va vb vc : Value) (a1 a2 a3 a4 b1 b2 b3 b4 c1 c2 c3 c4 : Int) (x y z : Int) (hx : cmpS a2 a3 a4 b2 b3 b4 = x) (hy : cmpS b2 b3 b4 c2 c3 c4 = y) (hz : cmpS a2 a3 a4 c2 c3 c4 = z) (x1 : x ≤ 0) (x0 : x ≠ 0) (y1 : y ≤ 0) (z0 : ¬ 0 < z) (z1 : z ≠ 0) (h2 : a2 ≠ b2) (w : World) (ht : Tab w) (he : ErrsOk w) :
    Calls Tryz.prog 4 #[.agg #[va, .int .i64 a1, .int .i64 a2, .int .i64 a3, .int .i64 a4], .agg #[vb, .int .i64 b1, .int .i64 b2, .int .i64 b3, .int .i64 b4], .agg #[vc, .int .i64 c1, .int .i64 c2, .int .i64 c3, .int .i64 c4]] w fun e w' => e = .returned (.bool true) ∧ Below w.heap.size w w' := by
  have KN := Lib.hid (fun W (hW : Below w.heap.size w W) => known_any W (ht.below hW) (he.below hW))
  have CX := Lib.hid (fun W => lcompare_any va vb a1 a2 a3 a4 b1 b2 b3 b4 W)
  have CY := Lib.hid (fun W => lcompare_any vb vc b1 b2 b3 b4 c1 c2 c3 c4 W)
  have CZ := Lib.hid (fun W => lcompare_any va vc a1 a2 a3 a4 c1 c2 c3 c4 W)
  rw [hx] at CX
  rw [hy] at CY
  rw [hz] at CZ
  clear hx hy hz
  have xb : (x == (0 : Int)) = false := beq_false_of_ne x0
  go_enter Tryz.func4, Tryz.ntmps4
  go_wp2_with fail
  have A1 := blk_new w #[va, .int .i64 a1, .int .i64 a2, .int .i64 a3, .int .i64 a4] 25
  have A2 := blk_new (w.alloc (.cells #[va, .int .i64 a1, .int .i64 a2, .int .i64 a3, .int .i64 a4] 25)) #[vb, .int .i64 b1, .int .i64 b2, .int .i64 b3, .int .i64 b4] 25
  have A3 := blk_new ((w.alloc (.cells #[va, .int .i64 a1, .int .i64 a2, .int .i64 a3, .int .i64 a4] 25)).alloc (.cells #[vb, .int .i64 b1, .int .i64 b2, .int .i64 b3, .int .i64 b4] 25)) #[vc, .int .i64 c1, .int .i64 c2, .int .i64 c3, .int .i64 c4] 25
  rw [World.size_alloc] at A2
  rw [World.size_alloc, World.size_alloc] at A3
  have B1 := below_new (below_new (below_cells (w := w) (.cells #[va, .int .i64 a1, .int .i64 a2, .int .i64 a3, .int .i64 a4] 25)) (.cells #[vb, .int .i64 b1, .int .i64 b2, .int .i64 b3, .int .i64 b4] 25)) (.cells #[vc, .int .i64 c1, .int .i64 c2, .int .i64 c3, .int .i64 c4] 25)
  have D1 := blk_on (blk_on A1 (below_cells (.cells #[vb, .int .i64 b1, .int .i64 b2, .int .i64 b3, .int .i64 b4] 25))) (below_cells (.cells #[vc, .int .i64 c1, .int .i64 c2, .int .i64 c3, .int .i64 c4] 25))
  have D2 := blk_on A2 (below_cells (.cells #[vc, .int .i64 c1, .int .i64 c2, .int .i64 c3, .int .i64 c4] 25))
  clear A1 A2
  generalize ((w.alloc (.cells #[va, .int .i64 a1, .int .i64 a2, .int .i64 a3, .int .i64 a4] 25)).alloc (.cells #[vb, .int .i64 b1, .int .i64 b2, .int .i64 b3, .int .i64 b4] 25)).alloc (.cells #[vc, .int .i64 c1, .int .i64 c2, .int .i64 c3, .int .i64 c4] 25) = W0 at *
  refine (KN.out _ B1).mono ?_
  rintro e u0 ⟨rfl, hb⟩
  have E1 := blk_on D1 hb
  have E2 := blk_on D2 hb
  have E3 := blk_on A3 hb
  have C1 := B1.trans (hb.mono B1.size)
  clear D1 D2 A3 B1 hb
  have D1 := E1
  have D2 := E2
  have A3 := E3
  have B1 := C1
  clear E1 E2 E3 C1
  have p0 := (blk_at D1).cell 0 _ rfl
  have p1 := (blk_at D1).cell 1 _ rfl
  have p2 := (blk_at D1).cell 2 _ rfl
  have p3 := (blk_at D1).cell 3 _ rfl
  have p4 := (blk_at D1).cell 4 _ rfl
  have q0 := (blk_at D2).cell 0 _ rfl
  have q1 := (blk_at D2).cell 1 _ rfl
  have q2 := (blk_at D2).cell 2 _ rfl
  have q3 := (blk_at D2).cell 3 _ rfl
  have q4 := (blk_at D2).cell 4 _ rfl
  have r0 := (blk_at A3).cell 0 _ rfl
  have r1 := (blk_at A3).cell 1 _ rfl
  have r2 := (blk_at A3).cell 2 _ rfl
  have r3 := (blk_at A3).cell 3 _ rfl
  have r4 := (blk_at A3).cell 4 _ rfl
  go_wp2_with fail
  refine (CX.out _).mono ?_
  rintro e u1 ⟨rfl, hb⟩
  have E1 := blk_on D1 hb
  have E2 := blk_on D2 hb
  have E3 := blk_on A3 hb
  have C1 := B1.trans (hb.mono B1.size)
  clear D1 D2 A3 B1 hb p0 p1 p2 p3 p4 q0 q1 q2 q3 q4 r0 r1 r2 r3 r4
  have D1 := E1
  have D2 := E2
  have A3 := E3
  have B1 := C1
  clear E1 E2 E3 C1
  have p0 := (blk_at D1).cell 0 _ rfl
  have p1 := (blk_at D1).cell 1 _ rfl
  have p2 := (blk_at D1).cell 2 _ rfl
  have p3 := (blk_at D1).cell 3 _ rfl
  have p4 := (blk_at D1).cell 4 _ rfl
  have q0 := (blk_at D2).cell 0 _ rfl
  have q1 := (blk_at D2).cell 1 _ rfl
  have q2 := (blk_at D2).cell 2 _ rfl
  have q3 := (blk_at D2).cell 3 _ rfl
  have q4 := (blk_at D2).cell 4 _ rfl
  have r0 := (blk_at A3).cell 0 _ rfl
  have r1 := (blk_at A3).cell 1 _ rfl
  have r2 := (blk_at A3).cell 2 _ rfl
  have r3 := (blk_at A3).cell 3 _ rfl
  have r4 := (blk_at A3).cell 4 _ rfl
  go_wp2_with fail
  refine (CY.out _).mono ?_
  rintro e u2 ⟨rfl, hb⟩
  have E1 := blk_on D1 hb
  have E2 := blk_on D2 hb
  have E3 := blk_on A3 hb
  have C1 := B1.trans (hb.mono B1.size)
  clear D1 D2 A3 B1 hb p0 p1 p2 p3 p4 q0 q1 q2 q3 q4 r0 r1 r2 r3 r4
  have D1 := E1
  have D2 := E2
  have A3 := E3
  have B1 := C1
  clear E1 E2 E3 C1
  have p0 := (blk_at D1).cell 0 _ rfl
  have p1 := (blk_at D1).cell 1 _ rfl
  have p2 := (blk_at D1).cell 2 _ rfl
  have p3 := (blk_at D1).cell 3 _ rfl
  have p4 := (blk_at D1).cell 4 _ rfl
  have q0 := (blk_at D2).cell 0 _ rfl
  have q1 := (blk_at D2).cell 1 _ rfl
  have q2 := (blk_at D2).cell 2 _ rfl
  have q3 := (blk_at D2).cell 3 _ rfl
  have q4 := (blk_at D2).cell 4 _ rfl
  have r0 := (blk_at A3).cell 0 _ rfl
  have r1 := (blk_at A3).cell 1 _ rfl
  have r2 := (blk_at A3).cell 2 _ rfl
  have r3 := (blk_at A3).cell 3 _ rfl
  have r4 := (blk_at A3).cell 4 _ rfl
  go_wp2_with fail
  refine (CZ.out _).mono ?_
  rintro e u3 ⟨rfl, hb⟩
  have E1 := blk_on D1 hb
  have E2 := blk_on D2 hb
  have E3 := blk_on A3 hb
  have C1 := B1.trans (hb.mono B1.size)
  clear D1 D2 A3 B1 hb p0 p1 p2 p3 p4 q0 q1 q2 q3 q4 r0 r1 r2 r3 r4
  have D1 := E1
  have D2 := E2
  have A3 := E3
  have B1 := C1
  clear E1 E2 E3 C1
  have p0 := (blk_at D1).cell 0 _ rfl
  have p1 := (blk_at D1).cell 1 _ rfl
  have p2 := (blk_at D1).cell 2 _ rfl
  have p3 := (blk_at D1).cell 3 _ rfl
  have p4 := (blk_at D1).cell 4 _ rfl
  have q0 := (blk_at D2).cell 0 _ rfl
  have q1 := (blk_at D2).cell 1 _ rfl
  have q2 := (blk_at D2).cell 2 _ rfl
  have q3 := (blk_at D2).cell 3 _ rfl
  have q4 := (blk_at D2).cell 4 _ rfl
  have r0 := (blk_at A3).cell 0 _ rfl
  have r1 := (blk_at A3).cell 1 _ rfl
  have r2 := (blk_at A3).cell 2 _ rfl
  have r3 := (blk_at A3).cell 3 _ rfl
  have r4 := (blk_at A3).cell 4 _ rfl
  go_wp2_with fail
  refine (CZ.out _).mono ?_
  rintro e u4 ⟨rfl, hb⟩
  have E1 := blk_on D1 hb
  have E2 := blk_on D2 hb
  have E3 := blk_on A3 hb
  have C1 := B1.trans (hb.mono B1.size)
  clear D1 D2 A3 B1 hb p0 p1 p2 p3 p4 q0 q1 q2 q3 q4 r0 r1 r2 r3 r4
  have D1 := E1
  have D2 := E2
  have A3 := E3
  have B1 := C1
  clear E1 E2 E3 C1
  have p0 := (blk_at D1).cell 0 _ rfl
  have p1 := (blk_at D1).cell 1 _ rfl
  have p2 := (blk_at D1).cell 2 _ rfl
  have p3 := (blk_at D1).cell 3 _ rfl
  have p4 := (blk_at D1).cell 4 _ rfl
  have q0 := (blk_at D2).cell 0 _ rfl
  have q1 := (blk_at D2).cell 1 _ rfl
  have q2 := (blk_at D2).cell 2 _ rfl
  have q3 := (blk_at D2).cell 3 _ rfl
  have q4 := (blk_at D2).cell 4 _ rfl
  have r0 := (blk_at A3).cell 0 _ rfl
  have r1 := (blk_at A3).cell 1 _ rfl
  have r2 := (blk_at A3).cell 2 _ rfl
  have r3 := (blk_at A3).cell 3 _ rfl
  have r4 := (blk_at A3).cell 4 _ rfl
  go_wp2
  go_ret
  exact ⟨rfl, B1⟩
set_option maxHeartbeats 4000000 in
theorem order_ups (va vb vc : Value) (a1 a2 a3 a4 b1 b3 b4 c1 c2 c3 c4 : Int) (x y z : Int) (hx : cmpS a2 a3 a4 a2 b3 b4 = x) (hy : cmpS a2 b3 b4 c2 c3 c4 = y) (hz : cmpS a2 a3 a4 c2 c3 c4 = z) (x1 : ¬ x ≤ 0) (x0 : x ≠ 0) (h3 : a3 ≠ b3) (w : World) (ht : Tab w) (he : ErrsOk w) :
    Calls Tryz.prog 4 #[.agg #[va, .int .i64 a1, .int .i64 a2, .int .i64 a3, .int .i64 a4], .agg #[vb, .int .i64 b1, .int .i64 a2, .int .i64 b3, .int .i64 b4], .agg #[vc, .int .i64 c1, .int .i64 c2, .int .i64 c3, .int .i64 c4]] w fun e w' => e = .returned (.bool true) ∧ Below w.heap.size w w' := by
  have KN := Lib.hid (fun W (hW : Below w.heap.size w W) => known_any W (ht.below hW) (he.below hW))
  have CX := Lib.hid (fun W => lcompare_any va vb a1 a2 a3 a4 b1 a2 b3 b4 W)
  have CY := Lib.hid (fun W => lcompare_any vb vc b1 a2 b3 b4 c1 c2 c3 c4 W)
  have CZ := Lib.hid (fun W => lcompare_any va vc a1 a2 a3 a4 c1 c2 c3 c4 W)
  rw [hx] at CX
  rw [hy] at CY
  rw [hz] at CZ
  clear hx hy hz
  have xb : (x == (0 : Int)) = false := beq_false_of_ne x0
  go_enter Tryz.func4, Tryz.ntmps4
  go_wp2_with fail
  have A1 := blk_new w #[va, .int .i64 a1, .int .i64 a2, .int .i64 a3, .int .i64 a4] 25
  have A2 := blk_new (w.alloc (.cells #[va, .int .i64 a1, .int .i64 a2, .int .i64 a3, .int .i64 a4] 25)) #[vb, .int .i64 b1, .int .i64 a2, .int .i64 b3, .int .i64 b4] 25
  have A3 := blk_new ((w.alloc (.cells #[va, .int .i64 a1, .int .i64 a2, .int .i64 a3, .int .i64 a4] 25)).alloc (.cells #[vb, .int .i64 b1, .int .i64 a2, .int .i64 b3, .int .i64 b4] 25)) #[vc, .int .i64 c1, .int .i64 c2, .int .i64 c3, .int .i64 c4] 25
  rw [World.size_alloc] at A2
  rw [World.size_alloc, World.size_alloc] at A3
  have B1 := below_new (below_new (below_cells (w := w) (.cells #[va, .int .i64 a1, .int .i64 a2, .int .i64 a3, .int .i64 a4] 25)) (.cells #[vb, .int .i64 b1, .int .i64 a2, .int .i64 b3, .int .i64 b4] 25)) (.cells #[vc, .int .i64 c1, .int .i64 c2, .int .i64 c3, .int .i64 c4] 25)
  have D1 := blk_on (blk_on A1 (below_cells (.cells #[vb, .int .i64 b1, .int .i64 a2, .int .i64 b3, .int .i64 b4] 25))) (below_cells (.cells #[vc, .int .i64 c1, .int .i64 c2, .int .i64 c3, .int .i64 c4] 25))
  have D2 := blk_on A2 (below_cells (.cells #[vc, .int .i64 c1, .int .i64 c2, .int .i64 c3, .int .i64 c4] 25))
  clear A1 A2
  generalize ((w.alloc (.cells #[va, .int .i64 a1, .int .i64 a2, .int .i64 a3, .int .i64 a4] 25)).alloc (.cells #[vb, .int .i64 b1, .int .i64 a2, .int .i64 b3, .int .i64 b4] 25)).alloc (.cells #[vc, .int .i64 c1, .int .i64 c2, .int .i64 c3, .int .i64 c4] 25) = W0 at *
  refine (KN.out _ B1).mono ?_
  rintro e u0 ⟨rfl, hb⟩
  have E1 := blk_on D1 hb
  have E2 := blk_on D2 hb
  have E3 := blk_on A3 hb
  have C1 := B1.trans (hb.mono B1.size)
  clear D1 D2 A3 B1 hb
  have D1 := E1
  have D2 := E2
  have A3 := E3
  have B1 := C1
  clear E1 E2 E3 C1
  have p0 := (blk_at D1).cell 0 _ rfl
  have p1 := (blk_at D1).cell 1 _ rfl
  have p2 := (blk_at D1).cell 2 _ rfl
  have p3 := (blk_at D1).cell 3 _ rfl
  have p4 := (blk_at D1).cell 4 _ rfl
  have q0 := (blk_at D2).cell 0 _ rfl
  have q1 := (blk_at D2).cell 1 _ rfl
  have q2 := (blk_at D2).cell 2 _ rfl
  have q3 := (blk_at D2).cell 3 _ rfl
  have q4 := (blk_at D2).cell 4 _ rfl
  have r0 := (blk_at A3).cell 0 _ rfl
  have r1 := (blk_at A3).cell 1 _ rfl
  have r2 := (blk_at A3).cell 2 _ rfl
  have r3 := (blk_at A3).cell 3 _ rfl
  have r4 := (blk_at A3).cell 4 _ rfl
  go_wp2_with fail
  refine (CX.out _).mono ?_
  rintro e u1 ⟨rfl, hb⟩
  have E1 := blk_on D1 hb
  have E2 := blk_on D2 hb
  have E3 := blk_on A3 hb
  have C1 := B1.trans (hb.mono B1.size)
  clear D1 D2 A3 B1 hb p0 p1 p2 p3 p4 q0 q1 q2 q3 q4 r0 r1 r2 r3 r4
  have D1 := E1
  have D2 := E2
  have A3 := E3
  have B1 := C1
  clear E1 E2 E3 C1
  have p0 := (blk_at D1).cell 0 _ rfl
  have p1 := (blk_at D1).cell 1 _ rfl
  have p2 := (blk_at D1).cell 2 _ rfl
  have p3 := (blk_at D1).cell 3 _ rfl
  have p4 := (blk_at D1).cell 4 _ rfl
  have q0 := (blk_at D2).cell 0 _ rfl
  have q1 := (blk_at D2).cell 1 _ rfl
  have q2 := (blk_at D2).cell 2 _ rfl
  have q3 := (blk_at D2).cell 3 _ rfl
  have q4 := (blk_at D2).cell 4 _ rfl
  have r0 := (blk_at A3).cell 0 _ rfl
  have r1 := (blk_at A3).cell 1 _ rfl
  have r2 := (blk_at A3).cell 2 _ rfl
  have r3 := (blk_at A3).cell 3 _ rfl
  have r4 := (blk_at A3).cell 4 _ rfl
  go_wp2_with fail
  refine (CY.out _).mono ?_
  rintro e u2 ⟨rfl, hb⟩
  have E1 := blk_on D1 hb
  have E2 := blk_on D2 hb
  have E3 := blk_on A3 hb
  have C1 := B1.trans (hb.mono B1.size)
  clear D1 D2 A3 B1 hb p0 p1 p2 p3 p4 q0 q1 q2 q3 q4 r0 r1 r2 r3 r4
  have D1 := E1
  have D2 := E2
  have A3 := E3
  have B1 := C1
  clear E1 E2 E3 C1
  have p0 := (blk_at D1).cell 0 _ rfl
  have p1 := (blk_at D1).cell 1 _ rfl
  have p2 := (blk_at D1).cell 2 _ rfl
  have p3 := (blk_at D1).cell 3 _ rfl
  have p4 := (blk_at D1).cell 4 _ rfl
  have q0 := (blk_at D2).cell 0 _ rfl
  have q1 := (blk_at D2).cell 1 _ rfl
  have q2 := (blk_at D2).cell 2 _ rfl
  have q3 := (blk_at D2).cell 3 _ rfl
  have q4 := (blk_at D2).cell 4 _ rfl
  have r0 := (blk_at A3).cell 0 _ rfl
  have r1 := (blk_at A3).cell 1 _ rfl
  have r2 := (blk_at A3).cell 2 _ rfl
  have r3 := (blk_at A3).cell 3 _ rfl
  have r4 := (blk_at A3).cell 4 _ rfl
  go_wp2
  go_ret
  exact ⟨rfl, B1⟩
set_option maxHeartbeats 4000000 in
theorem order_dns (va vb vc : Value) (a1 a2 a3 a4 b1 b3 b4 c1 c2 c3 c4 : Int) (x y z : Int) (hx : cmpS a2 a3 a4 a2 b3 b4 = x) (hy : cmpS a2 b3 b4 c2 c3 c4 = y) (hz : cmpS a2 a3 a4 c2 c3 c4 = z) (x1 : x ≤ 0) (x0 : x ≠ 0) (y1 : ¬ y ≤ 0) (h3 : a3 ≠ b3) (w : World) (ht : Tab w) (he : ErrsOk w) :
    Calls Tryz.prog 4 #[.agg #[va, .int .i64 a1, .int .i64 a2, .int .i64 a3, .int .i64 a4], .agg #[vb, .int .i64 b1, .int .i64 a2, .int .i64 b3, .int .i64 b4], .agg #[vc, .int .i64 c1, .int .i64 c2, .int .i64 c3, .int .i64 c4]] w fun e w' => e = .returned (.bool true) ∧ Below w.heap.size w w' := by
  have KN := Lib.hid (fun W (hW : Below w.heap.size w W) => known_any W (ht.below hW) (he.below hW))
  have CX := Lib.hid (fun W => lcompare_any va vb a1 a2 a3 a4 b1 a2 b3 b4 W)
  have CY := Lib.hid (fun W => lcompare_any vb vc b1 a2 b3 b4 c1 c2 c3 c4 W)
  have CZ := Lib.hid (fun W => lcompare_any va vc a1 a2 a3 a4 c1 c2 c3 c4 W)
  rw [hx] at CX
  rw [hy] at CY
  rw [hz] at CZ
  clear hx hy hz
  have xb : (x == (0 : Int)) = false := beq_false_of_ne x0
  go_enter Tryz.func4, Tryz.ntmps4
  go_wp2_with fail
  have A1 := blk_new w #[va, .int .i64 a1, .int .i64 a2, .int .i64 a3, .int .i64 a4] 25
  have A2 := blk_new (w.alloc (.cells #[va, .int .i64 a1, .int .i64 a2, .int .i64 a3, .int .i64 a4] 25)) #[vb, .int .i64 b1, .int .i64 a2, .int .i64 b3, .int .i64 b4] 25
  have A3 := blk_new ((w.alloc (.cells #[va, .int .i64 a1, .int .i64 a2, .int .i64 a3, .int .i64 a4] 25)).alloc (.cells #[vb, .int .i64 b1, .int .i64 a2, .int .i64 b3, .int .i64 b4] 25)) #[vc, .int .i64 c1, .int .i64 c2, .int .i64 c3, .int .i64 c4] 25
  rw [World.size_alloc] at A2
  rw [World.size_alloc, World.size_alloc] at A3
  have B1 := below_new (below_new (below_cells (w := w) (.cells #[va, .int .i64 a1, .int .i64 a2, .int .i64 a3, .int .i64 a4] 25)) (.cells #[vb, .int .i64 b1, .int .i64 a2, .int .i64 b3, .int .i64 b4] 25)) (.cells #[vc, .int .i64 c1, .int .i64 c2, .int .i64 c3, .int .i64 c4] 25)
  have D1 := blk_on (blk_on A1 (below_cells (.cells #[vb, .int .i64 b1, .int .i64 a2, .int .i64 b3, .int .i64 b4] 25))) (below_cells (.cells #[vc, .int .i64 c1, .int .i64 c2, .int .i64 c3, .int .i64 c4] 25))
  have D2 := blk_on A2 (below_cells (.cells #[vc, .int .i64 c1, .int .i64 c2, .int .i64 c3, .int .i64 c4] 25))
  clear A1 A2
  generalize ((w.alloc (.cells #[va, .int .i64 a1, .int .i64 a2, .int .i64 a3, .int .i64 a4] 25)).alloc (.cells #[vb, .int .i64 b1, .int .i64 a2, .int .i64 b3, .int .i64 b4] 25)).alloc (.cells #[vc, .int .i64 c1, .int .i64 c2, .int .i64 c3, .int .i64 c4] 25) = W0 at *
  refine (KN.out _ B1).mono ?_
  rintro e u0 ⟨rfl, hb⟩
  have E1 := blk_on D1 hb
  have E2 := blk_on D2 hb
  have E3 := blk_on A3 hb
  have C1 := B1.trans (hb.mono B1.size)
  clear D1 D2 A3 B1 hb
  have D1 := E1
  have D2 := E2
  have A3 := E3
  have B1 := C1
  clear E1 E2 E3 C1
  have p0 := (blk_at D1).cell 0 _ rfl
  have p1 := (blk_at D1).cell 1 _ rfl
  have p2 := (blk_at D1).cell 2 _ rfl
  have p3 := (blk_at D1).cell 3 _ rfl
  have p4 := (blk_at D1).cell 4 _ rfl
  have q0 := (blk_at D2).cell 0 _ rfl
  have q1 := (blk_at D2).cell 1 _ rfl
  have q2 := (blk_at D2).cell 2 _ rfl
  have q3 := (blk_at D2).cell 3 _ rfl
  have q4 := (blk_at D2).cell 4 _ rfl
  have r0 := (blk_at A3).cell 0 _ rfl
  have r1 := (blk_at A3).cell 1 _ rfl
  have r2 := (blk_at A3).cell 2 _ rfl
  have r3 := (blk_at A3).cell 3 _ rfl
  have r4 := (blk_at A3).cell 4 _ rfl
  go_wp2_with fail
  refine (CX.out _).mono ?_
  rintro e u1 ⟨rfl, hb⟩
  have E1 := blk_on D1 hb
  have E2 := blk_on D2 hb
  have E3 := blk_on A3 hb
  have C1 := B1.trans (hb.mono B1.size)
  clear D1 D2 A3 B1 hb p0 p1 p2 p3 p4 q0 q1 q2 q3 q4 r0 r1 r2 r3 r4
  have D1 := E1
  have D2 := E2
  have A3 := E3
  have B1 := C1
  clear E1 E2 E3 C1
  have p0 := (blk_at D1).cell 0 _ rfl
  have p1 := (blk_at D1).cell 1 _ rfl
  have p2 := (blk_at D1).cell 2 _ rfl
  have p3 := (blk_at D1).cell 3 _ rfl
  have p4 := (blk_at D1).cell 4 _ rfl
  have q0 := (blk_at D2).cell 0 _ rfl
  have q1 := (blk_at D2).cell 1 _ rfl
  have q2 := (blk_at D2).cell 2 _ rfl
  have q3 := (blk_at D2).cell 3 _ rfl
  have q4 := (blk_at D2).cell 4 _ rfl
  have r0 := (blk_at A3).cell 0 _ rfl
  have r1 := (blk_at A3).cell 1 _ rfl
  have r2 := (blk_at A3).cell 2 _ rfl
  have r3 := (blk_at A3).cell 3 _ rfl
  have r4 := (blk_at A3).cell 4 _ rfl
  go_wp2_with fail
  refine (CY.out _).mono ?_
  rintro e u2 ⟨rfl, hb⟩
  have E1 := blk_on D1 hb
  have E2 := blk_on D2 hb
  have E3 := blk_on A3 hb
  have C1 := B1.trans (hb.mono B1.size)
  clear D1 D2 A3 B1 hb p0 p1 p2 p3 p4 q0 q1 q2 q3 q4 r0 r1 r2 r3 r4
  have D1 := E1
  have D2 := E2
  have A3 := E3
  have B1 := C1
  clear E1 E2 E3 C1
  have p0 := (blk_at D1).cell 0 _ rfl
  have p1 := (blk_at D1).cell 1 _ rfl
  have p2 := (blk_at D1).cell 2 _ rfl
  have p3 := (blk_at D1).cell 3 _ rfl
  have p4 := (blk_at D1).cell 4 _ rfl
  have q0 := (blk_at D2).cell 0 _ rfl
  have q1 := (blk_at D2).cell 1 _ rfl
  have q2 := (blk_at D2).cell 2 _ rfl
  have q3 := (blk_at D2).cell 3 _ rfl
  have q4 := (blk_at D2).cell 4 _ rfl
  have r0 := (blk_at A3).cell 0 _ rfl
  have r1 := (blk_at A3).cell 1 _ rfl
  have r2 := (blk_at A3).cell 2 _ rfl
  have r3 := (blk_at A3).cell 3 _ rfl
  have r4 := (blk_at A3).cell 4 _ rfl
  go_wp2
  go_ret
  exact ⟨rfl, B1⟩
set_option maxHeartbeats 4000000 in
theorem order_dds (va vb vc : Value) (a1 a2 a3 a4 b1 b3 b4 c1 c2 c3 c4 : Int) (x y z : Int) (hx : cmpS a2 a3 a4 a2 b3 b4 = x) (hy : cmpS a2 b3 b4 c2 c3 c4 = y) (hz : cmpS a2 a3 a4 c2 c3 c4 = z) (x1 : x ≤ 0) (x0 : x ≠ 0) (y1 : y ≤ 0) (z0 : ¬ 0 < z) (z1 : z ≠ 0) (h3 : a3 ≠ b3) (w : World) (ht : Tab w) (he : ErrsOk w) :
    Calls Tryz.prog 4 #[.agg #[va, .int .i64 a1, .int .i64 a2, .int .i64 a3, .int .i64 a4], .agg #[vb, .int .i64 b1, .int .i64 a2, .int .i64 b3, .int .i64 b4], .agg #[vc, .int .i64 c1, .int .i64 c2, .int .i64 c3, .int .i64 c4]] w fun e w' => e = .returned (.bool true) ∧ Below w.heap.size w w' := by
  have KN := Lib.hid (fun W (hW : Below w.heap.size w W) => known_any W (ht.below hW) (he.below hW))
  have CX := Lib.hid (fun W => lcompare_any va vb a1 a2 a3 a4 b1 a2 b3 b4 W)
  have CY := Lib.hid (fun W => lcompare_any vb vc b1 a2 b3 b4 c1 c2 c3 c4 W)
  have CZ := Lib.hid (fun W => lcompare_any va vc a1 a2 a3 a4 c1 c2 c3 c4 W)
  rw [hx] at CX
  rw [hy] at CY
  rw [hz] at CZ
  clear hx hy hz
  have xb : (x == (0 : Int)) = false := beq_false_of_ne x0
  go_enter Tryz.func4, Tryz.ntmps4
  go_wp2_with fail
  have A1 := blk_new w #[va, .int .i64 a1, .int .i64 a2, .int .i64 a3, .int .i64 a4] 25
  have A2 := blk_new (w.alloc (.cells #[va, .int .i64 a1, .int .i64 a2, .int .i64 a3, .int .i64 a4] 25)) #[vb, .int .i64 b1, .int .i64 a2, .int .i64 b3, .int .i64 b4] 25
  have A3 := blk_new ((w.alloc (.cells #[va, .int .i64 a1, .int .i64 a2, .int .i64 a3, .int .i64 a4] 25)).alloc (.cells #[vb, .int .i64 b1, .int .i64 a2, .int .i64 b3, .int .i64 b4] 25)) #[vc, .int .i64 c1, .int .i64 c2, .int .i64 c3, .int .i64 c4] 25
  rw [World.size_alloc] at A2
  rw [World.size_alloc, World.size_alloc] at A3
  have B1 := below_new (below_new (below_cells (w := w) (.cells #[va, .int .i64 a1, .int .i64 a2, .int .i64 a3, .int .i64 a4] 25)) (.cells #[vb, .int .i64 b1, .int .i64 a2, .int .i64 b3, .int .i64 b4] 25)) (.cells #[vc, .int .i64 c1, .int .i64 c2, .int .i64 c3, .int .i64 c4] 25)
  have D1 := blk_on (blk_on A1 (below_cells (.cells #[vb, .int .i64 b1, .int .i64 a2, .int .i64 b3, .int .i64 b4] 25))) (below_cells (.cells #[vc, .int .i64 c1, .int .i64 c2, .int .i64 c3, .int .i64 c4] 25))
  have D2 := blk_on A2 (below_cells (.cells #[vc, .int .i64 c1, .int .i64 c2, .int .i64 c3, .int .i64 c4] 25))
  clear A1 A2
  generalize ((w.alloc (.cells #[va, .int .i64 a1, .int .i64 a2, .int .i64 a3, .int .i64 a4] 25)).alloc (.cells #[vb, .int .i64 b1, .int .i64 a2, .int .i64 b3, .int .i64 b4] 25)).alloc (.cells #[vc, .int .i64 c1, .int .i64 c2, .int .i64 c3, .int .i64 c4] 25) = W0 at *
  refine (KN.out _ B1).mono ?_
  rintro e u0 ⟨rfl, hb⟩
  have E1 := blk_on D1 hb
  have E2 := blk_on D2 hb
  have E3 := blk_on A3 hb
  have C1 := B1.trans (hb.mono B1.size)
  clear D1 D2 A3 B1 hb
  have D1 := E1
  have D2 := E2
  have A3 := E3
  have B1 := C1
  clear E1 E2 E3 C1
  have p0 := (blk_at D1).cell 0 _ rfl
  have p1 := (blk_at D1).cell 1 _ rfl
  have p2 := (blk_at D1).cell 2 _ rfl
  have p3 := (blk_at D1).cell 3 _ rfl
  have p4 := (blk_at D1).cell 4 _ rfl
  have q0 := (blk_at D2).cell 0 _ rfl
  have q1 := (blk_at D2).cell 1 _ rfl
  have q2 := (blk_at D2).cell 2 _ rfl
  have q3 := (blk_at D2).cell 3 _ rfl
  have q4 := (blk_at D2).cell 4 _ rfl
  have r0 := (blk_at A3).cell 0 _ rfl
  have r1 := (blk_at A3).cell 1 _ rfl
  have r2 := (blk_at A3).cell 2 _ rfl
  have r3 := (blk_at A3).cell 3 _ rfl
  have r4 := (blk_at A3).cell 4 _ rfl
  go_wp2_with fail
  refine (CX.out _).mono ?_
  rintro e u1 ⟨rfl, hb⟩
  have E1 := blk_on D1 hb
  have E2 := blk_on D2 hb
  have E3 := blk_on A3 hb
  have C1 := B1.trans (hb.mono B1.size)
  clear D1 D2 A3 B1 hb p0 p1 p2 p3 p4 q0 q1 q2 q3 q4 r0 r1 r2 r3 r4
  have D1 := E1
  have D2 := E2
  have A3 := E3
  have B1 := C1
  clear E1 E2 E3 C1
  have p0 := (blk_at D1).cell 0 _ rfl
  have p1 := (blk_at D1).cell 1 _ rfl
  have p2 := (blk_at D1).cell 2 _ rfl
  have p3 := (blk_at D1).cell 3 _ rfl
  have p4 := (blk_at D1).cell 4 _ rfl
  have q0 := (blk_at D2).cell 0 _ rfl
  have q1 := (blk_at D2).cell 1 _ rfl
  have q2 := (blk_at D2).cell 2 _ rfl
  have q3 := (blk_at D2).cell 3 _ rfl
  have q4 := (blk_at D2).cell 4 _ rfl
  have r0 := (blk_at A3).cell 0 _ rfl
  have r1 := (blk_at A3).cell 1 _ rfl
  have r2 := (blk_at A3).cell 2 _ rfl
  have r3 := (blk_at A3).cell 3 _ rfl
  have r4 := (blk_at A3).cell 4 _ rfl
  go_wp2_with fail
  refine (CY.out _).mono ?_
  rintro e u2 ⟨rfl, hb⟩
  have E1 := blk_on D1 hb
  have E2 := blk_on D2 hb
  have E3 := blk_on A3 hb
  have C1 := B1.trans (hb.mono B1.size)
  clear D1 D2 A3 B1 hb p0 p1 p2 p3 p4 q0 q1 q2 q3 q4 r0 r1 r2 r3 r4
  have D1 := E1
  have D2 := E2
  have A3 := E3
  have B1 := C1
  clear E1 E2 E3 C1
  have p0 := (blk_at D1).cell 0 _ rfl
  have p1 := (blk_at D1).cell 1 _ rfl
  have p2 := (blk_at D1).cell 2 _ rfl
  have p3 := (blk_at D1).cell 3 _ rfl
  have p4 := (blk_at D1).cell 4 _ rfl
  have q0 := (blk_at D2).cell 0 _ rfl
  have q1 := (blk_at D2).cell 1 _ rfl
  have q2 := (blk_at D2).cell 2 _ rfl
  have q3 := (blk_at D2).cell 3 _ rfl
  have q4 := (blk_at D2).cell 4 _ rfl
  have r0 := (blk_at A3).cell 0 _ rfl
  have r1 := (blk_at A3).cell 1 _ rfl
  have r2 := (blk_at A3).cell 2 _ rfl
  have r3 := (blk_at A3).cell 3 _ rfl
  have r4 := (blk_at A3).cell 4 _ rfl
  go_wp2_with fail
  refine (CZ.out _).mono ?_
  rintro e u3 ⟨rfl, hb⟩
  have E1 := blk_on D1 hb
  have E2 := blk_on D2 hb
  have E3 := blk_on A3 hb
  have C1 := B1.trans (hb.mono B1.size)
  clear D1 D2 A3 B1 hb p0 p1 p2 p3 p4 q0 q1 q2 q3 q4 r0 r1 r2 r3 r4
  have D1 := E1
  have D2 := E2
  have A3 := E3
  have B1 := C1
  clear E1 E2 E3 C1
  have p0 := (blk_at D1).cell 0 _ rfl
  have p1 := (blk_at D1).cell 1 _ rfl
  have p2 := (blk_at D1).cell 2 _ rfl
  have p3 := (blk_at D1).cell 3 _ rfl
  have p4 := (blk_at D1).cell 4 _ rfl
  have q0 := (blk_at D2).cell 0 _ rfl
  have q1 := (blk_at D2).cell 1 _ rfl
  have q2 := (blk_at D2).cell 2 _ rfl
  have q3 := (blk_at D2).cell 3 _ rfl
  have q4 := (blk_at D2).cell 4 _ rfl
  have r0 := (blk_at A3).cell 0 _ rfl
  have r1 := (blk_at A3).cell 1 _ rfl
  have r2 := (blk_at A3).cell 2 _ rfl
  have r3 := (blk_at A3).cell 3 _ rfl
  have r4 := (blk_at A3).cell 4 _ rfl
  go_wp2_with fail
  refine (CZ.out _).mono ?_
  rintro e u4 ⟨rfl, hb⟩
  have E1 := blk_on D1 hb
  have E2 := blk_on D2 hb
  have E3 := blk_on A3 hb
  have C1 := B1.trans (hb.mono B1.size)
  clear D1 D2 A3 B1 hb p0 p1 p2 p3 p4 q0 q1 q2 q3 q4 r0 r1 r2 r3 r4
  have D1 := E1
  have D2 := E2
  have A3 := E3
  have B1 := C1
  clear E1 E2 E3 C1
  have p0 := (blk_at D1).cell 0 _ rfl
  have p1 := (blk_at D1).cell 1 _ rfl
  have p2 := (blk_at D1).cell 2 _ rfl
  have p3 := (blk_at D1).cell 3 _ rfl
  have p4 := (blk_at D1).cell 4 _ rfl
  have q0 := (blk_at D2).cell 0 _ rfl
  have q1 := (blk_at D2).cell 1 _ rfl
  have q2 := (blk_at D2).cell 2 _ rfl
  have q3 := (blk_at D2).cell 3 _ rfl
  have q4 := (blk_at D2).cell 4 _ rfl
  have r0 := (blk_at A3).cell 0 _ rfl
  have r1 := (blk_at A3).cell 1 _ rfl
  have r2 := (blk_at A3).cell 2 _ rfl
  have r3 := (blk_at A3).cell 3 _ rfl
  have r4 := (blk_at A3).cell 4 _ rfl
  go_wp2
  go_ret
  exact ⟨rfl, B1⟩
set_option maxHeartbeats 4000000 in
theorem order_upq (va vb vc : Value) (a1 a2 a3 a4 b1 b4 c1 c2 c3 c4 : Int) (x y z : Int) (hx : cmpS a2 a3 a4 a2 a3 b4 = x) (hy : cmpS a2 a3 b4 c2 c3 c4 = y) (hz : cmpS a2 a3 a4 c2 c3 c4 = z) (x1 : ¬ x ≤ 0) (x0 : x ≠ 0) (h4 : a4 ≠ b4) (w : World) (ht : Tab w) (he : ErrsOk w) :
    Calls Tryz.prog 4 #[.agg #[va, .int .i64 a1, .int .i64 a2, .int .i64 a3, .int .i64 a4], .agg #[vb, .int .i64 b1, .int .i64 a2, .int .i64 a3, .int .i64 b4], .agg #[vc, .int .i64 c1, .int .i64 c2, .int .i64 c3, .int .i64 c4]] w fun e w' => e = .returned (.bool true) ∧ Below w.heap.size w w' := by
  have KN := Lib.hid (fun W (hW : Below w.heap.size w W) => known_any W (ht.below hW) (he.below hW))
  have CX := Lib.hid (fun W => lcompare_any va vb a1 a2 a3 a4 b1 a2 a3 b4 W)
  have CY := Lib.hid (fun W => lcompare_any vb vc b1 a2 a3 b4 c1 c2 c3 c4 W)
  have CZ := Lib.hid (fun W => lcompare_any va vc a1 a2 a3 a4 c1 c2 c3 c4 W)
  rw [hx] at CX
  rw [hy] at CY
  rw [hz] at CZ
  clear hx hy hz
  have xb : (x == (0 : Int)) = false := beq_false_of_ne x0
  have hb4 := beq_false_of_ne h4
  go_enter Tryz.func4, Tryz.ntmps4
  go_wp2_with fail
  have A1 := blk_new w #[va, .int .i64 a1, .int .i64 a2, .int .i64 a3, .int .i64 a4] 25
  have A2 := blk_new (w.alloc (.cells #[va, .int .i64 a1, .int .i64 a2, .int .i64 a3, .int .i64 a4] 25)) #[vb, .int .i64 b1, .int .i64 a2, .int .i64 a3, .int .i64 b4] 25
  have A3 := blk_new ((w.alloc (.cells #[va, .int .i64 a1, .int .i64 a2, .int .i64 a3, .int .i64 a4] 25)).alloc (.cells #[vb, .int .i64 b1, .int .i64 a2, .int .i64 a3, .int .i64 b4] 25)) #[vc, .int .i64 c1, .int .i64 c2, .int .i64 c3, .int .i64 c4] 25
  rw [World.size_alloc] at A2
  rw [World.size_alloc, World.size_alloc] at A3
  have B1 := below_new (below_new (below_cells (w := w) (.cells #[va, .int .i64 a1, .int .i64 a2, .int .i64 a3, .int .i64 a4] 25)) (.cells #[vb, .int .i64 b1, .int .i64 a2, .int .i64 a3, .int .i64 b4] 25)) (.cells #[vc, .int .i64 c1, .int .i64 c2, .int .i64 c3, .int .i64 c4] 25)
  have D1 := blk_on (blk_on A1 (below_cells (.cells #[vb, .int .i64 b1, .int .i64 a2, .int .i64 a3, .int .i64 b4] 25))) (below_cells (.cells #[vc, .int .i64 c1, .int .i64 c2, .int .i64 c3, .int .i64 c4] 25))
  have D2 := blk_on A2 (below_cells (.cells #[vc, .int .i64 c1, .int .i64 c2, .int .i64 c3, .int .i64 c4] 25))
  clear A1 A2
  generalize ((w.alloc (.cells #[va, .int .i64 a1, .int .i64 a2, .int .i64 a3, .int .i64 a4] 25)).alloc (.cells #[vb, .int .i64 b1, .int .i64 a2, .int .i64 a3, .int .i64 b4] 25)).alloc (.cells #[vc, .int .i64 c1, .int .i64 c2, .int .i64 c3, .int .i64 c4] 25) = W0 at *
  refine (KN.out _ B1).mono ?_
  rintro e u0 ⟨rfl, hb⟩
  have E1 := blk_on D1 hb
  have E2 := blk_on D2 hb
  have E3 := blk_on A3 hb
  have C1 := B1.trans (hb.mono B1.size)
  clear D1 D2 A3 B1 hb
  have D1 := E1
  have D2 := E2
  have A3 := E3
  have B1 := C1
  clear E1 E2 E3 C1
  have p0 := (blk_at D1).cell 0 _ rfl
  have p1 := (blk_at D1).cell 1 _ rfl
  have p2 := (blk_at D1).cell 2 _ rfl
  have p3 := (blk_at D1).cell 3 _ rfl
  have p4 := (blk_at D1).cell 4 _ rfl
  have q0 := (blk_at D2).cell 0 _ rfl
  have q1 := (blk_at D2).cell 1 _ rfl
  have q2 := (blk_at D2).cell 2 _ rfl
  have q3 := (blk_at D2).cell 3 _ rfl
  have q4 := (blk_at D2).cell 4 _ rfl
  have r0 := (blk_at A3).cell 0 _ rfl
  have r1 := (blk_at A3).cell 1 _ rfl
  have r2 := (blk_at A3).cell 2 _ rfl
  have r3 := (blk_at A3).cell 3 _ rfl
  have r4 := (blk_at A3).cell 4 _ rfl
  go_wp2_with fail
  refine (CX.out _).mono ?_
  rintro e u1 ⟨rfl, hb⟩
  have E1 := blk_on D1 hb
  have E2 := blk_on D2 hb
  have E3 := blk_on A3 hb
  have C1 := B1.trans (hb.mono B1.size)
  clear D1 D2 A3 B1 hb p0 p1 p2 p3 p4 q0 q1 q2 q3 q4 r0 r1 r2 r3 r4
  have D1 := E1
  have D2 := E2
  have A3 := E3
  have B1 := C1
  clear E1 E2 E3 C1
  have p0 := (blk_at D1).cell 0 _ rfl
  have p1 := (blk_at D1).cell 1 _ rfl
  have p2 := (blk_at D1).cell 2 _ rfl
  have p3 := (blk_at D1).cell 3 _ rfl
  have p4 := (blk_at D1).cell 4 _ rfl
  have q0 := (blk_at D2).cell 0 _ rfl
  have q1 := (blk_at D2).cell 1 _ rfl
  have q2 := (blk_at D2).cell 2 _ rfl
  have q3 := (blk_at D2).cell 3 _ rfl
  have q4 := (blk_at D2).cell 4 _ rfl
  have r0 := (blk_at A3).cell 0 _ rfl
  have r1 := (blk_at A3).cell 1 _ rfl
  have r2 := (blk_at A3).cell 2 _ rfl
  have r3 := (blk_at A3).cell 3 _ rfl
  have r4 := (blk_at A3).cell 4 _ rfl
  go_wp2_with fail
  refine (CY.out _).mono ?_
  rintro e u2 ⟨rfl, hb⟩
  have E1 := blk_on D1 hb
  have E2 := blk_on D2 hb
  have E3 := blk_on A3 hb
  have C1 := B1.trans (hb.mono B1.size)
  clear D1 D2 A3 B1 hb p0 p1 p2 p3 p4 q0 q1 q2 q3 q4 r0 r1 r2 r3 r4
  have D1 := E1
  have D2 := E2
  have A3 := E3
  have B1 := C1
  clear E1 E2 E3 C1
  have p0 := (blk_at D1).cell 0 _ rfl
  have p1 := (blk_at D1).cell 1 _ rfl
  have p2 := (blk_at D1).cell 2 _ rfl
  have p3 := (blk_at D1).cell 3 _ rfl
  have p4 := (blk_at D1).cell 4 _ rfl
  have q0 := (blk_at D2).cell 0 _ rfl
  have q1 := (blk_at D2).cell 1 _ rfl
  have q2 := (blk_at D2).cell 2 _ rfl
  have q3 := (blk_at D2).cell 3 _ rfl
  have q4 := (blk_at D2).cell 4 _ rfl
  have r0 := (blk_at A3).cell 0 _ rfl
  have r1 := (blk_at A3).cell 1 _ rfl
  have r2 := (blk_at A3).cell 2 _ rfl
  have r3 := (blk_at A3).cell 3 _ rfl
  have r4 := (blk_at A3).cell 4 _ rfl
  go_wp2
  go_ret
  exact ⟨by first | rfl | (simp [xb, hb4]; done), B1⟩
set_option maxHeartbeats 4000000 in
theorem order_dnq (va vb vc : Value) (a1 a2 a3 a4 b1 b4 c1 c2 c3 c4 : Int) (x y z : Int) (hx : cmpS a2 a3 a4 a2 a3 b4 = x) (hy : cmpS a2 a3 b4 c2 c3 c4 = y) (hz : cmpS a2 a3 a4 c2 c3 c4 = z) (x1 : x ≤ 0) (x0 : x ≠ 0) (y1 : ¬ y ≤ 0) (h4 : a4 ≠ b4) (w : World) (ht : Tab w) (he : ErrsOk w) :
    Calls Tryz.prog 4 #[.agg #[va, .int .i64 a1, .int .i64 a2, .int .i64 a3, .int .i64 a4], .agg #[vb, .int .i64 b1, .int .i64 a2, .int .i64 a3, .int .i64 b4], .agg #[vc, .int .i64 c1, .int .i64 c2, .int .i64 c3, .int .i64 c4]] w fun e w' => e = .returned (.bool true) ∧ Below w.heap.size w w' := by
  have KN := Lib.hid (fun W (hW : Below w.heap.size w W) => known_any W (ht.below hW) (he.below hW))
  have CX := Lib.hid (fun W => lcompare_any va vb a1 a2 a3 a4 b1 a2 a3 b4 W)
  have CY := Lib.hid (fun W => lcompare_any vb vc b1 a2 a3 b4 c1 c2 c3 c4 W)
  have CZ := Lib.hid (fun W => lcompare_any va vc a1 a2 a3 a4 c1 c2 c3 c4 W)
  rw [hx] at CX
  rw [hy] at CY
  rw [hz] at CZ
  clear hx hy hz
  have xb : (x == (0 : Int)) = false := beq_false_of_ne x0
  have hb4 := beq_false_of_ne h4
  go_enter Tryz.func4, Tryz.ntmps4
  go_wp2_with fail
  have A1 := blk_new w #[va, .int .i64 a1, .int .i64 a2, .int .i64 a3, .int .i64 a4] 25
  have A2 := blk_new (w.alloc (.cells #[va, .int .i64 a1, .int .i64 a2, .int .i64 a3, .int .i64 a4] 25)) #[vb, .int .i64 b1, .int .i64 a2, .int .i64 a3, .int .i64 b4] 25
  have A3 := blk_new ((w.alloc (.cells #[va, .int .i64 a1, .int .i64 a2, .int .i64 a3, .int .i64 a4] 25)).alloc (.cells #[vb, .int .i64 b1, .int .i64 a2, .int .i64 a3, .int .i64 b4] 25)) #[vc, .int .i64 c1, .int .i64 c2, .int .i64 c3, .int .i64 c4] 25
  rw [World.size_alloc] at A2
  rw [World.size_alloc, World.size_alloc] at A3
  have B1 := below_new (below_new (below_cells (w := w) (.cells #[va, .int .i64 a1, .int .i64 a2, .int .i64 a3, .int .i64 a4] 25)) (.cells #[vb, .int .i64 b1, .int .i64 a2, .int .i64 a3, .int .i64 b4] 25)) (.cells #[vc, .int .i64 c1, .int .i64 c2, .int .i64 c3, .int .i64 c4] 25)
  have D1 := blk_on (blk_on A1 (below_cells (.cells #[vb, .int .i64 b1, .int .i64 a2, .int .i64 a3, .int .i64 b4] 25))) (below_cells (.cells #[vc, .int .i64 c1, .int .i64 c2, .int .i64 c3, .int .i64 c4] 25))
  have D2 := blk_on A2 (below_cells (.cells #[vc, .int .i64 c1, .int .i64 c2, .int .i64 c3, .int .i64 c4] 25))
  clear A1 A2
  generalize ((w.alloc (.cells #[va, .int .i64 a1, .int .i64 a2, .int .i64 a3, .int .i64 a4] 25)).alloc (.cells #[vb, .int .i64 b1, .int .i64 a2, .int .i64 a3, .int .i64 b4] 25)).alloc (.cells #[vc, .int .i64 c1, .int .i64 c2, .int .i64 c3, .int .i64 c4] 25) = W0 at *
  refine (KN.out _ B1).mono ?_
  rintro e u0 ⟨rfl, hb⟩
  have E1 := blk_on D1 hb
  have E2 := blk_on D2 hb
  have E3 := blk_on A3 hb
  have C1 := B1.trans (hb.mono B1.size)
  clear D1 D2 A3 B1 hb
  have D1 := E1
  have D2 := E2
  have A3 := E3
  have B1 := C1
  clear E1 E2 E3 C1
  have p0 := (blk_at D1).cell 0 _ rfl
  have p1 := (blk_at D1).cell 1 _ rfl
  have p2 := (blk_at D1).cell 2 _ rfl
  have p3 := (blk_at D1).cell 3 _ rfl
  have p4 := (blk_at D1).cell 4 _ rfl
  have q0 := (blk_at D2).cell 0 _ rfl
  have q1 := (blk_at D2).cell 1 _ rfl
  have q2 := (blk_at D2).cell 2 _ rfl
  have q3 := (blk_at D2).cell 3 _ rfl
  have q4 := (blk_at D2).cell 4 _ rfl
  have r0 := (blk_at A3).cell 0 _ rfl
  have r1 := (blk_at A3).cell 1 _ rfl
  have r2 := (blk_at A3).cell 2 _ rfl
  have r3 := (blk_at A3).cell 3 _ rfl
  have r4 := (blk_at A3).cell 4 _ rfl
  go_wp2_with fail
  refine (CX.out _).mono ?_
  rintro e u1 ⟨rfl, hb⟩
  have E1 := blk_on D1 hb
  have E2 := blk_on D2 hb
  have E3 := blk_on A3 hb
  have C1 := B1.trans (hb.mono B1.size)
  clear D1 D2 A3 B1 hb p0 p1 p2 p3 p4 q0 q1 q2 q3 q4 r0 r1 r2 r3 r4
  have D1 := E1
  have D2 := E2
  have A3 := E3
  have B1 := C1
  clear E1 E2 E3 C1
  have p0 := (blk_at D1).cell 0 _ rfl
  have p1 := (blk_at D1).cell 1 _ rfl
  have p2 := (blk_at D1).cell 2 _ rfl
  have p3 := (blk_at D1).cell 3 _ rfl
  have p4 := (blk_at D1).cell 4 _ rfl
  have q0 := (blk_at D2).cell 0 _ rfl
  have q1 := (blk_at D2).cell 1 _ rfl
  have q2 := (blk_at D2).cell 2 _ rfl
  have q3 := (blk_at D2).cell 3 _ rfl
  have q4 := (blk_at D2).cell 4 _ rfl
  have r0 := (blk_at A3).cell 0 _ rfl
  have r1 := (blk_at A3).cell 1 _ rfl
  have r2 := (blk_at A3).cell 2 _ rfl
  have r3 := (blk_at A3).cell 3 _ rfl
  have r4 := (blk_at A3).cell 4 _ rfl
  go_wp2_with fail
  refine (CY.out _).mono ?_
  rintro e u2 ⟨rfl, hb⟩
  have E1 := blk_on D1 hb
  have E2 := blk_on D2 hb
  have E3 := blk_on A3 hb
  have C1 := B1.trans (hb.mono B1.size)
  clear D1 D2 A3 B1 hb p0 p1 p2 p3 p4 q0 q1 q2 q3 q4 r0 r1 r2 r3 r4
  have D1 := E1
  have D2 := E2
  have A3 := E3
  have B1 := C1
  clear E1 E2 E3 C1
  have p0 := (blk_at D1).cell 0 _ rfl
  have p1 := (blk_at D1).cell 1 _ rfl
  have p2 := (blk_at D1).cell 2 _ rfl
  have p3 := (blk_at D1).cell 3 _ rfl
  have p4 := (blk_at D1).cell 4 _ rfl
  have q0 := (blk_at D2).cell 0 _ rfl
  have q1 := (blk_at D2).cell 1 _ rfl
  have q2 := (blk_at D2).cell 2 _ rfl
  have q3 := (blk_at D2).cell 3 _ rfl
  have q4 := (blk_at D2).cell 4 _ rfl
  have r0 := (blk_at A3).cell 0 _ rfl
  have r1 := (blk_at A3).cell 1 _ rfl
  have r2 := (blk_at A3).cell 2 _ rfl
  have r3 := (blk_at A3).cell 3 _ rfl
  have r4 := (blk_at A3).cell 4 _ rfl
  go_wp2
  go_ret
  exact ⟨by first | rfl | (simp [xb, hb4]; done), B1⟩
set_option maxHeartbeats 4000000 in
theorem order_ddq (va vb vc : Value) (a1 a2 a3 a4 b1 b4 c1 c2 c3 c4 : Int) (x y z : Int) (hx : cmpS a2 a3 a4 a2 a3 b4 = x) (hy : cmpS a2 a3 b4 c2 c3 c4 = y) (hz : cmpS a2 a3 a4 c2 c3 c4 = z) (x1 : x ≤ 0) (x0 : x ≠ 0) (y1 : y ≤ 0) (z0 : ¬ 0 < z) (z1 : z ≠ 0) (h4 : a4 ≠ b4) (w : World) (ht : Tab w) (he : ErrsOk w) :
    Calls Tryz.prog 4 #[.agg #[va, .int .i64 a1, .int .i64 a2, .int .i64 a3, .int .i64 a4], .agg #[vb, .int .i64 b1, .int .i64 a2, .int .i64 a3, .int .i64 b4], .agg #[vc, .int .i64 c1, .int .i64 c2, .int .i64 c3, .int .i64 c4]] w fun e w' => e = .returned (.bool true) ∧ Below w.heap.size w w' := by
  have KN := Lib.hid (fun W (hW : Below w.heap.size w W) => known_any W (ht.below hW) (he.below hW))
  have CX := Lib.hid (fun W => lcompare_any va vb a1 a2 a3 a4 b1 a2 a3 b4 W)
  have CY := Lib.hid (fun W => lcompare_any vb vc b1 a2 a3 b4 c1 c2 c3 c4 W)
  have CZ := Lib.hid (fun W => lcompare_any va vc a1 a2 a3 a4 c1 c2 c3 c4 W)
  rw [hx] at CX
  rw [hy] at CY
  rw [hz] at CZ
  clear hx hy hz
  have xb : (x == (0 : Int)) = false := beq_false_of_ne x0
  have hb4 := beq_false_of_ne h4
  go_enter Tryz.func4, Tryz.ntmps4
  go_wp2_with fail
  have A1 := blk_new w #[va, .int .i64 a1, .int .i64 a2, .int .i64 a3, .int .i64 a4] 25
  have A2 := blk_new (w.alloc (.cells #[va, .int .i64 a1, .int .i64 a2, .int .i64 a3, .int .i64 a4] 25)) #[vb, .int .i64 b1, .int .i64 a2, .int .i64 a3, .int .i64 b4] 25
  have A3 := blk_new ((w.alloc (.cells #[va, .int .i64 a1, .int .i64 a2, .int .i64 a3, .int .i64 a4] 25)).alloc (.cells #[vb, .int .i64 b1, .int .i64 a2, .int .i64 a3, .int .i64 b4] 25)) #[vc, .int .i64 c1, .int .i64 c2, .int .i64 c3, .int .i64 c4] 25
  rw [World.size_alloc] at A2
  rw [World.size_alloc, World.size_alloc] at A3
  have B1 := below_new (below_new (below_cells (w := w) (.cells #[va, .int .i64 a1, .int .i64 a2, .int .i64 a3, .int .i64 a4] 25)) (.cells #[vb, .int .i64 b1, .int .i64 a2, .int .i64 a3, .int .i64 b4] 25)) (.cells #[vc, .int .i64 c1, .int .i64 c2, .int .i64 c3, .int .i64 c4] 25)
  have D1 := blk_on (blk_on A1 (below_cells (.cells #[vb, .int .i64 b1, .int .i64 a2, .int .i64 a3, .int .i64 b4] 25))) (below_cells (.cells #[vc, .int .i64 c1, .int .i64 c2, .int .i64 c3, .int .i64 c4] 25))
  have D2 := blk_on A2 (below_cells (.cells #[vc, .int .i64 c1, .int .i64 c2, .int .i64 c3, .int .i64 c4] 25))
  clear A1 A2
  generalize ((w.alloc (.cells #[va, .int .i64 a1, .int .i64 a2, .int .i64 a3, .int .i64 a4] 25)).alloc (.cells #[vb, .int .i64 b1, .int .i64 a2, .int .i64 a3, .int .i64 b4] 25)).alloc (.cells #[vc, .int .i64 c1, .int .i64 c2, .int .i64 c3, .int .i64 c4] 25) = W0 at *
  refine (KN.out _ B1).mono ?_
  rintro e u0 ⟨rfl, hb⟩
  have E1 := blk_on D1 hb
  have E2 := blk_on D2 hb
  have E3 := blk_on A3 hb
  have C1 := B1.trans (hb.mono B1.size)
  clear D1 D2 A3 B1 hb
  have D1 := E1
  have D2 := E2
  have A3 := E3
  have B1 := C1
  clear E1 E2 E3 C1
  have p0 := (blk_at D1).cell 0 _ rfl
  have p1 := (blk_at D1).cell 1 _ rfl
  have p2 := (blk_at D1).cell 2 _ rfl
  have p3 := (blk_at D1).cell 3 _ rfl
  have p4 := (blk_at D1).cell 4 _ rfl
  have q0 := (blk_at D2).cell 0 _ rfl
  have q1 := (blk_at D2).cell 1 _ rfl
  have q2 := (blk_at D2).cell 2 _ rfl
  have q3 := (blk_at D2).cell 3 _ rfl
  have q4 := (blk_at D2).cell 4 _ rfl
  have r0 := (blk_at A3).cell 0 _ rfl
  have r1 := (blk_at A3).cell 1 _ rfl
  have r2 := (blk_at A3).cell 2 _ rfl
  have r3 := (blk_at A3).cell 3 _ rfl
  have r4 := (blk_at A3).cell 4 _ rfl
  go_wp2_with fail
  refine (CX.out _).mono ?_
  rintro e u1 ⟨rfl, hb⟩
  have E1 := blk_on D1 hb
  have E2 := blk_on D2 hb
  have E3 := blk_on A3 hb
  have C1 := B1.trans (hb.mono B1.size)
  clear D1 D2 A3 B1 hb p0 p1 p2 p3 p4 q0 q1 q2 q3 q4 r0 r1 r2 r3 r4
  have D1 := E1
  have D2 := E2
  have A3 := E3
  have B1 := C1
  clear E1 E2 E3 C1
  have p0 := (blk_at D1).cell 0 _ rfl
  have p1 := (blk_at D1).cell 1 _ rfl
  have p2 := (blk_at D1).cell 2 _ rfl
  have p3 := (blk_at D1).cell 3 _ rfl
  have p4 := (blk_at D1).cell 4 _ rfl
  have q0 := (blk_at D2).cell 0 _ rfl
  have q1 := (blk_at D2).cell 1 _ rfl
  have q2 := (blk_at D2).cell 2 _ rfl
  have q3 := (blk_at D2).cell 3 _ rfl
  have q4 := (blk_at D2).cell 4 _ rfl
  have r0 := (blk_at A3).cell 0 _ rfl
  have r1 := (blk_at A3).cell 1 _ rfl
  have r2 := (blk_at A3).cell 2 _ rfl
  have r3 := (blk_at A3).cell 3 _ rfl
  have r4 := (blk_at A3).cell 4 _ rfl
  go_wp2_with fail
  refine (CY.out _).mono ?_
  rintro e u2 ⟨rfl, hb⟩
  have E1 := blk_on D1 hb
  have E2 := blk_on D2 hb
  have E3 := blk_on A3 hb
  have C1 := B1.trans (hb.mono B1.size)
  clear D1 D2 A3 B1 hb p0 p1 p2 p3 p4 q0 q1 q2 q3 q4 r0 r1 r2 r3 r4
  have D1 := E1
  have D2 := E2
  have A3 := E3
  have B1 := C1
  clear E1 E2 E3 C1
  have p0 := (blk_at D1).cell 0 _ rfl
  have p1 := (blk_at D1).cell 1 _ rfl
  have p2 := (blk_at D1).cell 2 _ rfl
  have p3 := (blk_at D1).cell 3 _ rfl
  have p4 := (blk_at D1).cell 4 _ rfl
  have q0 := (blk_at D2).cell 0 _ rfl
  have q1 := (blk_at D2).cell 1 _ rfl
  have q2 := (blk_at D2).cell 2 _ rfl
  have q3 := (blk_at D2).cell 3 _ rfl
  have q4 := (blk_at D2).cell 4 _ rfl
  have r0 := (blk_at A3).cell 0 _ rfl
  have r1 := (blk_at A3).cell 1 _ rfl
  have r2 := (blk_at A3).cell 2 _ rfl
  have r3 := (blk_at A3).cell 3 _ rfl
  have r4 := (blk_at A3).cell 4 _ rfl
  go_wp2_with fail
  refine (CZ.out _).mono ?_
  rintro e u3 ⟨rfl, hb⟩
  have E1 := blk_on D1 hb
  have E2 := blk_on D2 hb
  have E3 := blk_on A3 hb
  have C1 := B1.trans (hb.mono B1.size)
  clear D1 D2 A3 B1 hb p0 p1 p2 p3 p4 q0 q1 q2 q3 q4 r0 r1 r2 r3 r4
  have D1 := E1
  have D2 := E2
  have A3 := E3
  have B1 := C1
  clear E1 E2 E3 C1
  have p0 := (blk_at D1).cell 0 _ rfl
  have p1 := (blk_at D1).cell 1 _ rfl
  have p2 := (blk_at D1).cell 2 _ rfl
  have p3 := (blk_at D1).cell 3 _ rfl
  have p4 := (blk_at D1).cell 4 _ rfl
  have q0 := (blk_at D2).cell 0 _ rfl
  have q1 := (blk_at D2).cell 1 _ rfl
  have q2 := (blk_at D2).cell 2 _ rfl
  have q3 := (blk_at D2).cell 3 _ rfl
  have q4 := (blk_at D2).cell 4 _ rfl
  have r0 := (blk_at A3).cell 0 _ rfl
  have r1 := (blk_at A3).cell 1 _ rfl
  have r2 := (blk_at A3).cell 2 _ rfl
  have r3 := (blk_at A3).cell 3 _ rfl
  have r4 := (blk_at A3).cell 4 _ rfl
  go_wp2_with fail
  refine (CZ.out _).mono ?_
  rintro e u4 ⟨rfl, hb⟩
  have E1 := blk_on D1 hb
  have E2 := blk_on D2 hb
  have E3 := blk_on A3 hb
  have C1 := B1.trans (hb.mono B1.size)
  clear D1 D2 A3 B1 hb p0 p1 p2 p3 p4 q0 q1 q2 q3 q4 r0 r1 r2 r3 r4
  have D1 := E1
  have D2 := E2
  have A3 := E3
  have B1 := C1
  clear E1 E2 E3 C1
  have p0 := (blk_at D1).cell 0 _ rfl
  have p1 := (blk_at D1).cell 1 _ rfl
  have p2 := (blk_at D1).cell 2 _ rfl
  have p3 := (blk_at D1).cell 3 _ rfl
  have p4 := (blk_at D1).cell 4 _ rfl
  have q0 := (blk_at D2).cell 0 _ rfl
  have q1 := (blk_at D2).cell 1 _ rfl
  have q2 := (blk_at D2).cell 2 _ rfl
  have q3 := (blk_at D2).cell 3 _ rfl
  have q4 := (blk_at D2).cell 4 _ rfl
  have r0 := (blk_at A3).cell 0 _ rfl
  have r1 := (blk_at A3).cell 1 _ rfl
  have r2 := (blk_at A3).cell 2 _ rfl
  have r3 := (blk_at A3).cell 3 _ rfl
  have r4 := (blk_at A3).cell 4 _ rfl
  go_wp2
  go_ret
  exact ⟨by first | rfl | (simp [xb, hb4]; done), B1⟩
set_option maxHeartbeats 4000000 in
theorem order_eu (va vb vc : Value) (a1 a2 a3 a4 b1 c1 c2 c3 c4 : Int) (x y z : Int) (hx : cmpS a2 a3 a4 a2 a3 a4 = x) (hy : cmpS a2 a3 a4 c2 c3 c4 = y) (hz : cmpS a2 a3 a4 c2 c3 c4 = z) (x1 : x = 0) (y1 : ¬ y ≤ 0) (w : World) (ht : Tab w) (he : ErrsOk w) :
    Calls Tryz.prog 4 #[.agg #[va, .int .i64 a1, .int .i64 a2, .int .i64 a3, .int .i64 a4], .agg #[vb, .int .i64 b1, .int .i64 a2, .int .i64 a3, .int .i64 a4], .agg #[vc, .int .i64 c1, .int .i64 c2, .int .i64 c3, .int .i64 c4]] w fun e w' => e = .returned (.bool true) ∧ Below w.heap.size w w' := by
  have KN := Lib.hid (fun W (hW : Below w.heap.size w W) => known_any W (ht.below hW) (he.below hW))
  have CX := Lib.hid (fun W => lcompare_any va vb a1 a2 a3 a4 b1 a2 a3 a4 W)
  have CY := Lib.hid (fun W => lcompare_any vb vc b1 a2 a3 a4 c1 c2 c3 c4 W)
  have CZ := Lib.hid (fun W => lcompare_any va vc a1 a2 a3 a4 c1 c2 c3 c4 W)
  rw [hx] at CX
  rw [hy] at CY
  rw [hz] at CZ
  clear hx hy hz
  go_enter Tryz.func4, Tryz.ntmps4
  go_wp2_with fail
  have A1 := blk_new w #[va, .int .i64 a1, .int .i64 a2, .int .i64 a3, .int .i64 a4] 25
  have A2 := blk_new (w.alloc (.cells #[va, .int .i64 a1, .int .i64 a2, .int .i64 a3, .int .i64 a4] 25)) #[vb, .int .i64 b1, .int .i64 a2, .int .i64 a3, .int .i64 a4] 25
  have A3 := blk_new ((w.alloc (.cells #[va, .int .i64 a1, .int .i64 a2, .int .i64 a3, .int .i64 a4] 25)).alloc (.cells #[vb, .int .i64 b1, .int .i64 a2, .int .i64 a3, .int .i64 a4] 25)) #[vc, .int .i64 c1, .int .i64 c2, .int .i64 c3, .int .i64 c4] 25
  rw [World.size_alloc] at A2
  rw [World.size_alloc, World.size_alloc] at A3
  have B1 := below_new (below_new (below_cells (w := w) (.cells #[va, .int .i64 a1, .int .i64 a2, .int .i64 a3, .int .i64 a4] 25)) (.cells #[vb, .int .i64 b1, .int .i64 a2, .int .i64 a3, .int .i64 a4] 25)) (.cells #[vc, .int .i64 c1, .int .i64 c2, .int .i64 c3, .int .i64 c4] 25)
  have D1 := blk_on (blk_on A1 (below_cells (.cells #[vb, .int .i64 b1, .int .i64 a2, .int .i64 a3, .int .i64 a4] 25))) (below_cells (.cells #[vc, .int .i64 c1, .int .i64 c2, .int .i64 c3, .int .i64 c4] 25))
  have D2 := blk_on A2 (below_cells (.cells #[vc, .int .i64 c1, .int .i64 c2, .int .i64 c3, .int .i64 c4] 25))
  clear A1 A2
  generalize ((w.alloc (.cells #[va, .int .i64 a1, .int .i64 a2, .int .i64 a3, .int .i64 a4] 25)).alloc (.cells #[vb, .int .i64 b1, .int .i64 a2, .int .i64 a3, .int .i64 a4] 25)).alloc (.cells #[vc, .int .i64 c1, .int .i64 c2, .int .i64 c3, .int .i64 c4] 25) = W0 at *
  refine (KN.out _ B1).mono ?_
  rintro e u0 ⟨rfl, hb⟩
  have E1 := blk_on D1 hb
  have E2 := blk_on D2 hb
  have E3 := blk_on A3 hb
  have C1 := B1.trans (hb.mono B1.size)
  clear D1 D2 A3 B1 hb
  have D1 := E1
  have D2 := E2
  have A3 := E3
  have B1 := C1
  clear E1 E2 E3 C1
  have p0 := (blk_at D1).cell 0 _ rfl
  have p1 := (blk_at D1).cell 1 _ rfl
  have p2 := (blk_at D1).cell 2 _ rfl
  have p3 := (blk_at D1).cell 3 _ rfl
  have p4 := (blk_at D1).cell 4 _ rfl
  have q0 := (blk_at D2).cell 0 _ rfl
  have q1 := (blk_at D2).cell 1 _ rfl
  have q2 := (blk_at D2).cell 2 _ rfl
  have q3 := (blk_at D2).cell 3 _ rfl
  have q4 := (blk_at D2).cell 4 _ rfl
  have r0 := (blk_at A3).cell 0 _ rfl
  have r1 := (blk_at A3).cell 1 _ rfl
  have r2 := (blk_at A3).cell 2 _ rfl
  have r3 := (blk_at A3).cell 3 _ rfl
  have r4 := (blk_at A3).cell 4 _ rfl
  go_wp2_with fail
  refine (CX.out _).mono ?_
  rintro e u1 ⟨rfl, hb⟩
  have E1 := blk_on D1 hb
  have E2 := blk_on D2 hb
  have E3 := blk_on A3 hb
  have C1 := B1.trans (hb.mono B1.size)
  clear D1 D2 A3 B1 hb p0 p1 p2 p3 p4 q0 q1 q2 q3 q4 r0 r1 r2 r3 r4
  have D1 := E1
  have D2 := E2
  have A3 := E3
  have B1 := C1
  clear E1 E2 E3 C1
  have p0 := (blk_at D1).cell 0 _ rfl
  have p1 := (blk_at D1).cell 1 _ rfl
  have p2 := (blk_at D1).cell 2 _ rfl
  have p3 := (blk_at D1).cell 3 _ rfl
  have p4 := (blk_at D1).cell 4 _ rfl
  have q0 := (blk_at D2).cell 0 _ rfl
  have q1 := (blk_at D2).cell 1 _ rfl
  have q2 := (blk_at D2).cell 2 _ rfl
  have q3 := (blk_at D2).cell 3 _ rfl
  have q4 := (blk_at D2).cell 4 _ rfl
  have r0 := (blk_at A3).cell 0 _ rfl
  have r1 := (blk_at A3).cell 1 _ rfl
  have r2 := (blk_at A3).cell 2 _ rfl
  have r3 := (blk_at A3).cell 3 _ rfl
  have r4 := (blk_at A3).cell 4 _ rfl
  go_wp2_with fail
  refine (CY.out _).mono ?_
  rintro e u2 ⟨rfl, hb⟩
  have E1 := blk_on D1 hb
  have E2 := blk_on D2 hb
  have E3 := blk_on A3 hb
  have C1 := B1.trans (hb.mono B1.size)
  clear D1 D2 A3 B1 hb p0 p1 p2 p3 p4 q0 q1 q2 q3 q4 r0 r1 r2 r3 r4
  have D1 := E1
  have D2 := E2
  have A3 := E3
  have B1 := C1
  clear E1 E2 E3 C1
  have p0 := (blk_at D1).cell 0 _ rfl
  have p1 := (blk_at D1).cell 1 _ rfl
  have p2 := (blk_at D1).cell 2 _ rfl
  have p3 := (blk_at D1).cell 3 _ rfl
  have p4 := (blk_at D1).cell 4 _ rfl
  have q0 := (blk_at D2).cell 0 _ rfl
  have q1 := (blk_at D2).cell 1 _ rfl
  have q2 := (blk_at D2).cell 2 _ rfl
  have q3 := (blk_at D2).cell 3 _ rfl
  have q4 := (blk_at D2).cell 4 _ rfl
  have r0 := (blk_at A3).cell 0 _ rfl
  have r1 := (blk_at A3).cell 1 _ rfl
  have r2 := (blk_at A3).cell 2 _ rfl
  have r3 := (blk_at A3).cell 3 _ rfl
  have r4 := (blk_at A3).cell 4 _ rfl
  go_wp2
  go_ret
  exact ⟨rfl, B1⟩
set_option maxHeartbeats 4000000 in
theorem order_ed (va vb vc : Value) (a1 a2 a3 a4 b1 c1 c2 c3 c4 : Int) (x y z : Int) (hx : cmpS a2 a3 a4 a2 a3 a4 = x) (hy : cmpS a2 a3 a4 c2 c3 c4 = y) (hz : cmpS a2 a3 a4 c2 c3 c4 = z) (x1 : x = 0) (y1 : y ≤ 0) (z0 : ¬ 0 < z) (z1 : z ≠ 0) (w : World) (ht : Tab w) (he : ErrsOk w) :
    Calls Tryz.prog 4 #[.agg #[va, .int .i64 a1, .int .i64 a2, .int .i64 a3, .int .i64 a4], .agg #[vb, .int .i64 b1, .int .i64 a2, .int .i64 a3, .int .i64 a4], .agg #[vc, .int .i64 c1, .int .i64 c2, .int .i64 c3, .int .i64 c4]] w fun e w' => e = .returned (.bool true) ∧ Below w.heap.size w w' := by
  have KN := Lib.hid (fun W (hW : Below w.heap.size w W) => known_any W (ht.below hW) (he.below hW))
  have CX := Lib.hid (fun W => lcompare_any va vb a1 a2 a3 a4 b1 a2 a3 a4 W)
  have CY := Lib.hid (fun W => lcompare_any vb vc b1 a2 a3 a4 c1 c2 c3 c4 W)
  have CZ := Lib.hid (fun W => lcompare_any va vc a1 a2 a3 a4 c1 c2 c3 c4 W)
  rw [hx] at CX
  rw [hy] at CY
  rw [hz] at CZ
  clear hx hy hz
  go_enter Tryz.func4, Tryz.ntmps4
  go_wp2_with fail
  have A1 := blk_new w #[va, .int .i64 a1, .int .i64 a2, .int .i64 a3, .int .i64 a4] 25
  have A2 := blk_new (w.alloc (.cells #[va, .int .i64 a1, .int .i64 a2, .int .i64 a3, .int .i64 a4] 25)) #[vb, .int .i64 b1, .int .i64 a2, .int .i64 a3, .int .i64 a4] 25
  have A3 := blk_new ((w.alloc (.cells #[va, .int .i64 a1, .int .i64 a2, .int .i64 a3, .int .i64 a4] 25)).alloc (.cells #[vb, .int .i64 b1, .int .i64 a2, .int .i64 a3, .int .i64 a4] 25)) #[vc, .int .i64 c1, .int .i64 c2, .int .i64 c3, .int .i64 c4] 25
  rw [World.size_alloc] at A2
  rw [World.size_alloc, World.size_alloc] at A3
  have B1 := below_new (below_new (below_cells (w := w) (.cells #[va, .int .i64 a1, .int .i64 a2, .int .i64 a3, .int .i64 a4] 25)) (.cells #[vb, .int .i64 b1, .int .i64 a2, .int .i64 a3, .int .i64 a4] 25)) (.cells #[vc, .int .i64 c1, .int .i64 c2, .int .i64 c3, .int .i64 c4] 25)
  have D1 := blk_on (blk_on A1 (below_cells (.cells #[vb, .int .i64 b1, .int .i64 a2, .int .i64 a3, .int .i64 a4] 25))) (below_cells (.cells #[vc, .int .i64 c1, .int .i64 c2, .int .i64 c3, .int .i64 c4] 25))
  have D2 := blk_on A2 (below_cells (.cells #[vc, .int .i64 c1, .int .i64 c2, .int .i64 c3, .int .i64 c4] 25))
  clear A1 A2
  generalize ((w.alloc (.cells #[va, .int .i64 a1, .int .i64 a2, .int .i64 a3, .int .i64 a4] 25)).alloc (.cells #[vb, .int .i64 b1, .int .i64 a2, .int .i64 a3, .int .i64 a4] 25)).alloc (.cells #[vc, .int .i64 c1, .int .i64 c2, .int .i64 c3, .int .i64 c4] 25) = W0 at *
  refine (KN.out _ B1).mono ?_
  rintro e u0 ⟨rfl, hb⟩
  have E1 := blk_on D1 hb
  have E2 := blk_on D2 hb
  have E3 := blk_on A3 hb
  have C1 := B1.trans (hb.mono B1.size)
  clear D1 D2 A3 B1 hb
  have D1 := E1
  have D2 := E2
  have A3 := E3
  have B1 := C1
  clear E1 E2 E3 C1
  have p0 := (blk_at D1).cell 0 _ rfl
  have p1 := (blk_at D1).cell 1 _ rfl
  have p2 := (blk_at D1).cell 2 _ rfl
  have p3 := (blk_at D1).cell 3 _ rfl
  have p4 := (blk_at D1).cell 4 _ rfl
  have q0 := (blk_at D2).cell 0 _ rfl
  have q1 := (blk_at D2).cell 1 _ rfl
  have q2 := (blk_at D2).cell 2 _ rfl
  have q3 := (blk_at D2).cell 3 _ rfl
  have q4 := (blk_at D2).cell 4 _ rfl
  have r0 := (blk_at A3).cell 0 _ rfl
  have r1 := (blk_at A3).cell 1 _ rfl
  have r2 := (blk_at A3).cell 2 _ rfl
  have r3 := (blk_at A3).cell 3 _ rfl
  have r4 := (blk_at A3).cell 4 _ rfl
  go_wp2_with fail
  refine (CX.out _).mono ?_
  rintro e u1 ⟨rfl, hb⟩
  have E1 := blk_on D1 hb
  have E2 := blk_on D2 hb
  have E3 := blk_on A3 hb
  have C1 := B1.trans (hb.mono B1.size)
  clear D1 D2 A3 B1 hb p0 p1 p2 p3 p4 q0 q1 q2 q3 q4 r0 r1 r2 r3 r4
  have D1 := E1
  have D2 := E2
  have A3 := E3
  have B1 := C1
  clear E1 E2 E3 C1
  have p0 := (blk_at D1).cell 0 _ rfl
  have p1 := (blk_at D1).cell 1 _ rfl
  have p2 := (blk_at D1).cell 2 _ rfl
  have p3 := (blk_at D1).cell 3 _ rfl
  have p4 := (blk_at D1).cell 4 _ rfl
  have q0 := (blk_at D2).cell 0 _ rfl
  have q1 := (blk_at D2).cell 1 _ rfl
  have q2 := (blk_at D2).cell 2 _ rfl
  have q3 := (blk_at D2).cell 3 _ rfl
  have q4 := (blk_at D2).cell 4 _ rfl
  have r0 := (blk_at A3).cell 0 _ rfl
  have r1 := (blk_at A3).cell 1 _ rfl
  have r2 := (blk_at A3).cell 2 _ rfl
  have r3 := (blk_at A3).cell 3 _ rfl
  have r4 := (blk_at A3).cell 4 _ rfl
  go_wp2_with fail
  refine (CY.out _).mono ?_
  rintro e u2 ⟨rfl, hb⟩
  have E1 := blk_on D1 hb
  have E2 := blk_on D2 hb
  have E3 := blk_on A3 hb
  have C1 := B1.trans (hb.mono B1.size)
  clear D1 D2 A3 B1 hb p0 p1 p2 p3 p4 q0 q1 q2 q3 q4 r0 r1 r2 r3 r4
  have D1 := E1
  have D2 := E2
  have A3 := E3
  have B1 := C1
  clear E1 E2 E3 C1
  have p0 := (blk_at D1).cell 0 _ rfl
  have p1 := (blk_at D1).cell 1 _ rfl
  have p2 := (blk_at D1).cell 2 _ rfl
  have p3 := (blk_at D1).cell 3 _ rfl
  have p4 := (blk_at D1).cell 4 _ rfl
  have q0 := (blk_at D2).cell 0 _ rfl
  have q1 := (blk_at D2).cell 1 _ rfl
  have q2 := (blk_at D2).cell 2 _ rfl
  have q3 := (blk_at D2).cell 3 _ rfl
  have q4 := (blk_at D2).cell 4 _ rfl
  have r0 := (blk_at A3).cell 0 _ rfl
  have r1 := (blk_at A3).cell 1 _ rfl
  have r2 := (blk_at A3).cell 2 _ rfl
  have r3 := (blk_at A3).cell 3 _ rfl
  have r4 := (blk_at A3).cell 4 _ rfl
  go_wp2_with fail
  refine (CZ.out _).mono ?_
  rintro e u3 ⟨rfl, hb⟩
  have E1 := blk_on D1 hb
  have E2 := blk_on D2 hb
  have E3 := blk_on A3 hb
  have C1 := B1.trans (hb.mono B1.size)
  clear D1 D2 A3 B1 hb p0 p1 p2 p3 p4 q0 q1 q2 q3 q4 r0 r1 r2 r3 r4
  have D1 := E1
  have D2 := E2
  have A3 := E3
  have B1 := C1
  clear E1 E2 E3 C1
  have p0 := (blk_at D1).cell 0 _ rfl
  have p1 := (blk_at D1).cell 1 _ rfl
  have p2 := (blk_at D1).cell 2 _ rfl
  have p3 := (blk_at D1).cell 3 _ rfl
  have p4 := (blk_at D1).cell 4 _ rfl
  have q0 := (blk_at D2).cell 0 _ rfl
  have q1 := (blk_at D2).cell 1 _ rfl
  have q2 := (blk_at D2).cell 2 _ rfl
  have q3 := (blk_at D2).cell 3 _ rfl
  have q4 := (blk_at D2).cell 4 _ rfl
  have r0 := (blk_at A3).cell 0 _ rfl
  have r1 := (blk_at A3).cell 1 _ rfl
  have r2 := (blk_at A3).cell 2 _ rfl
  have r3 := (blk_at A3).cell 3 _ rfl
  have r4 := (blk_at A3).cell 4 _ rfl
  go_wp2_with fail
  refine (CZ.out _).mono ?_
  rintro e u4 ⟨rfl, hb⟩
  have E1 := blk_on D1 hb
  have E2 := blk_on D2 hb
  have E3 := blk_on A3 hb
  have C1 := B1.trans (hb.mono B1.size)
  clear D1 D2 A3 B1 hb p0 p1 p2 p3 p4 q0 q1 q2 q3 q4 r0 r1 r2 r3 r4
  have D1 := E1
  have D2 := E2
  have A3 := E3
  have B1 := C1
  clear E1 E2 E3 C1
  have p0 := (blk_at D1).cell 0 _ rfl
  have p1 := (blk_at D1).cell 1 _ rfl
  have p2 := (blk_at D1).cell 2 _ rfl
  have p3 := (blk_at D1).cell 3 _ rfl
  have p4 := (blk_at D1).cell 4 _ rfl
  have q0 := (blk_at D2).cell 0 _ rfl
  have q1 := (blk_at D2).cell 1 _ rfl
  have q2 := (blk_at D2).cell 2 _ rfl
  have q3 := (blk_at D2).cell 3 _ rfl
  have q4 := (blk_at D2).cell 4 _ rfl
  have r0 := (blk_at A3).cell 0 _ rfl
  have r1 := (blk_at A3).cell 1 _ rfl
  have r2 := (blk_at A3).cell 2 _ rfl
  have r3 := (blk_at A3).cell 3 _ rfl
  have r4 := (blk_at A3).cell 4 _ rfl
  go_wp2
  go_ret
  exact ⟨rfl, B1⟩
set_option maxHeartbeats 4000000 in
theorem order_ee (va vb vc : Value) (a1 a2 a3 a4 b1 c1 c2 c3 c4 : Int) (x y z : Int) (hx : cmpS a2 a3 a4 a2 a3 a4 = x) (hy : cmpS a2 a3 a4 c2 c3 c4 = y) (hz : cmpS a2 a3 a4 c2 c3 c4 = z) (x1 : x = 0) (y1 : y = 0) (z0 : z = 0) (w : World) (ht : Tab w) (he : ErrsOk w) :
    Calls Tryz.prog 4 #[.agg #[va, .int .i64 a1, .int .i64 a2, .int .i64 a3, .int .i64 a4], .agg #[vb, .int .i64 b1, .int .i64 a2, .int .i64 a3, .int .i64 a4], .agg #[vc, .int .i64 c1, .int .i64 c2, .int .i64 c3, .int .i64 c4]] w fun e w' => e = .returned (.bool true) ∧ Below w.heap.size w w' := by
  have KN := Lib.hid (fun W (hW : Below w.heap.size w W) => known_any W (ht.below hW) (he.below hW))
  have CX := Lib.hid (fun W => lcompare_any va vb a1 a2 a3 a4 b1 a2 a3 a4 W)
  have CY := Lib.hid (fun W => lcompare_any vb vc b1 a2 a3 a4 c1 c2 c3 c4 W)
  have CZ := Lib.hid (fun W => lcompare_any va vc a1 a2 a3 a4 c1 c2 c3 c4 W)
  rw [hx] at CX
  rw [hy] at CY
  rw [hz] at CZ
  clear hx hy hz
  go_enter Tryz.func4, Tryz.ntmps4
  go_wp2_with fail
  have A1 := blk_new w #[va, .int .i64 a1, .int .i64 a2, .int .i64 a3, .int .i64 a4] 25
  have A2 := blk_new (w.alloc (.cells #[va, .int .i64 a1, .int .i64 a2, .int .i64 a3, .int .i64 a4] 25)) #[vb, .int .i64 b1, .int .i64 a2, .int .i64 a3, .int .i64 a4] 25
  have A3 := blk_new ((w.alloc (.cells #[va, .int .i64 a1, .int .i64 a2, .int .i64 a3, .int .i64 a4] 25)).alloc (.cells #[vb, .int .i64 b1, .int .i64 a2, .int .i64 a3, .int .i64 a4] 25)) #[vc, .int .i64 c1, .int .i64 c2, .int .i64 c3, .int .i64 c4] 25
  rw [World.size_alloc] at A2
  rw [World.size_alloc, World.size_alloc] at A3
  have B1 := below_new (below_new (below_cells (w := w) (.cells #[va, .int .i64 a1, .int .i64 a2, .int .i64 a3, .int .i64 a4] 25)) (.cells #[vb, .int .i64 b1, .int .i64 a2, .int .i64 a3, .int .i64 a4] 25)) (.cells #[vc, .int .i64 c1, .int .i64 c2, .int .i64 c3, .int .i64 c4] 25)
  have D1 := blk_on (blk_on A1 (below_cells (.cells #[vb, .int .i64 b1, .int .i64 a2, .int .i64 a3, .int .i64 a4] 25))) (below_cells (.cells #[vc, .int .i64 c1, .int .i64 c2, .int .i64 c3, .int .i64 c4] 25))
  have D2 := blk_on A2 (below_cells (.cells #[vc, .int .i64 c1, .int .i64 c2, .int .i64 c3, .int .i64 c4] 25))
  clear A1 A2
  generalize ((w.alloc (.cells #[va, .int .i64 a1, .int .i64 a2, .int .i64 a3, .int .i64 a4] 25)).alloc (.cells #[vb, .int .i64 b1, .int .i64 a2, .int .i64 a3, .int .i64 a4] 25)).alloc (.cells #[vc, .int .i64 c1, .int .i64 c2, .int .i64 c3, .int .i64 c4] 25) = W0 at *
  refine (KN.out _ B1).mono ?_
  rintro e u0 ⟨rfl, hb⟩
  have E1 := blk_on D1 hb
  have E2 := blk_on D2 hb
  have E3 := blk_on A3 hb
  have C1 := B1.trans (hb.mono B1.size)
  clear D1 D2 A3 B1 hb
  have D1 := E1
  have D2 := E2
  have A3 := E3
  have B1 := C1
  clear E1 E2 E3 C1
  have p0 := (blk_at D1).cell 0 _ rfl
  have p1 := (blk_at D1).cell 1 _ rfl
  have p2 := (blk_at D1).cell 2 _ rfl
  have p3 := (blk_at D1).cell 3 _ rfl
  have p4 := (blk_at D1).cell 4 _ rfl
  have q0 := (blk_at D2).cell 0 _ rfl
  have q1 := (blk_at D2).cell 1 _ rfl
  have q2 := (blk_at D2).cell 2 _ rfl
  have q3 := (blk_at D2).cell 3 _ rfl
  have q4 := (blk_at D2).cell 4 _ rfl
  have r0 := (blk_at A3).cell 0 _ rfl
  have r1 := (blk_at A3).cell 1 _ rfl
  have r2 := (blk_at A3).cell 2 _ rfl
  have r3 := (blk_at A3).cell 3 _ rfl
  have r4 := (blk_at A3).cell 4 _ rfl
  go_wp2_with fail
  refine (CX.out _).mono ?_
  rintro e u1 ⟨rfl, hb⟩
  have E1 := blk_on D1 hb
  have E2 := blk_on D2 hb
  have E3 := blk_on A3 hb
  have C1 := B1.trans (hb.mono B1.size)
  clear D1 D2 A3 B1 hb p0 p1 p2 p3 p4 q0 q1 q2 q3 q4 r0 r1 r2 r3 r4
  have D1 := E1
  have D2 := E2
  have A3 := E3
  have B1 := C1
  clear E1 E2 E3 C1
  have p0 := (blk_at D1).cell 0 _ rfl
  have p1 := (blk_at D1).cell 1 _ rfl
  have p2 := (blk_at D1).cell 2 _ rfl
  have p3 := (blk_at D1).cell 3 _ rfl
  have p4 := (blk_at D1).cell 4 _ rfl
  have q0 := (blk_at D2).cell 0 _ rfl
  have q1 := (blk_at D2).cell 1 _ rfl
  have q2 := (blk_at D2).cell 2 _ rfl
  have q3 := (blk_at D2).cell 3 _ rfl
  have q4 := (blk_at D2).cell 4 _ rfl
  have r0 := (blk_at A3).cell 0 _ rfl
  have r1 := (blk_at A3).cell 1 _ rfl
  have r2 := (blk_at A3).cell 2 _ rfl
  have r3 := (blk_at A3).cell 3 _ rfl
  have r4 := (blk_at A3).cell 4 _ rfl
  go_wp2_with fail
  refine (CY.out _).mono ?_
  rintro e u2 ⟨rfl, hb⟩
  have E1 := blk_on D1 hb
  have E2 := blk_on D2 hb
  have E3 := blk_on A3 hb
  have C1 := B1.trans (hb.mono B1.size)
  clear D1 D2 A3 B1 hb p0 p1 p2 p3 p4 q0 q1 q2 q3 q4 r0 r1 r2 r3 r4
  have D1 := E1
  have D2 := E2
  have A3 := E3
  have B1 := C1
  clear E1 E2 E3 C1
  have p0 := (blk_at D1).cell 0 _ rfl
  have p1 := (blk_at D1).cell 1 _ rfl
  have p2 := (blk_at D1).cell 2 _ rfl
  have p3 := (blk_at D1).cell 3 _ rfl
  have p4 := (blk_at D1).cell 4 _ rfl
  have q0 := (blk_at D2).cell 0 _ rfl
  have q1 := (blk_at D2).cell 1 _ rfl
  have q2 := (blk_at D2).cell 2 _ rfl
  have q3 := (blk_at D2).cell 3 _ rfl
  have q4 := (blk_at D2).cell 4 _ rfl
  have r0 := (blk_at A3).cell 0 _ rfl
  have r1 := (blk_at A3).cell 1 _ rfl
  have r2 := (blk_at A3).cell 2 _ rfl
  have r3 := (blk_at A3).cell 3 _ rfl
  have r4 := (blk_at A3).cell 4 _ rfl
  go_wp2_with fail
  refine (CZ.out _).mono ?_
  rintro e u3 ⟨rfl, hb⟩
  have E1 := blk_on D1 hb
  have E2 := blk_on D2 hb
  have E3 := blk_on A3 hb
  have C1 := B1.trans (hb.mono B1.size)
  clear D1 D2 A3 B1 hb p0 p1 p2 p3 p4 q0 q1 q2 q3 q4 r0 r1 r2 r3 r4
  have D1 := E1
  have D2 := E2
  have A3 := E3
  have B1 := C1
  clear E1 E2 E3 C1
  have p0 := (blk_at D1).cell 0 _ rfl
  have p1 := (blk_at D1).cell 1 _ rfl
  have p2 := (blk_at D1).cell 2 _ rfl
  have p3 := (blk_at D1).cell 3 _ rfl
  have p4 := (blk_at D1).cell 4 _ rfl
  have q0 := (blk_at D2).cell 0 _ rfl
  have q1 := (blk_at D2).cell 1 _ rfl
  have q2 := (blk_at D2).cell 2 _ rfl
  have q3 := (blk_at D2).cell 3 _ rfl
  have q4 := (blk_at D2).cell 4 _ rfl
  have r0 := (blk_at A3).cell 0 _ rfl
  have r1 := (blk_at A3).cell 1 _ rfl
  have r2 := (blk_at A3).cell 2 _ rfl
  have r3 := (blk_at A3).cell 3 _ rfl
  have r4 := (blk_at A3).cell 4 _ rfl
  go_wp2_with fail
  refine (CZ.out _).mono ?_
  rintro e u4 ⟨rfl, hb⟩
  have E1 := blk_on D1 hb
  have E2 := blk_on D2 hb
  have E3 := blk_on A3 hb
  have C1 := B1.trans (hb.mono B1.size)
  clear D1 D2 A3 B1 hb p0 p1 p2 p3 p4 q0 q1 q2 q3 q4 r0 r1 r2 r3 r4
  have D1 := E1
  have D2 := E2
  have A3 := E3
  have B1 := C1
  clear E1 E2 E3 C1
  have p0 := (blk_at D1).cell 0 _ rfl
  have p1 := (blk_at D1).cell 1 _ rfl
  have p2 := (blk_at D1).cell 2 _ rfl
  have p3 := (blk_at D1).cell 3 _ rfl
  have p4 := (blk_at D1).cell 4 _ rfl
  have q0 := (blk_at D2).cell 0 _ rfl
  have q1 := (blk_at D2).cell 1 _ rfl
  have q2 := (blk_at D2).cell 2 _ rfl
  have q3 := (blk_at D2).cell 3 _ rfl
  have q4 := (blk_at D2).cell 4 _ rfl
  have r0 := (blk_at A3).cell 0 _ rfl
  have r1 := (blk_at A3).cell 1 _ rfl
  have r2 := (blk_at A3).cell 2 _ rfl
  have r3 := (blk_at A3).cell 3 _ rfl
  have r4 := (blk_at A3).cell 4 _ rfl
  go_wp2
  go_ret
  exact ⟨rfl, B1⟩
theorem order_law (va vb vc : Value) (a1 a2 a3 a4 b1 b2 b3 b4 c1 c2 c3 c4 : Int) (w : World) (ht : Tab w) (he : ErrsOk w) :
    Calls Tryz.prog 4 #[.agg #[va, .int .i64 a1, .int .i64 a2, .int .i64 a3, .int .i64 a4], .agg #[vb, .int .i64 b1, .int .i64 b2, .int .i64 b3, .int .i64 b4], .agg #[vc, .int .i64 c1, .int .i64 c2, .int .i64 c3, .int .i64 c4]] w fun e w' => e = .returned (.bool true) ∧ Below w.heap.size w w' := by
  have T := cmpS_tr a2 a3 a4 b2 b3 b4 c2 c3 c4
  rcases cmpS_cases a2 a3 a4 b2 b3 b4 with ⟨h, rfl, rfl, rfl⟩ | ⟨h, h2⟩ | ⟨h, rfl, h3⟩ | ⟨h, rfl, rfl, h4⟩
  · by_cases hy : cmpS a2 a3 a4 c2 c3 c4 ≤ 0
    · rcases T (by omega) hy with ⟨_, k2, k3⟩ | k
      · exact order_ee va vb vc a1 a2 a3 a4 b1 c1 c2 c3 c4 _ _ _ rfl rfl rfl h k2 k3 w ht he
      · exact order_ed va vb vc a1 a2 a3 a4 b1 c1 c2 c3 c4 _ _ _ rfl rfl rfl h hy (by omega) (by omega) w ht he
    · exact order_eu va vb vc a1 a2 a3 a4 b1 c1 c2 c3 c4 _ _ _ rfl rfl rfl h hy w ht he
  · by_cases hx : cmpS a2 a3 a4 b2 b3 b4 ≤ 0
    · by_cases hy : cmpS b2 b3 b4 c2 c3 c4 ≤ 0
      · rcases T hx hy with ⟨k1, _, _⟩ | k
        · exact absurd k1 h
        · exact order_ddt va vb vc a1 a2 a3 a4 b1 b2 b3 b4 c1 c2 c3 c4 _ _ _ rfl rfl rfl hx h hy (by omega) (by omega) h2 w ht he
      · exact order_dnt va vb vc a1 a2 a3 a4 b1 b2 b3 b4 c1 c2 c3 c4 _ _ _ rfl rfl rfl hx h hy h2 w ht he
    · exact order_upt va vb vc a1 a2 a3 a4 b1 b2 b3 b4 c1 c2 c3 c4 _ _ _ rfl rfl rfl hx h h2 w ht he
  · by_cases hx : cmpS a2 a3 a4 a2 b3 b4 ≤ 0
    · by_cases hy : cmpS a2 b3 b4 c2 c3 c4 ≤ 0
      · rcases T hx hy with ⟨k1, _, _⟩ | k
        · exact absurd k1 h
        · exact order_dds va vb vc a1 a2 a3 a4 b1 b3 b4 c1 c2 c3 c4 _ _ _ rfl rfl rfl hx h hy (by omega) (by omega) h3 w ht he
      · exact order_dns va vb vc a1 a2 a3 a4 b1 b3 b4 c1 c2 c3 c4 _ _ _ rfl rfl rfl hx h hy h3 w ht he
    · exact order_ups va vb vc a1 a2 a3 a4 b1 b3 b4 c1 c2 c3 c4 _ _ _ rfl rfl rfl hx h h3 w ht he
  · by_cases hx : cmpS a2 a3 a4 a2 a3 b4 ≤ 0
    · by_cases hy : cmpS a2 a3 b4 c2 c3 c4 ≤ 0
      · rcases T hx hy with ⟨k1, _, _⟩ | k
        · exact absurd k1 h
        · exact order_ddq va vb vc a1 a2 a3 a4 b1 b4 c1 c2 c3 c4 _ _ _ rfl rfl rfl hx h hy (by omega) (by omega) h4 w ht he
      · exact order_dnq va vb vc a1 a2 a3 a4 b1 b4 c1 c2 c3 c4 _ _ _ rfl rfl rfl hx h hy h4 w ht he
    · exact order_upq va vb vc a1 a2 a3 a4 b1 b4 c1 c2 c3 c4 _ _ _ rfl rfl rfl hx h h4 w ht he
end Go.Proofs.YtgldieboflmnhaaGreatDoor
