/- Package pane: none, last, later, Merge. -/
import Derived.Test.YtedcdhngiofpjaaGreatDoorTa
import Derived.Test.YtedcdhngiofpjaaGreatDoorLb
import Derived.Test.YtedcdhngiofpjaaGreatDoorWd
import Derived.Test.YtedcdhngiofpjaaGreatDoorWd
namespace Go.Proofs.YtedcdhngiofpjaaGreatDoor
open Go Go.Proofs Go.RowKit Go.Shelf
set_option maxRecDepth 100000
attribute [local go_sem] cell_set Oper.semAt_some
theorem none_any (p : Pn) (w : World) : Calls Tryz.prog 59 #[p.V] w fun e w' => e = .returned (.bool (decide (p.c < 1))) ∧ Below w.heap.size w w' := by
  unfold Pn.V
  go_enter Tryz.func59, Tryz.ntmps59
  go_wp2
  go_ret
  exact ⟨rfl, by go_grown⟩
def lastV (p : Pn) : Value := .agg #[.slice none 0 0, .int .i64 p.v, .int .i64 p.t, .int .i64 p.s, .int .i64 p.q]
theorem last_any (p : Pn) (w : World) : Calls Tryz.prog 62 #[p.V] w fun e w' => e = .returned (lastV p) ∧ Below w.heap.size w w' := by
  unfold Pn.V lastV
  go_enter Tryz.func62, Tryz.ntmps62
  go_wp2
  go_returns
  exact ⟨rfl, by go_grown⟩
def sV (x0 : Value) (x1 x2 x3 x4 : Int) : Value := .agg #[x0, .int .i64 x1, .int .i64 x2, .int .i64 x3, .int .i64 x4]
theorem later_lt (aa : Option Addr) (an ac : Nat) (ba : Option Addr) (bn bc : Nat) (a1 a2 a3 a4 b1 b2 b3 b4 : Int) (h : Lt3 a2 a3 a4 b2 b3 b4) (w : World) : Calls Tryz.prog 61 #[sV (.slice aa an ac) a1 a2 a3 a4, sV (.slice ba bn bc) b1 b2 b3 b4] w fun e w' => e = .returned (sV (.slice ba bn bc) b1 b2 b3 b4) ∧ Below w.heap.size w w' := by
  have LC := Lib.hid (fun W => lcompare_any (.slice aa an ac) (.slice ba bn bc) a1 a2 a3 a4 b1 b2 b3 b4 W)
  have hn : cmpS a2 a3 a4 b2 b3 b4 < 0 := cmpS_neg.2 h
  generalize cmpS a2 a3 a4 b2 b3 b4 = c at *
  clear h
  unfold sV
  go_enter Tryz.func61, Tryz.ntmps61
  go_wp2_with fail
  refine (LC.out _).mono ?_
  rintro e w1 ⟨rfl, hb1⟩
  have DP : At w1 (w.heap.size) [.slice aa an ac, .int .i64 a1, .int .i64 a2, .int .i64 a3, .int .i64 a4] := by have h := (((At.new (w) #[.slice aa an ac, .int .i64 a1, .int .i64 a2, .int .i64 a3, .int .i64 a4] 33).alloc (.cells #[.slice ba bn bc, .int .i64 b1, .int .i64 b2, .int .i64 b3, .int .i64 b4] 33)).alloc (.cells #[.slice none 0 0, .int .i64 0, .int .i64 0, .int .i64 0, .int .i64 0] 33)).below hb1; simpa using h
  have DQ : At w1 (w.heap.size + 1) [.slice ba bn bc, .int .i64 b1, .int .i64 b2, .int .i64 b3, .int .i64 b4] := by have h := ((At.new ((w).alloc (.cells #[.slice aa an ac, .int .i64 a1, .int .i64 a2, .int .i64 a3, .int .i64 a4] 33)) #[.slice ba bn bc, .int .i64 b1, .int .i64 b2, .int .i64 b3, .int .i64 b4] 33).alloc (.cells #[.slice none 0 0, .int .i64 0, .int .i64 0, .int .i64 0, .int .i64 0] 33)).below hb1; simpa using h
  have DR : At w1 (w.heap.size + 1 + 1) [.slice none 0 0, .int .i64 0, .int .i64 0, .int .i64 0, .int .i64 0] := by have h := (At.new (((w).alloc (.cells #[.slice aa an ac, .int .i64 a1, .int .i64 a2, .int .i64 a3, .int .i64 a4] 33)).alloc (.cells #[.slice ba bn bc, .int .i64 b1, .int .i64 b2, .int .i64 b3, .int .i64 b4] 33)) #[.slice none 0 0, .int .i64 0, .int .i64 0, .int .i64 0, .int .i64 0] 33).below hb1; simpa using h
  have B : Below w.heap.size w w1 := below_then (below_new (below_new (below_new (Below.refl _ _) (.cells #[.slice aa an ac, .int .i64 a1, .int .i64 a2, .int .i64 a3, .int .i64 a4] 33)) (.cells #[.slice ba bn bc, .int .i64 b1, .int .i64 b2, .int .i64 b3, .int .i64 b4] 33)) (.cells #[.slice none 0 0, .int .i64 0, .int .i64 0, .int .i64 0, .int .i64 0] 33)) hb1
  clear hb1
  have aP0 := DP.cell 0 _ rfl
  have aP1 := DP.cell 1 _ rfl
  have aP2 := DP.cell 2 _ rfl
  have aP3 := DP.cell 3 _ rfl
  have aP4 := DP.cell 4 _ rfl
  have nP := DP.lt
  have aQ0 := DQ.cell 0 _ rfl
  have aQ1 := DQ.cell 1 _ rfl
  have aQ2 := DQ.cell 2 _ rfl
  have aQ3 := DQ.cell 3 _ rfl
  have aQ4 := DQ.cell 4 _ rfl
  have nQ := DQ.lt
  have aR0 := DR.cell 0 _ rfl
  have zR0 := DR.free 0 _ rfl
  have aR1 := DR.cell 1 _ rfl
  have zR1 := DR.free 1 _ rfl
  have aR2 := DR.cell 2 _ rfl
  have zR2 := DR.free 2 _ rfl
  have aR3 := DR.cell 3 _ rfl
  have zR3 := DR.free 3 _ rfl
  have aR4 := DR.cell 4 _ rfl
  have zR4 := DR.free 4 _ rfl
  have nR := DR.lt
  go_wp2
  refine bodyPost_ret (by simp [results, Tryz.results61, go_sem, aR0, aR1, aR2, aR3, aR4, nR]; try rfl) rfl ?_
  exact ⟨rfl, by go_grown⟩
theorem later_ge (aa : Option Addr) (an ac : Nat) (ba : Option Addr) (bn bc : Nat) (a1 a2 a3 a4 b1 b2 b3 b4 : Int) (h : ¬ Lt3 a2 a3 a4 b2 b3 b4) (w : World) : Calls Tryz.prog 61 #[sV (.slice aa an ac) a1 a2 a3 a4, sV (.slice ba bn bc) b1 b2 b3 b4] w fun e w' => e = .returned (sV (.slice aa an ac) a1 a2 a3 a4) ∧ Below w.heap.size w w' := by
  have LC := Lib.hid (fun W => lcompare_any (.slice aa an ac) (.slice ba bn bc) a1 a2 a3 a4 b1 b2 b3 b4 W)
  have hn : ¬ cmpS a2 a3 a4 b2 b3 b4 < 0 := fun q => h (cmpS_neg.1 q)
  generalize cmpS a2 a3 a4 b2 b3 b4 = c at *
  clear h
  unfold sV
  go_enter Tryz.func61, Tryz.ntmps61
  go_wp2_with fail
  refine (LC.out _).mono ?_
  rintro e w1 ⟨rfl, hb1⟩
  have DP : At w1 (w.heap.size) [.slice aa an ac, .int .i64 a1, .int .i64 a2, .int .i64 a3, .int .i64 a4] := by have h := (((At.new (w) #[.slice aa an ac, .int .i64 a1, .int .i64 a2, .int .i64 a3, .int .i64 a4] 33).alloc (.cells #[.slice ba bn bc, .int .i64 b1, .int .i64 b2, .int .i64 b3, .int .i64 b4] 33)).alloc (.cells #[.slice none 0 0, .int .i64 0, .int .i64 0, .int .i64 0, .int .i64 0] 33)).below hb1; simpa using h
  have DQ : At w1 (w.heap.size + 1) [.slice ba bn bc, .int .i64 b1, .int .i64 b2, .int .i64 b3, .int .i64 b4] := by have h := ((At.new ((w).alloc (.cells #[.slice aa an ac, .int .i64 a1, .int .i64 a2, .int .i64 a3, .int .i64 a4] 33)) #[.slice ba bn bc, .int .i64 b1, .int .i64 b2, .int .i64 b3, .int .i64 b4] 33).alloc (.cells #[.slice none 0 0, .int .i64 0, .int .i64 0, .int .i64 0, .int .i64 0] 33)).below hb1; simpa using h
  have DR : At w1 (w.heap.size + 1 + 1) [.slice none 0 0, .int .i64 0, .int .i64 0, .int .i64 0, .int .i64 0] := by have h := (At.new (((w).alloc (.cells #[.slice aa an ac, .int .i64 a1, .int .i64 a2, .int .i64 a3, .int .i64 a4] 33)).alloc (.cells #[.slice ba bn bc, .int .i64 b1, .int .i64 b2, .int .i64 b3, .int .i64 b4] 33)) #[.slice none 0 0, .int .i64 0, .int .i64 0, .int .i64 0, .int .i64 0] 33).below hb1; simpa using h
  have B : Below w.heap.size w w1 := below_then (below_new (below_new (below_new (Below.refl _ _) (.cells #[.slice aa an ac, .int .i64 a1, .int .i64 a2, .int .i64 a3, .int .i64 a4] 33)) (.cells #[.slice ba bn bc, .int .i64 b1, .int .i64 b2, .int .i64 b3, .int .i64 b4] 33)) (.cells #[.slice none 0 0, .int .i64 0, .int .i64 0, .int .i64 0, .int .i64 0] 33)) hb1
  clear hb1
  have aP0 := DP.cell 0 _ rfl
  have aP1 := DP.cell 1 _ rfl
  have aP2 := DP.cell 2 _ rfl
  have aP3 := DP.cell 3 _ rfl
  have aP4 := DP.cell 4 _ rfl
  have nP := DP.lt
  have aQ0 := DQ.cell 0 _ rfl
  have aQ1 := DQ.cell 1 _ rfl
  have aQ2 := DQ.cell 2 _ rfl
  have aQ3 := DQ.cell 3 _ rfl
  have aQ4 := DQ.cell 4 _ rfl
  have nQ := DQ.lt
  have aR0 := DR.cell 0 _ rfl
  have zR0 := DR.free 0 _ rfl
  have aR1 := DR.cell 1 _ rfl
  have zR1 := DR.free 1 _ rfl
  have aR2 := DR.cell 2 _ rfl
  have zR2 := DR.free 2 _ rfl
  have aR3 := DR.cell 3 _ rfl
  have zR3 := DR.free 3 _ rfl
  have aR4 := DR.cell 4 _ rfl
  have zR4 := DR.free 4 _ rfl
  have nR := DR.lt
  go_wp2
  refine bodyPost_ret (by simp [results, Tryz.results61, go_sem, aR0, aR1, aR2, aR3, aR4, nR]; try rfl) rfl ?_
  exact ⟨rfl, by go_grown⟩
end Go.Proofs.YtedcdhngiofpjaaGreatDoor
