/- belfrylaw2.SpanTwo: for every two numbers the law returns true. -/
import Derived.Test.YtmiahbaadlddjaaDoorKnown
namespace Go.Proofs.YtmiahbaadlddjaaDoor
open Go Go.Proofs Go.RowKit Go.Shelf
set_option maxRecDepth 100000
set_option maxHeartbeats 1000000 in
theorem two_law (t d : Int) (w : World) (ht : Tab w) :
    Calls Tryd.prog 3 #[.int .i64 t, .int .i64 d] w fun e w' => e = .returned (.bool true) ∧ Below w.heap.size w w' := by
  have K := Lib.hid (known_any w ht)
  have A := Lib.hid (fun W => add_any t d W)
  have A2 := Lib.hid (fun W => addTime_any t d W)
  have F := Lib.hid (fun W => floor_any t d W)
  have F2 := Lib.hid (fun W => refFloor_any t d W)
  have N := Lib.hid (fun W => next_any t d W)
  have N2 := Lib.hid (fun W => refNext_any t d W)
  have C := Lib.hid (fun W => check_any t W)
  have C2 := Lib.hid (fun W => time_any t W)
  unfold Two at A A2 F F2 N N2
  generalize (addR t d).1 = a1 at *
  generalize (addR t d).2 = a2 at *
  generalize (floorR t d).1 = f1 at *
  generalize (floorR t d).2 = f2 at *
  generalize (nextR t d).1 = n1 at *
  generalize (nextR t d).2 = n2 at *
  generalize eOf (isT t) = c at *
  clear ht
  go_enter Tryd.func3, Tryd.ntmps3
  go_wp2_with fail
  refine K.out.mono ?_
  rintro e w1 ⟨rfl, hb⟩
  go_wp2_with fail
  refine (A.out _).mono ?_
  rintro e u ⟨rfl, rfl⟩
  go_wp2_with fail
  refine (A2.out _).mono ?_
  rintro e u ⟨rfl, rfl⟩
  go_wp2_with fail
  refine (F.out _).mono ?_
  rintro e u ⟨rfl, rfl⟩
  go_wp2_with fail
  refine (F2.out _).mono ?_
  rintro e u ⟨rfl, rfl⟩
  go_wp2_with fail
  refine (N.out _).mono ?_
  rintro e u ⟨rfl, rfl⟩
  go_wp2_with fail
  refine (N2.out _).mono ?_
  rintro e u ⟨rfl, rfl⟩
  go_wp2_with fail
  refine (C.out _).mono ?_
  rintro e u ⟨rfl, rfl⟩
  go_wp2_with fail
  refine (C2.out _).mono ?_
  rintro e u ⟨rfl, rfl⟩
  go_wp2
  go_ret
  exact ⟨rfl, hb⟩
end Go.Proofs.YtmiahbaadlddjaaDoor
