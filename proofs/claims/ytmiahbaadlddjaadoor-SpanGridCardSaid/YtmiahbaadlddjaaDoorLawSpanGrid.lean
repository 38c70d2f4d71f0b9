/- belfrylaw2.SpanGrid: for every time and step the law returns true. -/
import Derived.Test.YtmiahbaadlddjaaDoorKnown
namespace Go.Proofs.YtmiahbaadlddjaaDoor
open Go Go.Proofs Go.RowKit Go.Shelf
set_option maxRecDepth 100000
theorem grid_num (t s : Int) (t1 : 0 ≤ t) (t2 : t ≤ 2199023255552) (s1 : 1 ≤ s) (s2 : s ≤ 2199023255552) :
    floorR t s = (t - t % s, 0) ∧ nextR t s = (t - t % s + s, 0) ∧ floorR (t - t % s) s = (t - t % s, 0) ∧ 0 ≤ t - t % s ∧ t - t % s ≤ t ∧ t < t - t % s + s ∧ (t - t % s) % s = 0 := by
  have b0 := Int.emod_nonneg t (show s ≠ 0 by omega)
  have b1 := Int.emod_lt_of_pos t (show 0 < s by omega)
  have b2 := emod_le' t s t1 (by omega)
  have e := sub_mod t s
  have e2 : (t - t % s) % s = 0 := by rw [e]; exact Int.mul_emod_right _ _
  have i1 : isT t = true := isT_true.2 (by omega)
  have i2 : stepB s = true := stepB_true.2 (by omega)
  have i3 : isT (t - t % s) = true := isT_true.2 (by omega)
  refine ⟨by unfold floorR; rw [if_pos ⟨i1, i2⟩], by unfold nextR; rw [if_pos ⟨i1, i2⟩, if_pos (by omega)], ?_, by omega, by omega, by omega, e2⟩
  unfold floorR
  rw [if_pos ⟨i3, i2⟩, e2, Int.sub_zero]
set_option maxHeartbeats 1000000 in
theorem grid_law (t s : Int) (w : World) (ht : Tab w) :
    Calls Tryd.prog 6 #[.int .i64 t, .int .i64 s] w fun e w' => e = .returned (.bool true) ∧ Below w.heap.size w w' := by
  have K := Lib.hid (known_any w ht)
  clear ht
  by_cases h : isT t = true
  · have hh := isT_true.1 h
    obtain ⟨t1, t2⟩ := hh
    have T := Lib.hid (fun W => time_yes t h W)
    clear h
    by_cases h1 : s < 1
    · go_enter Tryd.func6, Tryd.ntmps6
      go_wp2_with fail
      refine K.out.mono ?_
      rintro e w1 ⟨rfl, hb⟩
      go_wp2_with fail
      refine (T.out _).mono ?_
      rintro e u ⟨rfl, rfl⟩
      go_wp2
      go_ret
      exact ⟨rfl, hb⟩
    · by_cases h2 : 2199023255552 < s
      · have h1' : 1 ≤ s := by omega
        go_enter Tryd.func6, Tryd.ntmps6
        go_wp2_with fail
        refine K.out.mono ?_
        rintro e w1 ⟨rfl, hb⟩
        go_wp2_with fail
        refine (T.out _).mono ?_
        rintro e u ⟨rfl, rfl⟩
        go_wp2
        go_ret
        exact ⟨rfl, hb⟩
      · by_cases h3 : 2199023255552 < t
        · have h1' : 1 ≤ s := by omega
          have h2' : s ≤ 2199023255552 := by omega
          go_enter Tryd.func6, Tryd.ntmps6
          go_wp2_with fail
          refine K.out.mono ?_
          rintro e w1 ⟨rfl, hb⟩
          go_wp2_with fail
          refine (T.out _).mono ?_
          rintro e u ⟨rfl, rfl⟩
          go_wp2
          go_ret
          exact ⟨rfl, hb⟩
        · have h1' : 1 ≤ s := by omega
          have h2' : s ≤ 2199023255552 := by omega
          have h3' : t ≤ 2199023255552 := by omega
          clear h1 h2 h3 t2
          obtain ⟨g1, g2, g3, g4, g5, g6, g7⟩ := grid_num t s t1 h3' h1' h2'
          have F := Lib.hid (fun W => floor_any t s W)
          have N := Lib.hid (fun W => next_any t s W)
          have G := Lib.hid (fun W => floor_any (t - t % s) s W)
          rw [g1] at F
          rw [g2] at N
          rw [g3] at G
          unfold Two at F N G
          clear g1 g2 g3
          generalize t - t % s = f at *
          have e1 : f.tmod s = 0 := by rw [Int.tmod_eq_emod_of_nonneg g4]; exact g7
          have e2 : IntKind.i64.wrap (f + s - f) = s := by rw [IntKind.wrap_i64]; omega
          have e3 : ¬ s = 0 := by omega
          have e4 : (s == 0) = false := by rw [beq_eq_false_iff_ne]; exact e3
          have e5 : f + s - f = s := by omega
          go_enter Tryd.func6, Tryd.ntmps6
          go_wp2_with fail
          refine K.out.mono ?_
          rintro e w1 ⟨rfl, hb⟩
          go_wp2_with fail
          refine (T.out _).mono ?_
          rintro e u ⟨rfl, rfl⟩
          go_wp2_with fail
          refine (F.out _).mono ?_
          rintro e u ⟨rfl, rfl⟩
          go_wp2_with fail
          refine (N.out _).mono ?_
          rintro e u ⟨rfl, rfl⟩
          go_wp2_with fail
          refine (G.out _).mono ?_
          rintro e u ⟨rfl, rfl⟩
          go_wp2
          go_ret
          exact ⟨rfl, hb⟩
  · have T := Lib.hid (fun W => time_no t (by simpa using h) W)
    clear h
    go_enter Tryd.func6, Tryd.ntmps6
    go_wp2_with fail
    refine K.out.mono ?_
    rintro e w1 ⟨rfl, hb⟩
    go_wp2_with fail
    refine (T.out _).mono ?_
    rintro e u ⟨rfl, rfl⟩
    go_wp2
    go_ret
    exact ⟨rfl, hb⟩
end Go.Proofs.YtmiahbaadlddjaaDoor
