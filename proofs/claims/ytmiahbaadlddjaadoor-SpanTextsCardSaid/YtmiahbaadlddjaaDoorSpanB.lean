/- Add, Floor, Next of package span and of the reference: one answer each. -/
import Derived.Test.YtmiahbaadlddjaaDoorSpanA
import Derived.IntWalk
namespace Go.Proofs.YtmiahbaadlddjaaDoor
open Go Go.Proofs Go.RowKit
set_option maxRecDepth 100000
def addR (t d : Int) : Int × Int := if isT t = true ∧ isT d = true then (if t + d ≤ 4398046511104 then (t + d, 0) else (0, 7)) else (0, 1)
def stepB (s : Int) : Bool := isT s && decide (s ≠ 0)
theorem stepB_true {s : Int} : stepB s = true ↔ 1 ≤ s ∧ s ≤ 4398046511104 := by unfold stepB; rw [Bool.and_eq_true, isT_true, decide_eq_true_eq]; omega
theorem stepB_false {s : Int} : stepB s = false ↔ s < 1 ∨ 4398046511104 < s := by unfold stepB; rw [Bool.and_eq_false_iff, isT_false, decide_eq_false_iff_not]; omega
def floorR (t s : Int) : Int × Int := if isT t = true ∧ stepB s = true then (t - t % s, 0) else (0, 1)
def nextR (t s : Int) : Int × Int := if isT t = true ∧ stepB s = true then (if t - t % s + s ≤ 4398046511104 then (t - t % s + s, 0) else (0, 7)) else (0, 1)
def Two (r : Int × Int) : Value := .tuple #[.int .i64 r.1, .int .i64 r.2]
theorem emod_le' (t d : Int) (h : 0 ≤ t) (hd : 0 < d) : t % d ≤ t := by
  obtain ⟨t, rfl⟩ := Int.eq_ofNat_of_zero_le h
  obtain ⟨d, rfl⟩ := Int.eq_ofNat_of_zero_le (Int.le_of_lt hd)
  rw [← Int.natCast_emod]
  exact Int.ofNat_le.2 (Nat.mod_le t d)
theorem upTo_yes (t : Int) (h : t ≤ 4398046511104) (W : World) : Calls Tryd.prog 25 #[.int .i64 t] W fun e w' => e = .returned (.tuple #[.int .i64 t, .int .i64 0]) ∧ W = w' := by
  go_enter Tryd.func25, Tryd.ntmps25
  go_wp2
  go_ret2
  exact ⟨rfl, rfl⟩
theorem upTo_no (t : Int) (h : 4398046511104 < t) (W : World) : Calls Tryd.prog 25 #[.int .i64 t] W fun e w' => e = .returned (.tuple #[.int .i64 0, .int .i64 7]) ∧ W = w' := by
  go_enter Tryd.func25, Tryd.ntmps25
  go_wp2
  go_ret2
  exact ⟨rfl, rfl⟩
theorem checkStep_yes (s : Int) (h : stepB s = true) (W : World) : Calls Tryd.prog 26 #[.int .i64 s] W fun e w' => e = .returned (.int .i64 0) ∧ W = w' := by
  have hh := stepB_true.1 h
  have C := Lib.hid (fun W => check_yes s (isT_true.2 (by omega)) W)
  have h0 : (s == 0) = false := by rw [beq_eq_false_iff_ne]; omega
  clear h hh
  go_enter Tryd.func26, Tryd.ntmps26
  go_wp2_with fail
  refine (C.out _).mono ?_
  rintro e w1 ⟨rfl, rfl⟩
  go_wp2
  go_ret
  exact ⟨rfl, rfl⟩
theorem checkStep_no (s : Int) (h : stepB s = false) (W : World) : Calls Tryd.prog 26 #[.int .i64 s] W fun e w' => e = .returned (.int .i64 1) ∧ W = w' := by
  have hh := stepB_false.1 h
  by_cases h0 : s = 0
  · subst h0
    clear h hh
    go_enter Tryd.func26, Tryd.ntmps26
    go_wp2
    go_ret
    exact ⟨rfl, rfl⟩
  · have C := Lib.hid (fun W => check_no s (isT_false.2 (by omega)) W)
    have h1 : (s == 0) = false := by rw [beq_eq_false_iff_ne]; exact h0
    clear h hh h0
    go_enter Tryd.func26, Tryd.ntmps26
    go_wp2_with fail
    refine (C.out _).mono ?_
    rintro e w1 ⟨rfl, rfl⟩
    go_wp2
    go_ret
    exact ⟨rfl, rfl⟩
theorem above_any (t s : Int) (h1 : -1 ≤ t) (h2 : t ≤ 4398046511104) (s1 : 1 ≤ s) (s2 : s ≤ 4398046511104) (W : World) : Calls Tryd.prog 27 #[.int .i64 t, .int .i64 s] W fun e w' => e = .returned (.int .i64 (t + s - (t + s) % s)) ∧ W = w' := by
  have b0 := Int.emod_nonneg (t + s) (show s ≠ 0 by omega)
  have b1 := Int.emod_lt_of_pos (t + s) (show 0 < s by omega)
  have e1 : IntKind.i64.wrap (t + s) = t + s := by rw [IntKind.wrap_i64]; omega
  have e2 : (t + s).tmod s = (t + s) % s := Int.tmod_eq_emod_of_nonneg (by omega)
  have e3 : ¬ s = 0 := by omega
  have e4 : (s == 0) = false := by rw [beq_eq_false_iff_ne]; exact e3
  have e5 : IntKind.i64.wrap (t + s - (t + s) % s) = t + s - (t + s) % s := by rw [IntKind.wrap_i64]; omega
  generalize hr : (t + s) % s = r at *
  have HR := Lib.hid hr
  clear hr
  go_enter Tryd.func27, Tryd.ntmps27
  go_wp2
  go_ret
  exact ⟨rfl, rfl⟩
set_option maxHeartbeats 1000000 in
theorem add_any (t d : Int) (W : World) : Calls Tryd.prog 9 #[.int .i64 t, .int .i64 d] W fun e w' => e = .returned (Two (addR t d)) ∧ W = w' := by
  unfold addR
  cases h1 : isT t
  · have C1 := Lib.hid (fun W => check_no t h1 W)
    simp only [h1, Bool.false_eq_true, false_and, if_false]
    clear h1
    go_enter Tryd.func9, Tryd.ntmps9
    go_wp2_with fail
    refine (C1.out _).mono ?_
    rintro e w1 ⟨rfl, rfl⟩
    go_wp2
    go_ret2
    exact ⟨rfl, rfl⟩
  · have C1 := Lib.hid (fun W => check_yes t h1 W)
    have r1 := isT_true.1 h1
    simp only [h1, true_and]
    clear h1
    obtain ⟨r1a, r1b⟩ := r1
    cases h2 : isT d
    · have C2 := Lib.hid (fun W => check_no d h2 W)
      simp only [Bool.false_eq_true, if_false]
      clear h2
      go_enter Tryd.func9, Tryd.ntmps9
      go_wp2_with fail
      refine (C1.out _).mono ?_
      rintro e w1 ⟨rfl, rfl⟩
      go_wp2_with fail
      refine (C2.out _).mono ?_
      rintro e w1 ⟨rfl, rfl⟩
      go_wp2
      go_ret2
      exact ⟨rfl, rfl⟩
    · have C2 := Lib.hid (fun W => check_yes d h2 W)
      simp only [if_true]
      have r2 := isT_true.1 h2
      obtain ⟨r2a, r2b⟩ := r2
      clear h2
      by_cases h3 : t + d ≤ 4398046511104
      · have U := Lib.hid (fun W => upTo_yes (t + d) h3 W)
        simp only [h3, if_true]
        clear h3
        go_enter Tryd.func9, Tryd.ntmps9
        go_wp2_with fail
        refine (C1.out _).mono ?_
        rintro e w1 ⟨rfl, rfl⟩
        go_wp2_with fail
        refine (C2.out _).mono ?_
        rintro e w1 ⟨rfl, rfl⟩
        go_wp2_with fail
        refine (U.out _).mono ?_
        rintro e w1 ⟨rfl, rfl⟩
        go_wp2
        go_ret2
        exact ⟨rfl, rfl⟩
      · have U := Lib.hid (fun W => upTo_no (t + d) (by omega) W)
        simp only [h3, if_false]
        clear h3
        go_enter Tryd.func9, Tryd.ntmps9
        go_wp2_with fail
        refine (C1.out _).mono ?_
        rintro e w1 ⟨rfl, rfl⟩
        go_wp2_with fail
        refine (C2.out _).mono ?_
        rintro e w1 ⟨rfl, rfl⟩
        go_wp2_with fail
        refine (U.out _).mono ?_
        rintro e w1 ⟨rfl, rfl⟩
        go_wp2
        go_ret2
        exact ⟨rfl, rfl⟩
set_option maxHeartbeats 1000000 in
theorem addTime_any (t d : Int) (W : World) : Calls Tryd.prog 10 #[.int .i64 t, .int .i64 d] W fun e w' => e = .returned (Two (addR t d)) ∧ W = w' := by
  unfold addR
  cases h1 : isT t
  · have C1 := Lib.hid (fun W => time_no t h1 W)
    simp only [h1, Bool.false_eq_true, false_and, if_false]
    clear h1
    go_enter Tryd.func10, Tryd.ntmps10
    go_wp2_with fail
    refine (C1.out _).mono ?_
    rintro e w1 ⟨rfl, rfl⟩
    go_wp2
    go_ret2
    exact ⟨rfl, rfl⟩
  · have C1 := Lib.hid (fun W => time_yes t h1 W)
    have r1 := isT_true.1 h1
    simp only [h1, true_and]
    clear h1
    obtain ⟨r1a, r1b⟩ := r1
    cases h2 : isT d
    · have C2 := Lib.hid (fun W => time_no d h2 W)
      simp only [Bool.false_eq_true, if_false]
      clear h2
      go_enter Tryd.func10, Tryd.ntmps10
      go_wp2_with fail
      refine (C1.out _).mono ?_
      rintro e w1 ⟨rfl, rfl⟩
      go_wp2_with fail
      refine (C2.out _).mono ?_
      rintro e w1 ⟨rfl, rfl⟩
      go_wp2
      go_ret2
      exact ⟨rfl, rfl⟩
    · have C2 := Lib.hid (fun W => time_yes d h2 W)
      simp only [if_true]
      have r2 := isT_true.1 h2
      obtain ⟨r2a, r2b⟩ := r2
      clear h2
      by_cases h3 : t + d ≤ 4398046511104
      · simp only [h3, if_true]
        go_enter Tryd.func10, Tryd.ntmps10
        go_wp2_with fail
        refine (C1.out _).mono ?_
        rintro e w1 ⟨rfl, rfl⟩
        go_wp2_with fail
        refine (C2.out _).mono ?_
        rintro e w1 ⟨rfl, rfl⟩
        go_wp2
        go_ret2
        exact ⟨rfl, rfl⟩
      · have h4 : 4398046511104 < t + d := by omega
        simp only [h3, if_false]
        clear h3
        go_enter Tryd.func10, Tryd.ntmps10
        go_wp2_with fail
        refine (C1.out _).mono ?_
        rintro e w1 ⟨rfl, rfl⟩
        go_wp2_with fail
        refine (C2.out _).mono ?_
        rintro e w1 ⟨rfl, rfl⟩
        go_wp2
        go_ret2
        exact ⟨rfl, rfl⟩
set_option maxHeartbeats 1000000 in
theorem floor_any (t d : Int) (W : World) : Calls Tryd.prog 11 #[.int .i64 t, .int .i64 d] W fun e w' => e = .returned (Two (floorR t d)) ∧ W = w' := by
  unfold floorR
  cases h1 : isT t
  · have C1 := Lib.hid (fun W => check_no t h1 W)
    simp only [h1, Bool.false_eq_true, false_and, if_false]
    clear h1
    go_enter Tryd.func11, Tryd.ntmps11
    go_wp2_with fail
    refine (C1.out _).mono ?_
    rintro e w1 ⟨rfl, rfl⟩
    go_wp2
    go_ret2
    exact ⟨rfl, rfl⟩
  · have C1 := Lib.hid (fun W => check_yes t h1 W)
    have r1 := isT_true.1 h1
    simp only [h1, true_and]
    clear h1
    obtain ⟨r1a, r1b⟩ := r1
    cases h2 : stepB d
    · have C2 := Lib.hid (fun W => checkStep_no d h2 W)
      simp only [Bool.false_eq_true, if_false]
      clear h2
      go_enter Tryd.func11, Tryd.ntmps11
      go_wp2_with fail
      refine (C1.out _).mono ?_
      rintro e w1 ⟨rfl, rfl⟩
      go_wp2_with fail
      refine (C2.out _).mono ?_
      rintro e w1 ⟨rfl, rfl⟩
      go_wp2
      go_ret2
      exact ⟨rfl, rfl⟩
    · have C2 := Lib.hid (fun W => checkStep_yes d h2 W)
      simp only [if_true]
      have r2 := stepB_true.1 h2
      obtain ⟨r2a, r2b⟩ := r2
      clear h2
      have b0 := Int.emod_nonneg t (show d ≠ 0 by omega)
      have b1 := Int.emod_lt_of_pos t (show 0 < d by omega)
      have b2 := emod_le' t d r1a (by omega)
      have e2 : t.tmod d = t % d := Int.tmod_eq_emod_of_nonneg r1a
      have e3 : ¬ d = 0 := by omega
      have e4 : (d == 0) = false := by rw [beq_eq_false_iff_ne]; exact e3
      generalize hr : t % d = r at *
      have HR := Lib.hid hr
      clear hr
      go_enter Tryd.func11, Tryd.ntmps11
      go_wp2_with fail
      refine (C1.out _).mono ?_
      rintro e w1 ⟨rfl, rfl⟩
      go_wp2_with fail
      refine (C2.out _).mono ?_
      rintro e w1 ⟨rfl, rfl⟩
      go_wp2
      go_ret2
      exact ⟨rfl, rfl⟩
set_option maxHeartbeats 1000000 in
theorem refFloor_any (t d : Int) (W : World) : Calls Tryd.prog 12 #[.int .i64 t, .int .i64 d] W fun e w' => e = .returned (Two (floorR t d)) ∧ W = w' := by
  unfold floorR
  cases h1 : isT t
  · have C1 := Lib.hid (fun W => time_no t h1 W)
    simp only [h1, Bool.false_eq_true, false_and, if_false]
    clear h1
    go_enter Tryd.func12, Tryd.ntmps12
    go_wp2_with fail
    refine (C1.out _).mono ?_
    rintro e w1 ⟨rfl, rfl⟩
    go_wp2
    go_ret2
    exact ⟨rfl, rfl⟩
  · have C1 := Lib.hid (fun W => time_yes t h1 W)
    have r1 := isT_true.1 h1
    simp only [h1, true_and]
    clear h1
    obtain ⟨r1a, r1b⟩ := r1
    cases h2 : stepB d
    · simp only [Bool.false_eq_true, if_false]
      rcases stepB_false.1 h2 with r2 | r2
      · clear h2
        go_enter Tryd.func12, Tryd.ntmps12
        go_wp2_with fail
        refine (C1.out _).mono ?_
        rintro e w1 ⟨rfl, rfl⟩
        go_wp2
        go_ret2
        exact ⟨rfl, rfl⟩
      · have r3 : ¬ d < 1 := by omega
        clear h2
        go_enter Tryd.func12, Tryd.ntmps12
        go_wp2_with fail
        refine (C1.out _).mono ?_
        rintro e w1 ⟨rfl, rfl⟩
        go_wp2
        go_ret2
        exact ⟨rfl, rfl⟩
    · simp only [if_true]
      have r2 := stepB_true.1 h2
      obtain ⟨r2a, r2b⟩ := r2
      clear h2
      have b0 := Int.emod_nonneg t (show d ≠ 0 by omega)
      have b1 := Int.emod_lt_of_pos t (show 0 < d by omega)
      have b2 := emod_le' t d r1a (by omega)
      have e2 : t.tmod d = t % d := Int.tmod_eq_emod_of_nonneg r1a
      have e3 : ¬ d = 0 := by omega
      have e4 : (d == 0) = false := by rw [beq_eq_false_iff_ne]; exact e3
      have g1 : ¬ d < 1 := by omega
      have g2 : ¬ 4398046511104 < d := by omega
      have q0 : t / d * d = t - t % d := by have := Int.mul_ediv_add_emod t d; rw [Int.mul_comm] at this; omega
      have q1 : t.tdiv d = t / d := Int.tdiv_eq_ediv_of_nonneg r1a
      have q2 : 0 ≤ t / d := Int.ediv_nonneg r1a (by omega)
      have q4 : t / d ≤ t := Int.ediv_le_self d r1a
      have q5 : IntKind.i64.wrap (t / d) = t / d := by rw [IntKind.wrap_i64]; omega
      have q6 : IntKind.i64.wrap (t / d * d) = t - t % d := by rw [q0, IntKind.wrap_i64]; omega
      generalize t % d = r at *
      generalize hq : t / d = q at *
      have HQ := Lib.hid hq
      clear q0 hq e2
      go_enter Tryd.func12, Tryd.ntmps12
      go_wp2_with fail
      refine (C1.out _).mono ?_
      rintro e w1 ⟨rfl, rfl⟩
      go_wp2
      go_ret2
      exact ⟨rfl, rfl⟩
set_option maxHeartbeats 1000000 in
theorem next_any (t d : Int) (W : World) : Calls Tryd.prog 13 #[.int .i64 t, .int .i64 d] W fun e w' => e = .returned (Two (nextR t d)) ∧ W = w' := by
  unfold nextR
  cases h1 : isT t
  · have C1 := Lib.hid (fun W => check_no t h1 W)
    simp only [h1, Bool.false_eq_true, false_and, if_false]
    clear h1
    go_enter Tryd.func13, Tryd.ntmps13
    go_wp2_with fail
    refine (C1.out _).mono ?_
    rintro e w1 ⟨rfl, rfl⟩
    go_wp2
    go_ret2
    exact ⟨rfl, rfl⟩
  · have C1 := Lib.hid (fun W => check_yes t h1 W)
    have r1 := isT_true.1 h1
    simp only [h1, true_and]
    clear h1
    obtain ⟨r1a, r1b⟩ := r1
    cases h2 : stepB d
    · have C2 := Lib.hid (fun W => checkStep_no d h2 W)
      simp only [Bool.false_eq_true, if_false]
      clear h2
      go_enter Tryd.func13, Tryd.ntmps13
      go_wp2_with fail
      refine (C1.out _).mono ?_
      rintro e w1 ⟨rfl, rfl⟩
      go_wp2_with fail
      refine (C2.out _).mono ?_
      rintro e w1 ⟨rfl, rfl⟩
      go_wp2
      go_ret2
      exact ⟨rfl, rfl⟩
    · have C2 := Lib.hid (fun W => checkStep_yes d h2 W)
      simp only [if_true]
      have r2 := stepB_true.1 h2
      obtain ⟨r2a, r2b⟩ := r2
      clear h2
      have ab := fun W => above_any t d (by omega) r1b r2a r2b W
      rw [show t + d - (t + d) % d = t - t % d + d by rw [show (t + d) % d = t % d by simp]; omega] at ab
      have AB := Lib.hid ab
      clear ab
      by_cases h3 : t - t % d + d ≤ 4398046511104
      · have U := Lib.hid (fun W => upTo_yes (t - t % d + d) h3 W)
        simp only [h3, if_true]
        clear h3
        go_enter Tryd.func13, Tryd.ntmps13
        go_wp2_with fail
        refine (C1.out _).mono ?_
        rintro e w1 ⟨rfl, rfl⟩
        go_wp2_with fail
        refine (C2.out _).mono ?_
        rintro e w1 ⟨rfl, rfl⟩
        go_wp2_with fail
        refine (AB.out _).mono ?_
        rintro e w1 ⟨rfl, rfl⟩
        go_wp2_with fail
        refine (U.out _).mono ?_
        rintro e w1 ⟨rfl, rfl⟩
        go_wp2
        go_ret2
        exact ⟨rfl, rfl⟩
      · have U := Lib.hid (fun W => upTo_no (t - t % d + d) (by omega) W)
        simp only [h3, if_false]
        clear h3
        go_enter Tryd.func13, Tryd.ntmps13
        go_wp2_with fail
        refine (C1.out _).mono ?_
        rintro e w1 ⟨rfl, rfl⟩
        go_wp2_with fail
        refine (C2.out _).mono ?_
        rintro e w1 ⟨rfl, rfl⟩
        go_wp2_with fail
        refine (AB.out _).mono ?_
        rintro e w1 ⟨rfl, rfl⟩
        go_wp2_with fail
        refine (U.out _).mono ?_
        rintro e w1 ⟨rfl, rfl⟩
        go_wp2
        go_ret2
        exact ⟨rfl, rfl⟩
set_option maxHeartbeats 1000000 in
theorem refNext_any (t d : Int) (W : World) : Calls Tryd.prog 14 #[.int .i64 t, .int .i64 d] W fun e w' => e = .returned (Two (nextR t d)) ∧ W = w' := by
  have C := fun W => refFloor_any t d W
  unfold floorR at C
  unfold nextR
  by_cases h : isT t = true ∧ stepB d = true
  · simp only [h, and_self, if_true, Two] at C ⊢
    have FL := Lib.hid C
    have r1 := isT_true.1 h.1
    have r2 := stepB_true.1 h.2
    have b0 := Int.emod_nonneg t (show d ≠ 0 by omega)
    have b2 := emod_le' t d r1.1 (by omega)
    obtain ⟨r1a, r1b⟩ := r1
    obtain ⟨r2a, r2b⟩ := r2
    clear C h
    have p1 : 0 ≤ t - t % d := by omega
    have p2 : t - t % d ≤ 4398046511104 := by omega
    generalize t - t % d = f at *
    clear b0 b2
    by_cases h3 : f + d ≤ 4398046511104
    · simp only [h3, if_true]
      go_enter Tryd.func14, Tryd.ntmps14
      go_wp2_with fail
      refine (FL.out _).mono ?_
      rintro e w1 ⟨rfl, rfl⟩
      go_wp2
      go_ret2
      exact ⟨rfl, rfl⟩
    · have h4 : 4398046511104 < f + d := by omega
      simp only [h3, if_false]
      clear h3
      go_enter Tryd.func14, Tryd.ntmps14
      go_wp2_with fail
      refine (FL.out _).mono ?_
      rintro e w1 ⟨rfl, rfl⟩
      go_wp2
      go_ret2
      exact ⟨rfl, rfl⟩
  · simp only [h, if_false, Two] at C ⊢
    have FL := Lib.hid C
    clear C h
    go_enter Tryd.func14, Tryd.ntmps14
    go_wp2_with fail
    refine (FL.out _).mono ?_
    rintro e w1 ⟨rfl, rfl⟩
    go_wp2
    go_ret2
    exact ⟨rfl, rfl⟩
end Go.Proofs.YtmiahbaadlddjaaDoor
