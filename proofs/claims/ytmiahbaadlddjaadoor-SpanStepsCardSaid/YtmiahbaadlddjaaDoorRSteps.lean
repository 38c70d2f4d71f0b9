/- The reference's Steps. -/
import Derived.Test.YtmiahbaadlddjaaDoorSteps
namespace Go.Proofs.YtmiahbaadlddjaaDoor
open Go Go.Proofs Go.RowKit
set_option maxRecDepth 100000
/-- how many multiples there are -/
def cntOf (fr tt s : Int) : Int := tt / s - (lowOf fr tt + s) / s + 1
/-- the first of them -/
def firstOf (fr tt s : Int) : Int := s * ((lowOf fr tt + s) / s)
theorem first_neg (tt s : Int) (t1 : 0 ≤ tt) (s1 : 1 ≤ s) : firstOf (-1) tt s = 0 ∧ cntOf (-1) tt s = tt / s + 1 := by
  have e : lowOf (-1) tt = -1 := by unfold lowOf; rw [if_pos (by omega)]
  have e2 : (-1 + s) / s = 0 := Int.ediv_eq_zero_of_lt (by omega) (by omega)
  unfold firstOf cntOf
  rw [e, e2]
  exact ⟨by simp, by omega⟩
theorem first_pos (fr tt s : Int) (f0 : 0 ≤ fr) (hft : fr < tt) (s1 : 1 ≤ s) : firstOf fr tt s = fr / s * s + s ∧ cntOf fr tt s = tt / s - fr / s := by
  have e : lowOf fr tt = fr := by unfold lowOf; rw [if_pos (by omega)]
  have e2 : (fr + s) / s = fr / s + 1 := by
    have := Int.add_mul_ediv_right fr 1 (show s ≠ 0 by omega)
    rwa [Int.one_mul] at this
  unfold firstOf cntOf
  rw [e, e2]
  exact ⟨by rw [Int.mul_add, Int.mul_one, Int.mul_comm], by omega⟩
theorem cnt_past (fr tt s : Int) (t1 : 0 ≤ tt) (s1 : 1 ≤ s) (hft : tt ≤ fr) : cntOf fr tt s = 0 := by
  have e : lowOf fr tt = tt := by unfold lowOf; split <;> omega
  have e2 : (tt + s) / s = tt / s + 1 := by
    have := Int.add_mul_ediv_right tt 1 (show s ≠ 0 by omega)
    rwa [Int.one_mul] at this
  unfold cntOf
  rw [e, e2]; omega
/-- the multiples that are counted are those up to the end -/
theorem cnt_iff (fr tt s : Int) (t1 : 0 ≤ tt) (s1 : 1 ≤ s) (k : Int) : k < cntOf fr tt s ↔ firstOf fr tt s + k * s ≤ tt := by
  unfold cntOf firstOf
  generalize (lowOf fr tt + s) / s = F
  have e : s * F + k * s = (F + k) * s := by rw [Int.add_mul, Int.mul_comm s F]
  rw [e]
  constructor
  · intro h
    exact Int.le_trans (Int.mul_le_mul_of_nonneg_right (show F + k ≤ tt / s by omega) (by omega)) (by rw [Int.mul_comm]; exact Int.mul_ediv_self_le (by omega))
  · intro h
    have := (Int.le_ediv_iff_mul_le (show 0 < s by omega)).2 h
    omega
theorem cnt_div (fr tt s : Int) (t1 : 0 ≤ tt) (s1 : 1 ≤ s) : (tt - firstOf fr tt s) / s = cntOf fr tt s - 1 := by
  unfold cntOf firstOf
  generalize (lowOf fr tt + s) / s = F
  have := Int.add_mul_ediv_left tt (-F) (show s ≠ 0 by omega)
  rw [show tt - s * F = tt + s * -F by rw [Int.mul_neg]; omega, this]
  omega
theorem cnt_nonneg (fr tt s : Int) (hf : -1 ≤ fr) (t1 : 0 ≤ tt) (s1 : 1 ≤ s) : 0 ≤ cntOf fr tt s := by
  obtain ⟨_, _, n3, _⟩ := steps_num fr tt s hf t1 s1
  unfold cntOf; omega
theorem first_nonneg (fr tt s : Int) (hf : -1 ≤ fr) (t1 : 0 ≤ tt) (s1 : 1 ≤ s) : 0 ≤ firstOf fr tt s := by
  obtain ⟨n1, _⟩ := steps_num fr tt s hf t1 s1
  exact Int.mul_nonneg (by omega) n1
theorem first_le (fr tt s : Int) (t1 : 0 ≤ tt) (s1 : 1 ≤ s) : firstOf fr tt s ≤ tt + s := by
  have h0 : lowOf fr tt ≤ tt := by unfold lowOf; split <;> omega
  have := Int.mul_ediv_self_le (x := lowOf fr tt + s) (show s ≠ 0 by omega)
  unfold firstOf
  omega
set_option maxHeartbeats 2000000 in
theorem rsteps_low (fr tt s : Int) (hf : fr < -1) (W : World) :
    Calls Tryd.prog 18 #[.int .i64 fr, .int .i64 tt, .int .i64 s] W fun e w' => e = .returned (.tuple #[.slice none 0 0, .int .i64 1]) ∧ W = w' := by
  go_enter Tryd.func18, Tryd.ntmps18
  go_wp2
  go_ret2
  exact ⟨rfl, rfl⟩
set_option maxHeartbeats 2000000 in
theorem rsteps_time (fr tt s : Int) (hf : -1 ≤ fr) (h : isT tt = false) (W : World) :
    Calls Tryd.prog 18 #[.int .i64 fr, .int .i64 tt, .int .i64 s] W fun e w' => e = .returned (.tuple #[.slice none 0 0, .int .i64 1]) ∧ W = w' := by
  have T := Lib.hid (fun W => time_no tt h W)
  clear h
  go_enter Tryd.func18, Tryd.ntmps18
  go_wp2_with fail
  refine (T.out _).mono ?_
  rintro e u ⟨rfl, rfl⟩
  go_wp2
  go_ret2
  exact ⟨rfl, rfl⟩
set_option maxHeartbeats 2000000 in
theorem rsteps_small (fr tt s : Int) (hf : -1 ≤ fr) (h : isT tt = true) (hs : s < 1) (W : World) :
    Calls Tryd.prog 18 #[.int .i64 fr, .int .i64 tt, .int .i64 s] W fun e w' => e = .returned (.tuple #[.slice none 0 0, .int .i64 1]) ∧ W = w' := by
  have T := Lib.hid (fun W => time_yes tt h W)
  clear h
  go_enter Tryd.func18, Tryd.ntmps18
  go_wp2_with fail
  refine (T.out _).mono ?_
  rintro e u ⟨rfl, rfl⟩
  go_wp2
  go_ret2
  exact ⟨rfl, rfl⟩
set_option maxHeartbeats 2000000 in
theorem rsteps_big (fr tt s : Int) (hf : -1 ≤ fr) (h : isT tt = true) (hs : 4398046511104 < s) (W : World) :
    Calls Tryd.prog 18 #[.int .i64 fr, .int .i64 tt, .int .i64 s] W fun e w' => e = .returned (.tuple #[.slice none 0 0, .int .i64 1]) ∧ W = w' := by
  have T := Lib.hid (fun W => time_yes tt h W)
  have hs' : 1 ≤ s := by omega
  clear h
  go_enter Tryd.func18, Tryd.ntmps18
  go_wp2_with fail
  refine (T.out _).mono ?_
  rintro e u ⟨rfl, rfl⟩
  go_wp2
  go_ret2
  exact ⟨rfl, rfl⟩
set_option maxHeartbeats 2000000 in
theorem rsteps_past (fr tt s : Int) (hf : -1 ≤ fr) (h : isT tt = true) (s1 : 1 ≤ s) (s2 : s ≤ 4398046511104) (hft : tt ≤ fr) (hfx : fr ≤ 9223372036854775807) (W : World) :
    Calls Tryd.prog 18 #[.int .i64 fr, .int .i64 tt, .int .i64 s] W fun e w' => e = .returned (.tuple #[.slice none 0 0, .int .i64 0]) ∧ W = w' := by
  have T := Lib.hid (fun W => time_yes tt h W)
  obtain ⟨t1, t2⟩ := isT_true.1 h
  have f0 : 0 ≤ fr := by omega
  have e3 : ¬ s = 0 := by omega
  have e4 : (s == 0) = false := by rw [beq_eq_false_iff_ne]; exact e3
  clear h
  go_enter Tryd.func18, Tryd.ntmps18
  go_wp2_with fail
  refine (T.out _).mono ?_
  rintro e u ⟨rfl, rfl⟩
  go_wp2
  go_ret2
  exact ⟨rfl, rfl⟩
set_option maxHeartbeats 2000000 in
theorem rsteps_many_neg (tt s : Int) (c : Nat) (h : isT tt = true) (s1 : 1 ≤ s) (s2 : s ≤ 4398046511104) (hc : cntOf (-1) tt s = (c : Int)) (hm : 100000 < c) (W : World) :
    Calls Tryd.prog 18 #[.int .i64 (-1), .int .i64 tt, .int .i64 s] W fun e w' => e = .returned (.tuple #[.slice none 0 0, .int .i64 4]) ∧ W = w' := by
  have T := Lib.hid (fun W => time_yes tt h W)
  obtain ⟨t1, t2⟩ := isT_true.1 h
  obtain ⟨p1, p2⟩ := first_neg tt s t1 s1
  have d1 := cnt_div (-1) tt s t1 s1
  have i1 := cnt_iff (-1) tt s t1 s1
  have n0 := first_nonneg (-1) tt s (by omega) t1 s1
  have n1 := first_le (-1) tt s t1 s1
  rw [hc] at d1 i1
  rw [p1] at n0 n1 d1 i1
  have e3 : ¬ s = 0 := by omega
  have e4 : (s == 0) = false := by rw [beq_eq_false_iff_ne]; exact e3
  clear p1 p2 h hc
  rw [Int.sub_zero] at d1
  have d2 : IntKind.i64.wrap tt = tt := by rw [IntKind.wrap_i64]; omega
  have hz := (i1 0).1 (by omega)
  skip
  have d3 : tt.tdiv s = (c : Int) - 1 := by rw [Int.tdiv_eq_ediv_of_nonneg (by omega)]; exact d1
  have d5 : (c : Int) - 1 ≤ tt := by rw [← d1]; exact Int.ediv_le_self _ (by omega)
  have d4 : IntKind.i64.wrap ((c : Int) - 1 + 1) = (c : Int) := by rw [IntKind.wrap_i64]; omega
  have d6 : (c : Int) - 1 + 1 = (c : Int) := by omega
  have hm' : (100000 : Int) < (c : Int) := by omega
  clear i1 d1 hz
  go_enter Tryd.func18, Tryd.ntmps18
  go_wp2_with fail
  refine (T.out _).mono ?_
  rintro e u ⟨rfl, rfl⟩
  go_wp2
  go_ret2
  exact ⟨rfl, rfl⟩
set_option maxHeartbeats 2000000 in
theorem rsteps_some_neg (tt s : Int) (c : Nat) (h : isT tt = true) (s1 : 1 ≤ s) (s2 : s ≤ 4398046511104) (hc : cntOf (-1) tt s = (c : Int)) (h1 : 1 ≤ c) (hm : c ≤ 100000) (W : World) :
    Calls Tryd.prog 18 #[.int .i64 (-1), .int .i64 tt, .int .i64 s] W fun e w' => ∃ v, e = .returned (.tuple #[v, .int .i64 0]) ∧ w'.ownsRow W.heap.size 2 1 v c (stepsL (firstOf (-1) tt s) s c) ∧ Below W.heap.size W w' := by
  have T := Lib.hid (fun W => time_yes tt h W)
  obtain ⟨t1, t2⟩ := isT_true.1 h
  obtain ⟨p1, p2⟩ := first_neg tt s t1 s1
  have d1 := cnt_div (-1) tt s t1 s1
  have i1 := cnt_iff (-1) tt s t1 s1
  have n0 := first_nonneg (-1) tt s (by omega) t1 s1
  have n1 := first_le (-1) tt s t1 s1
  rw [hc] at d1 i1
  rw [p1] at n0 n1 d1 i1 ⊢
  have e3 : ¬ s = 0 := by omega
  have e4 : (s == 0) = false := by rw [beq_eq_false_iff_ne]; exact e3
  clear p1 p2 h hc
  rw [Int.sub_zero] at d1
  have d2 : IntKind.i64.wrap tt = tt := by rw [IntKind.wrap_i64]; omega
  have hz := (i1 0).1 (by omega)
  skip
  have d3 : tt.tdiv s = (c : Int) - 1 := by rw [Int.tdiv_eq_ediv_of_nonneg (by omega)]; exact d1
  have d5 : (c : Int) - 1 ≤ tt := by rw [← d1]; exact Int.ediv_le_self _ (by omega)
  have d4 : IntKind.i64.wrap ((c : Int) - 1 + 1) = (c : Int) := by rw [IntKind.wrap_i64]; omega
  have d6 : (c : Int) - 1 + 1 = (c : Int) := by omega
  have hm' : (c : Int) ≤ 100000 := by omega
  obtain ⟨i0, hi, hz0, hz1, hz2⟩ := info_parts info_i64
  have I := Lib.hid i1
  clear i1 d1 hz
  go_enter Tryd.func18, Tryd.ntmps18
  go_wp2_with fail
  refine (T.out _).mono ?_
  rintro e u ⟨rfl, rfl⟩
  go_wp2
  go_loopw [9, 10] (fun v t wr => ∃ k : Nat, k ≤ c ∧ t = .int .i64 (0 + (k : Int) * s) ∧ wr.ownsRow W.heap.size 2 1 v k (stepsL 0 s k) ∧ Below W.heap.size W wr) (fun _ t _ => (tt + 1 - intOf t).toNat)
  case atStart => exact ⟨0, Nat.zero_le _, by go_num, World.ownsRow_nil _ _ _ _, Below.refl _ _⟩
  case round =>
    obtain ⟨k, hk, rfl, hown, hB⟩ := hrel
    have hik := I.out k
    by_cases hlt : k < c
    · have hle := hik.1 (by omega)
      have hks : 0 ≤ (k : Int) * s := Int.mul_nonneg (by omega) (by omega)
      have hk1 : ((k + 1 : Nat) : Int) * s = (k : Int) * s + s := by rw [Int.natCast_add, Int.add_mul]; simp
      clear hik
      obtain ⟨KS, hKS⟩ : ∃ KS, (k : Int) * s = KS := ⟨_, rfl⟩
      rw [hKS] at hle hks hk1
      have e10 : IntKind.i64.wrap (KS + s) = KS + s := by rw [IntKind.wrap_i64]; omega
      have hsL := stepsL_succ 0 s k
      rw [hKS] at hsL ⊢
      rw [Int.zero_add] at hsL hle
      have HS := Lib.hid hsL
      have H1 := Lib.hid hk1
      clear hsL hk1 hKS
      go_wp2_with (at_builtin; refine wpList_append_own _ rfl _ _ 31 rfl W.heap.size 2 i0 (.int .i64 0) 1 8 Tryd.underlying31 hi hz0 hz1 hz2 rfl (by decide) _ _ _ rfl (hown.alloc _) ⟨wr.heap.size, 0, none⟩ 1 1 [.int .i64 (KS)] rfl rfl ?c1neg ?c2neg ?c3neg ?c4neg ?c5neg ?_)
      case c1neg =>
        intro j u hj
        match j, hj with
        | 0, hj => simp at hj; subst hj; simp [Addr.add]
      case c2neg => intro u hu; simp at hu; subst hu; rfl
      case c3neg => unfold maxLen; omega
      case c4neg => omega
      case c5neg => have := hB.size; simp; omega
      intro v' w1 hown' hgrow _
      have hB1 : Below W.heap.size W w1 := (hB.alloc hB.size _).grown hgrow (by have := hB.size; simp; omega) (fun j e => by
        rcases hown.2 with ⟨rfl, _⟩ | ⟨gg, cap, cur, rfl, hb, _, _⟩
        · simp [Value.ownBlock] at e
        · obtain rfl : gg = j := by simpa [Value.ownBlock] using e
          exact hb)
      rw [← HS.out] at hown'
      clear hown hgrow hB
      go_wp2
      go_roundw
      case rel => exact ⟨k + 1, by omega, by rw [H1.out]; go_num, hown', hB1⟩
      case measure => simp [intOf]; omega
    · obtain rfl : k = c := by omega
      have hgt : tt < 0 + (k : Int) * s := by have := (not_congr hik).1 (by omega); omega
      clear hik
      generalize (k : Int) * s = KS at *
      go_wp2
      go_ret2
      exact ⟨_, rfl, hown, hB⟩
set_option maxHeartbeats 2000000 in
theorem rsteps_none_pos (fr tt s : Int) (c : Nat) (f0 : 0 ≤ fr) (hft : fr < tt) (h : isT tt = true) (s1 : 1 ≤ s) (s2 : s ≤ 4398046511104) (hc : cntOf fr tt s = (c : Int)) (h0 : c = 0) (W : World) :
    Calls Tryd.prog 18 #[.int .i64 fr, .int .i64 tt, .int .i64 s] W fun e w' => e = .returned (.tuple #[.slice none 0 0, .int .i64 0]) ∧ W = w' := by
  have T := Lib.hid (fun W => time_yes tt h W)
  obtain ⟨t1, t2⟩ := isT_true.1 h
  obtain ⟨p1, p2⟩ := first_pos fr tt s f0 hft s1
  have d1 := cnt_div fr tt s t1 s1
  have i1 := cnt_iff fr tt s t1 s1
  have n0 := first_nonneg fr tt s (by omega) t1 s1
  have n1 := first_le fr tt s t1 s1
  rw [hc] at d1 i1
  have q0 : 0 ≤ fr / s := Int.ediv_nonneg f0 (by omega)
  have q1 : fr / s * s ≤ fr := by rw [Int.mul_comm]; exact Int.mul_ediv_self_le (by omega)
  have q2 : 0 ≤ fr / s * s := Int.mul_nonneg q0 (by omega)
  obtain ⟨q, hq⟩ : ∃ q, fr / s = q := ⟨_, rfl⟩
  rw [hq] at p1 p2 q0 q1 q2
  rw [p1] at n0 n1 d1 i1
  obtain ⟨Z, hqs⟩ : ∃ Z, q * s = Z := ⟨_, rfl⟩
  rw [hqs] at n0 n1 d1 i1 q1 q2
  have e8 : IntKind.i64.wrap Z = Z := by rw [IntKind.wrap_i64]; omega
  have e9 : IntKind.i64.wrap (Z + s) = Z + s := by rw [IntKind.wrap_i64]; omega
  have e3 : ¬ s = 0 := by omega
  have e4 : (s == 0) = false := by rw [beq_eq_false_iff_ne]; exact e3
  clear p1 p2 h hc
  have hz := (not_congr (i1 0)).1 (by omega)
  have hz' : tt < (Z + s) := by omega
  clear i1 d1 hz h0
  go_enter Tryd.func18, Tryd.ntmps18
  go_wp2_with fail
  refine (T.out _).mono ?_
  rintro e u ⟨rfl, rfl⟩
  go_wp2
  go_ret2
  exact ⟨rfl, rfl⟩
set_option maxHeartbeats 2000000 in
theorem rsteps_many_pos (fr tt s : Int) (c : Nat) (f0 : 0 ≤ fr) (hft : fr < tt) (h : isT tt = true) (s1 : 1 ≤ s) (s2 : s ≤ 4398046511104) (hc : cntOf fr tt s = (c : Int)) (hm : 100000 < c) (W : World) :
    Calls Tryd.prog 18 #[.int .i64 fr, .int .i64 tt, .int .i64 s] W fun e w' => e = .returned (.tuple #[.slice none 0 0, .int .i64 4]) ∧ W = w' := by
  have T := Lib.hid (fun W => time_yes tt h W)
  obtain ⟨t1, t2⟩ := isT_true.1 h
  obtain ⟨p1, p2⟩ := first_pos fr tt s f0 hft s1
  have d1 := cnt_div fr tt s t1 s1
  have i1 := cnt_iff fr tt s t1 s1
  have n0 := first_nonneg fr tt s (by omega) t1 s1
  have n1 := first_le fr tt s t1 s1
  rw [hc] at d1 i1
  have q0 : 0 ≤ fr / s := Int.ediv_nonneg f0 (by omega)
  have q1 : fr / s * s ≤ fr := by rw [Int.mul_comm]; exact Int.mul_ediv_self_le (by omega)
  have q2 : 0 ≤ fr / s * s := Int.mul_nonneg q0 (by omega)
  obtain ⟨q, hq⟩ : ∃ q, fr / s = q := ⟨_, rfl⟩
  rw [hq] at p1 p2 q0 q1 q2
  rw [p1] at n0 n1 d1 i1
  obtain ⟨Z, hqs⟩ : ∃ Z, q * s = Z := ⟨_, rfl⟩
  rw [hqs] at n0 n1 d1 i1 q1 q2
  have e8 : IntKind.i64.wrap Z = Z := by rw [IntKind.wrap_i64]; omega
  have e9 : IntKind.i64.wrap (Z + s) = Z + s := by rw [IntKind.wrap_i64]; omega
  have e3 : ¬ s = 0 := by omega
  have e4 : (s == 0) = false := by rw [beq_eq_false_iff_ne]; exact e3
  clear p1 p2 h hc
  have d2 : IntKind.i64.wrap (tt - (Z + s)) = tt - (Z + s) := by rw [IntKind.wrap_i64]; omega
  have hz := (i1 0).1 (by omega)
  have hz' : (Z + s) ≤ tt := by omega
  have d3 : (tt - (Z + s)).tdiv s = (c : Int) - 1 := by rw [Int.tdiv_eq_ediv_of_nonneg (by omega)]; exact d1
  have d5 : (c : Int) - 1 ≤ tt - (Z + s) := by rw [← d1]; exact Int.ediv_le_self _ (by omega)
  have d4 : IntKind.i64.wrap ((c : Int) - 1 + 1) = (c : Int) := by rw [IntKind.wrap_i64]; omega
  have d6 : (c : Int) - 1 + 1 = (c : Int) := by omega
  have hm' : (100000 : Int) < (c : Int) := by omega
  clear i1 d1 hz
  go_enter Tryd.func18, Tryd.ntmps18
  go_wp2_with fail
  refine (T.out _).mono ?_
  rintro e u ⟨rfl, rfl⟩
  go_wp2
  go_ret2
  exact ⟨rfl, rfl⟩
set_option maxHeartbeats 2000000 in
theorem rsteps_some_pos (fr tt s : Int) (c : Nat) (f0 : 0 ≤ fr) (hft : fr < tt) (h : isT tt = true) (s1 : 1 ≤ s) (s2 : s ≤ 4398046511104) (hc : cntOf fr tt s = (c : Int)) (h1 : 1 ≤ c) (hm : c ≤ 100000) (W : World) :
    Calls Tryd.prog 18 #[.int .i64 fr, .int .i64 tt, .int .i64 s] W fun e w' => ∃ v, e = .returned (.tuple #[v, .int .i64 0]) ∧ w'.ownsRow W.heap.size 2 1 v c (stepsL (firstOf fr tt s) s c) ∧ Below W.heap.size W w' := by
  have T := Lib.hid (fun W => time_yes tt h W)
  obtain ⟨t1, t2⟩ := isT_true.1 h
  obtain ⟨p1, p2⟩ := first_pos fr tt s f0 hft s1
  have d1 := cnt_div fr tt s t1 s1
  have i1 := cnt_iff fr tt s t1 s1
  have n0 := first_nonneg fr tt s (by omega) t1 s1
  have n1 := first_le fr tt s t1 s1
  rw [hc] at d1 i1
  have q0 : 0 ≤ fr / s := Int.ediv_nonneg f0 (by omega)
  have q1 : fr / s * s ≤ fr := by rw [Int.mul_comm]; exact Int.mul_ediv_self_le (by omega)
  have q2 : 0 ≤ fr / s * s := Int.mul_nonneg q0 (by omega)
  obtain ⟨q, hq⟩ : ∃ q, fr / s = q := ⟨_, rfl⟩
  rw [hq] at p1 p2 q0 q1 q2
  rw [p1] at n0 n1 d1 i1 ⊢
  obtain ⟨Z, hqs⟩ : ∃ Z, q * s = Z := ⟨_, rfl⟩
  rw [hqs] at n0 n1 d1 i1 q1 q2 ⊢
  have e8 : IntKind.i64.wrap Z = Z := by rw [IntKind.wrap_i64]; omega
  have e9 : IntKind.i64.wrap (Z + s) = Z + s := by rw [IntKind.wrap_i64]; omega
  have e3 : ¬ s = 0 := by omega
  have e4 : (s == 0) = false := by rw [beq_eq_false_iff_ne]; exact e3
  clear p1 p2 h hc
  have d2 : IntKind.i64.wrap (tt - (Z + s)) = tt - (Z + s) := by rw [IntKind.wrap_i64]; omega
  have hz := (i1 0).1 (by omega)
  have hz' : (Z + s) ≤ tt := by omega
  have d3 : (tt - (Z + s)).tdiv s = (c : Int) - 1 := by rw [Int.tdiv_eq_ediv_of_nonneg (by omega)]; exact d1
  have d5 : (c : Int) - 1 ≤ tt - (Z + s) := by rw [← d1]; exact Int.ediv_le_self _ (by omega)
  have d4 : IntKind.i64.wrap ((c : Int) - 1 + 1) = (c : Int) := by rw [IntKind.wrap_i64]; omega
  have d6 : (c : Int) - 1 + 1 = (c : Int) := by omega
  have hm' : (c : Int) ≤ 100000 := by omega
  obtain ⟨i0, hi, hz0, hz1, hz2⟩ := info_parts info_i64
  have I := Lib.hid i1
  clear i1 d1 hz
  go_enter Tryd.func18, Tryd.ntmps18
  go_wp2_with fail
  refine (T.out _).mono ?_
  rintro e u ⟨rfl, rfl⟩
  go_wp2
  go_loopw [9, 10] (fun v t wr => ∃ k : Nat, k ≤ c ∧ t = .int .i64 ((Z + s) + (k : Int) * s) ∧ wr.ownsRow W.heap.size 2 1 v k (stepsL (Z + s) s k) ∧ Below W.heap.size W wr) (fun _ t _ => (tt + 1 - intOf t).toNat)
  case atStart => exact ⟨0, Nat.zero_le _, by go_num, World.ownsRow_nil _ _ _ _, Below.refl _ _⟩
  case round =>
    obtain ⟨k, hk, rfl, hown, hB⟩ := hrel
    have hik := I.out k
    by_cases hlt : k < c
    · have hle := hik.1 (by omega)
      have hks : 0 ≤ (k : Int) * s := Int.mul_nonneg (by omega) (by omega)
      have hk1 : ((k + 1 : Nat) : Int) * s = (k : Int) * s + s := by rw [Int.natCast_add, Int.add_mul]; simp
      clear hik
      obtain ⟨KS, hKS⟩ : ∃ KS, (k : Int) * s = KS := ⟨_, rfl⟩
      rw [hKS] at hle hks hk1
      have e10 : IntKind.i64.wrap ((Z + s) + KS + s) = (Z + s) + KS + s := by rw [IntKind.wrap_i64]; omega
      have hsL := stepsL_succ (Z + s) s k
      rw [hKS] at hsL ⊢
      have HS := Lib.hid hsL
      have H1 := Lib.hid hk1
      clear hsL hk1 hKS
      go_wp2_with (at_builtin; refine wpList_append_own _ rfl _ _ 31 rfl W.heap.size 2 i0 (.int .i64 0) 1 8 Tryd.underlying31 hi hz0 hz1 hz2 rfl (by decide) _ _ _ rfl (hown.alloc _) ⟨wr.heap.size, 0, none⟩ 1 1 [.int .i64 ((Z + s) + KS)] rfl rfl ?c1pos ?c2pos ?c3pos ?c4pos ?c5pos ?_)
      case c1pos =>
        intro j u hj
        match j, hj with
        | 0, hj => simp at hj; subst hj; simp [Addr.add]
      case c2pos => intro u hu; simp at hu; subst hu; rfl
      case c3pos => unfold maxLen; omega
      case c4pos => omega
      case c5pos => have := hB.size; simp; omega
      intro v' w1 hown' hgrow _
      have hB1 : Below W.heap.size W w1 := (hB.alloc hB.size _).grown hgrow (by have := hB.size; simp; omega) (fun j e => by
        rcases hown.2 with ⟨rfl, _⟩ | ⟨gg, cap, cur, rfl, hb, _, _⟩
        · simp [Value.ownBlock] at e
        · obtain rfl : gg = j := by simpa [Value.ownBlock] using e
          exact hb)
      rw [← HS.out] at hown'
      clear hown hgrow hB
      go_wp2
      go_roundw
      case rel => exact ⟨k + 1, by omega, by rw [H1.out]; go_num, hown', hB1⟩
      case measure => simp [intOf]; omega
    · obtain rfl : k = c := by omega
      have hgt : tt < (Z + s) + (k : Int) * s := by have := (not_congr hik).1 (by omega); omega
      clear hik
      generalize (k : Int) * s = KS at *
      go_wp2
      go_ret2
      exact ⟨_, rfl, hown, hB⟩
end Go.Proofs.YtmiahbaadlddjaaDoor
