/- belfrylaw2.SpanSteps: for every two times and every step the law returns true. -/
import Derived.Test.YtmiahbaadlddjaaDoorKnown
import Derived.Test.YtmiahbaadlddjaaDoorRSteps
namespace Go.Proofs.YtmiahbaadlddjaaDoor
open Go Go.Proofs Go.RowKit Go.Shelf
set_option maxRecDepth 100000
theorem rs_zero (fr tt s : Int) (hf : -1 ≤ fr) (hfx : fr ≤ 9223372036854775807) (h : isT tt = true) (s1 : 1 ≤ s) (s2 : s ≤ 4398046511104) (hc : cntOf fr tt s = ((0 : Nat) : Int)) (W : World) :
    Calls Tryd.prog 18 #[.int .i64 fr, .int .i64 tt, .int .i64 s] W fun e w' => e = .returned (.tuple #[.slice none 0 0, .int .i64 0]) ∧ W = w' := by
  obtain ⟨t1, t2⟩ := isT_true.1 h
  by_cases hft : tt ≤ fr
  · exact rsteps_past fr tt s hf h s1 s2 hft hfx W
  · by_cases f0 : 0 ≤ fr
    · exact rsteps_none_pos fr tt s 0 f0 (by omega) h s1 s2 hc rfl W
    · obtain rfl : fr = -1 := by omega
      obtain ⟨_, p2⟩ := first_neg tt s t1 s1
      have := Int.ediv_nonneg t1 (show 0 ≤ s by omega)
      omega
theorem rs_many (fr tt s : Int) (c : Nat) (hf : -1 ≤ fr) (h : isT tt = true) (s1 : 1 ≤ s) (s2 : s ≤ 4398046511104) (hc : cntOf fr tt s = (c : Int)) (hm : 100000 < c) (W : World) :
    Calls Tryd.prog 18 #[.int .i64 fr, .int .i64 tt, .int .i64 s] W fun e w' => e = .returned (.tuple #[.slice none 0 0, .int .i64 4]) ∧ W = w' := by
  obtain ⟨t1, t2⟩ := isT_true.1 h
  by_cases hft : tt ≤ fr
  · have := cnt_past fr tt s t1 s1 hft; omega
  · by_cases f0 : 0 ≤ fr
    · exact rsteps_many_pos fr tt s c f0 (by omega) h s1 s2 hc hm W
    · obtain rfl : fr = -1 := by omega
      exact rsteps_many_neg tt s c h s1 s2 hc hm W
theorem rs_some (fr tt s : Int) (c : Nat) (hf : -1 ≤ fr) (h : isT tt = true) (s1 : 1 ≤ s) (s2 : s ≤ 4398046511104) (hc : cntOf fr tt s = (c : Int)) (h1 : 1 ≤ c) (hm : c ≤ 100000) (W : World) :
    Calls Tryd.prog 18 #[.int .i64 fr, .int .i64 tt, .int .i64 s] W fun e w' => ∃ v, e = .returned (.tuple #[v, .int .i64 0]) ∧ w'.ownsRow W.heap.size 2 1 v c (stepsL (firstOf fr tt s) s c) ∧ Below W.heap.size W w' := by
  obtain ⟨t1, t2⟩ := isT_true.1 h
  by_cases hft : tt ≤ fr
  · have := cnt_past fr tt s t1 s1 hft; omega
  · by_cases f0 : 0 ≤ fr
    · exact rsteps_some_pos fr tt s c f0 (by omega) h s1 s2 hc h1 hm W
    · obtain rfl : fr = -1 := by omega
      exact rsteps_some_neg tt s c h s1 s2 hc h1 hm W
set_option maxHeartbeats 1000000 in
theorem steps_both (fr tt s n : Int) (hn : n = 1 ∨ n = 4) (w : World) (ht : Tab w)
    (C1 : ∀ W, Calls Tryd.prog 17 #[.int .i64 fr, .int .i64 tt, .int .i64 s] W fun e w' => e = .returned (.tuple #[.slice none 0 0, .int .i64 n]) ∧ W = w')
    (C2 : ∀ W, Calls Tryd.prog 18 #[.int .i64 fr, .int .i64 tt, .int .i64 s] W fun e w' => e = .returned (.tuple #[.slice none 0 0, .int .i64 n]) ∧ W = w') :
    Calls Tryd.prog 4 #[.int .i64 fr, .int .i64 tt, .int .i64 s] w fun e w' => e = .returned (.bool true) ∧ Below w.heap.size w w' := by
  have K := Lib.hid (known_any w ht)
  have A := Lib.hid C1
  have B := Lib.hid C2
  clear ht C1 C2 hn
  go_enter Tryd.func4, Tryd.ntmps4
  go_wp2_with fail
  refine K.out.mono ?_
  rintro e w1 ⟨rfl, hb⟩
  go_wp2_with fail
  refine (A.out _).mono ?_
  rintro e u ⟨rfl, rfl⟩
  go_wp2_with fail
  refine (B.out _).mono ?_
  rintro e u ⟨rfl, rfl⟩
  go_wp2
  refine wp_loop_rounds 1 ?_
  rw [rounds_succ]
  go_wp2
  go_ret
  exact ⟨rfl, hb⟩
set_option maxHeartbeats 1000000 in
theorem steps_zero (fr tt s : Int) (w : World) (ht : Tab w)
    (C1 : ∀ W, Calls Tryd.prog 17 #[.int .i64 fr, .int .i64 tt, .int .i64 s] W fun e w' => e = .returned (.tuple #[.slice (some ⟨W.heap.size, 0, none⟩) 0 0, .int .i64 0]) ∧ Below W.heap.size W w')
    (C2 : ∀ W, Calls Tryd.prog 18 #[.int .i64 fr, .int .i64 tt, .int .i64 s] W fun e w' => e = .returned (.tuple #[.slice none 0 0, .int .i64 0]) ∧ W = w') :
    Calls Tryd.prog 4 #[.int .i64 fr, .int .i64 tt, .int .i64 s] w fun e w' => e = .returned (.bool true) ∧ Below w.heap.size w w' := by
  have K := Lib.hid (known_any w ht)
  have A := Lib.hid C1
  have B := Lib.hid C2
  clear ht C1 C2
  go_enter Tryd.func4, Tryd.ntmps4
  go_wp2_with fail
  refine K.out.mono ?_
  rintro e w1 ⟨rfl, hb⟩
  go_wp2_with fail
  refine (A.out _).mono ?_
  rintro e u ⟨rfl, hb2⟩
  have hb3 := hb.trans (hb2.mono hb.size)
  clear hb2
  go_wp2_with fail
  refine (B.out _).mono ?_
  rintro e u2 ⟨rfl, rfl⟩
  go_wp2
  refine wp_loop_rounds 1 ?_
  rw [rounds_succ]
  go_wp2
  go_ret
  exact ⟨rfl, hb3⟩
theorem own_one {w : World} {base e n : Nat} {v : Value} {xs : List Value} (h : w.ownsRow base e 1 v n xs) (hn : 0 < n) : ∃ g cap, v = .slice (some ⟨g, 0, none⟩) n cap := by
  rcases h.2 with ⟨_, h⟩ | ⟨g, cap, cur, hv, _⟩
  · omega
  · exact ⟨g, cap, hv⟩
theorem stepsL_get (a s : Int) (c i : Nat) (h : i < c) : (stepsL a s c)[i]? = some (.int .i64 (a + (i : Int) * s)) := by
  unfold stepsL
  rw [List.getElem?_map, List.getElem?_range h]
  rfl
set_option maxHeartbeats 2000000 in
theorem steps_many1 (fr tt s : Int) (c : Nat) (a : Int) (h1 : 1 ≤ c) (hm : c ≤ 100000) (w : World) (ht : Tab w)
    (C1 : ∀ W, Calls Tryd.prog 17 #[.int .i64 fr, .int .i64 tt, .int .i64 s] W fun e w' => e = .returned (.tuple #[.slice (some ⟨W.heap.size, 0, none⟩) c c, .int .i64 0]) ∧ w'.ownsRow W.heap.size 2 1 (.slice (some ⟨W.heap.size, 0, none⟩) c c) c (stepsL a s c) ∧ Below W.heap.size W w')
    (C2 : ∀ W, Calls Tryd.prog 18 #[.int .i64 fr, .int .i64 tt, .int .i64 s] W fun e w' => ∃ v, e = .returned (.tuple #[v, .int .i64 0]) ∧ w'.ownsRow W.heap.size 2 1 v c (stepsL a s c) ∧ Below W.heap.size W w') :
    Calls Tryd.prog 4 #[.int .i64 fr, .int .i64 tt, .int .i64 s] w fun e w' => e = .returned (.bool true) ∧ Below w.heap.size w w' := by
  have K := Lib.hid (known_any w ht)
  have A := Lib.hid C1
  have B := Lib.hid C2
  clear ht C1 C2
  go_enter Tryd.func4, Tryd.ntmps4
  go_wp2_with fail
  refine K.out.mono ?_
  rintro e w1 ⟨rfl, hb⟩
  go_wp2_with fail
  refine (A.out _).mono ?_
  rintro e w2 ⟨rfl, ho, hb2⟩
  have o1 : ∀ i, i < c → w2.cell? ⟨w1.heap.size, i, none⟩ = some (.int .i64 (a + (i : Int) * s)) := fun i hi => (ho.cellAt i (by omega)).trans (stepsL_get _ _ _ _ hi)
  have l1 : w1.heap.size < w2.heap.size := Lib.lt_of_cell (o1 0 (by omega))
  have hb3 := hb.trans (hb2.mono hb.size)
  have O1 := Lib.hid o1
  clear hb2 hb ho o1
  go_wp2_with fail
  refine (B.out _).mono ?_
  rintro e w3 ⟨v, rfl, ho, hb4⟩
  obtain ⟨g, cap, rfl⟩ := own_one ho (by omega)
  have o2 : ∀ i, i < c → w3.cell? ⟨g, i, none⟩ = some (.int .i64 (a + (i : Int) * s)) := fun i hi => (ho.cellAt i (by omega)).trans (stepsL_get _ _ _ _ hi)
  have o3 : ∀ i, i < c → w3.cell? ⟨w1.heap.size, i, none⟩ = some (.int .i64 (a + (i : Int) * s)) := fun i hi => (hb4.cell (p := ⟨w1.heap.size, i, none⟩) l1).trans (O1.out i hi)
  have hb5 := hb3.trans (hb4.mono hb3.size)
  have O2 := Lib.hid o2
  have O3 := Lib.hid o3
  clear o2 o3 hb4 hb3 O1 ho
  go_wp2
  go_loopw [11] (fun i wr => ∃ k : Nat, k ≤ c ∧ i = .int .i64 k ∧ (∀ a, wr.cell? a = w3.cell? a) ∧ Below w.heap.size w wr) (fun i _ => c - (intOf i).toNat)
  case atStart => exact ⟨0, Nat.zero_le _, rfl, fun _ => rfl, hb5⟩
  case round =>
    obtain ⟨k, hk, rfl, hsame, hB⟩ := hrel
    by_cases hlt : k < c
    · have x1 : wr.cell? ⟨w1.heap.size, k, none⟩ = some (.int .i64 (a + (k : Int) * s)) := (hsame _).trans (O3.out k hlt)
      have x2 : wr.cell? ⟨g, k, none⟩ = some (.int .i64 (a + (k : Int) * s)) := (hsame _).trans (O2.out k hlt)
      have hlt' : (k : Int) < (c : Int) := by omega
      have HS := Lib.hid hsame
      clear hsame
      go_wp2
      go_region
      all_goals
        go_wp2
        go_roundw
        case rel => exact ⟨k + 1, by omega, by go_num, fun a => (HS.out a), hB.drew⟩
        case measure => simp [intOf]; omega
    · obtain rfl : k = c := by omega
      go_wp2
      go_ret
      exact ⟨rfl, hB⟩
theorem steps_law (fr tt s : Int) (hf : -9223372036854775808 ≤ fr ∧ fr ≤ 9223372036854775807) (_ht : -9223372036854775808 ≤ tt ∧ tt ≤ 9223372036854775807) (_hs : -9223372036854775808 ≤ s ∧ s ≤ 9223372036854775807) (w : World) (ht : Tab w) :
    Calls Tryd.prog 4 #[.int .i64 fr, .int .i64 tt, .int .i64 s] w fun e w' => e = .returned (.bool true) ∧ Below w.heap.size w w' := by
  by_cases h1 : fr < -1
  · exact steps_both fr tt s 1 (.inl rfl) w ht (steps_low fr tt s h1) (rsteps_low fr tt s h1)
  · cases h2 : isT tt
    · exact steps_both fr tt s 1 (.inl rfl) w ht (steps_bad fr tt s (by omega) (fun h => by rw [h2] at h; cases h.1)) (rsteps_time fr tt s (by omega) h2)
    · cases h3 : stepB s
      · have hb := stepB_false.1 h3
        refine steps_both fr tt s 1 (.inl rfl) w ht (steps_bad fr tt s (by omega) (fun h => by rw [h3] at h; cases h.2)) ?_
        rcases hb with hb | hb
        · exact rsteps_small fr tt s (by omega) h2 hb
        · exact rsteps_big fr tt s (by omega) h2 hb
      · obtain ⟨s1, s2⟩ := stepB_true.1 h3
        obtain ⟨t1, t2⟩ := isT_true.1 h2
        obtain ⟨c, hc⟩ := Int.eq_ofNat_of_zero_le (cnt_nonneg fr tt s (by omega) t1 s1)
        have hc2 : cntOf fr tt s = (c : Int) := hc
        have hc3 : tt / s - (lowOf fr tt + s) / s + 1 = (c : Int) := hc
        by_cases hm : 100000 < c
        · exact steps_both fr tt s 4 (.inr rfl) w ht (fun W => steps_many fr tt s c (by omega) h2 h3 hc3 hm W) (fun W => rs_many fr tt s c (by omega) h2 s1 s2 hc2 hm W)
        · rcases Nat.eq_zero_or_pos c with h0 | h0
          · subst h0
            exact steps_zero fr tt s w ht (fun W => (steps_good fr tt s 0 (by omega) h2 h3 hc3 (by omega) W).mono fun e w' ⟨q1, _, q3⟩ => ⟨q1, q3⟩) (fun W => rs_zero fr tt s (by omega) (by omega) h2 s1 s2 hc2 W)
          · exact steps_many1 fr tt s c (firstOf fr tt s) h0 (by omega) w ht (fun W => steps_good fr tt s c (by omega) h2 h3 hc3 (by omega) W) (fun W => rs_some fr tt s c (by omega) h2 s1 s2 hc2 h0 (by omega) W)
end Go.Proofs.YtmiahbaadlddjaaDoor
