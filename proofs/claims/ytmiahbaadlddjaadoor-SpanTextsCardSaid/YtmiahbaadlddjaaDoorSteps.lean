/- Steps of package span: the multiples between two times, in a slice of its own. -/
import Derived.Test.YtmiahbaadlddjaaDoorSpanB
import Derived.Laws.OwnMore
import Derived.OwnWalk
namespace Go.Proofs.YtmiahbaadlddjaaDoor
open Go Go.Proofs Go.RowKit
set_option maxRecDepth 100000
theorem info_i64 : (Tryd.prog.info? 2).map (fun i => (i.zero, i.size, i.bytes)) = some (some (.int .i64 0), 1, 8) := by kernel_rfl
def stepsL (a s : Int) (c : Nat) : List Value := (List.range c).map (fun (i : Nat) => Value.int .i64 (a + (i : Int) * s))
theorem stepsL_len (a s : Int) (c : Nat) : (stepsL a s c).length = c := by simp [stepsL]
theorem stepsL_succ (a s : Int) (k : Nat) : stepsL a s (k + 1) = stepsL a s k ++ [.int .i64 (a + (k : Int) * s)] := by simp [stepsL, List.range_succ]
theorem stepsL_set (a s : Int) (k c : Nat) (h : k < c) : (stepsL a s k ++ List.replicate (c - k) (Value.int .i64 0)).set k (.int .i64 (a + (k : Int) * s)) = stepsL a s (k + 1) ++ List.replicate (c - (k + 1)) (Value.int .i64 0) := by
  rw [List.set_append_right _ _ (by rw [stepsL_len]; exact Nat.le_refl _), stepsL_len, Nat.sub_self, stepsL_succ]
  obtain ⟨d, hd⟩ : ∃ d, c - k = d + 1 := ⟨c - k - 1, by omega⟩
  rw [hd, show c - (k + 1) = d by omega, List.replicate_succ, List.set_cons_zero, List.append_assoc]
  rfl
theorem stepsL_at (a s : Int) (k c : Nat) (h : k < c) : (stepsL a s k ++ List.replicate (c - k) (Value.int .i64 0))[k]? = some (.int .i64 0) := by
  rw [List.getElem?_append_right (by rw [stepsL_len]; exact Nat.le_refl _), stepsL_len, Nat.sub_self]
  obtain ⟨d, hd⟩ : ∃ d, c - k = d + 1 := ⟨c - k - 1, by omega⟩
  rw [hd]; rfl
/-- the place ahead of which the multiples begin -/
def lowOf (fr t : Int) : Int := if fr ≤ t then fr else t
theorem sub_mod (t s : Int) : t - t % s = s * (t / s) := by have := Int.mul_ediv_add_emod t s; omega
theorem steps_num (fr tt s : Int) (hf : -1 ≤ fr) (t1 : 0 ≤ tt) (s1 : 1 ≤ s) : 0 ≤ (lowOf fr tt + s) / s ∧ 0 ≤ tt / s ∧ (lowOf fr tt + s) / s ≤ tt / s + 1 ∧ s * (tt / s) ≤ tt := by
  have h0 : -1 ≤ lowOf fr tt ∧ lowOf fr tt ≤ tt := by unfold lowOf; split <;> omega
  refine ⟨Int.ediv_nonneg (by omega) (by omega), Int.ediv_nonneg t1 (by omega), ?_, Int.mul_ediv_self_le (by omega)⟩
  have : (tt + s) / s = tt / s + 1 := by
    have := Int.add_mul_ediv_right tt 1 (show s ≠ 0 by omega)
    rwa [Int.one_mul] at this
  rw [← this]
  exact Int.ediv_le_ediv (by omega) (by omega)
set_option maxHeartbeats 2000000 in
theorem steps_good (fr tt s : Int) (c : Nat) (hf : -1 ≤ fr) (ht : isT tt = true) (hs : stepB s = true) (hc : tt / s - (lowOf fr tt + s) / s + 1 = (c : Int)) (hle : c ≤ 100000) (W : World) :
    Calls Tryd.prog 17 #[.int .i64 fr, .int .i64 tt, .int .i64 s] W fun e w' => e = .returned (.tuple #[.slice (some ⟨W.heap.size, 0, none⟩) c c, .int .i64 0]) ∧ w'.ownsRow W.heap.size 2 1 (.slice (some ⟨W.heap.size, 0, none⟩) c c) c (stepsL (s * ((lowOf fr tt + s) / s)) s c) ∧ Below W.heap.size W w' := by
  obtain ⟨t1, t2⟩ := isT_true.1 ht
  obtain ⟨s1, s2⟩ := stepB_true.1 hs
  obtain ⟨n1, n2, n3, n4⟩ := steps_num fr tt s hf t1 s1
  have n5 : tt / s ≤ tt := Int.ediv_le_self _ t1
  have hl : -1 ≤ lowOf fr tt ∧ lowOf fr tt ≤ tt := by unfold lowOf; split <;> omega
  have FL := Lib.hid (fun W => floor_any tt s W)
  have AB := Lib.hid (fun W => above_any (lowOf fr tt) s (by omega) (by omega) s1 s2 W)
  rw [show floorR tt s = (s * (tt / s), 0) by unfold floorR; rw [if_pos ⟨ht, hs⟩, sub_mod]] at FL
  rw [show lowOf fr tt + s - (lowOf fr tt + s) % s = s * ((lowOf fr tt + s) / s) from sub_mod _ _] at AB
  unfold Two at FL
  have hlow : (fr ≤ tt → lowOf fr tt = fr) ∧ (tt < fr → lowOf fr tt = tt) := ⟨fun h => by unfold lowOf; rw [if_pos h], fun h => by unfold lowOf; rw [if_neg (by omega)]⟩
  generalize lowOf fr tt = lo at *
  generalize hF : (lo + s) / s = F at *
  generalize hL : tt / s = L at *
  have m1 : s * L ≤ 4398046511104 := by omega
  have m2 : 0 ≤ s * F := Int.mul_nonneg (by omega) n1
  have m3 : s * F ≤ s * L + s := by
    have := Int.mul_le_mul_of_nonneg_left n3 (show 0 ≤ s by omega)
    rw [Int.mul_add, Int.mul_one] at this; exact this
  have m4 : s * L - s * F = (L - F) * s := by rw [Int.sub_mul, Int.mul_comm L, Int.mul_comm F]
  have m5 : (s * L - s * F).tdiv s = L - F := by rw [m4]; exact Int.mul_tdiv_cancel _ (by omega)
  have m0 : 0 ≤ s * L := Int.mul_nonneg (by omega) n2
  have hk : ∀ k : Nat, k < c → s * F + (k : Int) * s ≤ s * L ∧ 0 ≤ (k : Int) * s ∧ (k : Int) * s ≤ s * L := by
    intro k hk
    have h1 : F + (k : Int) ≤ L := by omega
    have h2 := Int.mul_le_mul_of_nonneg_left h1 (show 0 ≤ s by omega)
    rw [Int.mul_add, Int.mul_comm s (k : Int)] at h2
    have h3 : 0 ≤ (k : Int) * s := Int.mul_nonneg (by omega) (by omega)
    omega
  generalize s * L = SL at *
  generalize s * F = SF at *
  have e1 : IntKind.i64.wrap (SL - SF) = SL - SF := by rw [IntKind.wrap_i64]; omega
  have e3 : ¬ s = 0 := by omega
  have e4 : (s == 0) = false := by rw [beq_eq_false_iff_ne]; exact e3
  have e5 : IntKind.i64.wrap (L - F) = L - F := by rw [IntKind.wrap_i64]; omega
  have e6 : IntKind.i64.wrap (L - F + 1) = (c : Int) := by rw [IntKind.wrap_i64]; omega
  have e7 : ¬ fr < -1 := by omega
  have hc' : (c : Int) ≤ 100000 := by omega
  obtain ⟨i0, hi, hz0, hz1, hz2⟩ := info_parts info_i64
  have HK := Lib.hid hk
  clear hk hF hL m4 ht hs n2 n3 n4 hc m3
  by_cases hft : fr ≤ tt
  · obtain rfl := hlow.1 hft
    clear hlow
    go_enter Tryd.func17, Tryd.ntmps17
    go_wp2_with fail
    refine (FL.out _).mono ?_
    rintro e w1 ⟨rfl, rfl⟩
    go_wp2_with fail
    refine (AB.out _).mono ?_
    rintro e w1 ⟨rfl, rfl⟩
    go_wp2_with (at_make; refine wpList_make_full _ rfl _ _ 31 rfl W.heap.size 2 i0 (.int .i64 0) 1 Tryd.underlying31 hi hz0 hz1 _ _ _ _ c rfl rfl (by omega) (by omega) ?b2 ?b3 (Nat.le_refl _) ?_)
    case b2 => rw [hz2]; omega
    case b3 => unfold maxLen; omega
    intro w0 hown0 hgrow0
    have hB0 : Below W.heap.size W w0 := (Below.refl _ _).grown hgrow0 (Nat.le_refl _) (fun k h => by cases h)
    rw [toList_madeCells_one] at hown0
    clear hgrow0
    go_wp2
    go_loopw [42] (fun i wr => ∃ k : Nat, k ≤ c ∧ i = .int .i64 k ∧ wr.ownsRow W.heap.size 2 1 (.slice (some ⟨W.heap.size, 0, none⟩) c c) c (stepsL SF s k ++ List.replicate (c - k) (.int .i64 0)) ∧ Below W.heap.size W wr) (fun i _ => c - (intOf i).toNat)
    case atStart => exact ⟨0, Nat.zero_le _, rfl, hown0, hB0⟩
    case round =>
      obtain ⟨k, hk, rfl, hown, hB⟩ := hrel
      by_cases hlt : k < c
      · have hlt' : (k : Int) < (c : Int) := by omega
        have HC : wr.cell? ⟨W.heap.size, k, none⟩ = some (.int .i64 0) := (hown.cellAt k (by omega)).trans (stepsL_at _ _ _ _ hlt)
        have HF := hown.frozenAt k
        obtain ⟨hst, hgr⟩ := hown.stored k (.int .i64 (SF + (k : Int) * s))
        rw [stepsL_set _ _ _ _ hlt] at hst
        obtain ⟨k1, k2, k3⟩ := HK.out k hlt
        have e8 : IntKind.i64.wrap ((k : Int) * s) = (k : Int) * s := by rw [IntKind.wrap_i64]; omega
        have e9 : IntKind.i64.wrap (SF + (k : Int) * s) = SF + (k : Int) * s := by rw [IntKind.wrap_i64]; omega
        have hB1 := hB.grown hgr hB.size (fun j e => by cases e; exact Nat.le_refl _)
        clear hown hgr hB
        go_wp2
        go_roundw
        case rel => exact ⟨k + 1, by omega, by go_num, hst, hB1⟩
        case measure => simp [intOf]; omega
      · obtain rfl : k = c := by omega
        rw [Nat.sub_self, List.replicate_zero, List.append_nil] at hown
        go_wp2
        go_ret2
        exact ⟨rfl, hown, hB⟩
  · have hft' : tt < fr := by omega
    obtain rfl := hlow.2 hft'
    clear hlow hft
    go_enter Tryd.func17, Tryd.ntmps17
    go_wp2_with fail
    refine (FL.out _).mono ?_
    rintro e w1 ⟨rfl, rfl⟩
    go_wp2_with fail
    refine (AB.out _).mono ?_
    rintro e w1 ⟨rfl, rfl⟩
    go_wp2_with (at_make; refine wpList_make_full _ rfl _ _ 31 rfl W.heap.size 2 i0 (.int .i64 0) 1 Tryd.underlying31 hi hz0 hz1 _ _ _ _ c rfl rfl (by omega) (by omega) ?d2 ?d3 (Nat.le_refl _) ?_)
    case d2 => rw [hz2]; omega
    case d3 => unfold maxLen; omega
    intro w0 hown0 hgrow0
    have hB0 : Below W.heap.size W w0 := (Below.refl _ _).grown hgrow0 (Nat.le_refl _) (fun k h => by cases h)
    rw [toList_madeCells_one] at hown0
    clear hgrow0
    go_wp2
    go_loopw [42] (fun i wr => ∃ k : Nat, k ≤ c ∧ i = .int .i64 k ∧ wr.ownsRow W.heap.size 2 1 (.slice (some ⟨W.heap.size, 0, none⟩) c c) c (stepsL SF s k ++ List.replicate (c - k) (.int .i64 0)) ∧ Below W.heap.size W wr) (fun i _ => c - (intOf i).toNat)
    case atStart => exact ⟨0, Nat.zero_le _, rfl, hown0, hB0⟩
    case round =>
      obtain ⟨k, hk, rfl, hown, hB⟩ := hrel
      by_cases hlt : k < c
      · have hlt' : (k : Int) < (c : Int) := by omega
        have HC : wr.cell? ⟨W.heap.size, k, none⟩ = some (.int .i64 0) := (hown.cellAt k (by omega)).trans (stepsL_at _ _ _ _ hlt)
        have HF := hown.frozenAt k
        obtain ⟨hst, hgr⟩ := hown.stored k (.int .i64 (SF + (k : Int) * s))
        rw [stepsL_set _ _ _ _ hlt] at hst
        obtain ⟨k1, k2, k3⟩ := HK.out k hlt
        have e8 : IntKind.i64.wrap ((k : Int) * s) = (k : Int) * s := by rw [IntKind.wrap_i64]; omega
        have e9 : IntKind.i64.wrap (SF + (k : Int) * s) = SF + (k : Int) * s := by rw [IntKind.wrap_i64]; omega
        have hB1 := hB.grown hgr hB.size (fun j e => by cases e; exact Nat.le_refl _)
        clear hown hgr hB
        go_wp2
        go_roundw
        case rel => exact ⟨k + 1, by omega, by go_num, hst, hB1⟩
        case measure => simp [intOf]; omega
      · obtain rfl : k = c := by omega
        rw [Nat.sub_self, List.replicate_zero, List.append_nil] at hown
        go_wp2
        go_ret2
        exact ⟨rfl, hown, hB⟩
theorem floor_bad (tt s : Int) (h : ¬ (isT tt = true ∧ stepB s = true)) (W : World) : Calls Tryd.prog 11 #[.int .i64 tt, .int .i64 s] W fun e w' => e = .returned (.tuple #[.int .i64 0, .int .i64 1]) ∧ W = w' := by
  have := floor_any tt s W
  unfold floorR Two at this
  rwa [if_neg h] at this
theorem steps_low (fr tt s : Int) (hf : fr < -1) (W : World) :
    Calls Tryd.prog 17 #[.int .i64 fr, .int .i64 tt, .int .i64 s] W fun e w' => e = .returned (.tuple #[.slice none 0 0, .int .i64 1]) ∧ W = w' := by
  go_enter Tryd.func17, Tryd.ntmps17
  go_wp2
  go_ret2
  exact ⟨rfl, rfl⟩
theorem steps_bad (fr tt s : Int) (hf : -1 ≤ fr) (h : ¬ (isT tt = true ∧ stepB s = true)) (W : World) :
    Calls Tryd.prog 17 #[.int .i64 fr, .int .i64 tt, .int .i64 s] W fun e w' => e = .returned (.tuple #[.slice none 0 0, .int .i64 1]) ∧ W = w' := by
  have FL := Lib.hid (fun W => floor_bad tt s h W)
  clear h
  go_enter Tryd.func17, Tryd.ntmps17
  go_wp2_with fail
  refine (FL.out _).mono ?_
  rintro e w1 ⟨rfl, rfl⟩
  go_wp2
  go_ret2
  exact ⟨rfl, rfl⟩
set_option maxHeartbeats 2000000 in
theorem steps_many (fr tt s : Int) (c : Nat) (hf : -1 ≤ fr) (ht : isT tt = true) (hs : stepB s = true) (hc : tt / s - (lowOf fr tt + s) / s + 1 = (c : Int)) (hle : 100000 < c) (W : World) :
    Calls Tryd.prog 17 #[.int .i64 fr, .int .i64 tt, .int .i64 s] W fun e w' => e = .returned (.tuple #[.slice none 0 0, .int .i64 4]) ∧ W = w' := by
  obtain ⟨t1, t2⟩ := isT_true.1 ht
  obtain ⟨s1, s2⟩ := stepB_true.1 hs
  obtain ⟨n1, n2, n3, n4⟩ := steps_num fr tt s hf t1 s1
  have n5 : tt / s ≤ tt := Int.ediv_le_self _ t1
  have hl : -1 ≤ lowOf fr tt ∧ lowOf fr tt ≤ tt := by unfold lowOf; split <;> omega
  have FL := Lib.hid (fun W => floor_any tt s W)
  have AB := Lib.hid (fun W => above_any (lowOf fr tt) s (by omega) (by omega) s1 s2 W)
  rw [show floorR tt s = (s * (tt / s), 0) by unfold floorR; rw [if_pos ⟨ht, hs⟩, sub_mod]] at FL
  rw [show lowOf fr tt + s - (lowOf fr tt + s) % s = s * ((lowOf fr tt + s) / s) from sub_mod _ _] at AB
  unfold Two at FL
  have hlow : (fr ≤ tt → lowOf fr tt = fr) ∧ (tt < fr → lowOf fr tt = tt) := ⟨fun h => by unfold lowOf; rw [if_pos h], fun h => by unfold lowOf; rw [if_neg (by omega)]⟩
  generalize lowOf fr tt = lo at *
  generalize hF : (lo + s) / s = F at *
  generalize hL : tt / s = L at *
  have m1 : s * L ≤ 4398046511104 := by omega
  have m2 : 0 ≤ s * F := Int.mul_nonneg (by omega) n1
  have m3 : s * F ≤ s * L + s := by
    have := Int.mul_le_mul_of_nonneg_left n3 (show 0 ≤ s by omega)
    rw [Int.mul_add, Int.mul_one] at this; exact this
  have m4 : s * L - s * F = (L - F) * s := by rw [Int.sub_mul, Int.mul_comm L, Int.mul_comm F]
  have m5 : (s * L - s * F).tdiv s = L - F := by rw [m4]; exact Int.mul_tdiv_cancel _ (by omega)
  have m0 : 0 ≤ s * L := Int.mul_nonneg (by omega) n2
  have hk : ∀ k : Nat, k < c → s * F + (k : Int) * s ≤ s * L ∧ 0 ≤ (k : Int) * s ∧ (k : Int) * s ≤ s * L := by
    intro k hk
    have h1 : F + (k : Int) ≤ L := by omega
    have h2 := Int.mul_le_mul_of_nonneg_left h1 (show 0 ≤ s by omega)
    rw [Int.mul_add, Int.mul_comm s (k : Int)] at h2
    have h3 : 0 ≤ (k : Int) * s := Int.mul_nonneg (by omega) (by omega)
    omega
  generalize s * L = SL at *
  generalize s * F = SF at *
  have e1 : IntKind.i64.wrap (SL - SF) = SL - SF := by rw [IntKind.wrap_i64]; omega
  have e3 : ¬ s = 0 := by omega
  have e4 : (s == 0) = false := by rw [beq_eq_false_iff_ne]; exact e3
  have e5 : IntKind.i64.wrap (L - F) = L - F := by rw [IntKind.wrap_i64]; omega
  have e6 : IntKind.i64.wrap (L - F + 1) = (c : Int) := by rw [IntKind.wrap_i64]; omega
  have e7 : ¬ fr < -1 := by omega
  have hc' : (100000 : Int) < c := by omega
  obtain ⟨i0, hi, hz0, hz1, hz2⟩ := info_parts info_i64
  have HK := Lib.hid hk
  clear hk hF hL m4 ht hs n2 n3 n4 hc m3
  by_cases hft : fr ≤ tt
  · obtain rfl := hlow.1 hft
    clear hlow
    go_enter Tryd.func17, Tryd.ntmps17
    go_wp2_with fail
    refine (FL.out _).mono ?_
    rintro e w1 ⟨rfl, rfl⟩
    go_wp2_with fail
    refine (AB.out _).mono ?_
    rintro e w1 ⟨rfl, rfl⟩
    go_wp2
    go_ret2
    exact ⟨rfl, rfl⟩
  · have hft' : tt < fr := by omega
    obtain rfl := hlow.2 hft'
    clear hlow hft
    go_enter Tryd.func17, Tryd.ntmps17
    go_wp2_with fail
    refine (FL.out _).mono ?_
    rintro e w1 ⟨rfl, rfl⟩
    go_wp2_with fail
    refine (AB.out _).mono ?_
    rintro e w1 ⟨rfl, rfl⟩
    go_wp2
    go_ret2
    exact ⟨rfl, rfl⟩
end Go.Proofs.YtmiahbaadlddjaaDoor
