/- belfrylaw16.QueueFull: it answers true. -/
import Derived.Test.YtdgjcahgoilahaaQk
namespace Go.Proofs.Ytdgjcahgoilahaa
open Go Go.Proofs Go.RowKit Go.Shelf
set_option maxRecDepth 100000
attribute [local go_sem] Oper.semAt_some
namespace LawQueueFull
def RN (k : Nat) : List Int := (List.range k).map (fun (i : Nat) => (i : Int))
def RT (k : Nat) : List Int := (List.range k).map (fun (i : Nat) => (i : Int) + 1)
theorem rn_succ (k : Nat) : RN (k + 1) = RN k ++ [(k : Int)] := by unfold RN; rw [List.range_succ, List.map_append]; rfl
theorem rt_succ (k : Nat) : RT (k + 1) = RT k ++ [(k : Int) + 1] := by unfold RT; rw [List.range_succ, List.map_append]; rfl
theorem rn_cons (k : Nat) : RN (k + 1) = 0 :: RT k := by
  induction k with
  | zero => rfl
  | succ k ih => rw [rn_succ, ih, rt_succ]; rfl
theorem rn_len (k : Nat) : (RN k).length = k := by unfold RN; simp
theorem rt_len (k : Nat) : (RT k).length = k := by unfold RT; simp
theorem rt_at {k i : Nat} (h : i < k) : (RT k)[i]? = some ((i : Int) + 1) := by unfold RT; rw [List.getElem?_map, List.getElem?_range h]; rfl
section
variable {B b most : Nat} {v : Value} {o : Option Nat} {X : List Int} {w : World}
theorem putN_at (k i : Nat) (h : QAN B w b k v o (RN (min i k))) : Calls Try.prog 19 #[.pointer (some ⟨b, 0, none⟩), .int .i64 (i : Int)] w fun e w' => ∃ v' o', e = .returned (.int .i64 (if i < k then 0 else 11)) ∧ QAN B w' b k v' o' (RN (min (i + 1) k)) ∧ Below B w w' :=
  (putN_any (i : Int) h).mono (by
    rintro e w2 ⟨v', o', X', rfl, rfl, hQ, hto⟩
    rw [rn_len] at hQ ⊢
    by_cases hi : i < k
    · rw [if_pos (by omega)] at hQ ⊢
      rw [if_pos hi]
      refine ⟨v', o', rfl, ?_, h.to_below hto⟩
      rw [show min i k = i by omega, ← rn_succ] at hQ
      rw [show min (i + 1) k = i + 1 by omega]
      exact hQ
    · rw [if_neg (by omega)] at hQ ⊢
      rw [if_neg hi]
      refine ⟨v', o', rfl, ?_, h.to_below hto⟩
      rw [show min (i + 1) k = min i k by omega]
      exact hQ)
theorem putN_ok (x : Int) (h : QAN B w b most v o X) (hl : X.length < most) : Calls Try.prog 19 #[.pointer (some ⟨b, 0, none⟩), .int .i64 x] w fun e w' => ∃ v' o', e = .returned (.int .i64 0) ∧ QAN B w' b most v' o' (X ++ [x]) ∧ Below B w w' :=
  (putN_any x h).mono (by
    rintro e w2 ⟨v', o', X', rfl, rfl, hQ, hto⟩
    rw [if_pos hl] at hQ ⊢
    exact ⟨v', o', rfl, hQ, h.to_below hto⟩)
theorem takeN_some {x : Int} {t : List Int} (h : QAN B w b most v o (x :: t)) : Calls Try.prog 20 #[.pointer (some ⟨b, 0, none⟩)] w fun e w' => ∃ v' o', e = .returned (.tuple #[.int .i64 x, .bool true]) ∧ QAN B w' b most v' o' t ∧ Below B w w' :=
  (takeN_any h).mono (by
    rintro e w2 ⟨v', o', rfl, hQ, hto⟩
    exact ⟨v', o', rfl, hQ, h.to_below hto⟩)
end
set_option maxHeartbeats 4000000 in
theorem any (n0 n1 : Nat) (w : World) (h0 : n0 ≤ 255) (h1 : n1 ≤ 255) : Calls Try.prog 5 #[.int .u8 (n0 : Int), .int .u8 (n1 : Int)] w fun e w' => e = .returned (.bool true) ∧ Below w.heap.size w w' := by
  have KN := Lib.hid (known_any w)
  have NW := Lib.hid (fun u => newN_any (1 + (n0 : Int)) u)
  obtain ⟨k, hk⟩ : ∃ k : Nat, k = n0 + 1 := ⟨_, rfl⟩
  have e1 : wrap64 (1 + (n0 : Int)) = (k : Int) := by rw [wr64] <;> omega
  have e2 : IntKind.i64.wrap (1 + (n0 : Int)) = (k : Int) := by rw [IntKind.wrap_i64]; omega
  have e3 : IntKind.i64.wrap (n0 : Int) = (n0 : Int) := by rw [IntKind.wrap_i64]; omega
  have NW := Lib.hid (fun u => newN_any (k : Int) u)
  have HKT : Hid ((k : Int).toNat = k) := by show _ = _; omega
  have hk1 : 1 ≤ k ∧ k ≤ 256 := by omega
  have HK := Lib.hid hk1
  clear hk hk1 h0
  go_enter Try.func5, Try.ntmps5
  go_wp2_with fail
  refine KN.out.mono ?_
  rintro e w1 ⟨rfl, hb1⟩
  have HB := Lib.hid hb1
  clear hb1
  go_wp2_with fail
  refine (NW.out _).mono ?_
  rintro e w2 (⟨-, rfl, hQ, hb⟩ | ⟨hn, -⟩)
  rotate_left
  · have := HK.out
    exact absurd ⟨by omega, by omega⟩ hn
  rw [HKT.out] at hQ
  have HQ : Hid (QAN w1.heap.size w2 w1.heap.size k (.slice none 0 0) none (RN (min 0 k))) := by rw [show min 0 k = 0 by omega]; exact hQ
  have HB2 := Lib.hid (below_then HB.out hb)
  have hbw : w.heap.size ≤ w1.heap.size := HB.out.size
  clear hQ hb HB NW HKT e1 e2 e3
  go_wp2
  obtain ⟨T, hT⟩ : ∃ T : Nat, T = k + n1 % 5 := ⟨_, rfl⟩
  have hw : wrap64 ((k : Int) + (n1 : Int) % 5) = (T : Int) := by have := HK.out; rw [wr64] <;> omega
  have HT : Hid (k ≤ T ∧ T ≤ k + 4) := by show _ ∧ _; omega
  clear hT h1
  go_loopw [8, 9] (fun i f wr => ∃ (j : Nat) (v : Value) (o : Option Nat), i = .int .i64 (j : Int) ∧ j ≤ T ∧ QAN w1.heap.size wr w1.heap.size k v o (RN (min j k)) ∧ Below w.heap.size w wr) (fun i _ _ => T - (intOf i).toNat)
  case atStart => exact ⟨0, _, _, rfl, Nat.zero_le _, HQ.out, HB2.out⟩
  case round =>
    obtain ⟨j, v, o, rfl, hj, hQ, hB⟩ := hrel
    by_cases hjT : j < T
    · have C := Lib.hid (putN_at k j hQ)
      have HJ := Lib.hid hjT
      have HB := Lib.hid hB
      have hjT2 : (j : Int) < (T : Int) := by omega
      have hj1 : wrap64 ((j : Int) + 1) = (j : Int) + 1 := by have := HK.out; have := HT.out; rw [wr64] <;> omega
      clear hB hQ HB2 HQ
      by_cases hjk : j < k
      · have hjk2 : (j : Int) < (k : Int) := by omega
        rw [if_pos hjk] at C
        clear hjk hj hjT
        go_wp2_with fail
        refine C.out.mono ?_
        rintro e w3 ⟨v3, o3, rfl, hQ3, hb3⟩
        go_wp2
        go_roundw
        case rel => exact ⟨j + 1, v3, o3, by rw [hj1]; rfl, HJ.out, hQ3, HB.out.trans (hb3.mono hbw)⟩
        case measure => rw [hj1]; exact meas16 HJ.out
      · have hjk2 : (k : Int) ≤ (j : Int) := by omega
        rw [if_neg hjk] at C
        clear hjk hj hjT
        go_wp2_with fail
        refine C.out.mono ?_
        rintro e w3 ⟨v3, o3, rfl, hQ3, hb3⟩
        go_wp2
        go_roundw
        case rel => exact ⟨j + 1, v3, o3, by rw [hj1]; rfl, HJ.out, hQ3, HB.out.trans (hb3.mono hbw)⟩
        case measure => rw [hj1]; exact meas16 HJ.out
    · have hjT2 : (T : Int) ≤ (j : Int) := by omega
      obtain ⟨n, hn⟩ : ∃ n, k = n + 1 := ⟨k - 1, by have := HK.out; omega⟩
      rw [show min j k = n + 1 by have := HT.out; omega, rn_cons] at hQ
      have C := Lib.hid (takeN_some hQ)
      have HB := Lib.hid hB
      have HN := Lib.hid hn
      clear hB hQ HB2 HQ hn hj hjT
      go_wp2_with fail
      refine C.out.mono ?_
      rintro e w3 ⟨v3, o3, rfl, hQ3, hb3⟩
      have C := Lib.hid (putN_ok (k : Int) hQ3 (by rw [rt_len, HN.out]; omega))
      have HB := Lib.hid (HB.out.trans (hb3.mono hbw))
      clear hQ3 hb3
      go_wp2_with fail
      refine C.out.mono ?_
      rintro e w4 ⟨v4, o4, rfl, hQ4, hb4⟩
      have hQ4 : QAN w1.heap.size w4 w1.heap.size k v4 o4 (RT k) := by
        have e : (k : Int) = (n : Int) + 1 := by have := HN.out; omega
        rw [e, ← rt_succ] at hQ4
        rw [show RT k = RT (n + 1) by rw [HN.out]]
        exact hQ4
      have C := Lib.hid (allN_any hQ4)
      have HB := Lib.hid (HB.out.trans (hb4.mono hbw))
      have HQ := Lib.hid hQ4
      clear hQ4 hb4
      go_wp2_with fail
      refine C.out.mono ?_
      rintro e w5 ⟨r, rfl, hr, hb5⟩
      rw [rt_len] at hr
      obtain ⟨gr, cr, rfl⟩ := own_some1 hr (by have := HK.out; omega)
      have hQ5 := HQ.out.below hb5
      have hcl : Hid (∀ i, i < k → w5.cell? ⟨gr, i, none⟩ = some (.int .i64 ((i : Int) + 1))) := fun i hi => by
        have := World.ownsRow.cells hr (g := gr) rfl i (.int .i64 ((i : Int) + 1)) (by rw [List.getElem?_map, rt_at hi]; rfl)
        rwa [Addr.add_lit, Nat.zero_add] at this
      have C := Lib.hid (clearN_any hQ5)
      have HB := Lib.hid (HB.out.trans (hb5.mono (HB.out.size)))
      have HQ := Lib.hid hQ5
      clear hQ5 hb5 hr
      go_wp2
      go_loopw [14] (fun i wr => ∃ j : Nat, i = .int .i64 (j : Int) ∧ j ≤ k ∧ wr = w5) (fun i _ => k - (intOf i).toNat)
      case atStart => exact ⟨0, rfl, Nat.zero_le _, rfl⟩
      case round =>
        obtain ⟨j, rfl, hj, rfl⟩ := hrel
        by_cases hjk : j < k
        · have c0 := hcl.out j hjk
          have HJ := Lib.hid hjk
          have h1 : (j : Int) < (k : Int) := by omega
          have h0 : (0 : Int) ≤ (j : Int) := by omega
          have hj1 : wrap64 ((j : Int) + 1) = (j : Int) + 1 := by have := HK.out; rw [wr64] <;> omega
          clear hj hjk
          go_wp2
          go_roundw
          case rel => exact ⟨j + 1, by rw [hj1]; rfl, HJ.out, by first | rfl | trivial⟩
          case measure => rw [hj1]; exact meas16 HJ.out
        · have h1 : (k : Int) ≤ (j : Int) := by omega
          clear hj hjk
          go_wp2_with fail
          refine C.out.mono ?_
          rintro e w6 ⟨rfl, v6, o6, hQ6, hto⟩
          have hb6 := HQ.out.to_below hto
          have CL := Lib.hid (lenN_any hQ6)
          have HB := Lib.hid (HB.out.trans (hb6.mono hbw))
          rw [rt_len]
          clear hQ6 hto hb6
          go_wp2_with fail
          refine CL.out.mono ?_
          rintro e w7 ⟨rfl, rfl⟩
          go_wp2
          go_ret
          exact ⟨rfl, HB.out⟩
theorem any_i (n0 n1 : Int) (w : World) (h0 : 0 ≤ n0 ∧ n0 ≤ 255) (h1 : 0 ≤ n1 ∧ n1 ≤ 255) : Calls Try.prog 5 #[.int .u8 n0, .int .u8 n1] w fun e w' => e = .returned (.bool true) ∧ Below w.heap.size w w' := by
  obtain ⟨a, rfl⟩ := Int.eq_ofNat_of_zero_le h0.1
  obtain ⟨b, rfl⟩ := Int.eq_ofNat_of_zero_le h1.1
  exact any a b w (by omega) (by omega)
end LawQueueFull
end Go.Proofs.Ytdgjcahgoilahaa
