/- The reference's Counts. -/
import Derived.Test.YtohmliockehbkaaHg
namespace Go.Proofs.Ytohmliockehbkaa
open Go Go.Proofs Go.RowKit Go.Shelf
set_option maxRecDepth 100000
theorem sumB_take_le {h : List Int} (s : Small h) (k : Nat) : sumB h (allI.take k) ≤ countR h := by
  have := (sumB_from s (allI.drop k) (sumB h (allI.take k))).1
  have e : countR h = (allI.drop k).foldl (fun a i => a + nth h i.val) (sumB h (allI.take k)) := by
    unfold sumB
    rw [← List.foldl_append, List.take_append_drop]
    rfl
  omega
theorem sumB_take_nat {h : List Int} (s : Small h) (k : Nat) : 0 ≤ sumB h (allI.take k) := (sumB_bounds s _).1
theorem quantR_zero {h : List Int} (s : Small h) (hz : countR h = 0) (q : Int) : quantR h q = (0, false) := by
  unfold quantR
  split
  · rfl
  have key : ∀ k, k ≤ 65 → NotYet (q * countR h) h (allI.take k) := by
    intro k
    induction k with
    | zero => intro _; exact notYet_nil _ _
    | succ k ih =>
      intro hk
      rw [take_succ (show k < 65 by omega)]
      refine notYet_snoc (ih (by omega)) ?_
      have h1 := sumB_take_le s (k + 1)
      rw [take_succ (show k < 65 by omega), sumB_snoc] at h1
      omega
  have := key 65 (by omega)
  rw [List.take_of_length_le (by rw [allI_len]; omega)] at this
  rw [notYet_all this]
  rfl
set_option maxHeartbeats 8000000 in
theorem rcounts_any (h : List Int) (s : Small h) (q : Int) (w : World) :
    Calls Try.prog 15 #[.agg (hc h), .int .i64 q] w fun e w' => e = .returned (qV (quantR h q)) ∧ Below w.heap.size w w' := by
  have hlen := s.len
  have HZ := Lib.hid (fun hz => quantR_zero s hz q)
  have HQ := Lib.hid (show ¬ (q < 0 ∨ 100 < q) → quantR h q = qOf (scanQ (q * countR h) h 0 allI) from fun hn => if_neg hn)
  have HB := Lib.hid (show q < 0 ∨ 100 < q → quantR h q = (0, false) from fun hn => if_pos hn)
  generalize quantR h q = R at *
  go_enter Try.func15, Try.ntmps15
  go_wp2
  have H0 := hat_new w 24 hlen
  have hbl : Below w.heap.size w (w.alloc (.cells (hc h) 24)) := below_cells _
  generalize w.alloc (.cells (hc h) 24) = W at *
  go_loopw [6, 7] (fun a i wr => wr = W ∧ ∃ k : Nat, k ≤ 65 ∧ a = .int .i64 (sumB h (allI.take k)) ∧ i = .int .i64 (k : Int)) (fun _ i _ => 65 - (intOf i).toNat)
  case atStart => exact ⟨rfl, 0, by omega, rfl, rfl⟩
  case round =>
    obtain ⟨rfl, k, hk, rfl, rfl⟩ := hrel
    by_cases hlt : k < 65
    · have hc0 := H0.cell (nth_some (h := h) (i := k) (by omega))
      have nb := sumB_take_nat s k
      have nb2 := sumB_take_le s k
      have nb3 := countR_bounds s
      have nx := s.at k
      have hw : wrap64 (sumB h (allI.take k) + nth h k) = sumB h (allI.take k) + nth h k := wr64 (by omega) (by omega)
      have hs : sumB h (allI.take (k + 1)) = sumB h (allI.take k) + nth h k := by rw [take_succ hlt, sumB_snoc]
      have HS := Lib.hid hs
      have HH := Lib.hid H0
      clear hs H0
      go_wp2
      go_roundw
      case rel => exact ⟨trivial, k + 1, by omega, by rw [HS.out], rfl⟩
      case measure => simp [intOf]; omega
    · obtain rfl : k = 65 := by omega
      rw [List.take_of_length_le (by rw [allI_len]; omega)]
      rw [show sumB h allI = countR h from rfl]
      by_cases hz : countR h = 0
      · have hR := HZ.out hz
        subst hR
        go_wp2
        all_goals (go_ret2; exact ⟨rfl, hbl⟩)
      · by_cases hq : q < 0 ∨ 100 < q
        · have hR := HB.out hq
          subst hR
          clear HZ HQ HB
          rcases hq with hq | hq
          · go_wp2
            all_goals (go_ret2; exact ⟨rfl, hbl⟩)
          · have hq0 : ¬ q < 0 := by omega
            go_wp2
            all_goals (go_ret2; exact ⟨rfl, hbl⟩)
        · have hR := HQ.out hq
          have hq0 : ¬ q < 0 := by omega
          have hq1 : ¬ 100 < q := by omega
          have HR := Lib.hid hR
          have hnb := need_bounds s (q := q) (by omega) (by omega)
          have hw : wrap64 (q * countR h) = q * countR h := wr64 (by omega) (by omega)
          clear hR HZ HQ HB hq
          have hN0 := notYet_nil (q * countR h) h
          have HN0 := Lib.hid hN0
          clear hN0
          go_wp2
          go_loopw [8, 9] (fun n i wx => wx = wr ∧ ∃ k : Nat, k ≤ 65 ∧ n = .int .i64 (sumB h (allI.take k)) ∧ i = .int .i64 (k : Int) ∧ NotYet (q * countR h) h (allI.take k)) (fun _ i _ => 65 - (intOf i).toNat)
          case atStart => exact ⟨rfl, 0, by omega, rfl, rfl, HN0.out⟩
          case round =>
            obtain ⟨rfl, k, hk, rfl, rfl, hN⟩ := hrel
            clear HN0
            by_cases hlt : k < 65
            · have hc0 := H0.cell (nth_some (h := h) (i := k) (by omega))
              have nb := sumB_take_nat s k
              have nb2 := sumB_take_le s k
              have nb3 := countR_bounds s
              have nx := s.at k
              have hw1 : wrap64 (sumB h (allI.take k) + nth h k) = sumB h (allI.take k) + nth h k := wr64 (by omega) (by omega)
              have hw2 : wrap64 (100 * (sumB h (allI.take k) + nth h k)) = 100 * (sumB h (allI.take k) + nth h k) := wr64 (by omega) (by omega)
              have hs : sumB h (allI.take (k + 1)) = sumB h (allI.take k) + nth h k := by rw [take_succ hlt, sumB_snoc]
              have HS := Lib.hid hs
              have HH := Lib.hid H0
              have HBd := Lib.hid (fun W => rbound_any (k : Int) (by unfold I64; omega) W)
              clear hs H0
              obtain ⟨need, hneed⟩ : ∃ n, q * countR h = n := ⟨_, rfl⟩
              rw [hneed] at hw hnb hN HR ⊢
              by_cases hc0 : 0 < sumB h (allI.take k) + nth h k
              · by_cases hc1 : need ≤ 100 * (sumB h (allI.take k) + nth h k)
                · have hf := found_snoc (i := ⟨k, hlt⟩) hN ⟨hc0, hc1⟩
                  have hr := HR.out
                  rw [found_all hf (by rw [← take_succ hlt]; exact List.take_prefix _ _)] at hr
                  subst hr
                  rw [← hneed] at hc1 hw
                  clear hN hf HR hneed
                  go_wp2_with fail
                  refine (HBd.out _).mono ?_
                  rintro e w3 ⟨rfl, rfl⟩
                  go_wp2
                  go_ret2
                  exact ⟨rfl, hbl⟩
                · have HF := Lib.hid (notYet_snoc (i := ⟨k, hlt⟩) hN (fun q0 => by have q1 := q0.1; have q2 := q0.2; dsimp only at q1 q2; omega))
                  rw [← hneed] at hc1 hw
                  clear hN
                  go_wp2
                  go_roundw
                  case rel => exact ⟨trivial, k + 1, by omega, by rw [HS.out], rfl, by rw [take_succ hlt]; exact HF.out⟩
                  case measure => simp [intOf]; omega
              · have HF := Lib.hid (notYet_snoc (i := ⟨k, hlt⟩) hN (fun q0 => by have q1 := q0.1; have q2 := q0.2; dsimp only at q1 q2; omega))
                clear hN
                go_wp2
                go_roundw
                case rel => exact ⟨trivial, k + 1, by omega, by rw [HS.out], rfl, by rw [take_succ hlt]; exact HF.out⟩
                case measure => simp [intOf]; omega
            · obtain rfl : k = 65 := by omega
              rw [List.take_of_length_le (by rw [allI_len]; omega)] at hN ⊢
              have hr := HR.out
              rw [notYet_all hN] at hr
              subst hr
              clear hN HR
              go_wp2
              go_ret2
              exact ⟨rfl, hbl⟩
end Go.Proofs.Ytohmliockehbkaa
