/- The reference's Quantile. -/
import Derived.Test.YtohmliockehbkaaHo
namespace Go.Proofs.Ytohmliockehbkaa
open Go Go.Proofs Go.RowKit Go.Shelf
set_option maxRecDepth 100000
theorem getD_len {l : List Int} {j : Nat} (h : j < l.length) : ∃ x, l[j]? = some x := ⟨_, List.getElem?_eq_getElem h⟩
theorem take_snoc' {l : List Int} {j : Nat} {x : Int} (h : l[j]? = some x) : l.take (j + 1) = l.take j ++ [x] := by rw [List.take_add_one, h]; rfl
set_option maxHeartbeats 8000000 in
theorem rquant_any (a : Option Addr) (c : Nat) (l : List Int) (q : Int) (w : World) (hN : Ns .i64 w a l) (hl : l.length ≤ 100) (hI : All64 l) :
    Calls Try.prog 12 #[.slice a l.length c, .int .i64 q] w fun e w' => e = .returned (qV (quantR (histR l) q)) ∧ w' = w := by
  have hs := histR_small hI (by omega)
  have hcount := count_hist hI
  have HZ := Lib.hid (fun hz => quantR_zero hs hz q)
  have HQ := Lib.hid (show ¬ (q < 0 ∨ 100 < q) → quantR (histR l) q = qOf (scanQ (q * countR (histR l)) (histR l) 0 allI) from fun hn => if_neg hn)
  have HB := Lib.hid (show q < 0 ∨ 100 < q → quantR (histR l) q = (0, false) from fun hn => if_pos hn)
  rw [hcount] at HQ HZ
  generalize quantR (histR l) q = R at *
  go_enter Try.func12, Try.ntmps12
  by_cases hz : l = []
  · subst hz
    have hR := HZ.out rfl
    subst hR
    go_wp2
    all_goals (go_ret2; exact ⟨rfl, rfl⟩)
  have hpos : 0 < l.length := List.length_pos_iff.2 hz
  by_cases hq : q < 0 ∨ 100 < q
  · have hR := HB.out hq
    subst hR
    have hn0 : ¬ (l.length : Int) = 0 := by omega
    clear HZ HQ HB
    generalize l.length = n at *
    rcases hq with hq | hq
    · go_wp2
      all_goals (go_ret2; exact ⟨rfl, rfl⟩)
    · have hq0 : ¬ q < 0 := by omega
      go_wp2
      all_goals (go_ret2; exact ⟨rfl, rfl⟩)
  have hR := HQ.out hq
  have hq0 : ¬ q < 0 := by omega
  have hq1 : ¬ 100 < q := by omega
  have hn0 : ¬ (l.length : Int) = 0 := by omega
  have HR := Lib.hid hR
  have HN := Lib.hid hN
  clear hR HZ HQ HB hq hN
  obtain ⟨n, hn⟩ : ∃ n, l.length = n := ⟨_, rfl⟩
  have HL := Lib.hid hn
  have hnb : 0 ≤ q * (n : Int) ∧ q * (n : Int) ≤ 10000 := by
    have h1 : q * (n : Int) ≤ 100 * (n : Int) := Int.mul_le_mul_of_nonneg_right (by omega) (by omega)
    exact ⟨Int.mul_nonneg (by omega) (by omega), by omega⟩
  have hw : wrap64 (q * (n : Int)) = q * (n : Int) := wr64 (by omega) (by omega)
  have HS := Lib.hid hs
  rw [hn] at HR hn0 hl hcount ⊢
  clear hs hn
  go_wp2
  go_loopw [6] (fun i wr => wr = w ∧ ∃ k : Nat, k < 64 ∧ i = .int .i64 (k : Int) ∧ NotYet (q * (n : Int)) (histR l) (allI.take k)) (fun i _ => 65 - (intOf i).toNat)
  case atStart => exact ⟨rfl, 0, by omega, rfl, notYet_nil _ _⟩
  case round =>
    obtain ⟨rfl, k, hlt, rfl, hNY⟩ := hrel
    have HNY := Lib.hid hNY
    clear hNY
    have hk2 : (k : Int) < 64 := by omega
    have hk3 : decide ((k : Int) < 64) = true := decide_eq_true hk2
    go_wp2
    go_loopw [7, 8] (fun m i wx => wx = wr ∧ ∃ j : Nat, j ≤ n ∧ m = .int .i64 (cntB (l.take j) (k + 1)) ∧ i = .int .i64 (j : Int)) (fun _ i _ => n - (intOf i).toNat)
    case atStart => exact ⟨rfl, 0, by omega, by simp [cntB], rfl⟩
    case round =>
      obtain ⟨rfl, j, hj, rfl, rfl⟩ := hrel
      by_cases hjn : j < n
      · obtain ⟨x, hx⟩ := getD_len (l := l) (j := j) (by rw [HL.out]; exact hjn)
        obtain ⟨b, off, rfl, hbl, hc0⟩ := HN.out.at hx
        have hBk := Lib.hid (fun W => rbucket_any x (hI x (List.mem_of_getElem? hx)) W)
        have hbx := bucketR_le x (hI x (List.mem_of_getElem? hx)).2
        have hcs := cntB_snoc (l.take j) x (k + 1)
        rw [← take_snoc' hx] at hcs
        have hcb := cntB_bounds (l.take j) (k + 1)
        rw [List.length_take] at hcb
        have HCS := Lib.hid hcs
        have hw1 : wrap64 (cntB (l.take j) (k + 1) + 1) = cntB (l.take j) (k + 1) + 1 := wr64 (by omega) (by omega)
        clear hcs
        generalize bucketR x = B at *
        generalize cntB (l.take j) (k + 1) = m at *
        by_cases hbk : B < k + 1
        · have hd1 : (B : Int) ≤ (k : Int) := by omega
          go_wp2_with fail
          refine (hBk.out _).mono ?_
          rintro e w3 ⟨rfl, rfl⟩
          go_wp2
          clear hw1 hw
          go_roundw
          case rel => exact ⟨trivial, j + 1, by omega, by rw [HCS.out, if_pos hbk], rfl⟩
          case measure => simp [intOf]; omega
        · have hd1 : ¬ (B : Int) ≤ (k : Int) := by omega
          go_wp2_with fail
          refine (hBk.out _).mono ?_
          rintro e w3 ⟨rfl, rfl⟩
          go_wp2
          clear hw1 hw
          go_roundw
          case rel => exact ⟨trivial, j + 1, by omega, by rw [HCS.out, if_neg hbk]; simp, rfl⟩
          case measure => simp [intOf]; omega
      · have hjn2 : j = n := by omega
        have hl1 : l.take j = l := List.take_of_length_le (by rw [HL.out]; omega)
        rw [hl1]
        have hcb := cntB_bounds l (k + 1)
        rw [HL.out] at hcb
        have hsum : sumB (histR l) (allI.take k) + nth (histR l) k = cntB l (k + 1) := by
          rw [← sum_cnt hI (k + 1) (by omega), take_succ (show k < 65 by omega), sumB_snoc]
        have hlast : k = 63 → cntB l (k + 1) = (n : Int) := fun e => by rw [cnt_all hI (by omega), HL.out]
        have h100 : q * (n : Int) ≤ 100 * (n : Int) := Int.mul_le_mul_of_nonneg_right (by omega) (by omega)
        have hjz : ¬ (j : Int) < (n : Int) := by omega
        have HBd := Lib.hid (fun W => rbound_any (k : Int) (by unfold I64; omega) W)
        have HSu := Lib.hid hsum
        clear hsum hl1
        generalize cntB l (k + 1) = m at *
        have hw2 : wrap64 (100 * m) = 100 * m := wr64 (by omega) (by omega)
        by_cases hc0 : 0 < m
        · by_cases hc1 : q * (n : Int) ≤ 100 * m
          · have hf := found_snoc (i := ⟨k, by omega⟩) HNY.out (by rw [HSu.out]; exact ⟨hc0, hc1⟩)
            have hr := HR.out
            rw [found_all hf (by rw [← take_succ (show k < 65 by omega)]; exact List.take_prefix _ _)] at hr
            subst hr
            clear hf HR hlast h100 hcount
            go_wp2_with fail
            refine (HBd.out _).mono ?_
            rintro e w3 ⟨rfl, rfl⟩
            go_wp2
            go_ret2
            exact ⟨rfl, rfl⟩
          · have hk3 : k + 1 < 64 := by
              rcases Nat.lt_or_ge (k + 1) 64 with h | h
              · exact h
              · have := hlast (by omega)
                omega
            have HF := Lib.hid (notYet_snoc (i := ⟨k, by omega⟩) HNY.out (by rw [HSu.out]; omega))
            clear hlast h100 hcount
            go_wp2
            clear hw2 hw
            go_roundw
            case rel => exact ⟨trivial, k + 1, hk3, rfl, by rw [take_succ (show k < 65 by omega)]; exact HF.out⟩
            case measure => simp [intOf]; omega
        · have hk3 : k + 1 < 64 := by
            rcases Nat.lt_or_ge (k + 1) 64 with h | h
            · exact h
            · have := hlast (by omega)
              omega
          have HF := Lib.hid (notYet_snoc (i := ⟨k, by omega⟩) HNY.out (by rw [HSu.out]; omega))
          clear hlast h100 hcount
          go_wp2
          clear hw2 hw
          go_roundw
          case rel => exact ⟨trivial, k + 1, hk3, rfl, by rw [take_succ (show k < 65 by omega)]; exact HF.out⟩
          case measure => simp [intOf]; omega
end Go.Proofs.Ytohmliockehbkaa
