/- belfrylaw13.HistRanks, walked. -/
import Derived.Test.YtohmliockehbkaaHv
namespace Go.Proofs.Ytohmliockehbkaa
open Go Go.Proofs Go.RowKit Go.Shelf
set_option maxRecDepth 100000
namespace LawHistRanks
theorem histR_take {l : List Int} {k : Nat} {x : Int} (hx : l[k]? = some x) : histR (l.take (k + 1)) = putR (histR (l.take k)) x := by rw [take_snoc' hx, histR_snoc]
theorem all_take {l : List Int} (h : All64 l) (k : Nat) : All64 (l.take k) := fun x hx => h x (List.mem_of_mem_take hx)
set_option maxHeartbeats 16000000 in
theorem any (a : Option Addr) (c : Nat) (l : List Int) (q : Int) (w : World) (hN : Ns .i64 w a l) (hI : All64 l) (hq : 0 ≤ q ∧ q ≤ 255) :
    Calls Try.prog 6 #[.slice a l.length c, .int .u8 q] w fun e w' => e = .returned (.bool true) ∧ Below w.heap.size w w' := by
  have K := Lib.hid (known_any w)
  go_enter Try.func6, Try.ntmps6
  by_cases hpos : l.length = 0
  · have hz0 : (l.length : Int) = 0 := by omega
    rw [hpos]
    go_wp2_with fail
    refine K.out.mono ?_
    rintro e w1 ⟨rfl, hb⟩
    go_wp2
    go_ret
    exact ⟨rfl, hb⟩
  have hn0 : ¬ (l.length : Int) = 0 := by omega
  by_cases hbig : 100 < l.length
  · have hb1 : (100 : Int) < (l.length : Int) := by omega
    generalize l.length = n at *
    go_wp2_with fail
    refine K.out.mono ?_
    rintro e w1 ⟨rfl, hb⟩
    go_wp2
    go_ret
    exact ⟨rfl, hb⟩
  have hb1 : ¬ (100 : Int) < (l.length : Int) := by omega
  have hz := zeroH
  have hzs := hc_size zs65
  have hzn := hc_ne zs65_len
  have N0 := Lib.hid hN
  have HI := Lib.hid hI
  clear hN hI
  obtain ⟨n, hn⟩ : ∃ n, l.length = n := ⟨_, rfl⟩
  have HL := Lib.hid hn
  rw [hn] at hbig hb1 hpos hn0 ⊢
  clear hn
  have hd0 : ((n : Int) == 0) = false := by simp; omega
  have hd1 : decide ((100 : Int) < (n : Int)) = false := decide_eq_false hb1
  go_wp2_with fail
  refine K.out.mono ?_
  rintro e w1 ⟨rfl, hb⟩
  have N1 := Lib.hid (N0.out.below hb)
  clear K N0
  go_wp2
  have A0 := hat_new w1 25 zs65_len
  have b0 : Below w1.heap.size w1 (w1.alloc (.cells (hc zs65) 25)) := below_cells _
  rw [show zs65 = histR (l.take 0) from rfl] at A0 b0 ⊢
  clear hz hzs hzn
  generalize w1.alloc (.cells (hc (histR (l.take 0))) 25) = W0 at *
  go_loopw [6] (fun i wr => ∃ k : Nat, k ≤ n ∧ i = .int .i64 (k : Int) ∧ HAt 25 wr w1.heap.size (histR (l.take k)) ∧ Below w1.heap.size w1 wr) (fun i _ => n - (intOf i).toNat)
  case atStart => exact ⟨0, by omega, rfl, A0, b0⟩
  case round =>
    clear A0 b0
    obtain ⟨k, hk, rfl, hA, hB⟩ := hrel
    by_cases hkn : k < n
    · obtain ⟨x, hx⟩ := getD_len (l := l) (j := k) (by rw [HL.out]; exact hkn)
      obtain ⟨b, off, rfl, hbl, hc1⟩ := N1.out.at hx
      have hc0 := (hB.cell (p := ⟨b, off + k, none⟩) hbl).trans hc1
      have hxI := HI.out x (List.mem_of_getElem? hx)
      have HP := Lib.hid (put_row w1.heap.size (histR (l.take k)) x wr hA (histR_small (all_take HI.out k) (by rw [List.length_take]; omega)) hxI)
      rw [← histR_take hx] at HP
      have HB := Lib.hid hB
      clear hc1 hxI hA hB
      go_wp2_with fail
      refine HP.out.mono ?_
      rintro e w3 ⟨⟨r, rfl⟩, hp⟩
      have HPP := Lib.hid hp
      clear hp HP
      go_wp2
      go_roundw
      case rel => exact ⟨k + 1, by omega, rfl, HPP.out.row, HPP.out.below _ _ HB.out (Nat.le_refl _)⟩
      case measure => simp [intOf]; omega
    · obtain rfl : k = n := by omega
      rw [List.take_of_length_le (by rw [HL.out]; omega)] at hA
      have hkz : ¬ (k : Int) < (k : Int) := by omega
      have hp := HL.out
      obtain ⟨i, hi, hqu, hc1, hc2, hc3⟩ := ranks HI.out (by omega) (by omega) (q := q % 101) (by omega) (by omega)
      rw [HL.out] at hc2 hc3
      have s := histR_small HI.out (by omega)
      have Q1 := Lib.hid (fun W => quant_any (histR l) s (q % 101) W)
      rw [hqu] at Q1
      have hbi := boundR_nat i
      have hbI : I64 (boundR (i : Int)) := ⟨by omega, by omega⟩
      have B1 := Lib.hid (fun W => bucket_any (boundR (i : Int)) hbI W)
      rw [bucket_bound hi] at B1
      have hwq : wrap64 q = q := wr64 (by omega) (by omega)
      have H1 := Lib.hid hc1
      have H2 := Lib.hid hc2
      have H3 := Lib.hid hc3
      have bB : Below w.heap.size w wr := below_then hb hB
      have N2 := Lib.hid (N1.out.below hB)
      clear hc1 hc2 hc3 hqu s hp hB hb N1
      generalize hqm : q % 101 = m at *
      have hm : 0 ≤ m ∧ m ≤ 100 := by omega
      have hqt : q.tmod 101 = m := by rw [Int.tmod_eq_emod_of_nonneg (by omega)]; exact hqm
      clear hqm
      go_wp2_with (first | (refine ld_row rowH hA rfl rfl rfl ?_) | fail)
      refine (Q1.out _).mono ?_
      rintro e w3 ⟨rfl, hb3⟩
      have N3 := Lib.hid (N2.out.below hb3)
      have b3 := below_then bB hb3
      clear hA hb3 bB Q1 N2
      unfold qV
      dsimp only
      go_wp2_with fail
      refine (B1.out _).mono ?_
      rintro e w4 ⟨rfl, rfl⟩
      clear B1
      go_wp2
      go_loopw [11, 12, 13] (fun up be j wx => ∃ jj : Nat, jj ≤ k ∧ up = .int .i64 (cntB (l.take jj) (i + 1)) ∧ be = .int .i64 (if 0 < i then cntB (l.take jj) i else 0) ∧ j = .int .i64 (jj : Int) ∧ Below w4.heap.size w4 wx) (fun _ _ j _ => k - (intOf j).toNat)
      case atStart => exact ⟨0, by omega, by simp [cntB], by simp [cntB], rfl, Below.refl _ _⟩
      case round =>
        obtain ⟨j, hj, rfl, rfl, rfl, hB⟩ := hrel
        by_cases hjk : j < k
        · obtain ⟨x, hx⟩ := getD_len (l := l) (j := j) (by rw [HL.out]; exact hjk)
          obtain ⟨b, off, rfl, hbl, hc1⟩ := N3.out.at hx
          have hc0 := (hB.cell (p := ⟨b, off + j, none⟩) hbl).trans hc1
          have hxI := HI.out x (List.mem_of_getElem? hx)
          have hcs := cntB_snoc (l.take j) x (i + 1)
          have hcs2 := cntB_snoc (l.take j) x i
          rw [← take_snoc' hx] at hcs hcs2
          have hcb := cntB_bounds (l.take j) (i + 1)
          have hcb2 := cntB_bounds (l.take j) i
          rw [List.length_take] at hcb hcb2
          have hle := le_bound hxI (i := i) hi
          have HCS := Lib.hid hcs
          have HCS2 := Lib.hid hcs2
          have HB := Lib.hid hB
          have hw1 : wrap64 (cntB (l.take j) (i + 1) + 1) = cntB (l.take j) (i + 1) + 1 := wr64 (by omega) (by omega)
          have hw2 : wrap64 ((if 0 < i then cntB (l.take j) i else 0) + 1) = (if 0 < i then cntB (l.take j) i else 0) + 1 := wr64 (by split <;> omega) (by split <;> omega)
          clear hcs hcs2 hc1 hB hcb hcb2
          by_cases h0 : 0 < i
          · have hi0 : (0 : Int) < (i : Int) := by omega
            have hdi : decide ((0 : Int) < (i : Int)) = true := decide_eq_true hi0
            have P := Lib.hid (fun W => bound_any ((i : Int) - 1) (by unfold I64; omega) W)
            have hwx : IntKind.i64.wrap ((i : Int) - 1) = (i : Int) - 1 := by rw [IntKind.wrap_i64]; first | omega | exact wr64 (n := (i : Int) - 1) (by omega) (by omega)
            have hwi : wrap64 ((i : Int) - 1) = (i : Int) - 1 := wr64 (by omega) (by omega)
            have hle2 : x ≤ boundR ((i : Int) - 1) ↔ bucketR x < i := by rw [show (i : Int) - 1 = ((i - 1 : Nat) : Int) by omega, le_bound hxI (by omega)]; omega
            rw [if_pos h0] at hw2
            have HW2 := Lib.hid hw2
            by_cases hb : bucketR x < i
            · have hv1 : x ≤ boundR (i : Int) := hle.2 (by omega)
              have hv2 : x ≤ boundR ((i : Int) - 1) := hle2.2 hb
              clear hle hle2
              go_wp2_with fail
              refine wp_region_held_drew (S := fun u => u.cell? ⟨b, off + j, none⟩ = some (.int .i64 x) ∧ Below w4.heap.size w4 u) (by kernel_rfl) ⟨hc0, HB.out.drew⟩ (fun hS => ?_)
              generalize wr.drew = w0 at *
              refine tkH 0 hS ?_
              refine tkH 1 hS ?_
              refine tkH 2 hS ?_
              refine tkH 3 hS ?_
              refine tkH 4 hS ?_
              refine tkH 5 hS ?_
              refine tkC 6 hS (fun u h => h.1) ?_
              refine tkH 7 hS ?_
              refine tkH 8 hS ?_
              refine anyH_1 9 (fun K hK => ?_)
              go_simp
              refine (P.out _).mono ?_
              rintro e w5 ⟨rfl, rfl⟩
              dsimp only
              refine hK.out _ _ hS (fun hS => ?_)
              clear hK K
              refine tkH 10 hS ?_
              refine tkH 11 hS ?_
              refine wpAnyH_done (by kernel_rfl) ?_ _
              have hB2 := Lib.hid hS.2
              clear hS hc0
              go_wp2
              clear hw1 hw2
              go_roundw
              case rel => exact ⟨j + 1, by omega, by rw [HCS.out, if_pos (show bucketR x < i + 1 by omega)], by (try rw [if_pos h0]); rw [HCS2.out, if_pos hb]; (try rw [HW2.out]), rfl, hB2.out⟩
              case measure => simp [intOf]; omega
            · have hv2 : ¬ x ≤ boundR ((i : Int) - 1) := fun q => hb (hle2.1 q)
              by_cases hbi2 : bucketR x ≤ i
              · have hv1 : x ≤ boundR (i : Int) := hle.2 hbi2
                clear hle hle2
                go_wp2_with fail
                refine wp_region_held_drew (S := fun u => u.cell? ⟨b, off + j, none⟩ = some (.int .i64 x) ∧ Below w4.heap.size w4 u) (by kernel_rfl) ⟨hc0, HB.out.drew⟩ (fun hS => ?_)
                generalize wr.drew = w0 at *
                refine tkH 0 hS ?_
                refine tkH 1 hS ?_
                refine tkH 2 hS ?_
                refine tkH 3 hS ?_
                refine tkH 4 hS ?_
                refine tkH 5 hS ?_
                refine tkC 6 hS (fun u h => h.1) ?_
                refine tkH 7 hS ?_
                refine tkH 8 hS ?_
                refine anyH_1 9 (fun K hK => ?_)
                go_simp
                refine (P.out _).mono ?_
                rintro e w5 ⟨rfl, rfl⟩
                dsimp only
                refine hK.out _ _ hS (fun hS => ?_)
                clear hK K
                refine tkH 10 hS ?_
                refine tkH 11 hS ?_
                refine wpAnyH_done (by kernel_rfl) ?_ _
                have hB2 := Lib.hid hS.2
                clear hS hc0
                go_wp2
                clear hw1 hw2
                go_roundw
                case rel => exact ⟨j + 1, by omega, by rw [HCS.out, if_pos (show bucketR x < i + 1 by omega)], by (try rw [if_pos h0]); rw [HCS2.out, if_neg hb, Int.add_zero], rfl, hB2.out⟩
                case measure => simp [intOf]; omega
              · have hv1 : ¬ x ≤ boundR (i : Int) := fun q => hbi2 (hle.1 q)
                clear hle hle2
                go_wp2_with fail
                refine wp_region_held_drew (S := fun u => u.cell? ⟨b, off + j, none⟩ = some (.int .i64 x) ∧ Below w4.heap.size w4 u) (by kernel_rfl) ⟨hc0, HB.out.drew⟩ (fun hS => ?_)
                generalize wr.drew = w0 at *
                refine tkH 0 hS ?_
                refine tkH 1 hS ?_
                refine tkH 2 hS ?_
                refine tkH 3 hS ?_
                refine tkH 4 hS ?_
                refine tkH 5 hS ?_
                refine tkC 6 hS (fun u h => h.1) ?_
                refine tkH 7 hS ?_
                refine tkH 8 hS ?_
                refine anyH_1 9 (fun K hK => ?_)
                go_simp
                refine (P.out _).mono ?_
                rintro e w5 ⟨rfl, rfl⟩
                dsimp only
                refine hK.out _ _ hS (fun hS => ?_)
                clear hK K
                refine tkH 10 hS ?_
                refine tkH 11 hS ?_
                refine wpAnyH_done (by kernel_rfl) ?_ _
                have hB2 := Lib.hid hS.2
                clear hS hc0
                go_wp2
                clear hw1 hw2
                go_roundw
                case rel => exact ⟨j + 1, by omega, by rw [HCS.out, if_neg (show ¬ bucketR x < i + 1 by omega)]; simp, by (try rw [if_pos h0]); rw [HCS2.out, if_neg hb, Int.add_zero], rfl, hB2.out⟩
                case measure => simp [intOf]; omega
          · have hi0 : ¬ (0 : Int) < (i : Int) := by omega
            have hdi : decide ((0 : Int) < (i : Int)) = false := decide_eq_false hi0
            by_cases hbi2 : bucketR x ≤ i
            · have hv1 : x ≤ boundR (i : Int) := hle.2 hbi2
              clear hle
              go_wp2_with fail
              refine wp_region_held_drew (S := fun u => u.cell? ⟨b, off + j, none⟩ = some (.int .i64 x) ∧ Below w4.heap.size w4 u) (by kernel_rfl) ⟨hc0, HB.out.drew⟩ (fun hS => ?_)
              generalize wr.drew = w0 at *
              refine tkH 0 hS ?_
              refine tkH 1 hS ?_
              refine tkH 2 hS ?_
              refine tkS 3 hS ?_
              refine tkS 4 hS ?_
              refine tkS 5 hS ?_
              refine tkS 6 hS ?_
              refine tkS 7 hS ?_
              refine tkS 8 hS ?_
              refine tkS 9 hS ?_
              refine tkS 10 hS ?_
              refine tkH 11 hS ?_
              refine wpAnyH_done (by kernel_rfl) ?_ _
              have hB2 := Lib.hid hS.2
              clear hS hc0
              go_wp2
              clear hw1 hw2
              go_roundw
              case rel => exact ⟨j + 1, by omega, by rw [HCS.out, if_pos (show bucketR x < i + 1 by omega)], by rw [if_neg h0], rfl, hB2.out⟩
              case measure => simp [intOf]; omega
            · have hv1 : ¬ x ≤ boundR (i : Int) := fun q => hbi2 (hle.1 q)
              clear hle
              go_wp2_with fail
              refine wp_region_held_drew (S := fun u => u.cell? ⟨b, off + j, none⟩ = some (.int .i64 x) ∧ Below w4.heap.size w4 u) (by kernel_rfl) ⟨hc0, HB.out.drew⟩ (fun hS => ?_)
              generalize wr.drew = w0 at *
              refine tkH 0 hS ?_
              refine tkH 1 hS ?_
              refine tkH 2 hS ?_
              refine tkS 3 hS ?_
              refine tkS 4 hS ?_
              refine tkS 5 hS ?_
              refine tkS 6 hS ?_
              refine tkS 7 hS ?_
              refine tkS 8 hS ?_
              refine tkS 9 hS ?_
              refine tkS 10 hS ?_
              refine tkH 11 hS ?_
              refine wpAnyH_done (by kernel_rfl) ?_ _
              have hB2 := Lib.hid hS.2
              clear hS hc0
              go_wp2
              clear hw1 hw2
              go_roundw
              case rel => exact ⟨j + 1, by omega, by rw [HCS.out, if_neg (show ¬ bucketR x < i + 1 by omega)]; simp, by rw [if_neg h0], rfl, hB2.out⟩
              case measure => simp [intOf]; omega
        · obtain rfl : j = k := by omega
          rw [List.take_of_length_le (by rw [HL.out]; omega)]
          have hmk : 0 ≤ m * (j : Int) ∧ m * (j : Int) ≤ 10000 := by
            have h1 : m * (j : Int) ≤ 100 * (j : Int) := Int.mul_le_mul_of_nonneg_right (by omega) (by omega)
            exact ⟨Int.mul_nonneg (by omega) (by omega), by omega⟩
          have hu := cntB_bounds l (i + 1)
          have hd := cntB_bounds l i
          rw [HL.out] at hu hd
          have h1 := H1.out
          have h2 := H2.out
          have h3 := H3.out
          have hjz : ¬ (j : Int) < (j : Int) := by omega
          have bB := below_then b3 hB
          have hwm : wrap64 (m * (j : Int)) = m * (j : Int) := wr64 (by omega) (by omega)
          have hwu : wrap64 (100 * cntB l (i + 1)) = 100 * cntB l (i + 1) := wr64 (by omega) (by omega)
          clear hB b3 H1 H2 H3
          generalize cntB l (i + 1) = U at *
          by_cases h0 : 0 < i
          · have hwd : wrap64 (100 * cntB l i) = 100 * cntB l i := wr64 (by omega) (by omega)
            rw [if_pos h0]
            have hi0 : ((i : Int) == 0) = false := by simp; omega
            have hi1 : ¬ (i : Int) = 0 := by omega
            generalize cntB l i = D at *
            rcases h3 h0 with h4 | h4
            · subst h4
              clear h3 hu hd
              go_wp2
              all_goals (go_ret; exact ⟨rfl, bB⟩)
            · by_cases h5 : D = 0
              · subst h5
                clear h3 hu hd
                go_wp2
                all_goals (go_ret; exact ⟨rfl, bB⟩)
              · have h6 : (D == 0) = false := by simp; exact h5
                clear h3 hu hd
                go_wp2
                all_goals (go_ret; exact ⟨rfl, bB⟩)
          · obtain rfl : i = 0 := by omega
            rw [if_neg h0]
            clear h3 hu hd
            go_wp2
            all_goals (go_ret; exact ⟨rfl, bB⟩)
end LawHistRanks
end Go.Proofs.Ytohmliockehbkaa
