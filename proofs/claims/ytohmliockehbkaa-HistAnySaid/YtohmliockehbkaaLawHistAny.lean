/- belfrylaw13.HistAny, walked. -/
import Derived.Test.YtohmliockehbkaaHv
import Derived.Test.YtohmliockehbkaaHx
namespace Go.Proofs.Ytohmliockehbkaa
open Go Go.Proofs Go.RowKit Go.Shelf
set_option maxRecDepth 100000
namespace LawHistAny
theorem histR_take {l : List Int} {k : Nat} {x : Int} (hx : l[k]? = some x) : histR (l.take (k + 1)) = putR (histR (l.take k)) x := by rw [take_snoc' hx, histR_snoc]
theorem all_take {l : List Int} (h : All64 l) (k : Nat) : All64 (l.take k) := fun x hx => h x (List.mem_of_mem_take hx)
theorem all_drop {l : List Int} (h : All64 l) (k : Nat) : All64 (l.drop k) := fun x hx => h x (List.mem_of_mem_drop hx)
/-- the values from the p-th on of those ahead of the k-th -/
theorem mid_succ {l : List Int} {p k : Nat} {x : Int} (hx : l[k]? = some x) (h : p ≤ k) : (l.take (k + 1)).drop p = (l.take k).drop p ++ [x] := by
  have hk := (List.getElem?_eq_some_iff.1 hx).1
  rw [take_snoc' hx, List.drop_append_of_le_length (by rw [List.length_take]; omega)]
/-- what lies in memory where k values are put -/
structure ST (l : List Int) (p k b : Nat) (w1 W : World) : Prop where
  A : HAt 25 W b (histR (l.take (min k p)))
  B : HAt 25 W (b + 1) (histR ((l.take k).drop p))
  C : HAt 25 W (b + 1 + 1) (histR (l.take k))
  bel : Below w1.heap.size w1 W
theorem ST.drew {l : List Int} {p k b : Nat} {w1 W : World} (s : ST l p k b w1 W) : ST l p k b w1 W.drew := ⟨s.A.drew, s.B.drew, s.C.drew, s.bel.drew⟩
theorem ST.below {l : List Int} {p k b : Nat} {w1 W W2 : World} (s : ST l p k b w1 W) (h : Below W.heap.size W W2) : ST l p k b w1 W2 := ⟨s.A.below h, s.B.below h, s.C.below h, below_then s.bel h⟩
/-- the three rows lie there -/
structure SF (b : Nat) (x y z : List Int) (w W : World) : Prop where
  A : HAt 25 W b x
  B : HAt 25 W (b + 1) y
  C : HAt 25 W (b + 1 + 1) z
  bel : Below w.heap.size w W
theorem SF.below {b : Nat} {x y z : List Int} {w W W2 : World} (s : SF b x y z w W) (h : Below W.heap.size W W2) : SF b x y z w W2 := ⟨s.A.below h, s.B.below h, s.C.below h, below_then s.bel h⟩
theorem SF.drew {b : Nat} {x y z : List Int} {w W : World} (s : SF b x y z w W) : SF b x y z w W.drew := ⟨s.A.drew, s.B.drew, s.C.drew, s.bel.drew⟩
set_option maxHeartbeats 16000000 in
theorem any (a : Option Addr) (c : Nat) (l : List Int) (q t : Int) (w : World) (hN : Ns .i64 w a l) (hI : All64 l) (hq : I64 q) (ht : 0 ≤ t ∧ t ≤ 255) :
    Calls Try.prog 3 #[.slice a l.length c, .int .i64 q, .int .u8 t] w fun e w' => e = .returned (.bool true) ∧ Below w.heap.size w w' := by
  have K := Lib.hid (known_any w)
  go_enter Try.func3, Try.ntmps3
  by_cases hbig : 100 < l.length
  · have hb1 : (100 : Int) < (l.length : Int) := by omega
    generalize l.length = n at *
    go_wp2_with fail
    refine K.out.mono ?_
    rintro e w1 ⟨rfl, hb⟩
    go_wp2
    go_ret
    exact ⟨rfl, hb⟩
  have hb1 : ¬ (100 : Int) < (l.length : Int) := by omega
  have hz := zeroH
  have hzs := hc_size zs65
  have hzn := hc_ne zs65_len
  have N0 := Lib.hid hN
  have HI := Lib.hid hI
  clear hN hI
  obtain ⟨n, hn⟩ : ∃ n, l.length = n := ⟨_, rfl⟩
  have HL := Lib.hid hn
  rw [hn] at hbig hb1 ⊢
  clear hn
  have hd1 : decide ((100 : Int) < (n : Int)) = false := decide_eq_false hb1
  obtain ⟨p, hp⟩ : ∃ p : Nat, t % ((n : Int) + 1) = (p : Int) := ⟨(t % ((n : Int) + 1)).toNat, by have := Int.emod_nonneg t (show ((n : Int) + 1) ≠ 0 by omega); omega⟩
  have hpn : p ≤ n := by have := Int.emod_lt_of_pos t (show 0 < ((n : Int) + 1) by omega); omega
  have hpt : t.tmod ((n : Int) + 1) = (p : Int) := by rw [Int.tmod_eq_emod_of_nonneg (by omega)]; exact hp
  have hwt : wrap64 t = t := wr64 (by omega) (by omega)
  have hwn : wrap64 ((n : Int) + 1) = (n : Int) + 1 := wr64 (by omega) (by omega)
  have hn1 : ((n : Int) + 1 == 0) = false := by simp; omega
  clear hp
  go_wp2_with fail
  refine K.out.mono ?_
  rintro e w1 ⟨rfl, hb⟩
  have N1 := Lib.hid (N0.out.below hb)
  clear K N0
  go_wp2
  have A0 := ((hat_new w1 25 zs65_len).alloc (.cells (hc zs65) 25)).alloc (.cells (hc zs65) 25)
  have B0 := hat_new (w1.alloc (.cells (hc zs65) 25)) 25 zs65_len
  rw [World.size_alloc] at B0
  have B1 := B0.alloc (.cells (hc zs65) 25)
  have C0 := hat_new ((w1.alloc (.cells (hc zs65) 25)).alloc (.cells (hc zs65) 25)) 25 zs65_len
  rw [World.size_alloc, World.size_alloc] at C0
  have b0 : Below w1.heap.size w1 (((w1.alloc (.cells (hc zs65) 25)).alloc (.cells (hc zs65) 25)).alloc (.cells (hc zs65) 25)) := below_new (below_new (below_cells _) _) _
  have S0 : ST l p 0 w1.heap.size w1 (((w1.alloc (.cells (hc zs65) 25)).alloc (.cells (hc zs65) 25)).alloc (.cells (hc zs65) 25)) := ⟨by rw [Nat.zero_min]; exact A0, by rw [List.take_zero, List.drop_nil]; exact B1, C0, b0⟩
  clear hz hzs hzn A0 B0 B1 C0 b0
  generalize ((w1.alloc (.cells (hc zs65) 25)).alloc (.cells (hc zs65) 25)).alloc (.cells (hc zs65) 25) = W0 at *
  go_loopw [11] (fun i wr => ∃ k : Nat, k ≤ n ∧ i = .int .i64 (k : Int) ∧ ST l p k w1.heap.size w1 wr) (fun i _ => n - (intOf i).toNat)
  case atStart => exact ⟨0, by omega, rfl, S0⟩
  case round =>
    clear S0
    obtain ⟨k, hk, rfl, hA, hBb, hC, hB⟩ := hrel
    by_cases hkn : k < n
    · obtain ⟨x, hx⟩ := getD_len (l := l) (j := k) (by rw [HL.out]; exact hkn)
      obtain ⟨b, off, rfl, hbl, hc1⟩ := N1.out.at hx
      have hc0 := (hB.cell (p := ⟨b, off + k, none⟩) hbl).trans hc1
      have hxI := HI.out x (List.mem_of_getElem? hx)
      have P1 := Lib.hid (fun W H => put_row (w1.heap.size + 1 + 1) (histR (l.take k)) x W H (histR_small (all_take HI.out k) (by rw [List.length_take]; omega)) hxI)
      rw [← histR_take hx] at P1
      have B1 := Lib.hid (fun W => bucket_any x hxI W)
      have B2 := Lib.hid (fun W => rbucket_any x hxI W)
      by_cases hkp : k < p
      · skip
        have hm1 : min k p = k := by omega
        have hm2 : min (k + 1) p = k + 1 := by omega
        have hd1 : (l.take k).drop p = [] := List.drop_of_length_le (by rw [List.length_take]; omega)
        have hd2 : (l.take (k + 1)).drop p = [] := List.drop_of_length_le (by rw [List.length_take]; omega)
        have hlt : (k : Int) < (p : Int) := by omega
        have hltd : decide ((k : Int) < (p : Int)) = true := decide_eq_true hlt
        rw [hm1] at hA
        have P2 := Lib.hid (fun W H => put_row w1.heap.size (histR (l.take k)) x W H (histR_small (all_take HI.out k) (by rw [List.length_take]; omega)) hxI)
        rw [← histR_take hx] at P2
        go_wp2_with fail
        refine (P1.out _ hC).mono ?_
        rintro e w3 ⟨⟨r, rfl⟩, hp1⟩
        have hB3 := hp1.below _ _ hB (by omega)
        have hA3 := hp1.far hA (by omega)
        have hBb3 := hp1.far hBb (by omega)
        have hC3 := hp1.row
        have hc3 := (hB3.cell (p := ⟨b, off + k, none⟩) hbl).trans hc1
        clear hp1 hA hBb hC hB hc0
        go_wp2_with fail
        refine (P2.out _ hA3).mono ?_
        rintro e w4 ⟨⟨r2, rfl⟩, hp2⟩
        have hB4 := hp2.below _ _ hB3 (by omega)
        have hC4 := hp2.far hC3 (by omega)
        have hBb4 := hp2.far hBb3 (by omega)
        have hA4 := hp2.row
        rw [hd1, ← hd2] at hBb4
        rw [← hm2] at hA4
        have hS4 : ST l p (k + 1) w1.heap.size w1 w4 := ⟨hA4, hBb4, hC4, hB4⟩
        have hc4 := (hB4.cell (p := ⟨b, off + k, none⟩) hbl).trans hc1
        clear hp2 hA3 hBb3 hC3 hB3 hA4 hBb4 hC4 hB4 hc3 P1 P2
        go_wp2_with fail
        refine wp_region_held_drew (S := fun u => u.cell? ⟨b, off + k, none⟩ = some (.int .i64 x) ∧ ST l p (k + 1) w1.heap.size w1 u) (by kernel_rfl) ⟨hc4, hS4.drew⟩ (fun hS => ?_)
        generalize w4.drew = w0 at *
        clear hc4 hS4
        refine tkH 0 hS ?_
        refine tkH 1 hS ?_
        refine tkH 2 hS ?_
        refine tkC 3 hS (fun u h => h.1) ?_
        refine tkH 5 hS ?_
        refine tkH 6 hS ?_
        refine tkH 7 hS ?_
        refine tkC 8 hS (fun u h => h.1) ?_
        refine anyH_1 4 (fun K hK => ?_)
        go_simp
        refine (B1.out _).mono ?_
        rintro e w5 ⟨rfl, rfl⟩
        dsimp only
        refine hK.out _ _ hS (fun hS => ?_)
        clear hK K
        refine anyH_1 9 (fun K hK => ?_)
        go_simp
        refine (B2.out _).mono ?_
        rintro e w5 ⟨rfl, rfl⟩
        dsimp only
        refine hK.out _ _ hS (fun hS => ?_)
        clear hK K
        refine tkH 10 hS ?_
        refine wpAnyH_done (by kernel_rfl) ?_ _
        have hSF := Lib.hid hS.2
        clear hS
        go_wp2
        go_roundw
        case rel => exact ⟨k + 1, by omega, rfl, hSF.out⟩
        case measure => simp [intOf]; omega
      · skip
        have hm1 : min k p = p := by omega
        have hm2 : min (k + 1) p = p := by omega
        have hlt : ¬ (k : Int) < (p : Int) := by omega
        have hltd : decide ((k : Int) < (p : Int)) = false := decide_eq_false hlt
        have P2 := Lib.hid (fun W H => put_row (w1.heap.size + 1) (histR ((l.take k).drop p)) x W H (histR_small (all_drop (all_take HI.out k) p) (by rw [List.length_drop, List.length_take]; omega)) hxI)
        rw [← histR_snoc, ← mid_succ hx (by omega)] at P2
        go_wp2_with fail
        refine (P1.out _ hC).mono ?_
        rintro e w3 ⟨⟨r, rfl⟩, hp1⟩
        have hB3 := hp1.below _ _ hB (by omega)
        have hA3 := hp1.far hA (by omega)
        have hBb3 := hp1.far hBb (by omega)
        have hC3 := hp1.row
        have hc3 := (hB3.cell (p := ⟨b, off + k, none⟩) hbl).trans hc1
        clear hp1 hA hBb hC hB hc0
        go_wp2_with fail
        refine (P2.out _ hBb3).mono ?_
        rintro e w4 ⟨⟨r2, rfl⟩, hp2⟩
        have hB4 := hp2.below _ _ hB3 (by omega)
        have hC4 := hp2.far hC3 (by omega)
        have hA4 := hp2.far hA3 (by omega)
        have hBb4 := hp2.row
        rw [hm1, ← hm2] at hA4
        have hS4 : ST l p (k + 1) w1.heap.size w1 w4 := ⟨hA4, hBb4, hC4, hB4⟩
        have hc4 := (hB4.cell (p := ⟨b, off + k, none⟩) hbl).trans hc1
        clear hp2 hA3 hBb3 hC3 hB3 hA4 hBb4 hC4 hB4 hc3 P1 P2
        go_wp2_with fail
        refine wp_region_held_drew (S := fun u => u.cell? ⟨b, off + k, none⟩ = some (.int .i64 x) ∧ ST l p (k + 1) w1.heap.size w1 u) (by kernel_rfl) ⟨hc4, hS4.drew⟩ (fun hS => ?_)
        generalize w4.drew = w0 at *
        clear hc4 hS4
        refine tkH 0 hS ?_
        refine tkH 1 hS ?_
        refine tkH 2 hS ?_
        refine tkC 3 hS (fun u h => h.1) ?_
        refine tkH 5 hS ?_
        refine tkH 6 hS ?_
        refine tkH 7 hS ?_
        refine tkC 8 hS (fun u h => h.1) ?_
        refine anyH_1 4 (fun K hK => ?_)
        go_simp
        refine (B1.out _).mono ?_
        rintro e w5 ⟨rfl, rfl⟩
        dsimp only
        refine hK.out _ _ hS (fun hS => ?_)
        clear hK K
        refine anyH_1 9 (fun K hK => ?_)
        go_simp
        refine (B2.out _).mono ?_
        rintro e w5 ⟨rfl, rfl⟩
        dsimp only
        refine hK.out _ _ hS (fun hS => ?_)
        clear hK K
        refine tkH 10 hS ?_
        refine wpAnyH_done (by kernel_rfl) ?_ _
        have hSF := Lib.hid hS.2
        clear hS
        go_wp2
        go_roundw
        case rel => exact ⟨k + 1, by omega, rfl, hSF.out⟩
        case measure => simp [intOf]; omega
    · obtain rfl : k = n := by omega
      have hl1 : l.take k = l := List.take_of_length_le (by rw [HL.out]; omega)
      rw [hl1] at hBb hC
      rw [show min k p = p by omega] at hA
      have hlk := HL.out
      have sa := histR_small (all_take HI.out p) (by rw [List.length_take]; omega)
      have sb := histR_small (all_drop HI.out p) (by rw [List.length_drop]; omega)
      have sc := histR_small HI.out (by omega)
      have M1 := Lib.hid (fun W => merge_any _ _ sa sb W)
      rw [merge_hist (all_take HI.out p) (all_drop HI.out p), List.take_append_drop] at M1
      have M2 := Lib.hid (fun W => merge_any _ _ sb sa W)
      rw [merge_hist (all_drop HI.out p) (all_take HI.out p), hist_turn (all_take HI.out p) (all_drop HI.out p), List.take_append_drop] at M2
      have CN := Lib.hid (fun W => count_any _ sc W)
      rw [count_hist HI.out, HL.out] at CN
      have Q1 := Lib.hid (fun W => quant_any _ sc q W)
      have Q2 := Lib.hid (fun W hN => rquant_any a c l q W hN (by omega) HI.out)
      rw [HL.out] at Q2
      have lc := histR_len l
      obtain ⟨v, o, e1⟩ : ∃ v o, quantR (histR l) q = (v, o) := ⟨_, _, rfl⟩
      rw [e1] at Q1 Q2
      have hSF : SF w1.heap.size (histR (l.take p)) (histR (l.drop p)) (histR l) w wr := ⟨hA, hBb, hC, below_then hb hB⟩
      have N2 := N1.out.below hB
      have HN2 := Lib.hid N2
      have hkk : ¬ (k : Int) < (k : Int) := by omega
      clear e1 sa sb sc hA hBb hC hB hb N1 N2 hl1 hlk
      generalize histR (l.take p) = ra at *
      generalize histR (l.drop p) = rb at *
      generalize histR l = rc at *
      have hC := hSF.C
      go_wp2_with (first | (refine ld_row rowH hC rfl rfl rfl ?_) | fail)
      refine (Q1.out _).mono ?_
      rintro e w3 ⟨rfl, hb3⟩
      have hSF3 := hSF.below hb3
      have HN3 := Lib.hid (HN2.out.below hb3)
      clear hC hSF hb3 HN2 Q1
      unfold qV
      dsimp only
      go_wp2_with fail
      refine (Q2.out _ HN3.out).mono ?_
      rintro e w4 ⟨rfl, rfl⟩
      clear HN3 Q2
      unfold qV
      dsimp only
      go_wp2_with fail
      have hv0 : (v == v) = true := by simp
      have ho0 : (o == o) = true := by simp
      have hk0 : ((k : Int) == (k : Int)) = true := by simp
      refine wp_region_held_drew (S := SF w1.heap.size ra rb rc w) (by kernel_rfl) hSF3.drew (fun hS => ?_)
      generalize w4.drew = w0 at *
      clear hSF3
      refine tkC 0 hS (fun u h => h) ?_ (hy := ldY_row (fun u h => h.A) rfl rfl rfl)
      refine tkC 1 hS (fun u h => h) ?_ (hy := ldY_row (fun u h => h.B) rfl rfl rfl)
      refine tkC 3 hS (fun u h => h) ?_ (hy := ldY_row (fun u h => h.C) rfl rfl rfl)
      refine anyH_1 2 (fun K hK => ?_)
      go_simp
      refine (M1.out _).mono ?_
      rintro e w6 ⟨rfl, hb6⟩
      dsimp only
      refine hK.out _ _ (hS.below hb6) (fun hS => ?_)
      clear hK K hb6
      refine tkC 4 hS (fun u h => h) ?_ (hy := eqY_row lc rfl rfl rfl rfl)
      refine tkH 5 hS ?_
      refine tkC 6 hS (fun u h => h) ?_ (hy := ldY_row (fun u h => h.B) rfl rfl rfl)
      refine tkC 7 hS (fun u h => h) ?_ (hy := ldY_row (fun u h => h.A) rfl rfl rfl)
      refine tkC 9 hS (fun u h => h) ?_ (hy := ldY_row (fun u h => h.C) rfl rfl rfl)
      refine anyH_1 8 (fun K hK => ?_)
      go_simp
      refine (M2.out _).mono ?_
      rintro e w6 ⟨rfl, hb6⟩
      dsimp only
      refine hK.out _ _ (hS.below hb6) (fun hS => ?_)
      clear hK K hb6
      refine tkC 10 hS (fun u h => h) ?_ (hy := eqY_row lc rfl rfl rfl rfl)
      refine tkH 11 hS ?_
      refine tkH 12 hS ?_
      refine tkC 13 hS (fun u h => h) ?_ (hy := ldY_row (fun u h => h.C) rfl rfl rfl)
      refine tkH 15 hS ?_
      refine tkH 16 hS ?_
      refine anyH_1 14 (fun K hK => ?_)
      go_simp
      refine (CN.out _).mono ?_
      rintro e w6 ⟨rfl, hb6⟩
      dsimp only
      refine hK.out _ _ (hS.below hb6) (fun hS => ?_)
      clear hK K hb6
      refine tkH 17 hS ?_
      refine tkH 18 hS ?_
      refine tkH 19 hS ?_
      refine tkH 20 hS ?_
      refine tkH 21 hS ?_
      refine tkH 22 hS ?_
      refine tkH 23 hS ?_
      refine tkH 24 hS ?_
      refine tkH 25 hS ?_
      refine tkH 26 hS ?_
      refine tkH 27 hS ?_
      refine tkH 28 hS ?_
      refine tkH 29 hS ?_
      refine wpAnyH_done (by kernel_rfl) ?_ _
      have hbl := hS.bel
      clear hS
      go_wp2
      go_ret
      exact ⟨rfl, hbl⟩
end LawHistAny
end Go.Proofs.Ytohmliockehbkaa
