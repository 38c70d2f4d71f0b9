/- belfrylaw3.LabelSplit. -/
import Derived.Test.YtmcmgmpgmbljiaaDoorLawLabelShards
import Derived.Test.YtmcmgmpgmbljiaaDoorSplitM
import Derived.Test.YtmcmgmpgmbljiaaDoorFewN
namespace Go.Proofs.YtmcmgmpgmbljiaaDoor
open Go Go.Proofs Go.RowKit Go.Shelf
set_option maxRecDepth 100000
theorem labsG_later {W w1 : World} {v : Value} {zs : List Lab} (h : LabsG W.heap.size W v zs) (hb : Below W.heap.size W w1) : LabsG w1.heap.size w1 v zs := by
  rcases h.below hb with e | ⟨b, off, cap, e, h1, h2⟩
  · exact .inl e
  · exact .inr ⟨b, off, cap, e, Nat.lt_of_lt_of_le h1 hb.size, h2⟩
theorem cmp_self (T : List UInt8) : cmpR T T = 0 := by unfold cmpR; rw [bl_irr]; simp
theorem slice_of {n₀ : Nat} {W : World} {v : Value} {zs : List SLab} (h : Labs n₀ W v zs) : ∃ a cap, v = .slice a zs.length cap := by
  rcases h with ⟨⟨a, c, rfl⟩, rfl⟩ | ⟨b, off, cap, rfl, _⟩
  · exact ⟨_, _, rfl⟩
  · exact ⟨_, _, rfl⟩
set_option maxHeartbeats 8000000 in
/-- behind the tests: a good set, few names -/
theorem split_good (a na : Option Addr) (len cap nl nc : Nat) (ss : List SLab) (ns : List (List UInt8)) (hss : ss.length ≤ 30) (hf : fewR (ss.map (·.1)) = true) (hc : checkR ss = 0) (hn : ns.length ≤ 30) (hfn : fewN ns = true) (w : World)
    (hI : Labs w.heap.size w (.slice a len cap) ss) (hN : NamesG w.heap.size w (.slice na nl nc) ns) :
    Calls Tryd.prog 6 #[.slice a len cap, .slice na nl nc] w fun e w' => e = .returned (.bool true) ∧ Below w.heap.size w w' := by
  obtain rfl : len = ss.length := hI.len
  have K := Lib.hid (known_any w)
  have LT := Lib.hid (fun (w1 : World) (hb : Below w.heap.size w w1) => labs_later hI hb)
  have NT := Lib.hid (fun (w1 : World) (hb : Below w.heap.size w w1) => hN.later hb)
  have GD := Lib.hid (fun (w1 : World) (hb : Below w.heap.size w w1) => good_any a ss.length cap ss (by omega) hf w1 (LT.out w1 hb))
  rw [show (checkR ss == 0) = true from by rw [beq_iff_eq]; exact hc] at GD
  have FN := Lib.hid (fun (w1 : World) (hb : Below w.heap.size w w1) => fewN_any na nl nc ns (by omega) (fun x hx => by have := (fewN_len hfn).2 x hx; omega) w1.heap.size w1 (NT.out w1 hb))
  rw [hfn] at FN
  have ON := Lib.hid (fun (w1 : World) (hb : Below w.heap.size w w1) => only_any a na ss.length cap nl nc ns ss (by omega) w1 (LT.out w1 hb) ((NT.out w1 hb).few (by omega)))
  have WO := Lib.hid (fun (w1 : World) (hb : Below w.heap.size w w1) => without_any a na ss.length cap nl nc ns ss (by omega) w1 (LT.out w1 hb) ((NT.out w1 hb).few (by omega)))
  have hrise := (chk_rise ss [] (check_zero hc).2).2
  have hok := chk_names ss [] (check_zero hc).2
  rw [keep_true] at ON
  have hsl := split_len ns ss
  have hbm : ∀ z ∈ ss.filter (keepB ns false), z ∈ ss ∧ ns.contains z.1.1 = false := fun z hz => by
    obtain ⟨h1, h2⟩ := List.mem_filter.1 hz
    unfold keepB at h2
    exact ⟨h1, by simpa using h2⟩
  have hcov : ∀ z ∈ ss, ns.contains z.1.1 = true ∨ z ∈ ss.filter (keepB ns false) := fun z hz => by
    cases h : ns.contains z.1.1
    · exact .inr (List.mem_filter.2 ⟨hz, by unfold keepB; rw [h]; rfl⟩)
    · exact .inl rfl
  have hbr : Rise (ss.filter (keepB ns false)) := hrise.filter _
  obtain ⟨bs, hbs⟩ : ∃ bs, ss.filter (keepB ns false) = bs := ⟨_, rfl⟩
  rw [hbs] at WO hsl hbm hcov hbr
  have HRI := Lib.hid hrise
  have HOK := Lib.hid hok
  have HBM := Lib.hid hbm
  have HCV := Lib.hid hcov
  have HBR := Lib.hid hbr
  have HSL := Lib.hid hsl
  have hsel : (selN ns ss).length ≤ 30 := by omega
  have hbl : bs.length ≤ 30 := by omega
  clear hI hN hf hc hfn hrise hok hsl hbm hcov hbr hbs
  go_enter Tryd.func6, Tryd.ntmps6
  go_wp2_with fail
  refine (K.out).mono ?_
  rintro e w1 ⟨rfl, B⟩
  go_wp2_with fail
  refine (GD.out _ B).mono ?_
  rintro e w2 ⟨rfl, hb⟩
  have B := below_then B hb
  clear hb
  go_wp2_with fail
  refine (FN.out _ B).mono ?_
  rintro e w3 ⟨rfl, rfl⟩
  go_wp2_with fail
  refine (ON.out _ B).mono ?_
  rintro e w3 ⟨va, rfl, hra, hb⟩
  have LA := labs_of_row hra
  have B := below_then B hb
  clear hra hb
  go_wp2_with fail
  refine (WO.out _ B).mono ?_
  rintro e w4 ⟨vb, rfl, hrb, hb⟩
  have LA := labs_later LA hb
  have LB := labs_of_row hrb
  have B := below_then B hb
  clear hrb hb
  obtain ⟨aa, ca, rfl⟩ := slice_of LA
  obtain ⟨ab, cb, rfl⟩ := slice_of LB
  go_wp2
  go_loopw [7, 8] (fun x i wr => ∃ (k : Nat) (ms : List (List UInt8)), k ≤ bs.length ∧ i = .int .i64 (k : Int) ∧ ms = ((bs.take k).map (·.1.1)).reverse ++ ns ∧ Labs wr.heap.size wr x (selN ms ss) ∧ Below w4.heap.size w4 wr) (fun _ i _ => bs.length - (intOf i).toNat)
  case atStart => exact ⟨0, ns, Nat.zero_le _, rfl, rfl, LA, Below.refl _ _⟩
  case round =>
    obtain ⟨k, ms, hk, rfl, hms, hX, hB⟩ := hrel
    by_cases hlt : k < bs.length
    · obtain ⟨y, hy⟩ : ∃ y, bs[k]? = some y := ⟨_, List.getElem?_eq_getElem hlt⟩
      obtain ⟨hbn, hbe⟩ := List.getElem?_eq_some_iff.1 hy
      have hyb : y ∈ bs := List.mem_of_getElem? hy
      obtain ⟨hys, hyn⟩ := HBM.out y hyb
      have hyv := (HOK.out y hys).2
      have hm1 : y.1.1 :: ms = ((bs.take (k + 1)).map (·.1.1)).reverse ++ ns := by
        rw [hms, List.take_succ_eq_append_getElem hbn, hbe, List.map_append, List.reverse_append]; rfl
      have hmc : ms.contains y.1.1 = false := by
        have hne : ∀ z ∈ bs.take k, z.1.1 ≠ y.1.1 := fun z hz => by
          have hp := HBR.out
          unfold Rise at hp
          rw [← List.take_append_drop k bs, List.pairwise_append] at hp
          have hd : y ∈ bs.drop k := by rw [List.drop_eq_getElem_cons hbn, hbe]; exact List.mem_cons_self
          exact rise_ne (hp.2.2 z hz y hd)
        rw [hms]
        cases h : (((bs.take k).map (·.1.1)).reverse ++ ns).contains y.1.1
        · rfl
        · exfalso
          rw [List.contains_iff_mem, List.mem_append, List.mem_reverse, List.mem_map] at h
          rcases h with ⟨z, hz, e⟩ | h
          · exact hne z hz e
          · rw [List.contains_iff_mem.2 h] at hyn; cases hyn
      obtain ⟨p, hp1, hp2, hp3⟩ := sel_with ss HRI.out ms y hys hmc (by
        intro e
        rw [e] at hyv
        cases hyv)
      obtain ⟨ax, cx, rfl⟩ := slice_of hX
      have hge := get_any aa (selN ns ss).length ca (selN ns ss) (by omega) y.1.1 wr (labs_later LA hB)
      rw [get_sel ss ns y.1.1 hyn] at hge
      have hxl : (selN ms ss).length ≤ 100 := by
        have := List.length_filter_le (fun z : SLab => ms.contains z.1.1) ss
        unfold selN; omega
      have GE := Lib.hid hge
      have WT := Lib.hid (fun (W : World) (hb : Below wr.heap.size wr W) => with_any ax (selN ms ss).length cx (selN ms ss) hxl y.1.1 y.1.2 y.2 p hp1 hp2 W (labs_later hX hb))
      rw [hp3] at WT
      have M1 := Lib.hid hm1
      rcases LB with ⟨_, hb0⟩ | ⟨b, off, c, e, hbl2, hcs⟩
      · rw [hb0] at hlt; simp at hlt
      obtain ⟨rfl, rfl⟩ : ab = some ⟨b, off, none⟩ ∧ cb = c := by simpa using e
      obtain ⟨c0, c1⟩ := hcs k y hy
      have c0 := (hB.cell (p := ⟨b, off + k * 2, none⟩) hbl2).trans c0
      have c1 := (hB.cell (p := ⟨b, off + k * 2 + 1, none⟩) hbl2).trans c1
      obtain ⟨⟨yn, yv⟩, hy0⟩ := y
      dsimp only at c0 c1 GE WT M1
      have h0 : (0 : Int) ≤ (k : Int) := by omega
      have h1 : (k : Int) < (bs.length : Int) := by omega
      have HCS := Lib.hid hcs
      clear hbe hy hyb hys hyn hyv hm1 hmc hp1 hp2 hp3 hge e hcs hms hX
      go_wp2_with fail
      refine (GE.out).mono ?_
      rintro e w5 ⟨rfl, hb5⟩
      have hbw : b < wr.heap.size := Nat.lt_of_lt_of_le hbl2 hB.size
      have c0 := (hb5.cell (p := ⟨b, off + k * 2, none⟩) hbw).trans c0
      have c1 := (hb5.cell (p := ⟨b, off + k * 2 + 1, none⟩) hbw).trans c1
      clear GE
      go_wp2
      go_region_with (go_at_call 33; refine (WT.out _ (hb5.trans (by go_grown))).mono ?_; rintro e w6 ⟨v6, rfl, hr6, hb6⟩)
      all_goals
        have LX := labs_of_row hr6
        have hB6 : Below w4.heap.size w4 w6 := ((below_then hB hb5).drew).trans (hb6.mono (by have := (below_then hB hb5).size; simpa using this))
        obtain ⟨a6, k6, rfl⟩ := slice_of LX
        clear hr6 hb6
        go_wp2
        go_roundw
        case rel => exact ⟨k + 1, yn :: ms, by omega, by go_num, M1.out, LX, hB6⟩
        case measure => simp [intOf]; omega
    · obtain rfl : k = bs.length := by omega
      rw [List.take_length] at hms
      have hall : selN ms ss = ss := sel_all ss ms fun z hz => by
        rw [hms, List.contains_iff_mem, List.mem_append, List.mem_reverse, List.mem_map]
        rcases HCV.out z hz with h | h
        · exact .inr (List.contains_iff_mem.1 h)
        · exact .inl ⟨z, h, rfl⟩
      rw [hall] at hX
      obtain ⟨ax, cx, rfl⟩ := slice_of hX
      have CM := compare_any ax a ss.length cx ss.length cap ss ss (by omega) (by omega) wr hX (LT.out wr (below_then B hB))
      rw [cmp_self] at CM
      have CM := Lib.hid CM
      have hBw := below_then B hB
      have hsum := HSL.out
      have hs1 : (((selN ns ss).length : Int) + (bs.length : Int) == (ss.length : Int)) = true := by rw [beq_iff_eq]; omega
      clear hX hall hms hsum LA LB
      go_wp2_with fail
      refine (CM.out).mono ?_
      rintro e w5 ⟨rfl, hb5⟩
      go_wp2
      go_ret
      exact ⟨rfl, below_then hBw hb5⟩
theorem split_law (a na : Option Addr) (len cap nl nc : Nat) (zs : List Lab) (hlen : zs.length ≤ 9223372036854775807) (hbig : ∀ x ∈ zs, x.1.length ≤ 9223372036854775807 ∧ x.2.length ≤ 9223372036854775807) (ns : List (List UInt8)) (hnl : ns.length ≤ 9223372036854775807) (hnb : ∀ x ∈ ns, x.length ≤ 9223372036854775807) (w : World)
    (hI : LabsG w.heap.size w (.slice a len cap) zs) (hN : NamesG w.heap.size w (.slice na nl nc) ns) :
    Calls Tryd.prog 6 #[.slice a len cap, .slice na nl nc] w fun e w' => e = .returned (.bool true) ∧ Below w.heap.size w w' := by
  have K := Lib.hid (known_any w)
  cases hf : fewR zs
  · have LT := Lib.hid (fun (w1 : World) (hb : Below w.heap.size w w1) => good_no a len cap zs hlen hbig hf w1.heap.size w1 (labsG_later hI hb))
    clear hI hbig
    go_enter Tryd.func6, Tryd.ntmps6
    go_wp2_with fail
    refine (K.out).mono ?_
    rintro e w1 ⟨rfl, hb1⟩
    go_wp2_with fail
    refine (LT.out _ hb1).mono ?_
    rintro e w2 ⟨rfl, rfl⟩
    go_wp2
    go_ret
    exact ⟨rfl, hb1⟩
  obtain ⟨ss, rfl, hss⟩ := few_short hf
  have GD := Lib.hid (fun (w1 : World) (hb : Below w.heap.size w w1) => good_any a len cap ss (by omega) hf w1 (labsG_later hI hb).toS)
  by_cases hc : checkR ss = 0
  · cases hfn : fewN ns
    · have hc0 : (checkR ss == 0) = true := by rw [beq_iff_eq]; exact hc
      rw [hc0] at GD
      have FN := Lib.hid (fun (w1 : World) (hb : Below w.heap.size w w1) => fewN_any na nl nc ns hnl hnb w1.heap.size w1 (hN.later hb))
      rw [hfn] at FN
      clear hI hN hbig hnb hc hc0
      go_enter Tryd.func6, Tryd.ntmps6
      go_wp2_with fail
      refine (K.out).mono ?_
      rintro e w1 ⟨rfl, hb1⟩
      go_wp2_with fail
      refine (GD.out _ hb1).mono ?_
      rintro e w2 ⟨rfl, hb2⟩
      have hb := below_then hb1 hb2
      clear hb2
      go_wp2_with fail
      refine (FN.out _ hb).mono ?_
      rintro e w3 ⟨rfl, rfl⟩
      go_wp2
      go_ret
      exact ⟨rfl, hb⟩
    · exact split_good a na len cap nl nc ss ns hss hf hc (fewN_len hfn).1 hfn w hI.toS hN
  · have hc0 : (checkR ss == 0) = false := by rw [beq_eq_false_iff_ne]; exact hc
    rw [hc0] at GD
    clear hc hc0 hI hN hbig hnb
    go_enter Tryd.func6, Tryd.ntmps6
    go_wp2_with fail
    refine (K.out).mono ?_
    rintro e w1 ⟨rfl, hb1⟩
    go_wp2_with fail
    refine (GD.out _ hb1).mono ?_
    rintro e w2 ⟨rfl, hb2⟩
    go_wp2
    go_ret
    exact ⟨rfl, hb1.trans (hb2.mono hb1.size)⟩
end Go.Proofs.YtmcmgmpgmbljiaaDoor
