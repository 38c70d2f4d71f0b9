/- belfrylaw11.JournalFront: the walk. -/
import Derived.Test.YteddlpcnefogpaaJlR
namespace Go.Proofs.Yteddlpcnefogpaa
open Go Go.Proofs Go.RowKit Go.Shelf
set_option maxRecDepth 100000
namespace LawJournalFront
set_option linter.unusedSimpArgs false in
set_option maxHeartbeats 8000000 in
theorem main (aa : Option Addr) (ac : Nat) (R : List Rec) (ct : Nat) (w : World) (hA : Rcs w (.slice aa R.length ac) R) (hl : R.length ≤ 30) (hbig : ∀ r ∈ R, r.2.length ≤ 9223372036854775807) (hct : ct ≤ 65535) :
    Calls Try.prog 7 #[.slice aa R.length ac, .int .u16 (ct : Int)] w fun e w' => e = .returned (.bool true) ∧ Below w.heap.size w w' := by
  obtain ⟨i0, hi, hz0, hz1, hz2⟩ := info_parts info_u8
  have HI := Lib.hid hi
  have HZ := Lib.hid hz0
  have HZ1 := Lib.hid hz1
  have HZ2 := Lib.hid hz2
  obtain ⟨i1, hi1, hy0, hy1, hy2⟩ := info_parts info_rrec
  have HJ := Lib.hid hi1
  have HY := Lib.hid hy0
  have HY1 := Lib.hid hy1
  have HY2 := Lib.hid hy2
  obtain ⟨i2, hi2, hx0, hx1, hx2⟩ := info_parts info_int
  have HL := Lib.hid hi2
  have HX := Lib.hid hx0
  have HX1 := Lib.hid hx1
  have HX2 := Lib.hid hx2
  have HK := Lib.hid (known_any w)
  have HA := Lib.hid hA
  have HBg := Lib.hid hbig
  have q0 : ¬ (30 : Int) < (R.length : Int) := by omega
  clear hA hi hz0 hz1 hz2 hi1 hy0 hy1 hy2 hi2 hx0 hx1 hx2 hbig
  go_enter Try.func7, Try.ntmps7
  go_wp2_with fail
  refine HK.out.mono ?_
  rintro e w1 ⟨rfl, hb1⟩
  have Hb1 := Lib.hid hb1
  have hz1 := hb1.size
  clear hb1 HK
  go_wp2
  go_loopw [5, 6, 7, 8] (fun vb vw ve i wr => ∃ k : Nat, i = .int .i64 (k : Int) ∧ k ≤ R.length ∧ (∀ r ∈ R.take k, Fit r) ∧ (wr.ownsRow w.heap.size 5 1 vb (flatE (R.take k)).length (Lib.byteCells (flatE (R.take k)))) ∧ RRs w.heap.size wr vw (R.take k) ∧ wr.ownsRow w.heap.size 3 1 ve k (endC R k) ∧ Below w.heap.size w wr) (fun _ _ _ i _ => R.length - (intOf i).toNat)
  case atStart => exact ⟨0, rfl, Nat.zero_le _, by simp, World.ownsRow_nil _ _ _ _, World.ownsRow_nil _ _ _ _, World.ownsRow_nil _ _ _ _, Hb1.out⟩
  case round =>
    obtain ⟨k, rfl, hk, hF, hOb, hOw, hOe, hBe⟩ := hrel
    by_cases hlt : k < R.length
    · obtain ⟨r, hr⟩ : ∃ r, R[k]? = some r := ⟨_, List.getElem?_eq_getElem hlt⟩
      rcases HA.out with ⟨_, rfl⟩ | ⟨g, off, cap, e, hg, hcs⟩
      · simp at hlt
      injection e with e1 e2 e3
      clear e2
      subst e1 e3
      obtain ⟨da, dc, c0w, c1w, hbw⟩ := hcs k r hr
      have c0 := (hBe.cell (p := ⟨g, off + k * 2, none⟩) hg).trans c0w
      have c1 := (hBe.cell (p := ⟨g, off + k * 2 + 1, none⟩) hg).trans c1w
      have hby := hbw.below hBe
      have HC0 := Lib.hid c0w
      have HC1 := Lib.hid c1w
      have HBw := Lib.hid hbw
      have hrb := HBg.out r (List.mem_of_getElem? hr)
      have h0 : (0 : Int) ≤ (k : Int) := by omega
      have h1 : (k : Int) < (R.length : Int) := by omega
      have hfs : Fit r → ∀ q ∈ R.take (k + 1), Fit q := fun h => fit_snoc hF hr h
      have htk : R.take (k + 1) = R.take k ++ [r] := by
        obtain ⟨hn, he⟩ := List.getElem?_eq_some_iff.1 hr
        rw [List.take_succ_eq_append_getElem hn, he]
      have HFS := Lib.hid hfs
      have HTK := Lib.hid htk
      have HOb := Lib.hid hOb
      have HOw := Lib.hid hOw
      have HOe := Lib.hid hOe
      have HBe := Lib.hid hBe
      have HBy := Lib.hid hby
      have hfe := fit_end hF
      have hfl := flatE_len (R.take k)
      have hkl : (R.take k).length = k := by rw [List.length_take, Nat.min_eq_left hk]
      have hfl2 : (flatE (R.take k)).length ≤ 3120 := by rw [hfl]; omega
      have hz2 := hBe.size
      obtain ⟨kd, x⟩ := r
      dsimp only at c0 c1 hrb c0w c1w
      have HKd := Lib.hid (kind_eq kd)
      clear c0w c1w hbw hcs hr hfs htk hOb hOw hOe hBe hby hF hfe hfl
      by_cases hkd : kd = 0
      · have a1 : ((kd.toNat : Int) == 0) = true := by rw [HKd.out]; simpa using hkd
        clear hkd
        go_wp2
        go_ret
        exact ⟨rfl, HBe.out⟩
      · have a1 : ((kd.toNat : Int) == 0) = false := by rw [HKd.out]; simpa using hkd
        by_cases hx : x.length ≤ 100
        · have a2 : ¬ (100 : Int) < (x.length : Int) := by omega
          have hfit : Fit (kd, x) := ⟨hkd, hx⟩
          have HFit := Lib.hid hfit
          have HE := Lib.hid (encode_any kd da dc x wr HBy.out (by omega))
          clear hkd hfit
          go_wp2_with fail
          refine HE.out.mono ?_
          intro e w2 hp
          obtain ⟨hb2, ea, ec, rfl, hd2⟩ := encPost_ok HFit.out.ok hp
          have hEl := encR_len (kd, x)
          obtain ⟨ge, rfl⟩ : ∃ ge, ea = some ⟨ge, 0, none⟩ := by
            obtain ⟨ge, cg, e⟩ := own_some hd2.1 (by rw [hEl]; omega)
            injection e with e1
            exact ⟨ge, e1⟩
          have hnews : ∀ j u, (Lib.byteCells (encR (kd, x)))[j]? = some u → w2.cell? ((⟨ge, 0, none⟩ : Addr).add j) = some u := fun j u hj => World.ownsRow.cells hd2.1 (g := ge) rfl j u hj
          have hfE := flatE_snoc (R.take k) (kd, x)
          have heE := endC_succ R k
          rw [HTK.out] at heE
          have hrE := rrC_snoc (R.take k) (kd, x)
          obtain ⟨E, hE⟩ : ∃ E, encR (kd, x) = E := ⟨_, rfl⟩
          obtain ⟨P, hP⟩ : ∃ P, flatE (R.take k) = P := ⟨_, rfl⟩
          rw [hE] at hnews hEl hfE ⊢
          have hO2 : w2.ownsRow w.heap.size 5 1 u5 P.length (Lib.byteCells P) := by
            rw [← hP]
            exact HOb.out.kept (grown_below hb2) (by
              rcases q : u5.ownBlock with _ | z
              · exact .inl rfl
              · exact .inr (by simp))
          have hW2 : RRs w.heap.size w2 u6 (R.take k) := HOw.out.kept (grown_below hb2) (by
              rcases q : u6.ownBlock with _ | z
              · exact .inl rfl
              · exact .inr (by simp))
          have hN2 : w2.ownsRow w.heap.size 3 1 u7 k (endC R k) := HOe.out.kept (grown_below hb2) (by
              rcases q : u7.ownBlock with _ | z
              · exact .inl rfl
              · exact .inr (by simp))
          rw [hP] at hfl2 hfE
          have hz3 : w.heap.size ≤ w2.heap.size := Nat.le_trans hz2 hb2.size
          have HO2 := Lib.hid hO2
          have HW2 := Lib.hid hW2
          have HN2 := Lib.hid hN2
          have HB2 := Lib.hid (HBe.out.trans (hb2.mono hz2))
          have HNw := Lib.hid hnews
          have HFE := Lib.hid hfE
          have HEE := Lib.hid heE
          have HRE := Lib.hid hrE
          have HEl := Lib.hid hEl
          have hE0 : 0 < E.length := by rw [hEl]; omega
          have hE104 : E.length ≤ 104 := by rw [hEl]; show 4 + x.length ≤ 104; omega
          clear hp hb2 hd2 hnews hfE heE hrE hE hP hO2 hW2 hN2 c0 c1 HE HOb HOw HOe hEl
          go_wp2_with (at_builtin; refine wpList_append_own _ rfl _ _ 22 rfl w.heap.size 5 i0 (.int .u8 0) 1 1 Try.underlying22 HI.out HZ.out HZ1.out HZ2.out rfl (by decide) _ _ _ rfl HO2.out ⟨ge, 0, none⟩ E.length ec (Lib.byteCells E) rfl (by simp [Lib.byteCells]) HNw.out (by intro u hu; simp only [Lib.byteCells, List.mem_map] at hu; obtain ⟨y, _, rfl⟩ := hu; rfl) (by unfold maxLen; omega) (by omega) hz3 ?_)
          intro v3 w3 own3 g3 _
          obtain ⟨gb, cb, rfl⟩ := own_some own3 (by omega)
          have hW3 : RRs w.heap.size w3 u6 (R.take k) := row_apart HW2.out HO2.out g3 (by decide)
          have hN3 := row_apart HN2.out HO2.out g3 (by decide)
          have hB3 : Below w.heap.size w w3 := HB2.out.grown g3 hz3 (fun q e => (World.ownsRow.lt HO2.out q e).1)
          have c0 := (hB3.cell (p := ⟨g, off + k * 2, none⟩) hg).trans HC0.out
          have c1 := (hB3.cell (p := ⟨g, off + k * 2 + 1, none⟩) hg).trans HC1.out
          have cvq : ∀ q, (convert 22 9 (.slice da x.length dc)).run Try.prog (w3.drewN q) = .ok (.string ⟨x.toArray⟩) (w3.drewN q) := fun q => text_of_bys ((HBw.out.below hB3).below (below_drewN (Below.refl _ _) q)).bys
          have cvd : (convert 22 9 (.slice da x.length dc)).run Try.prog w3.drew = .ok (.string ⟨x.toArray⟩) w3.drew := cvq 1
          have HO3 := Lib.hid own3
          have HW3 := Lib.hid hW3
          have HN3 := Lib.hid hN3
          have HB3 := Lib.hid hB3
          have hz4 : w.heap.size ≤ w3.heap.size := hB3.size
          clear own3 hW3 hN3 hB3 g3 HO2 HW2 HN2 HB2 HNw
          go_wp2
          go_region_law (refine step_append_own rfl _ _ 27 rfl w.heap.size 48 i1 (.agg #[.int .u8 0, .string ⟨#[]⟩]) 2 24 Try.underlying27 HJ.out HY.out HY1.out HY2.out rfl (by decide) _ (R.take k).length _ (by simp [Act.eval, Act.put]) (HW3.out.drew.alloc _) ⟨w3.heap.size, 0, none⟩ 1 1 [byV kd, .string ⟨x.toArray⟩] (by simp [Act.eval, Act.put]) rfl (cells2_new _ _ _ _) (by intro u hu; simp at hu; rcases hu with rfl | rfl <;> rfl) (by unfold maxLen; omega) (by omega) (by simp; omega) ?_; intro v4 w4 own4 g4)
          all_goals
            have hO4 := row_apart (HO3.out.drew.alloc _) (HW3.out.drew.alloc _) g4 (by decide)
            have hN4 := row_apart (HN3.out.drew.alloc _) (HW3.out.drew.alloc _) g4 (by decide)
            have hB4 : Below w.heap.size w w4 := (HB3.out.drew.alloc (by simpa using hz4) _).grown g4 (by simpa using Nat.le_succ_of_le hz4) (fun q e => (World.ownsRow.lt HW3.out q e).1)
            have hW4 : RRs w.heap.size w4 v4 (R.take (k + 1)) := by
              show World.ownsRow _ _ _ _ _ _ _
              rw [HTK.out, HRE.out, List.length_append]
              exact own4
            have HO4 := Lib.hid hO4
            have HN4 := Lib.hid hN4
            have HB4 := Lib.hid hB4
            have HW4 := Lib.hid hW4
            have hz5 : w.heap.size ≤ w4.heap.size := hB4.size
            clear hO4 hN4 hB4 hW4 own4 g4 HO3 HN3 HB3 HW3 cvq cvd c0 c1
            go_wp2_with (at_builtin; refine wpList_append_own _ rfl _ _ 59 rfl w.heap.size 3 i2 (.int .i64 0) 1 8 Try.underlying59 HL.out HX.out HX1.out HX2.out rfl (by decide) _ _ _ rfl (HN4.out.alloc _) ⟨w4.heap.size, 0, none⟩ 1 1 [.int .i64 ((P.length : Int) + (E.length : Int))] rfl rfl (cell_one_new _ _ _) (by intro u hu; simp at hu; subst hu; rfl) (by unfold maxLen; omega) (by omega) (by simp; omega) ?_)
            intro v5 w5 own5 g5 _
            have hO5 := row_apart (HO4.out.alloc _) (HN4.out.alloc _) g5 (by decide)
            have hW5 : RRs w.heap.size w5 v4 (R.take (k + 1)) := row_apart (World.ownsRow.alloc HW4.out _) (HN4.out.alloc _) g5 (by decide)
            have hB5 : Below w.heap.size w w5 := (HB4.out.alloc hz5 _).grown g5 (by simp; omega) (fun q e => (World.ownsRow.lt HN4.out q e).1)
            have heq : (endR (R.take (k + 1)) : Int) = (P.length : Int) + (E.length : Int) := by
              rw [HTK.out, ← flatE_len, HFE.out, List.length_append]; simp
            have hN5 : w5.ownsRow w.heap.size 3 1 v5 (k + 1) (endC R (k + 1)) := by
              rw [HEE.out, ← HTK.out, heq]
              exact own5
            have hB5' : w5.ownsRow w.heap.size 5 1 (.slice (some ⟨gb, 0, none⟩) (P.length + E.length) cb) (flatE (R.take (k + 1))).length (Lib.byteCells (flatE (R.take (k + 1)))) := by
              rw [HTK.out, HFE.out, List.length_append]
              simpa [Lib.byteCells] using hO5
            have HF := Lib.hid (And.intro hB5' (And.intro hW5 (And.intro hN5 hB5)))
            clear hO5 hW5 hB5 heq hN5 hB5' own5 g5
            go_wp2
            go_roundw
            case rel => exact ⟨k + 1, by simp, by omega, HFS.out HFit.out, HF.out⟩
            case measure => simp [intOf]; omega
        · have a2 : (100 : Int) < (x.length : Int) := by omega
          clear hkd
          go_wp2
          go_ret
          exact ⟨rfl, HBe.out⟩
    · obtain rfl : k = R.length := by omega
      rw [List.take_length] at hF hOb hOw
      have hfe := fit_end hF
      have hfl := flatE_len R
      obtain ⟨F, hFl⟩ : ∃ F, flatE R = F := ⟨_, rfl⟩
      rw [hFl] at hOb hfl
      have hF31 : F.length ≤ 3120 := by omega
      obtain ⟨ba, bc, rfl⟩ : ∃ a c, u5 = .slice a F.length c := by
        rcases hOb.2 with ⟨rfl, h0⟩ | ⟨g, cap, cur, rfl, _⟩
        · rw [h0]; exact ⟨_, _, rfl⟩
        · exact ⟨_, _, rfl⟩
      obtain ⟨⟨wa, wc, rfl, hwc⟩, hwv⟩ := RRv.of_row hOw 0 (Nat.zero_le _)
      obtain ⟨na, nc, rfl⟩ : ∃ a c, u7 = .slice a R.length c := by
        rcases hOe.2 with ⟨rfl, h0⟩ | ⟨g, cap, cur, rfl, _⟩
        · rw [h0]; exact ⟨_, _, rfl⟩
        · exact ⟨_, _, rfl⟩
      obtain ⟨kk, hkk⟩ : ∃ kk, ct % (F.length + 1) = kk := ⟨_, rfl⟩
      have hkl : kk ≤ F.length := by have := Nat.mod_lt ct (show 0 < F.length + 1 by omega); omega
      have hmod : (ct : Int) % ((F.length : Int) + 1) = (kk : Int) := by rw [← hkk]; simp
      have hmod2 : ((ct : Int)).tmod ((F.length : Int) + 1) = (kk : Int) := by rw [← hkk]; exact (Int.ofNat_tmod ct (F.length + 1)).symm
      have hne : ¬ ((F.length : Int) + 1 = 0) := by omega
      have HOb := Lib.hid hOb
      have HOw := Lib.hid hOw
      have HOe := Lib.hid hOe
      have HBe := Lib.hid hBe
      have HF := Lib.hid hF
      have HFl := Lib.hid hFl
      have HFL := Lib.hid hfl
      have hq : ¬ (R.length : Int) < (R.length : Int) := by omega
      have hz2 := hBe.size
      clear hOb hOw hOe hBe hF hFl hkk hfl hfe hwv
      go_wp2
      go_loop [12] (fun i => ∃ n : Nat, i = .int .i64 (n : Int) ∧ n ≤ R.length ∧ endR (R.take n) ≤ kk) (fun i => R.length - (intOf i).toNat)
      case atStart => exact ⟨0, rfl, Nat.zero_le _, by simp [endR]⟩
      case round =>
        obtain ⟨n, rfl, hn, hle⟩ := hrel
        by_cases hnl : n < R.length
        · obtain ⟨gn, hgn, hcell⟩ := endC_at HOe.out hnl
          have p1 : (n : Int) < (R.length : Int) := by omega
          have p0 : (0 : Int) ≤ (n : Int) := by omega
          by_cases hgo : endR (R.take (n + 1)) ≤ kk
          · have p2 : (endR (R.take (n + 1)) : Int) ≤ (kk : Int) := by omega
            subst hgn
            have HGO := Lib.hid hgo
            obtain ⟨en, hen⟩ : ∃ en, endR (R.take (n + 1)) = en := ⟨_, rfl⟩
            rw [hen] at hcell p2
            clear hen hgo hle
            go_wp2
            go_round
            case rel => exact ⟨n + 1, by simp, by omega, HGO.out⟩
            case measure => simp [intOf]; omega
          · have p2 : ¬ (endR (R.take (n + 1)) : Int) ≤ (kk : Int) := by omega
            have hnx : n < R.length → kk < endR (R.take (n + 1)) := fun _ => by omega
            obtain ⟨en, hen⟩ : ∃ en, endR (R.take (n + 1)) = en := ⟨_, rfl⟩
            rw [hen] at hcell p2
            clear hen hgo
            have hsc : scanR (F.take kk) = R.take n := by
              rw [← HFl.out]
              exact scan_front (fun r hr => (HF.out r hr).ok) hn hle hnx
            have hcb := BysC.of_dat (B := w.heap.size) (W := wr) ⟨HOb.out, _, _, rfl⟩
            have HSc := Lib.hid (scan_any ba kk bc (F.take kk) wr (bysC_take hcb hkl) (Nat.le_trans hkl hcb.le) (by rw [List.length_take]; omega))
            have hbc : kk ≤ bc := Nat.le_trans hkl hcb.le
            have hbc2 : (kk : Int) ≤ (bc : Int) := by omega
            have hkk2 : (0 : Int) ≤ (kk : Int) := by omega
            have hwn : n ≤ wc := Nat.le_trans hn hwc
            have hwn2 : (n : Int) ≤ (wc : Int) := by omega
            have hn0 : (0 : Int) ≤ (n : Int) := by omega
            have hrv := (RRv.of_row HOw.out n hn).2 wa wc wc rfl
            have HRV := Lib.hid hrv
            have HSC := Lib.hid hsc
            have hce := fun j (hj : j < R.length) => endC_at HOe.out hj
            have HCE := Lib.hid hce
            have HLe := Lib.hid hle
            have HNx := Lib.hid hnx
            clear hsc hcb hrv hce hle hnx
            subst hgn
            go_wp2_with fail
            refine HSc.out.mono ?_
            rintro e w3 ⟨vx, xs, rfl, hxs, hys, hb3⟩
            rw [HSC.out] at hxs ⊢
            have hrx := Rcs.of_ys hys
            rw [hxs] at hrx
            obtain ⟨xa, xc, rfl⟩ := hys.2.1
            have hxl : xs.length = n := by
              have e := congrArg List.length hxs
              rw [List.length_map, List.length_take] at e
              omega
            have htl : (R.take n).length = n := by rw [List.length_take]; omega
            rw [hxl] at hrx ⊢
            have hv3 := HRV.out.below hb3
            have hsm := same_any xa wa n n xc wc (R.take n) (R.take n) w3 hrx hv3 (by omega) (by omega)
            rw [show decide (R.take n = R.take n) = true by simp] at hsm
            have HSm := Lib.hid hsm
            have HB3 := Lib.hid (HBe.out.trans (hb3.mono HBe.out.size))
            have Hb3 := Lib.hid hb3
            clear hxs hys hrx hxl htl hv3 hsm hb3 HSc
            by_cases hz : n = 0
            · obtain ⟨L, hL⟩ : ∃ L, (endR (R.take n) : Int) = L := ⟨_, rfl⟩
              have hL0 : L = 0 := by rw [← hL, hz]; rfl
              rw [hL, hL0]
              have hzz : ¬ (0 : Int) < (n : Int) := by omega
              clear hL hL0 hz
              go_wp2_with fail
              refine HSm.out.mono ?_
              rintro e w4 ⟨rfl, hb4⟩
              have HB4 := Lib.hid (HB3.out.trans (hb4.mono HB3.out.size))
              clear hb4 HSm HB3
              go_wp2
              go_ret
              exact ⟨rfl, HB4.out⟩
            · obtain ⟨gn, hgn, hcell⟩ := HCE.out (n - 1) (by omega)
              rw [show n - 1 + 1 = n by omega] at hcell
              have hc3 := (Hb3.out.cell (p := ⟨gn, n - 1, none⟩) (World.block_lt_of_cell? wr _ hcell)).trans hcell
              have hzz : (0 : Int) < (n : Int) := by omega
              have h1 : (0 : Int) ≤ (n : Int) - 1 := by omega
              have h2 : (n : Int) - 1 < (R.length : Int) := by omega
              cases hgn
              obtain ⟨m, rfl⟩ : ∃ m, n = m + 1 := ⟨n - 1, by omega⟩
              rw [Nat.add_sub_cancel] at hc3
              clear hcell hz
              go_wp2_with fail
              refine HSm.out.mono ?_
              rintro e w4 ⟨rfl, hb4⟩
              have HB4 := Lib.hid (HB3.out.trans (hb4.mono HB3.out.size))
              clear hb4 HSm HB3
              go_wp2
              go_ret
              exact ⟨rfl, HB4.out⟩
        · obtain ⟨N, hN⟩ : ∃ N, N = R.length := ⟨_, rfl⟩
          have hnx : n < R.length → kk < endR (R.take (n + 1)) := fun h => by omega
          have p1 : ¬ (n : Int) < (R.length : Int) := by omega
          clear hN
          have hsc : scanR (F.take kk) = R.take n := by
            rw [← HFl.out]
            exact scan_front (fun r hr => (HF.out r hr).ok) hn hle hnx
          have hcb := BysC.of_dat (B := w.heap.size) (W := wr) ⟨HOb.out, _, _, rfl⟩
          have HSc := Lib.hid (scan_any ba kk bc (F.take kk) wr (bysC_take hcb hkl) (Nat.le_trans hkl hcb.le) (by rw [List.length_take]; omega))
          have hbc : kk ≤ bc := Nat.le_trans hkl hcb.le
          have hbc2 : (kk : Int) ≤ (bc : Int) := by omega
          have hkk2 : (0 : Int) ≤ (kk : Int) := by omega
          have hwn : n ≤ wc := Nat.le_trans hn hwc
          have hwn2 : (n : Int) ≤ (wc : Int) := by omega
          have hn0 : (0 : Int) ≤ (n : Int) := by omega
          have hrv := (RRv.of_row HOw.out n hn).2 wa wc wc rfl
          have HRV := Lib.hid hrv
          have HSC := Lib.hid hsc
          have hce := fun j (hj : j < R.length) => endC_at HOe.out hj
          have HCE := Lib.hid hce
          have HLe := Lib.hid hle
          have HNx := Lib.hid hnx
          clear hsc hcb hrv hce hle hnx
          go_wp2_with fail
          refine HSc.out.mono ?_
          rintro e w3 ⟨vx, xs, rfl, hxs, hys, hb3⟩
          rw [HSC.out] at hxs ⊢
          have hrx := Rcs.of_ys hys
          rw [hxs] at hrx
          obtain ⟨xa, xc, rfl⟩ := hys.2.1
          have hxl : xs.length = n := by
            have e := congrArg List.length hxs
            rw [List.length_map, List.length_take] at e
            omega
          have htl : (R.take n).length = n := by rw [List.length_take]; omega
          rw [hxl] at hrx ⊢
          have hv3 := HRV.out.below hb3
          have hsm := same_any xa wa n n xc wc (R.take n) (R.take n) w3 hrx hv3 (by omega) (by omega)
          rw [show decide (R.take n = R.take n) = true by simp] at hsm
          have HSm := Lib.hid hsm
          have HB3 := Lib.hid (HBe.out.trans (hb3.mono HBe.out.size))
          have Hb3 := Lib.hid hb3
          clear hxs hys hrx hxl htl hv3 hsm hb3 HSc
          by_cases hz : n = 0
          · obtain ⟨L, hL⟩ : ∃ L, (endR (R.take n) : Int) = L := ⟨_, rfl⟩
            have hL0 : L = 0 := by rw [← hL, hz]; rfl
            rw [hL, hL0]
            have hzz : ¬ (0 : Int) < (n : Int) := by omega
            clear hL hL0 hz
            go_wp2_with fail
            refine HSm.out.mono ?_
            rintro e w4 ⟨rfl, hb4⟩
            have HB4 := Lib.hid (HB3.out.trans (hb4.mono HB3.out.size))
            clear hb4 HSm HB3
            go_wp2
            go_ret
            exact ⟨rfl, HB4.out⟩
          · obtain ⟨gn, hgn, hcell⟩ := HCE.out (n - 1) (by omega)
            rw [show n - 1 + 1 = n by omega] at hcell
            have hc3 := (Hb3.out.cell (p := ⟨gn, n - 1, none⟩) (World.block_lt_of_cell? wr _ hcell)).trans hcell
            have hzz : (0 : Int) < (n : Int) := by omega
            have h1 : (0 : Int) ≤ (n : Int) - 1 := by omega
            have h2 : (n : Int) - 1 < (R.length : Int) := by omega
            cases hgn
            obtain ⟨m, rfl⟩ : ∃ m, n = m + 1 := ⟨n - 1, by omega⟩
            rw [Nat.add_sub_cancel] at hc3
            clear hcell hz
            go_wp2_with fail
            refine HSm.out.mono ?_
            rintro e w4 ⟨rfl, hb4⟩
            have HB4 := Lib.hid (HB3.out.trans (hb4.mono HB3.out.size))
            clear hb4 HSm HB3
            go_wp2
            go_ret
            exact ⟨rfl, HB4.out⟩
theorem any (aa : Option Addr) (ac : Nat) (R : List Rec) (n1 : Int) (w : World) (hA : Rcs w (.slice aa R.length ac) R) (_ : R.length ≤ 9223372036854775807) (hr : ∀ r ∈ R, r.2.length ≤ 9223372036854775807) (wk1 : (Lit.int .u16 n1).wf = true) :
    Calls Try.prog 7 #[.slice aa R.length ac, .int .u16 n1] w fun e w' => e = .returned (.bool true) ∧ Below w.heap.size w w' := by
  have h2 : 0 ≤ n1 ∧ n1 ≤ 65535 := by simpa [Lit.wf, IntKind.min, IntKind.max, IntKind.signed, IntKind.bits] using wk1
  obtain ⟨ts, rfl⟩ : ∃ k : Nat, n1 = (k : Int) := ⟨n1.toNat, by omega⟩
  by_cases h1 : R.length ≤ 30
  · exact main aa ac R ts w hA h1 hr (by omega)
  · have HK := Lib.hid (known_any w)
    have q1 : (30 : Int) < (R.length : Int) := by omega
    clear hA wk1
    go_enter Try.func7, Try.ntmps7
    go_wp2_with fail
    refine HK.out.mono ?_
    rintro e w1 ⟨rfl, hb⟩
    have HB := Lib.hid hb
    clear hb HK
    go_wp2
    go_ret
    exact ⟨rfl, HB.out⟩
end LawJournalFront
end Go.Proofs.Yteddlpcnefogpaa
