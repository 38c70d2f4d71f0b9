/- belfrylaw11.JournalCuts: the walk. -/
import Derived.Test.YteddlpcnefogpaaJlC
namespace Go.Proofs.Yteddlpcnefogpaa
open Go Go.Proofs Go.RowKit Go.Shelf
set_option maxRecDepth 100000
namespace LawJournalCuts
/-- at the loop's head -/
def Hd (base : Nat) (W : World) (lb b : Nat) (L : List Rec) (k s : Nat) : Prop :=
  ∃ v d n c, LgAt base W lb b v d n c ∧ JD (L.take k) s d ∧ (d.off = false → d.row = flatE (L.take k) ∧ n = (d.row.length : Int) ∧ c = (k : Int)) ∧ d.ops ≤ 2 * (k : Int)
set_option linter.unusedSimpArgs false in
set_option maxHeartbeats 32000000 in
theorem main (aa : Option Addr) (ac : Nat) (L : List Rec) (ba : Option Addr) (bc : Nat) (Bs : List Bool) (ct : Nat) (keep : Int) (w : World) (hA : Rcs w (.slice aa L.length ac) L) (hB : Bls w (.slice ba Bs.length bc) Bs) (hl : L.length ≤ 40) (hsl : Bs.length ≤ 60)
    (hbl : ∀ r ∈ L, r.2.length ≤ 9223372036854775807) (hct : ct ≤ 255) (hk0 : -9223372036854775808 ≤ keep) (hk1 : keep ≤ 9223372036854775807) :
    Calls Try.prog 5 #[.slice aa L.length ac, .slice ba Bs.length bc, .int .u8 (ct : Int), .int .i64 keep] w fun e w' => e = .returned (.bool true) ∧ Below w.heap.size w w' := by
  obtain ⟨i1, hi1, hy0, hy1, hy2⟩ := info_parts info_rrec
  have HJ := Lib.hid hi1
  have HY := Lib.hid hy0
  have HY1 := Lib.hid hy1
  have HY2 := Lib.hid hy2
  have HK := Lib.hid (known_any w)
  have HA := Lib.hid hA
  have HBl := Lib.hid hbl
  have HBs := Lib.hid hB
  have q0 : ¬ (40 : Int) < (L.length : Int) := by omega
  have q1 : ¬ (60 : Int) < (Bs.length : Int) := by omega
  clear hA hB hi1 hy0 hy1 hy2 hbl
  go_enter Try.func5, Try.ntmps5
  go_wp2_with fail
  refine HK.out.mono ?_
  rintro e w1 ⟨rfl, hb1⟩
  have HN := Lib.hid (new_any w1)
  have HB1 := Lib.hid hb1
  clear hb1 HK
  go_wp2_with fail
  refine HN.out.mono ?_
  rintro e w2 ⟨b, v2, rfl, D2, g2⟩
  have D2 := D2.mono HB1.out.size
  have B2 := HB1.out.trans (grownBy_below g2 HB1.out.size (fun k e => by cases e))
  have HO := Lib.hid (open_new w.heap.size b v2 w2 D2)
  have HB2 := Lib.hid B2
  clear D2 g2 B2 HN HB1
  go_wp2_with fail
  refine HO.out.mono ?_
  rintro e w3 ⟨lb, v3, oa, oc, rfl, L3, hb3⟩
  have HL3 := Lib.hid L3
  have HB3 := Lib.hid (HB2.out.trans hb3)
  have HAr := Lib.hid (arm_any w.heap.size b v3 _ (1 + (ct : Int)) keep w3 L3.dk (by omega) hk0 hk1)
  clear L3 hb3 HO HB2
  go_wp2_with fail
  refine HAr.out.mono ?_
  rintro e w4 ⟨rfl, D4, T4⟩
  have HL4 := Lib.hid (HL3.out.op T4 D4)
  have HB4 := Lib.hid (HB3.out.trans ((LTo.of T4 lb).below HL3.out))
  clear D4 T4 HAr HL3 HB3
  go_wp2
  go_loopw [13, 14, 15] (fun pv sv i wr => ∃ k s : Nat, sv = .int .i64 (s : Int) ∧ i = .int .i64 (k : Int) ∧ k ≤ L.length ∧ (∀ r ∈ L.take k, Fit r) ∧ RRs w.heap.size wr pv (L.take k) ∧ Hd w.heap.size wr lb b L k s ∧ Below w.heap.size w wr) (fun _ _ i _ => L.length - (intOf i).toNat)
  case atStart => exact ⟨0, 0, rfl, rfl, Nat.zero_le _, by simp, World.ownsRow_nil _ _ _ _, ⟨_, _, _, _, HL4.out, ⟨Nat.le_refl _, ⟨0, rfl⟩, Nat.le_refl _⟩, fun _ => ⟨rfl, rfl, rfl⟩, Int.le_refl _⟩, HB4.out⟩
  case round =>
    obtain ⟨k, s, rfl, rfl, hk, hF, hOw, ⟨v, d, n0, c0', hLg, hJd, hst, hops⟩, hBe⟩ := hrel
    clear HL4 HB4
    by_cases hlt : k < L.length
    · by_cases hoff : d.off = true
      · -- the disk is off: the loop ends
        have hof := off_any w.heap.size b v d wr hLg.dk
        rw [hoff] at hof
        have HOf := Lib.hid hof
        have h1 : (k : Int) < (L.length : Int) := by omega
        obtain ⟨⟨wa, wk, rfl, hwk⟩, _⟩ := RRv.of_row hOw 0 (Nat.zero_le _)
        have hpl : (L.take k).length ≤ 40 := by rw [List.length_take]; omega
        obtain ⟨P, hP⟩ : ∃ P, L.take k = P := ⟨_, rfl⟩
        rw [hP] at hF hOw hJd hwk hpl ⊢
        have HFp := Lib.hid hF
        have HRr := Lib.hid hOw
        have HLl := Lib.hid hLg
        have HJd := Lib.hid hJd
        have HOps := Lib.hid hops
        have HBb := Lib.hid hBe
        clear hF hOw hLg hJd hst hops hBe hof hP hoff
        go_wp2_with fail
        refine HOf.out.mono ?_
        rintro e w9 ⟨rfl, rfl⟩
        clear HOf
        have HCu := Lib.hid (cut_any w.heap.size b v d keep wr HLl.out.dk)
        go_wp2_with fail
        refine HCu.out.mono ?_
        rintro e wc ⟨rfl, vc, Dc, Tc, _⟩
        have HRc := Lib.hid ((LTo.of Tc lb).row HLl.out HRr.out)
        have HLc := Lib.hid (HLl.out.op Tc Dc)
        have HBc := Lib.hid (HBb.out.trans ((LTo.of Tc lb).below HLl.out))
        have HJc := Lib.hid (HJd.out.cut keep)
        have HOn := Lib.hid (on_any w.heap.size b vc _ wc Dc)
        clear Dc Tc HCu HRr HLl HBb HJd
        go_wp2_with fail
        refine HOn.out.mono ?_
        rintro e wo ⟨rfl, Do, To⟩
        obtain ⟨n, hsn, hnp, hsc⟩ := HJc.out.scan HLc.out.dk.fits.kept HFp.out
        obtain ⟨dO, hdO⟩ : ∃ q, ({ d.cut keep with off := false } : Dk) = q := ⟨_, rfl⟩
        have a1 : dO.off = false := by rw [← hdO]
        have a2 : dO.armed = 0 := by rw [← hdO]; rfl
        have a3 : dO.ops < 4611686018427387904 := by rw [← hdO]; show Dk.ops d < _; have := HOps.out; omega
        have a4 : scanR dO.row = P.take n := by rw [← hdO]; exact hsc
        rw [hdO] at Do
        have HRo := Lib.hid ((LTo.of To lb).row HLc.out HRc.out)
        have HLo := Lib.hid (HLc.out.op To Do)
        have HBo := Lib.hid (HBc.out.trans ((LTo.of To lb).below HLc.out))
        have HOp := Lib.hid (open_any w.heap.size b vc dO wo Do a1 a2 a3)
        have HSn := Lib.hid a4
        clear Do To HOn HRc HLc HBc HJc hdO a1 a2 a3 a4 hsc
        go_wp2_with fail
        refine HOp.out.mono ?_
        rintro e wp ⟨l9, v9, vs, xs, rfl, hxs, hys, L9, _, T9⟩
        rw [HSn.out] at hxs L9
        have htl : (P.take n).length = n := by rw [List.length_take]; omega
        rw [htl] at L9
        have hrx := Rcs.of_ys hys
        rw [hxs] at hrx
        obtain ⟨xa, xc, rfl⟩ := hys.2.1
        have hxl : xs.length = n := by
          have e := congrArg List.length hxs
          rw [List.length_map, htl] at e
          exact e
        rw [hxl] at hrx ⊢
        have hR9 := (LTo.of T9 lb).row HLo.out HRo.out
        have hrv := (RRv.of_row hR9 n hnp).2 wa wk wk rfl
        have hsm := same_any xa wa n n xc wk (P.take n) (P.take n) wp hrx hrv (by omega) (by omega)
        rw [show decide (P.take n = P.take n) = true by simp] at hsm
        have HSm := Lib.hid hsm
        have HLn := Lib.hid (llen_any w.heap.size l9 b v9 _ _ _ wp L9)
        have HB9 := Lib.hid (HBo.out.trans ((LTo.of T9 lb).below HLo.out))
        have b1 : ¬ (n : Int) < (s : Int) := by omega
        have b2 : ¬ (P.length : Int) < (n : Int) := by omega
        have b3 : (0 : Int) ≤ (n : Int) := by omega
        have b4 : (n : Int) ≤ (wk : Int) := by omega
        have b5 : n ≤ wk := by omega
        clear hxs hys hrx hR9 hrv hsm T9 L9 htl hxl HOp HRo HLo HBo HSn
        go_wp2_with fail
        refine HLn.out.mono ?_
        rintro e wz ⟨rfl, rfl⟩
        clear HLn
        go_wp2_with fail
        refine HSm.out.mono ?_
        rintro e wy ⟨rfl, hby⟩
        have HBy := Lib.hid (HB9.out.trans (hby.mono HB9.out.size))
        clear hby HSm HB9
        go_wp2
        go_ret
        exact ⟨rfl, HBy.out⟩
      · have hoff : d.off = false := by simpa using hoff
        obtain ⟨hrow, rfl, rfl⟩ := hst hoff
        have hof := off_any w.heap.size b v d wr hLg.dk
        rw [hoff] at hof
        have HOf := Lib.hid hof
        obtain ⟨r, hr⟩ : ∃ r, L[k]? = some r := ⟨_, List.getElem?_eq_getElem hlt⟩
        rcases HA.out with ⟨_, rfl⟩ | ⟨g, off, cap, e, hg, hcs⟩
        · simp at hlt
        injection e with e1 e2 e3
        clear e2
        subst e1 e3
        obtain ⟨da, dc, c0w, c1w, hbw⟩ := hcs k r hr
        have c0 := (hBe.cell (p := ⟨g, off + k * 2, none⟩) hg).trans c0w
        have c1 := (hBe.cell (p := ⟨g, off + k * 2 + 1, none⟩) hg).trans c1w
        have hby := hbw.below hBe
        have hrb := HBl.out r (List.mem_of_getElem? hr)
        have h0 : (0 : Int) ≤ (k : Int) := by omega
        have h1 : (k : Int) < (L.length : Int) := by omega
        have hfs : Fit r → ∀ q ∈ L.take (k + 1), Fit q := fun h => fit_snoc hF hr h
        have htk : L.take (k + 1) = L.take k ++ [r] := by
          obtain ⟨hn, he⟩ := List.getElem?_eq_some_iff.1 hr
          rw [List.take_succ_eq_append_getElem hn, he]
        have hfe := fit_end hF
        have hfl := flatE_len (L.take k)
        have hkl : (L.take k).length = k := by rw [List.length_take, Nat.min_eq_left hk]
        have hkl1 : (L.take (k + 1)).length = k + 1 := by rw [List.length_take]; omega
        have hrl : d.row.length ≤ 4160 := by rw [hrow, hfl]; omega
        have hrE := rrC_snoc (L.take k) r
        have hadd1 := hJd.add hoff hrow r
        rw [← htk] at hadd1
        have HFS := Lib.hid hfs
        have HTK := Lib.hid htk
        have HRE := Lib.hid hrE
        have HOw := Lib.hid hOw
        have HLg := Lib.hid hLg
        have HBe := Lib.hid hBe
        have HRow := Lib.hid hrow
        have HOff := Lib.hid hoff
        have HOps := Lib.hid hops
        have HAd := Lib.hid hadd1
        have HKL := Lib.hid hkl
        have HKL1 := Lib.hid hkl1
        have Hbw := Lib.hid hbw
        have Hg := Lib.hid hg
        have hz2 := hBe.size
        obtain ⟨kd, x⟩ := r
        dsimp only at c0 c1 hrb c0w c1w
        have HKd := Lib.hid (kind_eq kd)
        have C0w := Lib.hid c0w
        have C1w := Lib.hid c1w
        have cvq : ∀ q, (convert 22 9 (.slice da x.length dc)).run Try.prog (wr.drewN q) = .ok (.string ⟨x.toArray⟩) (wr.drewN q) := fun q => text_of_bys (hby.below (below_drewN (Below.refl _ _) q)).bys
        have cvd : (convert 22 9 (.slice da x.length dc)).run Try.prog wr.drew = .ok (.string ⟨x.toArray⟩) wr.drew := cvq 1
        clear c0w c1w hbw hcs hr hfs htk hrE hOw hLg hBe hby hF hfe hfl hrow hoff hops hadd1 hkl hkl1 hof hJd hst hg
        by_cases hkd : kd = 0
        · have a1 : ((kd.toNat : Int) == 0) = true := by rw [HKd.out]; simpa using hkd
          clear hkd
          go_wp2_with fail
          refine HOf.out.mono ?_
          rintro e w9 ⟨rfl, rfl⟩
          clear HOf
          go_wp2
          go_ret
          exact ⟨rfl, HBe.out⟩
        · have a1 : ((kd.toNat : Int) == 0) = false := by rw [HKd.out]; simpa using hkd
          by_cases hx : x.length ≤ 100
          · have a2 : ¬ (100 : Int) < (x.length : Int) := by omega
            have hfit : Fit (kd, x) := ⟨hkd, hx⟩
            have HFit := Lib.hid hfit
            clear hkd hfit
            go_wp2_with fail
            refine HOf.out.mono ?_
            rintro e w9 ⟨rfl, rfl⟩
            clear HOf
            go_wp2
            go_region_law (refine step_append_own rfl _ _ 27 rfl w.heap.size 48 i1 (.agg #[.int .u8 0, .string ⟨#[]⟩]) 2 24 Try.underlying27 HJ.out HY.out HY1.out HY2.out rfl (by decide) _ (L.take k).length _ (by simp [Act.eval, Act.put]) (HOw.out.drew.alloc _) ⟨wr.heap.size, 0, none⟩ 1 1 [byV kd, .string ⟨x.toArray⟩] (by simp [Act.eval, Act.put]) rfl (cells2_new _ _ _ _) (by intro u hu; simp at hu; rcases hu with rfl | rfl <;> rfl) (by have := HKL.out; unfold maxLen; omega) (by have := HKL.out; omega) (by have := HKL.out; simp; omega) ?_; intro v4 w4 own4 g4)
            all_goals
              have hL4 := LgAt.row ((HLg.out.drewN 1).new _) (World.ownsRow.alloc (World.ownsRow.drew HOw.out) _) g4
              have hB4 : Below w.heap.size w w4 := (HBe.out.drew.alloc (by simpa using hz2) _).grown g4 (by simpa using Nat.le_succ_of_le hz2) (fun q e => (World.ownsRow.lt HOw.out q e).1)
              have hW4 : RRs w.heap.size w4 v4 (L.take (k + 1)) := by
                show World.ownsRow _ _ _ _ _ _ _
                rw [HTK.out, HRE.out, List.length_append]
                exact own4
              obtain ⟨⟨wa, wk, rfl, hwk⟩, _⟩ := RRv.of_row hW4 0 (Nat.zero_le _)
              have d0 := (hB4.cell (p := ⟨g, off + k * 2, none⟩) Hg.out).trans C0w.out
              have d1 := (hB4.cell (p := ⟨g, off + k * 2 + 1, none⟩) Hg.out).trans C1w.out
              have hadd := add_any w.heap.size lb b v d (k : Int) kd da dc x w4 hL4 (Hbw.out.below hB4) HFit.out.ok HOff.out (by have := HOps.out; omega) (by omega) (by omega) (by omega)
              have hFp := HFS.out HFit.out
              have hap := append_ops d (encR (kd, x))
              obtain ⟨j1, j2, j3⟩ := HAd.out
              have hel : (encR (kd, x)).length = 4 + x.length := encR_len (kd, x)
              obtain ⟨e1, d1', hd1⟩ : ∃ e1 d1, d.append (encR (kd, x)) = (e1, d1) := ⟨_, _, rfl⟩
              rw [hd1] at hadd hap j1 j2 j3
              dsimp only at hap j1 j2 j3
              have hrw : d1'.row = flatE (L.take (k + 1)) → d1'.row.length = d.row.length + (encR (kd, x)).length := fun q => by rw [q, HTK.out, flatE_snoc, List.length_append, HRow.out]
              obtain ⟨P, hP⟩ : ∃ P, L.take (k + 1) = P := ⟨_, rfl⟩
              have hPl := HKL1.out
              rw [hP] at hW4 hwk hFp j1 j3 hPl hrw ⊢
              have HP := Lib.hid hP
              have HPl := Lib.hid hPl
              have hpl : P.length ≤ 40 := by omega
              have HFp := Lib.hid hFp
              have HL4 := Lib.hid hL4
              have HW4 := Lib.hid hW4
              have HB4 := Lib.hid hB4
              have HAdd := Lib.hid hadd
              have HJ1 := Lib.hid j1
              have HJ2 := Lib.hid j2
              have HJ3 := Lib.hid j3
              have HRw := Lib.hid hrw
              clear hL4 hB4 hW4 own4 g4 cvq cvd c0 c1 hadd hFp j1 j2 j3 hel hd1 hP hPl hrw HAd
              rcases hap with rfl | rfl
              · have HAdd0 := HAdd
                clear HAdd
                go_wp2_with fail
                refine HAdd0.out.mono ?_
                rintro e w5 ⟨v5, rfl, L5, T5⟩
                obtain ⟨hof1, hrow1⟩ := HJ3.out (by simp)
                have L5' : LgAt w.heap.size w5 lb b v5 d1' (d1'.row.length : Int) ((k + 1 : Nat) : Int) := by
                  have := L5
                  simp only [if_true] at this
                  rw [HRw.out hrow1]
                  exact this
                have HW5 := Lib.hid (T5.row HL4.out HW4.out)
                have HB5 := Lib.hid (HB4.out.trans (T5.below HL4.out))
                have HL5 := Lib.hid L5'
                have HSy := Lib.hid (lsync_any w.heap.size lb b v5 d1' _ _ w5 L5' (by have := HJ2.out; have := HOps.out; omega))
                have HJs := Lib.hid (HJ1.out.sync hof1 hrow1)
                have hops1 : d1'.ops ≤ 2 * ((k + 1 : Nat) : Int) := by have := HJ2.out; have := HOps.out; omega
                have HD5 := Lib.hid (show Hd w.heap.size w5 lb b L (k + 1) s from ⟨v5, d1', _, _, L5', by rw [HP.out]; exact HJ1.out, fun _ => ⟨by rw [HP.out]; exact hrow1, rfl, rfl⟩, hops1⟩)
                clear L5 L5' T5 HAdd0 HL4 HW4 HB4 hof1 hrow1 hops1
                by_cases hkb : k < Bs.length
                · have p1 : (k : Int) < (Bs.length : Int) := by omega
                  obtain ⟨y, hy⟩ : ∃ y, Bs[k]? = some y := ⟨_, List.getElem?_eq_getElem hkb⟩
                  rcases HBs.out with ⟨_, rfl⟩ | ⟨bg, boff, bcap, be, hbg, hbcs⟩
                  · simp at hkb
                  injection be with f1 f2 f3
                  clear f2
                  subst f1 f3
                  have cb := (HB5.out.cell (p := ⟨bg, boff + k, none⟩) hbg).trans (hbcs k y hy)
                  clear hbg hbcs hy
                  cases y
                  · go_wp2
                    go_roundw
                    case rel => exact ⟨k + 1, s, rfl, by simp, by omega, by rw [HP.out]; exact HFp.out, by rw [HP.out]; exact HW5.out, HD5.out, HB5.out⟩
                    case measure => simp [intOf]; omega
                  · obtain ⟨o1, hor⟩ := HJs.out
                    rcases hor with ⟨z1, z2, z3, z4⟩ | ⟨z1, z2, z3⟩
                    · have HZ1 := Lib.hid z1
                      have HZ2 := Lib.hid z2
                      have HZ3 := Lib.hid z3
                      have HZ4 := Lib.hid z4
                      have HO1 := Lib.hid o1
                      clear z1 z2 z3 z4 o1
                      go_wp2_with fail
                      refine HSy.out.mono ?_
                      rintro e w6 ⟨he6, v6, D6, T6⟩
                      rw [HZ1.out] at he6
                      subst he6
                      have hW6 := (LTo.of T6 lb).row HL5.out HW5.out
                      have hB6 := HB5.out.trans ((LTo.of T6 lb).below HL5.out)
                      have hD6 : Hd w.heap.size w6 lb b L (k + 1) P.length := ⟨v6, _, _, _, HL5.out.op T6 D6, by rw [HP.out]; exact HZ2.out, fun _ => ⟨by rw [HP.out]; exact HZ4.out, by rw [HZ4.out, (HJ3.out (by simp)).2], rfl⟩, by have := HO1.out; have := HJ2.out; have := HOps.out; omega⟩
                      have HF := Lib.hid (And.intro hW6 (And.intro hD6 hB6))
                      clear D6 T6 hW6 hB6 hD6 HSy
                      go_wp2
                      go_roundw
                      case rel => exact ⟨k + 1, P.length, rfl, by simp, by omega, by rw [HP.out]; exact HFp.out, by rw [HP.out]; exact HF.out.1, HF.out.2.1, HF.out.2.2⟩
                      case measure => simp [intOf]; omega
                    · have HZ1 := Lib.hid z1
                      have HZ2 := Lib.hid z2
                      have HZ3 := Lib.hid z3
                      have HO1 := Lib.hid o1
                      clear z1 z2 z3 o1
                      go_wp2_with fail
                      refine HSy.out.mono ?_
                      rintro e w6 ⟨he6, v6, D6, T6⟩
                      rw [HZ1.out] at he6
                      subst he6
                      have hW6 := (LTo.of T6 lb).row HL5.out HW5.out
                      have hB6 := HB5.out.trans ((LTo.of T6 lb).below HL5.out)
                      have hD6 : Hd w.heap.size w6 lb b L (k + 1) s := ⟨v6, _, _, _, HL5.out.op T6 D6, by rw [HP.out]; exact HZ2.out, (fun q => by rw [HZ3.out] at q; cases q), by have := HO1.out; have := HJ2.out; have := HOps.out; omega⟩
                      have HF := Lib.hid (And.intro hW6 (And.intro hD6 hB6))
                      clear D6 T6 hW6 hB6 hD6 HSy
                      go_wp2
                      go_roundw
                      case rel => exact ⟨k + 1, s, rfl, by simp, by omega, by rw [HP.out]; exact HFp.out, by rw [HP.out]; exact HF.out.1, HF.out.2.1, HF.out.2.2⟩
                      case measure => simp [intOf]; omega
                · have p1 : ¬ (k : Int) < (Bs.length : Int) := by omega
                  go_wp2
                  go_roundw
                  case rel => exact ⟨k + 1, s, rfl, by simp, by omega, by rw [HP.out]; exact HFp.out, by rw [HP.out]; exact HW5.out, HD5.out, HB5.out⟩
                  case measure => simp [intOf]; omega
              · go_wp2_with fail
                refine HAdd.out.mono ?_
                rintro e w5 ⟨v5, rfl, L5, T5⟩
                have HRr := Lib.hid (T5.row HL4.out HW4.out)
                have HBb := Lib.hid (HB4.out.trans (T5.below HL4.out))
                have HLl := Lib.hid L5
                have HJd := HJ1
                have HOps1 := Lib.hid (show d1'.ops ≤ 2 * ((k : Int) + 1) by have := HJ2.out; have := HOps.out; omega)
                clear L5 T5 HAdd HL4 HW4 HB4 HOps
                have HOps := HOps1
                have HCu := Lib.hid (cut_any w.heap.size b v5 d1' keep w5 HLl.out.dk)
                go_wp2_with fail
                refine HCu.out.mono ?_
                rintro e wc ⟨rfl, vc, Dc, Tc, _⟩
                have HRc := Lib.hid ((LTo.of Tc lb).row HLl.out HRr.out)
                have HLc := Lib.hid (HLl.out.op Tc Dc)
                have HBc := Lib.hid (HBb.out.trans ((LTo.of Tc lb).below HLl.out))
                have HJc := Lib.hid (HJd.out.cut keep)
                have HOn := Lib.hid (on_any w.heap.size b vc _ wc Dc)
                clear Dc Tc HCu HRr HLl HBb HJd
                go_wp2_with fail
                refine HOn.out.mono ?_
                rintro e wo ⟨rfl, Do, To⟩
                obtain ⟨n, hsn, hnp, hsc⟩ := HJc.out.scan HLc.out.dk.fits.kept HFp.out
                obtain ⟨dO, hdO⟩ : ∃ q, ({ d1'.cut keep with off := false } : Dk) = q := ⟨_, rfl⟩
                have a1 : dO.off = false := by rw [← hdO]
                have a2 : dO.armed = 0 := by rw [← hdO]; rfl
                have a3 : dO.ops < 4611686018427387904 := by rw [← hdO]; show Dk.ops d1' < _; have := HOps.out; omega
                have a4 : scanR dO.row = P.take n := by rw [← hdO]; exact hsc
                rw [hdO] at Do
                have HRo := Lib.hid ((LTo.of To lb).row HLc.out HRc.out)
                have HLo := Lib.hid (HLc.out.op To Do)
                have HBo := Lib.hid (HBc.out.trans ((LTo.of To lb).below HLc.out))
                have HOp := Lib.hid (open_any w.heap.size b vc dO wo Do a1 a2 a3)
                have HSn := Lib.hid a4
                clear Do To HOn HRc HLc HBc HJc hdO a1 a2 a3 a4 hsc
                go_wp2_with fail
                refine HOp.out.mono ?_
                rintro e wp ⟨l9, v9, vs, xs, rfl, hxs, hys, L9, _, T9⟩
                rw [HSn.out] at hxs L9
                have htl : (P.take n).length = n := by rw [List.length_take]; omega
                rw [htl] at L9
                have hrx := Rcs.of_ys hys
                rw [hxs] at hrx
                obtain ⟨xa, xc, rfl⟩ := hys.2.1
                have hxl : xs.length = n := by
                  have e := congrArg List.length hxs
                  rw [List.length_map, htl] at e
                  exact e
                rw [hxl] at hrx ⊢
                have hR9 := (LTo.of T9 lb).row HLo.out HRo.out
                have hrv := (RRv.of_row hR9 n hnp).2 wa wk wk rfl
                have hsm := same_any xa wa n n xc wk (P.take n) (P.take n) wp hrx hrv (by omega) (by omega)
                rw [show decide (P.take n = P.take n) = true by simp] at hsm
                have HSm := Lib.hid hsm
                have HLn := Lib.hid (llen_any w.heap.size l9 b v9 _ _ _ wp L9)
                have HB9 := Lib.hid (HBo.out.trans ((LTo.of T9 lb).below HLo.out))
                have b1 : ¬ (n : Int) < (s : Int) := by omega
                have b2 : ¬ (P.length : Int) < (n : Int) := by omega
                have b3 : (0 : Int) ≤ (n : Int) := by omega
                have b4 : (n : Int) ≤ (wk : Int) := by omega
                have b5 : n ≤ wk := by omega
                clear hxs hys hrx hR9 hrv hsm T9 L9 htl hxl HOp HRo HLo HBo HSn
                go_wp2_with fail
                refine HLn.out.mono ?_
                rintro e wz ⟨rfl, rfl⟩
                clear HLn
                go_wp2_with fail
                refine HSm.out.mono ?_
                rintro e wy ⟨rfl, hby⟩
                have HBy := Lib.hid (HB9.out.trans (hby.mono HB9.out.size))
                clear hby HSm HB9
                go_wp2
                go_ret
                exact ⟨rfl, HBy.out⟩
          · have a2 : (100 : Int) < (x.length : Int) := by omega
            clear hkd
            go_wp2_with fail
            refine HOf.out.mono ?_
            rintro e w9 ⟨rfl, rfl⟩
            clear HOf
            go_wp2
            go_ret
            exact ⟨rfl, HBe.out⟩
    · obtain rfl : k = L.length := by omega
      have hq : ¬ (L.length : Int) < (L.length : Int) := by omega
      rw [List.take_length] at hF hOw hJd
      obtain ⟨⟨wa, wk, rfl, hwk⟩, _⟩ := RRv.of_row hOw 0 (Nat.zero_le _)
      have HFp := Lib.hid hF
      have HRr := Lib.hid hOw
      have HLl := Lib.hid hLg
      have HJd := Lib.hid hJd
      have HOps := Lib.hid hops
      have HBb := Lib.hid hBe
      clear hF hOw hLg hJd hst hops hBe
      have HCu := Lib.hid (cut_any w.heap.size b v d keep wr HLl.out.dk)
      go_wp2_with fail
      refine HCu.out.mono ?_
      rintro e wc ⟨rfl, vc, Dc, Tc, _⟩
      have HRc := Lib.hid ((LTo.of Tc lb).row HLl.out HRr.out)
      have HLc := Lib.hid (HLl.out.op Tc Dc)
      have HBc := Lib.hid (HBb.out.trans ((LTo.of Tc lb).below HLl.out))
      have HJc := Lib.hid (HJd.out.cut keep)
      have HOn := Lib.hid (on_any w.heap.size b vc _ wc Dc)
      clear Dc Tc HCu HRr HLl HBb HJd
      go_wp2_with fail
      refine HOn.out.mono ?_
      rintro e wo ⟨rfl, Do, To⟩
      obtain ⟨n, hsn, hnp, hsc⟩ := HJc.out.scan HLc.out.dk.fits.kept HFp.out
      obtain ⟨dO, hdO⟩ : ∃ q, ({ d.cut keep with off := false } : Dk) = q := ⟨_, rfl⟩
      have a1 : dO.off = false := by rw [← hdO]
      have a2 : dO.armed = 0 := by rw [← hdO]; rfl
      have a3 : dO.ops < 4611686018427387904 := by rw [← hdO]; show Dk.ops d < _; have := HOps.out; omega
      have a4 : scanR dO.row = L.take n := by rw [← hdO]; exact hsc
      rw [hdO] at Do
      have HRo := Lib.hid ((LTo.of To lb).row HLc.out HRc.out)
      have HLo := Lib.hid (HLc.out.op To Do)
      have HBo := Lib.hid (HBc.out.trans ((LTo.of To lb).below HLc.out))
      have HOp := Lib.hid (open_any w.heap.size b vc dO wo Do a1 a2 a3)
      have HSn := Lib.hid a4
      clear Do To HOn HRc HLc HBc HJc hdO a1 a2 a3 a4 hsc
      go_wp2_with fail
      refine HOp.out.mono ?_
      rintro e wp ⟨l9, v9, vs, xs, rfl, hxs, hys, L9, _, T9⟩
      rw [HSn.out] at hxs L9
      have htl : (L.take n).length = n := by rw [List.length_take]; omega
      rw [htl] at L9
      have hrx := Rcs.of_ys hys
      rw [hxs] at hrx
      obtain ⟨xa, xc, rfl⟩ := hys.2.1
      have hxl : xs.length = n := by
        have e := congrArg List.length hxs
        rw [List.length_map, htl] at e
        exact e
      rw [hxl] at hrx ⊢
      have hR9 := (LTo.of T9 lb).row HLo.out HRo.out
      have hrv := (RRv.of_row hR9 n hnp).2 wa wk wk rfl
      have hsm := same_any xa wa n n xc wk (L.take n) (L.take n) wp hrx hrv (by omega) (by omega)
      rw [show decide (L.take n = L.take n) = true by simp] at hsm
      have HSm := Lib.hid hsm
      have HLn := Lib.hid (llen_any w.heap.size l9 b v9 _ _ _ wp L9)
      have HB9 := Lib.hid (HBo.out.trans ((LTo.of T9 lb).below HLo.out))
      have b1 : ¬ (n : Int) < (s : Int) := by omega
      have b2 : ¬ (L.length : Int) < (n : Int) := by omega
      have b3 : (0 : Int) ≤ (n : Int) := by omega
      have b4 : (n : Int) ≤ (wk : Int) := by omega
      have b5 : n ≤ wk := by omega
      clear hxs hys hrx hR9 hrv hsm T9 L9 htl hxl HOp HRo HLo HBo HSn
      go_wp2_with fail
      refine HLn.out.mono ?_
      rintro e wz ⟨rfl, rfl⟩
      clear HLn
      go_wp2_with fail
      refine HSm.out.mono ?_
      rintro e wy ⟨rfl, hby⟩
      have HBy := Lib.hid (HB9.out.trans (hby.mono HB9.out.size))
      clear hby HSm HB9
      go_wp2
      go_ret
      exact ⟨rfl, HBy.out⟩
theorem any (aa : Option Addr) (ac : Nat) (L : List Rec) (ba : Option Addr) (bc : Nat) (Bs : List Bool) (n2 n3 : Int) (w : World) (hA : Rcs w (.slice aa L.length ac) L) (_ : L.length ≤ 9223372036854775807) (hbl : ∀ r ∈ L, r.2.length ≤ 9223372036854775807) (hB : Bls w (.slice ba Bs.length bc) Bs) (_ : Bs.length ≤ 9223372036854775807) (wk2 : (Lit.int .u8 n2).wf = true) (wk3 : (Lit.int .i64 n3).wf = true) :
    Calls Try.prog 5 #[.slice aa L.length ac, .slice ba Bs.length bc, .int .u8 n2, .int .i64 n3] w fun e w' => e = .returned (.bool true) ∧ Below w.heap.size w w' := by
  have h2 : 0 ≤ n2 ∧ n2 ≤ 255 := by simpa [Lit.wf, IntKind.min, IntKind.max, IntKind.signed, IntKind.bits] using wk2
  have h3 : -9223372036854775808 ≤ n3 ∧ n3 ≤ 9223372036854775807 := by simpa [Lit.wf, IntKind.min, IntKind.max, IntKind.signed, IntKind.bits] using wk3
  obtain ⟨ts, rfl⟩ : ∃ k : Nat, n2 = (k : Int) := ⟨n2.toNat, by omega⟩
  by_cases h1 : L.length ≤ 40
  · by_cases h4 : Bs.length ≤ 60
    · exact main aa ac L ba bc Bs ts n3 w hA hB h1 h4 hbl (by omega) h3.1 h3.2
    · have HK := Lib.hid (known_any w)
      have q0 : ¬ (40 : Int) < (L.length : Int) := by omega
      have q1 : (60 : Int) < (Bs.length : Int) := by omega
      clear hA hB hbl wk2 wk3
      go_enter Try.func5, Try.ntmps5
      go_wp2_with fail
      refine HK.out.mono ?_
      rintro e w1 ⟨rfl, hb⟩
      have HB := Lib.hid hb
      clear hb HK
      go_wp2
      go_ret
      exact ⟨rfl, HB.out⟩
  · have HK := Lib.hid (known_any w)
    have q1 : (40 : Int) < (L.length : Int) := by omega
    clear hA hB hbl wk2 wk3
    go_enter Try.func5, Try.ntmps5
    go_wp2_with fail
    refine HK.out.mono ?_
    rintro e w1 ⟨rfl, hb⟩
    have HB := Lib.hid hb
    clear hb HK
    go_wp2
    go_ret
    exact ⟨rfl, HB.out⟩
end LawJournalCuts
end Go.Proofs.Yteddlpcnefogpaa
