/- belfrylaw5.MatchAny. -/
import Derived.Test.YthdoniefjmphaaaGreatDoorMtO
import Derived.Test.YthdoniefjmphaaaGreatDoorRfT
import Derived.Test.YthdoniefjmphaaaGreatDoorRfS
namespace Go.Proofs.YthdoniefjmphaaaGreatDoor
open Go Go.Proofs Go.RowKit Go.Shelf
set_option maxRecDepth 100000
theorem MtG.toL {n₀ : Nat} {W : World} {sv : Value} {zs : List SItm} : MtG n₀ W sv (zs.map (·.1)) → MtL n₀ W sv zs
 | .inl ⟨e, h⟩ => .inl ⟨e, by simpa using h⟩
 | .inr ⟨b, off, cap, e, hb, _, _, hc⟩ => .inr ⟨b, off, cap, by rw [List.length_map] at e; exact e, hb, fun j x hj => hc j x.1 (by rw [List.getElem?_map, hj]; rfl)⟩
def GoodV (zs : List Lab) (w : World) (e : Ending) (w' : World) : Prop := ∃ b : Bool, e = .returned (.bool b) ∧ Below w.heap.size w w' ∧ (b = true → ∃ ss : List SLab, ss.map (·.1) = zs ∧ ss.length ≤ 30 ∧ checkR ss = 0)
set_option maxHeartbeats 1000000 in
theorem good_v (a : Option Addr) (len cap : Nat) (zs : List Lab) (hlen : zs.length ≤ 9223372036854775807) (hbig : ∀ x ∈ zs, x.1.length ≤ 9223372036854775807 ∧ x.2.length ≤ 9223372036854775807) (w : World) (hI : LabsG w.heap.size w (.slice a len cap) zs) :
  Calls Tryz.prog 8 #[.slice a len cap] w (GoodV zs w) := by
 have HF := Lib.hid (few_any a len cap zs hlen hbig w.heap.size w hI);cases hf : fewR zs
 ·
  rw [hf] at HF;clear hf hI;go_enter Tryz.func8, Tryz.ntmps8
  go_wp2_with fail
  refine (HF.out).mono ?_;rintro e w1 ⟨rfl, rfl⟩;go_wp2
  go_ret
  exact ⟨false, rfl, Below.refl _ _, fun h => by cases h⟩
 ·
  have HW := Lib.hid hf;rw [hf] at HF;obtain ⟨ss, hss, hl⟩ := few_short hf;have hL : Labs w.heap.size w (.slice a len cap) ss := LabsG.toS (by rw [hss]; exact hI);have HO := Lib.hid (of_any a len cap ss (by omega) w hL);have HS := Lib.hid hss;have HC0 : ∀ C : Int, (C == 0) = true → C = 0 := fun C h => by simpa using h
  clear hf hI hss hL;go_enter Tryz.func8, Tryz.ntmps8
  go_wp2_with fail
  refine (HF.out).mono ?_;rintro e w1 ⟨rfl, rfl⟩;go_wp2_with fail
  refine (HO.out).mono ?_;rintro e w2 ⟨v, rfl, hr, hb⟩;have hL2 := labs_of_row9 hr;obtain ⟨a2, n2, c2, rfl⟩ : ∃ a n c, v = .slice a n c := by
   rcases hL2 with ⟨⟨_, _, rfl⟩, _⟩ | ⟨b, off, cap, rfl, _⟩
   ·
    exact ⟨_, _, _, rfl⟩
   ·
    exact ⟨_, _, _, rfl⟩
  have HC := Lib.hid (rcheck_any a2 n2 c2 ss (by omega) w2 hL2);have HB := Lib.hid hb;clear hr hb hL2 HO HF;go_wp2_with fail
  refine (HC.out).mono ?_;rintro e w3 ⟨rfl, hb⟩;go_wp2
  go_ret
  exact ⟨_, rfl, HB.out.trans (hb.mono HB.out.size), fun h => ⟨ss, HS.out, hl, HC0 _ h⟩⟩
theorem of5_c (sv : Value) (zs : List SItm) (hlen : zs.length ≤ 100) (w : World) (hI : MtL w.heap.size w sv zs) :
  Calls Tryz.prog 10 #[sv] w fun e w' => ∃ a c, e = .returned (.slice a zs.length c) ∧ MtL w'.heap.size w' (.slice a zs.length c) zs ∧ Below w.heap.size w w' := by
 obtain ⟨a, cap, rfl⟩ := hI.slice;refine (of5_any a zs.length cap zs hlen w hI).mono ?_;rintro e w' ⟨v, rfl, hr, hb⟩;have h := mtl_of_row hr;obtain ⟨a3, c3, rfl⟩ := h.slice;exact ⟨a3, c3, rfl, h, hb⟩
theorem ofl_c (a : Option Addr) (len cap : Nat) (zs : List SLab) (hlen : zs.length ≤ 100) (w : World) (hI : Labs w.heap.size w (.slice a len cap) zs) :
  Calls Tryz.prog 16 #[.slice a len cap] w fun e w' => ∃ a n c, e = .returned (.slice a n c) ∧ Labs w'.heap.size w' (.slice a n c) zs ∧ Below w.heap.size w w' := by
 refine (of_any a len cap zs hlen w hI).mono ?_;rintro e w' ⟨v, rfl, hr, hb⟩;have h := labs_of_row9 hr;obtain ⟨a2, n2, c2, rfl⟩ : ∃ a n c, v = .slice a n c := by
  rcases h with ⟨⟨_, _, rfl⟩, _⟩ | ⟨b, off, cap, rfl, _⟩
  ·
   exact ⟨_, _, _, rfl⟩
  ·
   exact ⟨_, _, _, rfl⟩
 exact ⟨a2, n2, c2, rfl, h, hb⟩
set_option maxHeartbeats 8000000 in
theorem any_law (a : Option Addr) (len cap : Nat) (zs : List Itm) (hlen : zs.length ≤ 9223372036854775807) (hbig : ∀ x ∈ zs, x.1.length ≤ 9223372036854775807 ∧ x.2.1.length ≤ 9223372036854775807 ∧ x.2.2.length ≤ 9223372036854775807)
  (a2 : Option Addr) (n2 c2 : Nat) (ls : List Lab) (hlen2 : ls.length ≤ 9223372036854775807) (hbig2 : ∀ x ∈ ls, x.1.length ≤ 9223372036854775807 ∧ x.2.length ≤ 9223372036854775807) (w : World) (hT : Tab w) (hI : MtG w.heap.size w (.slice a len cap) zs) (hL : LabsG w.heap.size w (.slice a2 n2 c2) ls) :
  Calls Tryz.prog 3 #[.slice a len cap, .slice a2 n2 c2] w fun e w' => e = .returned (.bool true) ∧ Below w.heap.size w w' := by
 obtain rfl : len = zs.length := hI.len;have KN := Lib.hid (known_any w hT);have FW := Lib.hid (fun W (hW : Below w.heap.size w W) => few5_any a zs.length cap zs hlen hbig w.heap.size W (by
  rcases hI with e | ⟨b, off, c, e, q1, q2, q3, q4⟩
  ·
   exact .inl e
  ·
   exact .inr ⟨b, off, c, e, q1, q2, q3, fun j x hj => ⟨(hW.cell (p := ⟨b, off + j * 3, none⟩) q1).trans (q4 j x hj).1, (hW.cell (p := ⟨b, off + j * 3 + 1, none⟩) q1).trans (q4 j x hj).2.1, (hW.cell (p := ⟨b, off + j * 3 + 2, none⟩) q1).trans (q4 j x hj).2.2⟩⟩))
 cases hf : fewIs zs
 ·
  rw [hf] at FW;clear hf hI hL hT;go_enter Tryz.func3, Tryz.ntmps3
  go_wp2_with fail
  refine (KN.out).mono ?_;rintro e w1 ⟨rfl, hb⟩;go_wp2_with fail
  refine (FW.out _ hb).mono ?_;rintro e w2 ⟨rfl, rfl⟩;go_wp2
  go_ret
  exact ⟨rfl, hb⟩
 rw [hf] at FW;obtain ⟨ss, hss, hl12⟩ := few5_short hf;have hM : MtL w.heap.size w (.slice a zs.length cap) ss := MtG.toL (by rw [hss]; exact hI);have hzl : zs.length = ss.length := by rw [← hss, List.length_map]
 rw [hzl] at hM hlen FW ⊢;clear hf hbig hI hzl hss;have GD := Lib.hid (fun W (hW : Below w.heap.size w W) => good_v a2 n2 c2 ls hlen2 hbig2 W (by
  rcases hL.below hW with e | ⟨b, off, c, e, q1, q2⟩
  ·
   exact .inl e
  ·
   exact .inr ⟨b, off, c, e, Nat.lt_of_lt_of_le q1 hW.size, q2⟩))
 have HL := Lib.hid hL;have HM := Lib.hid hM;have HT := Lib.hid (fun W (hW : Below w.heap.size w W) => hT.below hW);clear hL hM hT;go_enter Tryz.func3, Tryz.ntmps3
 go_wp2_with fail
 refine (KN.out).mono ?_;rintro e w1 ⟨rfl, hb1⟩;go_wp2_with fail
 refine (FW.out _ hb1).mono ?_;rintro e w2 ⟨rfl, rfl⟩;go_wp2_with fail
 refine (GD.out _ hb1).mono ?_;rintro e w3 ⟨b, rfl, hb, hf⟩;have HB := Lib.hid (hb1.trans (hb.mono hb1.size));clear hb hb1 KN GD FW;cases b
 ·
  clear hf;go_wp2
  go_ret
  exact ⟨rfl, HB.out⟩
 obtain ⟨sl, hsl, hl, hck⟩ := hf rfl;have hv := good_vals hck;have hv2 : ∀ y ∈ sl, y.1.2.length ≤ 1000 := fun y hy => Nat.le_trans (hv y hy) (by decide)
 have hL2 : Labs w.heap.size w (.slice a2 n2 c2) sl := LabsG.toS (by rw [hsl]; exact HL.out);have MH := Lib.hid (fun W (hW : Below w.heap.size w W) => mholds_any (.slice a ss.length cap) ss (by omega) a2 n2 c2 sl (by omega) hv2 W (HT.out W hW) (HM.out.on hW) (labs_on hL2 hW));have OF := Lib.hid (fun sv W (h : MtL W.heap.size W sv ss) => of5_c sv ss (by omega) W h);have OL := Lib.hid (fun W (hW : Below w.heap.size w W) => ofl_c a2 n2 c2 sl (by omega) W (labs_on hL2 hW));have CM := Lib.hid (fun sv W (h : MtL W.heap.size W sv ss) => rcheckM_any sv ss (by omega) W h);have MC := Lib.hid (fun W (hW : Below w.heap.size w W) => mcheckL_any (.slice a ss.length cap) ss (by omega) W (HT.out W hW) (HM.out.on hW));have TX := Lib.hid (fun W (hW : Below w.heap.size w W) => mtext_any (.slice a ss.length cap) ss (by omega) W (HM.out.on hW));have PT := Lib.hid (fun (h : checkMR ss = 0) W (hW : Below w.heap.size w W) => mparse_text ss h W (HT.out W hW));have RT := Lib.hid (fun sv W (h : MtL W.heap.size W sv ss) => rmtext_any sv ss (by omega) W h);have RH := Lib.hid (fun (h0 : checkMR ss = 0) sv a n c W (h : MtL W.heap.size W sv ss) (hl : Labs W.heap.size W (.slice a n c) sl) => rholds_any sv ss (by omega) (checkM_zero h0).2 a n c sl (by omega) hv W h hl);have SM := Lib.hid (fun sv tv W (h : MtL W.heap.size W sv ss) (h2 : MtL W.heap.size W tv ss) => same5_any sv tv ss (by omega) W h h2);clear hsl hv hv2 hL2 hck HL HT hf;go_wp2_with fail
 refine (OF.out _ _ (HM.out.on HB.out)).mono ?_;rintro e w4 ⟨a3, c3, rfl, hm3, hb⟩;have HM3 := Lib.hid hm3;clear hm3;have HBo := HB;have HB := Lib.hid (HBo.out.trans (hb.mono HBo.out.size));clear hb HBo;go_wp2_with fail
 refine (CM.out _ _ HM3.out).mono ?_;rintro e w5 ⟨rfl, hb⟩;have HBo := HB;have HB := Lib.hid (HBo.out.trans (hb.mono HBo.out.size));clear hb HBo;clear HM3 CM;obtain ⟨C, hCe⟩ : ∃ C, checkMR ss = C := ⟨_, rfl⟩;rw [hCe] at MC PT RH ⊢;have qC : (C != C) = false := by simp
 clear hCe;go_wp2_with fail
 refine (MC.out _ HB.out).mono ?_;rintro e w6 ⟨rfl, hb⟩;have HBo := HB;have HB := Lib.hid (HBo.out.trans (hb.mono HBo.out.size));clear hb HBo;clear MC;by_cases hC : C = 0
 ·
  subst hC;have PT0 := Lib.hid (PT.out rfl);have RH0 := Lib.hid (RH.out rfl);clear PT RH;obtain ⟨P, hP⟩ : ∃ P, holdsR ss sl = P := ⟨_, rfl⟩;rw [hP] at RH0 MH;obtain ⟨T, hTx⟩ : ∃ T, textM ss = T := ⟨_, rfl⟩;rw [hTx] at TX PT0 RT;have eT : (⟨T.toArray⟩ : ByteArray).toList = T := by rw [ByteArray.toList_eq]
  have qT : (T == T) = true := by simp
  have qP : (P == P) = true := by simp
  clear hP hTx qC;go_wp2_with fail
  refine (TX.out _ HB.out).mono ?_;rintro e w7 ⟨rfl, hb⟩;have HBo := HB;have HB := Lib.hid (HBo.out.trans (hb.mono HBo.out.size));clear hb HBo;go_wp2_with fail
  refine (PT0.out _ HB.out).mono ?_;rintro e w8 ⟨v, rfl, hm5, hb⟩;obtain ⟨a5, c5, rfl⟩ := hm5.slice;have HM5 := Lib.hid hm5;clear hm5;have HBo := HB;have HB := Lib.hid (HBo.out.trans (hb.mono HBo.out.size));clear hb HBo;clear TX PT0;go_wp2_with fail
  refine (MH.out _ HB.out).mono ?_;rintro e w9 ⟨rfl, hb⟩;have HBo := HB;have HB := Lib.hid (HBo.out.trans (hb.mono HBo.out.size));have HM5 := Lib.hid (HM5.out.on hb);clear hb HBo;clear MH;go_wp2_with fail
  refine (OF.out _ _ (HM.out.on HB.out)).mono ?_;rintro e w10 ⟨a6, c6, rfl, hm6, hb⟩;have HM6 := Lib.hid hm6;clear hm6;have HBo := HB;have HB := Lib.hid (HBo.out.trans (hb.mono HBo.out.size));have HM5 := Lib.hid (HM5.out.on hb);clear hb HBo;go_wp2_with fail
  refine (OL.out _ HB.out).mono ?_;rintro e w11 ⟨a7, n7, c7, rfl, hl7, hb⟩;have HL7 := Lib.hid hl7;clear hl7;have HBo := HB;have HB := Lib.hid (HBo.out.trans (hb.mono HBo.out.size));have HM5 := Lib.hid (HM5.out.on hb);have HM6 := Lib.hid (HM6.out.on hb);clear hb HBo;clear OL;go_wp2_with fail
  refine (RH0.out _ _ _ _ _ HM6.out HL7.out).mono ?_;rintro e w12 ⟨rfl, hb⟩;have HBo := HB;have HB := Lib.hid (HBo.out.trans (hb.mono HBo.out.size));have HM5 := Lib.hid (HM5.out.on hb);clear hb HBo;clear RH0 HL7 HM6;go_wp2_with fail
  refine (OF.out _ _ (HM.out.on HB.out)).mono ?_;rintro e w13 ⟨a8, c8, rfl, hm8, hb⟩;have HM8 := Lib.hid hm8;clear hm8;have HBo := HB;have HB := Lib.hid (HBo.out.trans (hb.mono HBo.out.size));have HM5 := Lib.hid (HM5.out.on hb);clear hb HBo;go_wp2_with fail
  refine (RT.out _ _ HM8.out).mono ?_;rintro e w14 ⟨rfl, hb⟩;have HBo := HB;have HB := Lib.hid (HBo.out.trans (hb.mono HBo.out.size));have HM5 := Lib.hid (HM5.out.on hb);clear hb HBo;clear RT HM8;go_wp2_with fail
  refine (OF.out _ _ HM5.out).mono ?_;rintro e w15 ⟨a9, c9, rfl, hm9, hb⟩;have HM9 := Lib.hid hm9;clear hm9;have HBo := HB;have HB := Lib.hid (HBo.out.trans (hb.mono HBo.out.size));clear hb HBo;clear HM5;go_wp2_with fail
  refine (OF.out _ _ (HM.out.on HB.out)).mono ?_;rintro e w16 ⟨a10, c10, rfl, hm10, hb⟩;have HM10 := Lib.hid hm10;clear hm10;have HBo := HB;have HB := Lib.hid (HBo.out.trans (hb.mono HBo.out.size));have HM9 := Lib.hid (HM9.out.on hb);clear hb HBo;clear OF;go_wp2_with fail
  refine (SM.out _ _ _ HM9.out HM10.out).mono ?_;rintro e w17 ⟨rfl, hb⟩;have HBo := HB;have HB := Lib.hid (HBo.out.trans (hb.mono HBo.out.size));clear hb HBo;clear SM;go_wp2
  go_ret
  exact ⟨rfl, HB.out⟩
 ·
  have q1 : (C != 0) = true := by rw [bne_iff_ne]; exact hC
  clear hC;go_wp2
  go_ret
  exact ⟨rfl, HB.out⟩
end Go.Proofs.YthdoniefjmphaaaGreatDoor
