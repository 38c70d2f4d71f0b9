/- belfrylaw3.Good; belfrylaw5.alone. -/
import Derived.Test.YthdoniefjmphaaaGreatDoorMt8
import Derived.Test.YthdoniefjmphaaaGreatDoorRefK
namespace Go.Proofs.YthdoniefjmphaaaGreatDoor
open Go Go.Proofs Go.RowKit Go.Shelf
set_option maxRecDepth 100000
theorem mt_one (w : World) (x : SItm) (T : TypeId) : MtL (w.alloc (.cells #[.string ⟨x.1.1.toArray⟩, .string ⟨x.1.2.1.toArray⟩, .string ⟨x.1.2.2.toArray⟩] T)).heap.size (w.alloc (.cells #[.string ⟨x.1.1.toArray⟩, .string ⟨x.1.2.1.toArray⟩, .string ⟨x.1.2.2.toArray⟩] T)) (.slice (some ⟨w.heap.size, 0, none⟩) 1 1) [x] := by
 have D := At.nw w [.string ⟨x.1.1.toArray⟩, .string ⟨x.1.2.1.toArray⟩, .string ⟨x.1.2.2.toArray⟩] T;refine .inr ⟨w.heap.size, 0, 1, rfl, by simp, fun j y hj => ?_⟩;rcases j with _ | j
 ·
  obtain rfl : x = y := by simpa using hj
  exact ⟨D.cell 0 _ rfl, D.cell 1 _ rfl, D.cell 2 _ rfl⟩
 ·
  simp at hj
end Go.Proofs.YthdoniefjmphaaaGreatDoor
/- The law's known. -/
namespace Go.Proofs.YthdoniefjmphaaaGreatDoor
open Go Go.Proofs Go.RowKit Go.Shelf
set_option maxRecDepth 100000
theorem wrI_c {ops : List (List UInt8)} {a r b : List UInt8} {x : SItm} {t : List (SItm × Bool)} (h : takeI ops a r = some (x.1, b)) (hb : if b = [125] then t = [] else WrI ops [44] b t) : WrI ops a r ((x, true) :: t) := by
 unfold WrI; rw [h]; exact ⟨rfl, rfl, hb⟩
def mk (n o u : List UInt8) (h : ShortI (n, o, u) := by unfold ShortI; decide) : SItm := ⟨(n, o, u), h⟩
def kz : List SItm := [mk [97] [61] [120], mk [98] [33, 61] [121], mk [99] [61, 126] [122, 46, 42], mk [100] [33, 126] [113]]
def kt : List UInt8 := [123, 97, 61, 34, 120, 34, 44, 98, 33, 61, 34, 121, 34, 44, 99, 61, 126, 34, 122, 46, 42, 34, 44, 100, 33, 126, 34, 113, 34, 125]
def op4 : List (List UInt8) := [[61], [33, 61], [61, 126], [33, 126]]
theorem op4_is : ops4.map (·.1) = op4 := rfl
theorem kw1 : WrSI (ops4.map (·.1)) kt (kz.map fun x => (x, true)) := by
 rw [op4_is];unfold WrSI;rw [if_neg (by decide)];refine wrI_c (x := mk [97] [61] [120]) (b := [44, 98, 33, 61, 34, 121, 34, 44, 99, 61, 126, 34, 122, 46, 42, 34, 44, 100, 33, 126, 34, 113, 34, 125]) (by kernel_rfl) ?_;rw [if_neg (by decide)];refine wrI_c (x := mk [98] [33, 61] [121]) (b := [44, 99, 61, 126, 34, 122, 46, 42, 34, 44, 100, 33, 126, 34, 113, 34, 125]) (by kernel_rfl) ?_;rw [if_neg (by decide)];refine wrI_c (x := mk [99] [61, 126] [122, 46, 42]) (b := [44, 100, 33, 126, 34, 113, 34, 125]) (by kernel_rfl) ?_;rw [if_neg (by decide)];refine wrI_c (x := mk [100] [33, 126] [113]) (b := [125]) (by kernel_rfl) ?_;rw [if_pos rfl]; rfl
def kt2 : List UInt8 := [123, 97, 62, 34, 120, 34, 125]
theorem kw2 : WrSI (ops4.map (·.1)) kt2 [(nilItm, false)] := by
 rw [op4_is];unfold WrSI;rw [if_neg (by decide)];unfold WrI;rw [show takeI op4 [123] kt2 = none by kernel_rfl];exact ⟨rfl, rfl⟩
theorem km1 : parseM (kz.map fun x => (x, true)) = 0 := by kernel_rfl
theorem km2 : parseM [(nilItm, false)] = 2 := by kernel_rfl
theorem kz_fst : (kz.map fun x => (x, true)).map (·.1) = kz := rfl
def kl : List SLab := [⟨([97], [120]), by unfold Short; decide⟩, ⟨([99], [122, 122]), by unfold Short; decide⟩]
theorem kh1 : holdsR kz kl = true := by kernel_rfl
theorem kh2 : holdsR kz (kl.take 1) = false := by kernel_rfl
theorem kc1 : checkMR kz = 0 := by kernel_rfl
theorem kx1 : textM kz = kt := by kernel_rfl
def kq : SItm := mk [97] [63] []
theorem kc2 : checkMR [kq] = 2 := by kernel_rfl
theorem kq_at (w : World) : MtL (w.alloc (.cells #[.string ⟨#[97]⟩, .string ⟨#[63]⟩, .string ⟨#[]⟩] 49)).heap.size (w.alloc (.cells #[.string ⟨#[97]⟩, .string ⟨#[63]⟩, .string ⟨#[]⟩] 49)) (.slice (some ⟨w.heap.size, 0, none⟩) 1 1) [kq] := mt_one w kq _
theorem kp1 (w : World) (hT : Tab w) : Calls Tryz.prog 13 #[.string ⟨kt.toArray⟩] w fun e w' => ∃ b off cap, e = .returned (.tuple #[.slice (some ⟨b, off, none⟩) 4 cap, .int .i64 0]) ∧ MtL w'.heap.size w' (.slice (some ⟨b, off, none⟩) 4 cap) kz ∧ w'.cell? ⟨b, off + 6 + 1, none⟩ = some (.string ⟨#[61, 126]⟩) ∧ Below w.heap.size w w' := by
 refine (mparse_any kt (by decide) (kz.map fun x => (x, true)) kw1 (by decide) w hT).mono ?_;rintro e w' ⟨v, rfl, h0, _, hb⟩;have h := h0 km1;rw [kz_fst] at h;rcases h with ⟨_, h⟩ | ⟨b, off, cap, rfl, hlt, hc⟩
 ·
  cases h
 ·
  refine ⟨b, off, cap, by rw [km1]; rfl, .inr ⟨b, off, cap, rfl, hlt, hc⟩, ?_, hb⟩;exact (hc 2 _ rfl).2.1
theorem kp2 (w : World) (hT : Tab w) : Calls Tryz.prog 13 #[.string ⟨#[123, 97, 62, 34, 120, 34, 125]⟩] w fun e w' => e = .returned (.tuple #[.slice none 0 0, .int .i64 2]) ∧ Below w.heap.size w w' := by
 refine (mparse_any kt2 (by decide) [(nilItm, false)] kw2 (by decide) w hT).mono ?_;rintro e w' ⟨v, rfl, _, h1, hb⟩;rw [h1 (by rw [km2]; decide), km2];exact ⟨rfl, hb⟩
theorem kl_at (w : World) : ∀ k cap, k ≤ 2 → Labs (w.alloc (.cells #[.string ⟨#[97]⟩, .string ⟨#[120]⟩, .string ⟨#[99]⟩, .string ⟨#[122, 122]⟩] 48)).heap.size (w.alloc (.cells #[.string ⟨#[97]⟩, .string ⟨#[120]⟩, .string ⟨#[99]⟩, .string ⟨#[122, 122]⟩] 48)) (.slice (some ⟨w.heap.size, 0, none⟩) k cap) (kl.take k) := by
 intro k cap hk;have D := At.nw w [.string ⟨#[97]⟩, .string ⟨#[120]⟩, .string ⟨#[99]⟩, .string ⟨#[122, 122]⟩] 48;have hl : (kl.take k).length = k := by rw [List.length_take]; show min k 2 = k; omega
 refine .inr ⟨w.heap.size, 0, cap, by rw [hl], by simp, fun j y hj => ?_⟩;rw [List.getElem?_take] at hj;split at hj
 ·
  rcases j with _ | _ | j
  ·
   obtain rfl : (⟨([97], [120]), by unfold Short; decide⟩ : SLab) = y := by simpa [kl] using hj
   exact ⟨D.cell 0 _ rfl, D.cell 1 _ rfl⟩
  ·
   obtain rfl : (⟨([99], [122, 122]), by unfold Short; decide⟩ : SLab) = y := by simpa [kl] using hj
   exact ⟨D.cell 2 _ rfl, D.cell 3 _ rfl⟩
  ·
   simp [kl] at hj
 ·
  cases hj
set_option maxHeartbeats 4000000 in
theorem known_any (w : World) (hT : Tab w) : Calls Tryz.prog 6 #[] w fun e w' => e = .returned (.bool true) ∧ Below w.heap.size w w' := by
 have HT := Lib.hid (fun W (hW : Below w.heap.size w W) => hT.below hW);have K1 := Lib.hid (kp1 w hT);unfold kt at K1;clear hT;go_enter Tryz.func6, Tryz.ntmps6
 go_wp2_with fail
 refine (K1.out).mono ?_;rintro e w1 ⟨b, off, cap, rfl, hm, hc, hb⟩;have HM := Lib.hid hm;have HB := Lib.hid hb;have K2 := Lib.hid (kp2 w1 (HT.out _ hb));have HC := Lib.hid hc;have hlt := World.block_lt_of_cell? w1 ⟨b, off + 6 + 1, none⟩ hc;clear hm hb K1 hc;go_wp2_with fail
 refine (K2.out).mono ?_;rintro e w2 ⟨rfl, hb⟩;have hb2 := below_then hb (below_cells (.cells #[.string ⟨#[97]⟩, .string ⟨#[120]⟩, .string ⟨#[99]⟩, .string ⟨#[122, 122]⟩] 48));have c7 := (hb2.cell (p := ⟨b, off + 6 + 1, none⟩) hlt).trans HC.out;have HM2 := Lib.hid (HM.out.on hb2);have HB2 := Lib.hid (HB.out.trans (hb2.mono HB.out.size));have L2 := Lib.hid (kl_at w2 2 2 (by decide));have L1 := Lib.hid (kl_at w2 1 2 (by decide));clear hb hb2 HM HB HC K2;have hv : ∀ y ∈ kl, y.1.2.length ≤ 1000 := by decide
 have hv1 : ∀ y ∈ kl.take 1, y.1.2.length ≤ 1000 := by decide
 have HH := Lib.hid (fun W (hW : Below (w2.alloc (.cells #[.string ⟨#[97]⟩, .string ⟨#[120]⟩, .string ⟨#[99]⟩, .string ⟨#[122, 122]⟩] 48)).heap.size (w2.alloc (.cells #[.string ⟨#[97]⟩, .string ⟨#[120]⟩, .string ⟨#[99]⟩, .string ⟨#[122, 122]⟩] 48)) W) => mholds_any _ kz (by decide) _ _ _ kl (by decide) hv W (HT.out W (HB2.out.trans (hW.mono HB2.out.size))) (HM2.out.on hW) (labs_on L2.out hW));have HG := Lib.hid (fun W (hW : Below (w2.alloc (.cells #[.string ⟨#[97]⟩, .string ⟨#[120]⟩, .string ⟨#[99]⟩, .string ⟨#[122, 122]⟩] 48)).heap.size (w2.alloc (.cells #[.string ⟨#[97]⟩, .string ⟨#[120]⟩, .string ⟨#[99]⟩, .string ⟨#[122, 122]⟩] 48)) W) => mholds_any _ kz (by decide) _ _ _ (kl.take 1) (by decide) hv1 W (HT.out W (HB2.out.trans (hW.mono HB2.out.size))) (HM2.out.on hW) (labs_on L1.out hW));have HX := Lib.hid (fun W (hW : Below (w2.alloc (.cells #[.string ⟨#[97]⟩, .string ⟨#[120]⟩, .string ⟨#[99]⟩, .string ⟨#[122, 122]⟩] 48)).heap.size (w2.alloc (.cells #[.string ⟨#[97]⟩, .string ⟨#[120]⟩, .string ⟨#[99]⟩, .string ⟨#[122, 122]⟩] 48)) W) => mtext_any _ kz (by decide) W (HM2.out.on hW));have HK := Lib.hid (fun W (hW : Below (w2.alloc (.cells #[.string ⟨#[97]⟩, .string ⟨#[120]⟩, .string ⟨#[99]⟩, .string ⟨#[122, 122]⟩] 48)).heap.size (w2.alloc (.cells #[.string ⟨#[97]⟩, .string ⟨#[120]⟩, .string ⟨#[99]⟩, .string ⟨#[122, 122]⟩] 48)) W) => mcheckL_any _ kz (by decide) W (HT.out W (HB2.out.trans (hW.mono HB2.out.size))) (HM2.out.on hW));rw [kh1] at HH;rw [kh2] at HG;rw [kx1] at HX;rw [kc1] at HK;unfold kt at HX;have teq : ((⟨#[123, 97, 61, 34, 120, 34, 44, 98, 33, 61, 34, 121, 34, 44, 99, 61, 126, 34, 122, 46, 42, 34, 44, 100, 33, 126, 34, 113, 34, 125]⟩ : ByteArray) == ⟨#[123, 97, 61, 34, 120, 34, 44, 98, 33, 61, 34, 121, 34, 44, 99, 61, 126, 34, 122, 46, 42, 34, 44, 100, 33, 126, 34, 113, 34, 125]⟩) = true := by decide
 have oeq : ((⟨#[61, 126]⟩ : ByteArray) == ⟨#[61, 126]⟩) = true := by decide
 clear hv hv1 L1 L2 HM2;have HN := Lib.hid (fun W (hW : Below w.heap.size w W) => mholds_any (.slice none 0 0) [] (by decide) none 0 0 [] (by decide) (fun y hy => by cases hy) W (HT.out W hW) (.inl ⟨⟨none, 0, rfl⟩, rfl⟩) (.inl ⟨⟨none, 0, rfl⟩, rfl⟩));have HQ := Lib.hid (fun W (hW : Below w.heap.size w W) => mcheckL_any _ [kq] (by decide) _ (HT.out _ (below_new hW _)) (kq_at W));rw [show holdsR [] [] = true from rfl] at HN;rw [kc2] at HQ;go_wp2_with fail
 refine (HH.out _ (Below.refl _ _)).mono ?_;rintro e w3 ⟨rfl, hb3⟩;clear HH c7;go_wp2_with fail
 refine (HG.out _ hb3).mono ?_;rintro e w4 ⟨rfl, hb⟩;have hb4 := below_then hb3 hb;clear hb hb3 HG;go_wp2_with fail
 refine (HX.out _ hb4).mono ?_;rintro e w5 ⟨rfl, hb⟩;have hb5 := below_then hb4 hb;clear hb hb4 HX;go_wp2_with fail
 refine (HK.out _ hb5).mono ?_;rintro e w6 ⟨rfl, hb⟩;have hb6 := below_then hb5 hb;have hB6 := HB2.out.trans (hb6.mono HB2.out.size);clear hb hb5 hb6 HK HB2;have N6 := Lib.hid (HN.out _ hB6);have HB6 := Lib.hid hB6;clear hB6 HN;go_wp2_with fail
 refine (N6.out).mono ?_;rintro e w7 ⟨rfl, hb⟩;have HB7 := Lib.hid (HB6.out.trans (hb.mono HB6.out.size));have Q7 := Lib.hid (HQ.out _ HB7.out);clear hb HB6 N6 HQ;go_wp2_with fail
 refine (Q7.out).mono ?_;rintro e w8 ⟨rfl, hb⟩;have HB8 := Lib.hid ((below_new HB7.out _).trans (hb.mono (below_new HB7.out _).size));clear hb;go_wp2
 go_ret
 exact ⟨rfl, HB8.out⟩
end Go.Proofs.YthdoniefjmphaaaGreatDoor
