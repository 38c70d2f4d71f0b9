/- belfrylaw16.QueuePlays: it answers true. -/
import Derived.Test.YtdgjcahgoilahaaPl
import Derived.BigQuiet
import Derived.Deep.QuietTactic
import Derived.Deep.RegionHeld3
namespace Go.Proofs.Ytdgjcahgoilahaa
open Go Go.Proofs Go.RowKit Go.Shelf
set_option maxRecDepth 100000
attribute [local go_sem] Oper.semAt_some
namespace LawQueuePlays
set_option maxHeartbeats 16000000 in
theorem any (most : Int) (a : Option Addr) (cap : Nat) (L : List (Int × List UInt8)) (w : World) (hmost : -9223372036854775808 ≤ most ∧ most ≤ 9223372036854775807) (hL : Aqs w (.slice a L.length cap) L) :
    Calls Try.prog 3 #[.int .i64 most, .slice a L.length cap] w fun e w' => e = .returned (.bool true) ∧ Below w.heap.size w w' := by
  have KN := Lib.hid (known_any w)
  have NW := Lib.hid (fun u => newS_any most u)
  have HL := Lib.hid hL
  clear hL
  by_cases h100 : L.length ≤ 100
  rotate_left
  · have q0 : (100 : Int) < (L.length : Int) := by omega
    go_enter Try.func3, Try.ntmps3
    go_wp2_with fail
    refine KN.out.mono ?_
    rintro e w1 ⟨rfl, hb1⟩
    go_wp2
    go_ret
    exact ⟨rfl, hb1⟩
  have q0 : ¬ (100 : Int) < (L.length : Int) := by omega
  by_cases g1 : 1 ≤ most
  rotate_left
  · have g1' : most < 1 := by omega
    have g3 : ¬ 1 ≤ most := by omega
    go_enter Try.func3, Try.ntmps3
    go_wp2_with fail
    refine KN.out.mono ?_
    rintro e w1 ⟨rfl, hb1⟩
    go_wp2_with fail
    refine (NW.out _).mono ?_
    rintro e w2 (⟨hn, -⟩ | ⟨-, rfl, rfl⟩)
    · exact absurd hn.1 (by omega)
    go_wp2
    go_ret
    exact ⟨rfl, hb1⟩
  by_cases g2 : most ≤ 1024
  rotate_left
  · have dq : decide (most ≤ 1024) = false := by simpa using g2
    clear g2
    go_enter Try.func3, Try.ntmps3
    go_wp2_with fail
    refine KN.out.mono ?_
    rintro e w1 ⟨rfl, hb1⟩
    go_wp2_with fail
    refine (NW.out _).mono ?_
    rintro e w2 (⟨hn, -⟩ | ⟨-, rfl, rfl⟩)
    · have := hn.2
      simp at dq
      omega
    go_wp2
    go_ret
    exact ⟨rfl, hb1⟩
  obtain ⟨m, rfl⟩ := Int.eq_ofNat_of_zero_le (show 0 ≤ most by omega)
  have HM : Hid (1 ≤ m ∧ m ≤ 1024) := by show _ ∧ _; omega
  go_enter Try.func3, Try.ntmps3
  go_wp2_with fail
  refine KN.out.mono ?_
  rintro e w1 ⟨rfl, hb1⟩
  have HB := Lib.hid hb1
  clear hb1
  go_wp2_with fail
  refine (NW.out _).mono ?_
  rintro e w2 (⟨-, rfl, hQ, hb⟩ | ⟨hn, -⟩)
  rotate_left
  · exact absurd ⟨g1, g2⟩ hn
  rw [show ((m : Int)).toNat = m by omega] at hQ
  have HS : Hid (PlS w1.heap.size w1.heap.size m w2 (.slice none 0 0) none [] (.slice none 0 0) none []) := ⟨hQ, .inl ⟨rfl, rfl, rfl⟩, by simp⟩
  have HB2 := Lib.hid (below_then HB.out hb)
  have hbw : w.heap.size ≤ w1.heap.size := HB.out.size
  clear hQ hb HB NW KN q0
  go_wp2
  clear g1 g2
  go_loopw [8, 9, 10, 11, 12, 13, 14, 15, 16] (fun lv i _ _ _ _ _ _ _ wr => ∃ (k : Nat) (v : Value) (o p : Option Nat) (X : List (List UInt8)) (la : Option Addr) (lc : Nat), i = .int .i64 (k : Int) ∧ k ≤ L.length ∧ lv = .slice la X.length lc ∧ X.length ≤ k ∧ PlS w1.heap.size w1.heap.size m wr v o X (.slice la X.length lc) p X ∧ Below w.heap.size w wr) (fun _ i _ _ _ _ _ _ _ _ => L.length - (intOf i).toNat)
  case atStart => exact ⟨0, _, _, _, [], none, 0, rfl, Nat.zero_le _, rfl, Nat.le_refl _, HS.out, HB2.out⟩
  case round =>
    obtain ⟨k, v, o, p, X, la, lc, rfl, hk, rfl, hXk, hS, hB⟩ := hrel
    by_cases hlt : k < L.length
    rotate_left
    · obtain rfl : k = L.length := by omega
      have HB := Lib.hid hB
      clear hk hlt hB hS HB2 HS
      go_wp2
      go_ret
      exact ⟨rfl, HB.out⟩
    obtain ⟨⟨op, s⟩, hx⟩ : ∃ x, L[k]? = some x := ⟨_, List.getElem?_eq_getElem hlt⟩
    obtain ⟨b, off, rfl, hb, hcs⟩ := HL.out.at hx
    obtain ⟨c0, c1⟩ := hcs wr hB
    have h0k : (0 : Int) ≤ (k : Int) := by omega
    have h1k : (k : Int) < (L.length : Int) := by omega
    have hw1 : wrap64 ((k : Int) + 1) = (k : Int) + 1 := by rw [wr64] <;> omega
    have HC := Lib.hid hcs
    have HJ := Lib.hid hlt
    have HB := Lib.hid hB
    have HXk := Lib.hid hXk
    have HX1 : Hid (X.length ≤ 100) := by show _ ≤ _; omega
    clear hB hx hk hlt hcs hXk HB2 HS
    by_cases hs : s.length ≤ 100
    rotate_left
    · have hs1 : (100 : Int) < (s.length : Int) := by omega
      clear hs
      go_wp2
      go_ret
      exact ⟨rfl, HB.out⟩
    have hs1 : ¬ (100 : Int) < (s.length : Int) := by omega
    clear hs
    dsimp only at c0 c1
    by_cases h1 : op = 1
    · subst h1
      by_cases hf : X.length < m
      ·
        as_aux_lemma =>
          have hfi : ¬ (m : Int) ≤ (X.length : Int) := by omega
          have hfn : (X.length : Int) < (m : Int) := by omega
          have C := Lib.hid (hS.put_ok s hf)
          have HS := Lib.hid hS
          clear hS hf
          go_wp2_with fail
          refine C.out.mono ?_
          rintro e w3 ⟨v3, o3, rfl, hS3, hb3⟩
          have HB3 := Lib.hid (HB.out.trans (hb3.mono hbw))
          have HS3 := Lib.hid hS3
          clear hb3 hS3
          go_wp2_with fail
          refine wp_region_held_drew (S := fun u => Below w3.heap.size w3 u) (by kernel_rfl) (Below.refl _ _).drew (fun hS => ?_)
          refine tkH 1 hS ?_
          refine tkH 3 hS ?_
          refine tkH 4 hS ?_
          refine tkH 5 hS ?_
          refine tkH 6 hS ?_
          refine tkC 7 (C := fun u => u.cell? ⟨b, off + k * 2 + 1, none⟩ = some (.string ⟨s.toArray⟩)) hS (fun u h => (HC.out u (below_then HB3.out h)).2) ?_
          refine anyH_2 0 8 (fun K hK => ?_) (fun K hK => ?_)
          · go_simp
            have hb1 : Below w3.heap.size w3 (w3.alloc (.cells #[] 9)).drew := (below_cells _).drew
            refine hK.out _ _ hb1 (fun hS => ?_)
            clear hK K
            refine anyH_2 2 8 (fun K hK => ?_) (fun K hK => ?_)
            · obtain ⟨v4, o4, w4, hr4, hq4, hb4⟩ := HS3.out.copy (hb := w3.heap.size) hb1 (heap_alloc_new w3 _) (Nat.le_refl _) (by have := HX1.out; omega)
              have HR4 := Lib.hid hr4
              have hb40 : Below w3.heap.size w3 w4 := hb1.trans (hb4.mono hb1.size)
              refine Go.Lib.wp_append_run _ _ _ _ _ rfl _ _ rfl rfl _ _ (HR4.out _) ?_
              refine hK.out _ _ hb40 (fun hS => ?_)
              clear hK K hr4 hb4 hb1
              refine anyH_1 8 (fun K hK => ?_)
              go_simp
              have hb5 : Below w3.heap.size w3 (w4.alloc (.cells #[.string ⟨s.toArray⟩] 9)) := hb40.alloc hb40.size _
              refine hK.out _ _ hb5 (fun hS => ?_)
              clear hK K
              obtain ⟨Z, l2, c2, o2, wE, hZ, hrE, hqE, hbE0⟩ := row_more (C := w3.heap.size) (c := w4.heap.size) (u := w4.alloc (.cells #[.string ⟨s.toArray⟩] 9)) (hq4.keep (fun g e => (below_cells (w := w4) _).block g (hq4.lt e).2.1)) s ((At.nw w4 [.string ⟨s.toArray⟩] 9).cell 0 _ rfl) (by have := HX1.out; omega) hb5.size
              have HRE := Lib.hid hrE
              have hbE : Below w3.heap.size w3 wE := Below.trans hb5 hbE0
              refine anyH_1 9 (fun K hK => ?_)
              refine Go.Lib.wp_append_run _ _ _ _ _ rfl _ _ rfl rfl _ _ (HRE.out _) ?_
              refine hK.out _ _ hbE (fun hS => ?_)
              have HX0 := Lib.hid hbE
              clear hK K hrE hbE0
              clear hb5 hb40 hq4
              have HP : Hid (PlS w1.heap.size w1.heap.size m wE v3 o3 Z (.slice l2 Z.length c2) o2 Z) := by
                have h := HS3.out.newR hbE hqE
                rw [← hZ.out] at h
                exact h
              have HBE := Lib.hid (HB3.out.trans (hbE.mono HB3.out.size))
              clear hbE hqE hS
              refine tkH 10 HX0.out ?_
              refine wpAnyH_done (by kernel_rfl) ?_ _
              have HZL : Hid (Z.length ≤ k + 1) := by have := HXk.out; have e := congrArg List.length hZ.out; rw [List.length_append] at e; simp at e; show _ ≤ _; omega
              clear HX0
              go_wp2_with fail
              have hS4 := HP.out
              have CA := Lib.hid (allS_any hS4.Q)
              refine CA.out.mono ?_
              rintro e wA ⟨r, rfl, hr, hbA⟩
              have hSA := hS4.below hbA
              have HBA := Lib.hid (HBE.out.trans (hbA.mono HBE.out.size))
              have HR := Lib.hid hr
              have CH := Lib.hid (headS_any hSA.Q)
              have HSA := Lib.hid hSA
              have HLN : Hid (Z.length ≤ k + 1) := by exact HZL.out
              have HZ1 : Hid (Z.length ≤ 1024) := by have h := hSA.Q.few; rw [List.length_map] at h; have := HM.out; show _ ≤ _; omega
              obtain ⟨ra, rc, rfl⟩ : ∃ ra rc, r = .slice ra Z.length rc := by
                rcases hr.2 with ⟨rfl, h0⟩ | ⟨g, cap, cur, rfl, _⟩
                · rw [h0]; exact ⟨_, _, rfl⟩
                · exact ⟨_, _, rfl⟩
              clear hr hSA hbA CA
              go_wp2_with fail
              refine CH.out.mono ?_
              rintro e wH ⟨rfl, hbH⟩
              have hSH := HSA.out.below hbH
              have HBH := Lib.hid (HBA.out.trans (hbH.mono HBA.out.size))
              have hro : Hid (wH.ownsRow wA.heap.size 9 1 (.slice ra Z.length rc) Z.length (Z.map qES) ∨ True) := .inr trivial
              have HRH := Lib.hid (own_below' HR.out hbH)
              have CL := Lib.hid (lenS_any hSH.Q)
              have HSH := Lib.hid hSH
              clear HR HSA CH hro hbH
              cases Z with
              | nil =>
                clear hSH
                go_wp2_with fail
                refine CL.out.mono ?_
                rintro e wL ⟨rfl, rfl⟩
                go_wp2
                go_loopw [16] (fun i wr => i = .int .i64 0 ∧ wr = wL) (fun _ _ => 0)
                case atStart => exact ⟨rfl, rfl⟩
                case round =>
                  obtain ⟨rfl, rfl⟩ := hrel
                  go_wp2
                  go_roundw
                  case rel => exact ⟨k + 1, _, _, _, [], _, _, by first | rfl | (rw [hw1]; rfl), HJ.out, rfl, HLN.out, HSH.out, HBH.out⟩
                  case measure => first | exact meas16 HJ.out | (rw [hw1]; exact meas16 HJ.out)
              | cons z zs =>
                obtain ⟨gl, ol, hgl, hcl⟩ := hSH.cell (j := 0) (x := z) rfl
                first
                  | subst hgl
                  | (injection hgl with hgl
                     injection hgl with e1 e2
                     subst e1 e2)
                have hcl0 := hcl _ (Below.refl _ _)
                rw [Nat.add_zero] at hcl0
                have hcd : hdS (z :: zs) = .string ⟨z.toArray⟩ := rfl
                have hpos : (0 : Int) < ((zs.length + 1 : Nat) : Int) := by omega
                have hle : (((z :: zs).length : Nat) : Int) = ((zs.length + 1 : Nat) : Int) := rfl
                clear hSH hcl
                rw [hcd]
                generalize hT : z :: zs = TT at *
                have hTl : zs.length + 1 = TT.length := by rw [← hT]; rfl
                have hTe : TT.isEmpty = false := by rw [← hT]; rfl
                have hTp : (0 : Int) < (TT.length : Int) := by omega
                have hTn : ¬ ((TT.length : Int) ≤ 0) := by omega
                clear hle hcd hpos hTl hT
                go_wp2_with fail
                refine CL.out.mono ?_
                rintro e wL ⟨rfl, rfl⟩
                go_wp2
                go_loopw [16] (fun i wr => ∃ j : Nat, i = .int .i64 (j : Int) ∧ j ≤ TT.length ∧ Below wL.heap.size wL wr) (fun i _ => TT.length - (intOf i).toNat)
                case atStart => exact ⟨0, rfl, Nat.zero_le _, Below.refl _ _⟩
                case round =>
                  obtain ⟨j, rfl, hj, hW⟩ := hrel
                  by_cases hjl : j < TT.length
                  · obtain ⟨y, hy⟩ : ∃ y, TT[j]? = some y := ⟨_, List.getElem?_eq_getElem hjl⟩
                    obtain ⟨gl', ol', e1, hcl⟩ := HSH.out.cell hy
                    injection e1 with e1
                    injection e1 with e1 e2
                    subst e1 e2
                    have d0 := hcl _ hW
                    obtain ⟨g, cp, e⟩ := own_some1 HRH.out (by omega)
                    injection e with e1 _ e3
                    subst e1 e3
                    have d1 : wr.cell? ⟨g, j, none⟩ = some (.string ⟨y.toArray⟩) := by
                      have := World.ownsRow.cells HRH.out (g := g) rfl j (qES y) (by rw [List.getElem?_map, hy]; rfl)
                      rw [Addr.add_lit, Nat.zero_add] at this
                      exact (hW.cell (p := ⟨g, j, none⟩) (World.ownsRow.lt HRH.out g rfl).2).trans this
                    have j1 : (j : Int) < (TT.length : Int) := by omega
                    have j0 : (0 : Int) ≤ (j : Int) := by omega
                    have jw : wrap64 ((j : Int) + 1) = (j : Int) + 1 := by have := HZ1.out; rw [wr64] <;> omega
                    have HJ2 := Lib.hid hjl
                    have HW := Lib.hid hW
                    clear hj hjl hy hcl hW
                    go_wp2
                    go_quiet (fail)
                    all_goals go_wp2
                    all_goals go_roundw
                    all_goals first
                      | exact ⟨j + 1, by first | rfl | (rw [jw]; rfl), HJ2.out, ⟨HW.out.os, HW.out.tape, HW.out.output, HW.out.size, HW.out.block⟩⟩
                      | exact meas16 HJ2.out
                      | (rw [jw]; exact meas16 HJ2.out)
                  · obtain rfl : j = TT.length := by omega
                    have HW := Lib.hid hW
                    have j1 : ¬ (TT.length : Int) < (TT.length : Int) := by omega
                    clear hj hjl hW
                    go_wp2
                    go_roundw
                    case rel => exact ⟨k + 1, _, _, _, TT, _, _, by first | rfl | (rw [hw1]; rfl), HJ.out, rfl, HLN.out, HSH.out.below HW.out, HBH.out.trans (HW.out.mono HBH.out.size)⟩
                    case measure => first | exact meas16 HJ.out | (rw [hw1]; exact meas16 HJ.out)

            · go_simp
              have hb2 : Below w3.heap.size w3 ((w3.alloc (.cells #[] 9)).drew.alloc (.cells #[.string ⟨s.toArray⟩] 9)) := hb1.alloc hb1.size _
              refine hK.out _ _ hb2 (fun hS => ?_)
              clear hK K
              obtain ⟨v4, o4, w4, hr4, hq4, hb4⟩ := HS3.out.copy (hb := w3.heap.size) hb2 ((Below.heap_alloc _ _ _ (by simp)).trans (heap_alloc_new w3 _)) (Nat.le_refl _) (by have := HX1.out; omega)
              have hc8 : w4.cell? ⟨w3.heap.size + 1, 0, none⟩ = some (.string ⟨s.toArray⟩) := by
                have h := (At.nw (w3.alloc (.cells #[] 9)).drew [.string ⟨s.toArray⟩] 9)
                have h2 := (h.below hb4).cell 0 _ rfl
                simpa using h2
              have HR4 := Lib.hid hr4
              have hb40 : Below w3.heap.size w3 w4 := hb2.trans (hb4.mono hb2.size)
              refine anyH_1 2 (fun K hK => ?_)
              refine Go.Lib.wp_append_run _ _ _ _ _ rfl _ _ rfl rfl _ _ (HR4.out _) ?_
              refine hK.out _ _ hb40 (fun hS => ?_)
              clear hK K hr4 hb4 hb1 hb2
              obtain ⟨Z, l2, c2, o2, wE, hZ, hrE, hqE, hbE0⟩ := row_more (C := w3.heap.size) (c := w3.heap.size + 1) (u := w4) hq4 s hc8 (by have := HX1.out; omega) hb40.size
              have HRE := Lib.hid hrE
              have hbE : Below w3.heap.size w3 wE := Below.trans hb40 hbE0
              refine anyH_1 9 (fun K hK => ?_)
              refine Go.Lib.wp_append_run _ _ _ _ _ rfl _ _ rfl rfl _ _ (HRE.out _) ?_
              refine hK.out _ _ hbE (fun hS => ?_)
              have HX0 := Lib.hid hbE
              clear hK K hrE hbE0
              clear hb40 hq4 hc8
              have HP : Hid (PlS w1.heap.size w1.heap.size m wE v3 o3 Z (.slice l2 Z.length c2) o2 Z) := by
                have h := HS3.out.newR hbE hqE
                rw [← hZ.out] at h
                exact h
              have HBE := Lib.hid (HB3.out.trans (hbE.mono HB3.out.size))
              clear hbE hqE hS
              refine tkH 10 HX0.out ?_
              refine wpAnyH_done (by kernel_rfl) ?_ _
              have HZL : Hid (Z.length ≤ k + 1) := by have := HXk.out; have e := congrArg List.length hZ.out; rw [List.length_append] at e; simp at e; show _ ≤ _; omega
              clear HX0
              go_wp2_with fail
              have hS4 := HP.out
              have CA := Lib.hid (allS_any hS4.Q)
              refine CA.out.mono ?_
              rintro e wA ⟨r, rfl, hr, hbA⟩
              have hSA := hS4.below hbA
              have HBA := Lib.hid (HBE.out.trans (hbA.mono HBE.out.size))
              have HR := Lib.hid hr
              have CH := Lib.hid (headS_any hSA.Q)
              have HSA := Lib.hid hSA
              have HLN : Hid (Z.length ≤ k + 1) := by exact HZL.out
              have HZ1 : Hid (Z.length ≤ 1024) := by have h := hSA.Q.few; rw [List.length_map] at h; have := HM.out; show _ ≤ _; omega
              obtain ⟨ra, rc, rfl⟩ : ∃ ra rc, r = .slice ra Z.length rc := by
                rcases hr.2 with ⟨rfl, h0⟩ | ⟨g, cap, cur, rfl, _⟩
                · rw [h0]; exact ⟨_, _, rfl⟩
                · exact ⟨_, _, rfl⟩
              clear hr hSA hbA CA
              go_wp2_with fail
              refine CH.out.mono ?_
              rintro e wH ⟨rfl, hbH⟩
              have hSH := HSA.out.below hbH
              have HBH := Lib.hid (HBA.out.trans (hbH.mono HBA.out.size))
              have hro : Hid (wH.ownsRow wA.heap.size 9 1 (.slice ra Z.length rc) Z.length (Z.map qES) ∨ True) := .inr trivial
              have HRH := Lib.hid (own_below' HR.out hbH)
              have CL := Lib.hid (lenS_any hSH.Q)
              have HSH := Lib.hid hSH
              clear HR HSA CH hro hbH
              cases Z with
              | nil =>
                clear hSH
                go_wp2_with fail
                refine CL.out.mono ?_
                rintro e wL ⟨rfl, rfl⟩
                go_wp2
                go_loopw [16] (fun i wr => i = .int .i64 0 ∧ wr = wL) (fun _ _ => 0)
                case atStart => exact ⟨rfl, rfl⟩
                case round =>
                  obtain ⟨rfl, rfl⟩ := hrel
                  go_wp2
                  go_roundw
                  case rel => exact ⟨k + 1, _, _, _, [], _, _, by first | rfl | (rw [hw1]; rfl), HJ.out, rfl, HLN.out, HSH.out, HBH.out⟩
                  case measure => first | exact meas16 HJ.out | (rw [hw1]; exact meas16 HJ.out)
              | cons z zs =>
                obtain ⟨gl, ol, hgl, hcl⟩ := hSH.cell (j := 0) (x := z) rfl
                first
                  | subst hgl
                  | (injection hgl with hgl
                     injection hgl with e1 e2
                     subst e1 e2)
                have hcl0 := hcl _ (Below.refl _ _)
                rw [Nat.add_zero] at hcl0
                have hcd : hdS (z :: zs) = .string ⟨z.toArray⟩ := rfl
                have hpos : (0 : Int) < ((zs.length + 1 : Nat) : Int) := by omega
                have hle : (((z :: zs).length : Nat) : Int) = ((zs.length + 1 : Nat) : Int) := rfl
                clear hSH hcl
                rw [hcd]
                generalize hT : z :: zs = TT at *
                have hTl : zs.length + 1 = TT.length := by rw [← hT]; rfl
                have hTe : TT.isEmpty = false := by rw [← hT]; rfl
                have hTp : (0 : Int) < (TT.length : Int) := by omega
                have hTn : ¬ ((TT.length : Int) ≤ 0) := by omega
                clear hle hcd hpos hTl hT
                go_wp2_with fail
                refine CL.out.mono ?_
                rintro e wL ⟨rfl, rfl⟩
                go_wp2
                go_loopw [16] (fun i wr => ∃ j : Nat, i = .int .i64 (j : Int) ∧ j ≤ TT.length ∧ Below wL.heap.size wL wr) (fun i _ => TT.length - (intOf i).toNat)
                case atStart => exact ⟨0, rfl, Nat.zero_le _, Below.refl _ _⟩
                case round =>
                  obtain ⟨j, rfl, hj, hW⟩ := hrel
                  by_cases hjl : j < TT.length
                  · obtain ⟨y, hy⟩ : ∃ y, TT[j]? = some y := ⟨_, List.getElem?_eq_getElem hjl⟩
                    obtain ⟨gl', ol', e1, hcl⟩ := HSH.out.cell hy
                    injection e1 with e1
                    injection e1 with e1 e2
                    subst e1 e2
                    have d0 := hcl _ hW
                    obtain ⟨g, cp, e⟩ := own_some1 HRH.out (by omega)
                    injection e with e1 _ e3
                    subst e1 e3
                    have d1 : wr.cell? ⟨g, j, none⟩ = some (.string ⟨y.toArray⟩) := by
                      have := World.ownsRow.cells HRH.out (g := g) rfl j (qES y) (by rw [List.getElem?_map, hy]; rfl)
                      rw [Addr.add_lit, Nat.zero_add] at this
                      exact (hW.cell (p := ⟨g, j, none⟩) (World.ownsRow.lt HRH.out g rfl).2).trans this
                    have j1 : (j : Int) < (TT.length : Int) := by omega
                    have j0 : (0 : Int) ≤ (j : Int) := by omega
                    have jw : wrap64 ((j : Int) + 1) = (j : Int) + 1 := by have := HZ1.out; rw [wr64] <;> omega
                    have HJ2 := Lib.hid hjl
                    have HW := Lib.hid hW
                    clear hj hjl hy hcl hW
                    go_wp2
                    go_quiet (fail)
                    all_goals go_wp2
                    all_goals go_roundw
                    all_goals first
                      | exact ⟨j + 1, by first | rfl | (rw [jw]; rfl), HJ2.out, ⟨HW.out.os, HW.out.tape, HW.out.output, HW.out.size, HW.out.block⟩⟩
                      | exact meas16 HJ2.out
                      | (rw [jw]; exact meas16 HJ2.out)
                  · obtain rfl : j = TT.length := by omega
                    have HW := Lib.hid hW
                    have j1 : ¬ (TT.length : Int) < (TT.length : Int) := by omega
                    clear hj hjl hW
                    go_wp2
                    go_roundw
                    case rel => exact ⟨k + 1, _, _, _, TT, _, _, by first | rfl | (rw [hw1]; rfl), HJ.out, rfl, HLN.out, HSH.out.below HW.out, HBH.out.trans (HW.out.mono HBH.out.size)⟩
                    case measure => first | exact meas16 HJ.out | (rw [hw1]; exact meas16 HJ.out)
          · go_simp
            have hb1 : Below w3.heap.size w3 (w3.alloc (.cells #[.string ⟨s.toArray⟩] 9)).drew := (below_cells _).drew
            refine hK.out _ _ hb1 (fun hS => ?_)
            clear hK K
            refine anyH_1 0 (fun K hK => ?_)
            go_simp
            have hb2 : Below w3.heap.size w3 ((w3.alloc (.cells #[.string ⟨s.toArray⟩] 9)).drew.alloc (.cells #[] 9)) := hb1.alloc hb1.size _
            refine hK.out _ _ hb2 (fun hS => ?_)
            clear hK K
            obtain ⟨v4, o4, w4, hr4, hq4, hb4⟩ := HS3.out.copy (hb := w3.heap.size + 1) hb2 (by
              have h := heap_alloc_new (w3.alloc (.cells #[.string ⟨s.toArray⟩] 9)).drew (.cells #[] 9)
              simpa using h) (by omega) (by have := HX1.out; omega)
            have hc8 : w4.cell? ⟨w3.heap.size, 0, none⟩ = some (.string ⟨s.toArray⟩) := by
              have h := (At.nw w3 [.string ⟨s.toArray⟩] 9)
              exact ((h.drew.alloc (.cells #[] 9)).below hb4).cell 0 _ rfl
            have HR4 := Lib.hid hr4
            have hb40 : Below w3.heap.size w3 w4 := hb2.trans (hb4.mono hb2.size)
            refine anyH_1 2 (fun K hK => ?_)
            refine Go.Lib.wp_append_run _ _ _ _ _ rfl _ _ rfl rfl _ _ (HR4.out _) ?_
            refine hK.out _ _ hb40 (fun hS => ?_)
            clear hK K hr4 hb4 hb1 hb2
            obtain ⟨Z, l2, c2, o2, wE, hZ, hrE, hqE, hbE0⟩ := row_more (C := w3.heap.size) (c := w3.heap.size) (u := w4) hq4 s hc8 (by have := HX1.out; omega) hb40.size
            have HRE := Lib.hid hrE
            have hbE : Below w3.heap.size w3 wE := Below.trans hb40 hbE0
            refine anyH_1 9 (fun K hK => ?_)
            refine Go.Lib.wp_append_run _ _ _ _ _ rfl _ _ rfl rfl _ _ (HRE.out _) ?_
            refine hK.out _ _ hbE (fun hS => ?_)
            have HX0 := Lib.hid hbE
            clear hK K hrE hbE0
            clear hb40 hq4 hc8
            have HP : Hid (PlS w1.heap.size w1.heap.size m wE v3 o3 Z (.slice l2 Z.length c2) o2 Z) := by
              have h := HS3.out.newR hbE hqE
              rw [← hZ.out] at h
              exact h
            have HBE := Lib.hid (HB3.out.trans (hbE.mono HB3.out.size))
            clear hbE hqE hS
            refine tkH 10 HX0.out ?_
            refine wpAnyH_done (by kernel_rfl) ?_ _
            have HZL : Hid (Z.length ≤ k + 1) := by have := HXk.out; have e := congrArg List.length hZ.out; rw [List.length_append] at e; simp at e; show _ ≤ _; omega
            clear HX0
            go_wp2_with fail
            have hS4 := HP.out
            have CA := Lib.hid (allS_any hS4.Q)
            refine CA.out.mono ?_
            rintro e wA ⟨r, rfl, hr, hbA⟩
            have hSA := hS4.below hbA
            have HBA := Lib.hid (HBE.out.trans (hbA.mono HBE.out.size))
            have HR := Lib.hid hr
            have CH := Lib.hid (headS_any hSA.Q)
            have HSA := Lib.hid hSA
            have HLN : Hid (Z.length ≤ k + 1) := by exact HZL.out
            have HZ1 : Hid (Z.length ≤ 1024) := by have h := hSA.Q.few; rw [List.length_map] at h; have := HM.out; show _ ≤ _; omega
            obtain ⟨ra, rc, rfl⟩ : ∃ ra rc, r = .slice ra Z.length rc := by
              rcases hr.2 with ⟨rfl, h0⟩ | ⟨g, cap, cur, rfl, _⟩
              · rw [h0]; exact ⟨_, _, rfl⟩
              · exact ⟨_, _, rfl⟩
            clear hr hSA hbA CA
            go_wp2_with fail
            refine CH.out.mono ?_
            rintro e wH ⟨rfl, hbH⟩
            have hSH := HSA.out.below hbH
            have HBH := Lib.hid (HBA.out.trans (hbH.mono HBA.out.size))
            have hro : Hid (wH.ownsRow wA.heap.size 9 1 (.slice ra Z.length rc) Z.length (Z.map qES) ∨ True) := .inr trivial
            have HRH := Lib.hid (own_below' HR.out hbH)
            have CL := Lib.hid (lenS_any hSH.Q)
            have HSH := Lib.hid hSH
            clear HR HSA CH hro hbH
            cases Z with
            | nil =>
              clear hSH
              go_wp2_with fail
              refine CL.out.mono ?_
              rintro e wL ⟨rfl, rfl⟩
              go_wp2
              go_loopw [16] (fun i wr => i = .int .i64 0 ∧ wr = wL) (fun _ _ => 0)
              case atStart => exact ⟨rfl, rfl⟩
              case round =>
                obtain ⟨rfl, rfl⟩ := hrel
                go_wp2
                go_roundw
                case rel => exact ⟨k + 1, _, _, _, [], _, _, by first | rfl | (rw [hw1]; rfl), HJ.out, rfl, HLN.out, HSH.out, HBH.out⟩
                case measure => first | exact meas16 HJ.out | (rw [hw1]; exact meas16 HJ.out)
            | cons z zs =>
              obtain ⟨gl, ol, hgl, hcl⟩ := hSH.cell (j := 0) (x := z) rfl
              first
                | subst hgl
                | (injection hgl with hgl
                   injection hgl with e1 e2
                   subst e1 e2)
              have hcl0 := hcl _ (Below.refl _ _)
              rw [Nat.add_zero] at hcl0
              have hcd : hdS (z :: zs) = .string ⟨z.toArray⟩ := rfl
              have hpos : (0 : Int) < ((zs.length + 1 : Nat) : Int) := by omega
              have hle : (((z :: zs).length : Nat) : Int) = ((zs.length + 1 : Nat) : Int) := rfl
              clear hSH hcl
              rw [hcd]
              generalize hT : z :: zs = TT at *
              have hTl : zs.length + 1 = TT.length := by rw [← hT]; rfl
              have hTe : TT.isEmpty = false := by rw [← hT]; rfl
              have hTp : (0 : Int) < (TT.length : Int) := by omega
              have hTn : ¬ ((TT.length : Int) ≤ 0) := by omega
              clear hle hcd hpos hTl hT
              go_wp2_with fail
              refine CL.out.mono ?_
              rintro e wL ⟨rfl, rfl⟩
              go_wp2
              go_loopw [16] (fun i wr => ∃ j : Nat, i = .int .i64 (j : Int) ∧ j ≤ TT.length ∧ Below wL.heap.size wL wr) (fun i _ => TT.length - (intOf i).toNat)
              case atStart => exact ⟨0, rfl, Nat.zero_le _, Below.refl _ _⟩
              case round =>
                obtain ⟨j, rfl, hj, hW⟩ := hrel
                by_cases hjl : j < TT.length
                · obtain ⟨y, hy⟩ : ∃ y, TT[j]? = some y := ⟨_, List.getElem?_eq_getElem hjl⟩
                  obtain ⟨gl', ol', e1, hcl⟩ := HSH.out.cell hy
                  injection e1 with e1
                  injection e1 with e1 e2
                  subst e1 e2
                  have d0 := hcl _ hW
                  obtain ⟨g, cp, e⟩ := own_some1 HRH.out (by omega)
                  injection e with e1 _ e3
                  subst e1 e3
                  have d1 : wr.cell? ⟨g, j, none⟩ = some (.string ⟨y.toArray⟩) := by
                    have := World.ownsRow.cells HRH.out (g := g) rfl j (qES y) (by rw [List.getElem?_map, hy]; rfl)
                    rw [Addr.add_lit, Nat.zero_add] at this
                    exact (hW.cell (p := ⟨g, j, none⟩) (World.ownsRow.lt HRH.out g rfl).2).trans this
                  have j1 : (j : Int) < (TT.length : Int) := by omega
                  have j0 : (0 : Int) ≤ (j : Int) := by omega
                  have jw : wrap64 ((j : Int) + 1) = (j : Int) + 1 := by have := HZ1.out; rw [wr64] <;> omega
                  have HJ2 := Lib.hid hjl
                  have HW := Lib.hid hW
                  clear hj hjl hy hcl hW
                  go_wp2
                  go_quiet (fail)
                  all_goals go_wp2
                  all_goals go_roundw
                  all_goals first
                    | exact ⟨j + 1, by first | rfl | (rw [jw]; rfl), HJ2.out, ⟨HW.out.os, HW.out.tape, HW.out.output, HW.out.size, HW.out.block⟩⟩
                    | exact meas16 HJ2.out
                    | (rw [jw]; exact meas16 HJ2.out)
                · obtain rfl : j = TT.length := by omega
                  have HW := Lib.hid hW
                  have j1 : ¬ (TT.length : Int) < (TT.length : Int) := by omega
                  clear hj hjl hW
                  go_wp2
                  go_roundw
                  case rel => exact ⟨k + 1, _, _, _, TT, _, _, by first | rfl | (rw [hw1]; rfl), HJ.out, rfl, HLN.out, HSH.out.below HW.out, HBH.out.trans (HW.out.mono HBH.out.size)⟩
                  case measure => first | exact meas16 HJ.out | (rw [hw1]; exact meas16 HJ.out)
      ·
        as_aux_lemma =>
          have hfi : (m : Int) ≤ (X.length : Int) := by omega
          have hfn : ¬ (X.length : Int) < (m : Int) := by omega
          have C := Lib.hid (hS.put_no s hf)
          have HS := Lib.hid hS
          clear hS hf
          go_wp2_with fail
          refine C.out.mono ?_
          rintro e w3 ⟨v3, o3, rfl, hS3, hb3⟩
          have HB3 := Lib.hid (HB.out.trans (hb3.mono hbw))
          have HS3 := Lib.hid hS3
          clear hb3 hS3
          go_wp2_with fail
          have hS3 := HS3.out
          have CA := Lib.hid (allS_any hS3.Q)
          refine CA.out.mono ?_
          rintro e wA ⟨r, rfl, hr, hbA⟩
          have hSA := hS3.below hbA
          have HBA := Lib.hid (HB3.out.trans (hbA.mono HB3.out.size))
          have HR := Lib.hid hr
          have CH := Lib.hid (headS_any hSA.Q)
          have HSA := Lib.hid hSA
          have HLN : Hid (X.length ≤ k + 1) := by have := HXk.out; show _ ≤ _; omega
          have HZ1 : Hid (X.length ≤ 1024) := by have h := hSA.Q.few; rw [List.length_map] at h; have := HM.out; show _ ≤ _; omega
          obtain ⟨ra, rc, rfl⟩ : ∃ ra rc, r = .slice ra X.length rc := by
            rcases hr.2 with ⟨rfl, h0⟩ | ⟨g, cap, cur, rfl, _⟩
            · rw [h0]; exact ⟨_, _, rfl⟩
            · exact ⟨_, _, rfl⟩
          clear hr hSA hbA CA
          go_wp2_with fail
          refine CH.out.mono ?_
          rintro e wH ⟨rfl, hbH⟩
          have hSH := HSA.out.below hbH
          have HBH := Lib.hid (HBA.out.trans (hbH.mono HBA.out.size))
          have hro : Hid (wH.ownsRow wA.heap.size 9 1 (.slice ra X.length rc) X.length (X.map qES) ∨ True) := .inr trivial
          have HRH := Lib.hid (own_below' HR.out hbH)
          have CL := Lib.hid (lenS_any hSH.Q)
          have HSH := Lib.hid hSH
          clear HR HSA CH hro hbH
          cases X with
          | nil =>
            clear hSH
            go_wp2_with fail
            refine CL.out.mono ?_
            rintro e wL ⟨rfl, rfl⟩
            go_wp2
            go_loopw [16] (fun i wr => i = .int .i64 0 ∧ wr = wL) (fun _ _ => 0)
            case atStart => exact ⟨rfl, rfl⟩
            case round =>
              obtain ⟨rfl, rfl⟩ := hrel
              go_wp2
              go_roundw
              case rel => exact ⟨k + 1, _, _, _, [], _, _, by first | rfl | (rw [hw1]; rfl), HJ.out, rfl, HLN.out, HSH.out, HBH.out⟩
              case measure => first | exact meas16 HJ.out | (rw [hw1]; exact meas16 HJ.out)
          | cons z zs =>
            obtain ⟨gl, ol, hgl, hcl⟩ := hSH.cell (j := 0) (x := z) rfl
            first
              | subst hgl
              | (injection hgl with hgl
                 injection hgl with e1 e2
                 subst e1 e2)
            have hcl0 := hcl _ (Below.refl _ _)
            rw [Nat.add_zero] at hcl0
            have hcd : hdS (z :: zs) = .string ⟨z.toArray⟩ := rfl
            have hpos : (0 : Int) < ((zs.length + 1 : Nat) : Int) := by omega
            have hle : (((z :: zs).length : Nat) : Int) = ((zs.length + 1 : Nat) : Int) := rfl
            clear hSH hcl
            rw [hcd]
            generalize hT : z :: zs = TT at *
            have hTl : zs.length + 1 = TT.length := by rw [← hT]; rfl
            have hTe : TT.isEmpty = false := by rw [← hT]; rfl
            have hTp : (0 : Int) < (TT.length : Int) := by omega
            have hTn : ¬ ((TT.length : Int) ≤ 0) := by omega
            clear hle hcd hpos hTl hT
            go_wp2_with fail
            refine CL.out.mono ?_
            rintro e wL ⟨rfl, rfl⟩
            go_wp2
            go_loopw [16] (fun i wr => ∃ j : Nat, i = .int .i64 (j : Int) ∧ j ≤ TT.length ∧ Below wL.heap.size wL wr) (fun i _ => TT.length - (intOf i).toNat)
            case atStart => exact ⟨0, rfl, Nat.zero_le _, Below.refl _ _⟩
            case round =>
              obtain ⟨j, rfl, hj, hW⟩ := hrel
              by_cases hjl : j < TT.length
              · obtain ⟨y, hy⟩ : ∃ y, TT[j]? = some y := ⟨_, List.getElem?_eq_getElem hjl⟩
                obtain ⟨gl', ol', e1, hcl⟩ := HSH.out.cell hy
                injection e1 with e1
                injection e1 with e1 e2
                subst e1 e2
                have d0 := hcl _ hW
                obtain ⟨g, cp, e⟩ := own_some1 HRH.out (by omega)
                injection e with e1 _ e3
                subst e1 e3
                have d1 : wr.cell? ⟨g, j, none⟩ = some (.string ⟨y.toArray⟩) := by
                  have := World.ownsRow.cells HRH.out (g := g) rfl j (qES y) (by rw [List.getElem?_map, hy]; rfl)
                  rw [Addr.add_lit, Nat.zero_add] at this
                  exact (hW.cell (p := ⟨g, j, none⟩) (World.ownsRow.lt HRH.out g rfl).2).trans this
                have j1 : (j : Int) < (TT.length : Int) := by omega
                have j0 : (0 : Int) ≤ (j : Int) := by omega
                have jw : wrap64 ((j : Int) + 1) = (j : Int) + 1 := by have := HZ1.out; rw [wr64] <;> omega
                have HJ2 := Lib.hid hjl
                have HW := Lib.hid hW
                clear hj hjl hy hcl hW
                go_wp2
                go_quiet (fail)
                all_goals go_wp2
                all_goals go_roundw
                all_goals first
                  | exact ⟨j + 1, by first | rfl | (rw [jw]; rfl), HJ2.out, ⟨HW.out.os, HW.out.tape, HW.out.output, HW.out.size, HW.out.block⟩⟩
                  | exact meas16 HJ2.out
                  | (rw [jw]; exact meas16 HJ2.out)
              · obtain rfl : j = TT.length := by omega
                have HW := Lib.hid hW
                have j1 : ¬ (TT.length : Int) < (TT.length : Int) := by omega
                clear hj hjl hW
                go_wp2
                go_roundw
                case rel => exact ⟨k + 1, _, _, _, TT, _, _, by first | rfl | (rw [hw1]; rfl), HJ.out, rfl, HLN.out, HSH.out.below HW.out, HBH.out.trans (HW.out.mono HBH.out.size)⟩
                case measure => first | exact meas16 HJ.out | (rw [hw1]; exact meas16 HJ.out)
    by_cases h2 : op = 2
    · subst h2
      cases X with
      | nil =>
        as_aux_lemma =>
          have C := Lib.hid hS.take_none
          have HS := Lib.hid hS
          clear hS
          go_wp2_with fail
          refine C.out.mono ?_
          rintro e w3 ⟨v3, o3, rfl, hS3, hb3⟩
          have HB3 := Lib.hid (HB.out.trans (hb3.mono hbw))
          have HS3 := Lib.hid hS3
          clear hb3 hS3
          go_wp2_with fail
          have hS3 := HS3.out
          have CA := Lib.hid (allS_any hS3.Q)
          refine CA.out.mono ?_
          rintro e wA ⟨r, rfl, hr, hbA⟩
          have hSA := hS3.below hbA
          have HBA := Lib.hid (HB3.out.trans (hbA.mono HB3.out.size))
          have HR := Lib.hid hr
          have CH := Lib.hid (headS_any hSA.Q)
          have HSA := Lib.hid hSA
          have HLN : Hid (([] : List (List UInt8)).length ≤ k + 1) := by show _ ≤ _; simp
          have HZ1 : Hid (([] : List (List UInt8)).length ≤ 1024) := by have h := hSA.Q.few; rw [List.length_map] at h; have := HM.out; show _ ≤ _; omega
          obtain ⟨ra, rc, rfl⟩ : ∃ ra rc, r = .slice ra ([] : List (List UInt8)).length rc := by
            rcases hr.2 with ⟨rfl, h0⟩ | ⟨g, cap, cur, rfl, _⟩
            · rw [h0]; exact ⟨_, _, rfl⟩
            · exact ⟨_, _, rfl⟩
          clear hr hSA hbA CA
          go_wp2_with fail
          refine CH.out.mono ?_
          rintro e wH ⟨rfl, hbH⟩
          have hSH := HSA.out.below hbH
          have HBH := Lib.hid (HBA.out.trans (hbH.mono HBA.out.size))
          have hro : Hid (wH.ownsRow wA.heap.size 9 1 (.slice ra ([] : List (List UInt8)).length rc) ([] : List (List UInt8)).length (([] : List (List UInt8)).map qES) ∨ True) := .inr trivial
          have HRH := Lib.hid (own_below' HR.out hbH)
          have CL := Lib.hid (lenS_any hSH.Q)
          have HSH := Lib.hid hSH
          clear HR HSA CH hro hbH
          clear hSH
          go_wp2_with fail
          refine CL.out.mono ?_
          rintro e wL ⟨rfl, rfl⟩
          go_wp2
          go_loopw [16] (fun i wr => i = .int .i64 0 ∧ wr = wL) (fun _ _ => 0)
          case atStart => exact ⟨rfl, rfl⟩
          case round =>
            obtain ⟨rfl, rfl⟩ := hrel
            go_wp2
            go_roundw
            case rel => exact ⟨k + 1, _, _, _, [], _, _, by first | rfl | (rw [hw1]; rfl), HJ.out, rfl, HLN.out, HSH.out, HBH.out⟩
            case measure => first | exact meas16 HJ.out | (rw [hw1]; exact meas16 HJ.out)
      | cons x t =>
        as_aux_lemma =>
          obtain ⟨gl, ol, rfl, -⟩ := hS.cell (j := 0) (x := x) rfl
          have hcap : t.length + 1 ≤ lc := by
            obtain ⟨_, _, cap', e', _, _, hcap, _⟩ := hS.R.cons
            injection e' with _ _ e'
            subst e'
            rwa [List.length_map] at hcap
          have C := Lib.hid hS.take_some
          have HS := Lib.hid hS
          have hlt : (0 : Int) < ((t.length + 1 : Nat) : Int) ∧ (1 : Int) ≤ ((t.length + 1 : Nat) : Int) ∧ (1 : Int) ≤ (lc : Int) := by omega
          have hle : (((x :: t).length : Nat) : Int) = ((t.length + 1 : Nat) : Int) := rfl
          clear hS
          by_cases hl1 : lc = 1
          · subst hl1
            obtain rfl : t = [] := List.eq_nil_of_length_eq_zero (by omega)
            clear hcap
            go_wp2_with fail
            refine C.out.mono ?_
            rintro e w3 ⟨v3, o3, rfl, hS3, hb3⟩
            have HB3 := Lib.hid (HB.out.trans (hb3.mono hbw))
            obtain ⟨gm, om, e1, hd⟩ := hS3.cell (j := 0) (x := x) rfl
            injection e1 with e1
            injection e1 with e1 e2
            subst e1 e2
            have hd := hd w3 (Below.refl _ _)
            rw [Nat.add_zero] at hd
            have hS4 := hS3.cut
            rw [if_pos rfl] at hS4
            have HS4 := Lib.hid hS4
            clear hS4
            clear hb3 hS3
            go_wp2_with fail
            have hS4 := HS4.out
            have CA := Lib.hid (allS_any hS4.Q)
            refine CA.out.mono ?_
            rintro e wA ⟨r, rfl, hr, hbA⟩
            have hSA := hS4.below hbA
            have HBA := Lib.hid (HB3.out.trans (hbA.mono HB3.out.size))
            have HR := Lib.hid hr
            have CH := Lib.hid (headS_any hSA.Q)
            have HSA := Lib.hid hSA
            have HLN : Hid (([] : List (List UInt8)).length ≤ k + 1) := by show _ ≤ _; simp
            have HZ1 : Hid (([] : List (List UInt8)).length ≤ 1024) := by have h := hSA.Q.few; rw [List.length_map] at h; have := HM.out; show _ ≤ _; omega
            obtain ⟨ra, rc, rfl⟩ : ∃ ra rc, r = .slice ra ([] : List (List UInt8)).length rc := by
              rcases hr.2 with ⟨rfl, h0⟩ | ⟨g, cap, cur, rfl, _⟩
              · rw [h0]; exact ⟨_, _, rfl⟩
              · exact ⟨_, _, rfl⟩
            clear hr hSA hbA CA
            go_wp2_with fail
            refine CH.out.mono ?_
            rintro e wH ⟨rfl, hbH⟩
            have hSH := HSA.out.below hbH
            have HBH := Lib.hid (HBA.out.trans (hbH.mono HBA.out.size))
            have hro : Hid (wH.ownsRow wA.heap.size 9 1 (.slice ra ([] : List (List UInt8)).length rc) ([] : List (List UInt8)).length (([] : List (List UInt8)).map qES) ∨ True) := .inr trivial
            have HRH := Lib.hid (own_below' HR.out hbH)
            have CL := Lib.hid (lenS_any hSH.Q)
            have HSH := Lib.hid hSH
            clear HR HSA CH hro hbH
            clear hSH
            go_wp2_with fail
            refine CL.out.mono ?_
            rintro e wL ⟨rfl, rfl⟩
            go_wp2
            go_loopw [16] (fun i wr => i = .int .i64 0 ∧ wr = wL) (fun _ _ => 0)
            case atStart => exact ⟨rfl, rfl⟩
            case round =>
              obtain ⟨rfl, rfl⟩ := hrel
              go_wp2
              go_roundw
              case rel => exact ⟨k + 1, _, _, _, [], _, _, by first | rfl | (rw [hw1]; rfl), HJ.out, rfl, HLN.out, HSH.out, HBH.out⟩
              case measure => first | exact meas16 HJ.out | (rw [hw1]; exact meas16 HJ.out)

          · have hln : ¬ lc = 1 := hl1
            clear hcap
            go_wp2_with fail
            refine C.out.mono ?_
            rintro e w3 ⟨v3, o3, rfl, hS3, hb3⟩
            have HB3 := Lib.hid (HB.out.trans (hb3.mono hbw))
            obtain ⟨gm, om, e1, hd⟩ := hS3.cell (j := 0) (x := x) rfl
            injection e1 with e1
            injection e1 with e1 e2
            subst e1 e2
            have hd := hd w3 (Below.refl _ _)
            rw [Nat.add_zero] at hd
            have hS4 := hS3.cut
            rw [if_neg hl1] at hS4
            have HS4 := Lib.hid hS4
            clear hS4
            clear hb3 hS3
            go_wp2_with fail
            have hS4 := HS4.out
            have CA := Lib.hid (allS_any hS4.Q)
            refine CA.out.mono ?_
            rintro e wA ⟨r, rfl, hr, hbA⟩
            have hSA := hS4.below hbA
            have HBA := Lib.hid (HB3.out.trans (hbA.mono HB3.out.size))
            have HR := Lib.hid hr
            have CH := Lib.hid (headS_any hSA.Q)
            have HSA := Lib.hid hSA
            have HLN : Hid (t.length ≤ k + 1) := by have := HXk.out; simp only [List.length_cons] at this; show _ ≤ _; omega
            have HZ1 : Hid (t.length ≤ 1024) := by have h := hSA.Q.few; rw [List.length_map] at h; have := HM.out; show _ ≤ _; omega
            obtain ⟨ra, rc, rfl⟩ : ∃ ra rc, r = .slice ra t.length rc := by
              rcases hr.2 with ⟨rfl, h0⟩ | ⟨g, cap, cur, rfl, _⟩
              · rw [h0]; exact ⟨_, _, rfl⟩
              · exact ⟨_, _, rfl⟩
            clear hr hSA hbA CA
            go_wp2_with fail
            refine CH.out.mono ?_
            rintro e wH ⟨rfl, hbH⟩
            have hSH := HSA.out.below hbH
            have HBH := Lib.hid (HBA.out.trans (hbH.mono HBA.out.size))
            have hro : Hid (wH.ownsRow wA.heap.size 9 1 (.slice ra t.length rc) t.length (t.map qES) ∨ True) := .inr trivial
            have HRH := Lib.hid (own_below' HR.out hbH)
            have CL := Lib.hid (lenS_any hSH.Q)
            have HSH := Lib.hid hSH
            clear HR HSA CH hro hbH
            cases t with
            | nil =>
              clear hSH
              go_wp2_with fail
              refine CL.out.mono ?_
              rintro e wL ⟨rfl, rfl⟩
              go_wp2
              go_loopw [16] (fun i wr => i = .int .i64 0 ∧ wr = wL) (fun _ _ => 0)
              case atStart => exact ⟨rfl, rfl⟩
              case round =>
                obtain ⟨rfl, rfl⟩ := hrel
                go_wp2
                go_roundw
                case rel => exact ⟨k + 1, _, _, _, [], _, _, by first | rfl | (rw [hw1]; rfl), HJ.out, rfl, HLN.out, HSH.out, HBH.out⟩
                case measure => first | exact meas16 HJ.out | (rw [hw1]; exact meas16 HJ.out)
            | cons z zs =>
              obtain ⟨gl, ol, hgl, hcl⟩ := hSH.cell (j := 0) (x := z) rfl
              first
                | subst hgl
                | (injection hgl with hgl
                   injection hgl with e1 e2
                   subst e1 e2)
              have hcl0 := hcl _ (Below.refl _ _)
              rw [Nat.add_zero] at hcl0
              have hcd : hdS (z :: zs) = .string ⟨z.toArray⟩ := rfl
              have hpos : (0 : Int) < ((zs.length + 1 : Nat) : Int) := by omega
              have hle : (((z :: zs).length : Nat) : Int) = ((zs.length + 1 : Nat) : Int) := rfl
              clear hSH hcl
              rw [hcd]
              generalize hT : z :: zs = TT at *
              have hTl : zs.length + 1 = TT.length := by rw [← hT]; rfl
              have hTe : TT.isEmpty = false := by rw [← hT]; rfl
              have hTp : (0 : Int) < (TT.length : Int) := by omega
              have hTn : ¬ ((TT.length : Int) ≤ 0) := by omega
              clear hle hcd hpos hTl hT
              go_wp2_with fail
              refine CL.out.mono ?_
              rintro e wL ⟨rfl, rfl⟩
              go_wp2
              go_loopw [16] (fun i wr => ∃ j : Nat, i = .int .i64 (j : Int) ∧ j ≤ TT.length ∧ Below wL.heap.size wL wr) (fun i _ => TT.length - (intOf i).toNat)
              case atStart => exact ⟨0, rfl, Nat.zero_le _, Below.refl _ _⟩
              case round =>
                obtain ⟨j, rfl, hj, hW⟩ := hrel
                by_cases hjl : j < TT.length
                · obtain ⟨y, hy⟩ : ∃ y, TT[j]? = some y := ⟨_, List.getElem?_eq_getElem hjl⟩
                  obtain ⟨gl', ol', e1, hcl⟩ := HSH.out.cell hy
                  injection e1 with e1
                  injection e1 with e1 e2
                  subst e1 e2
                  have d0 := hcl _ hW
                  obtain ⟨g, cp, e⟩ := own_some1 HRH.out (by omega)
                  injection e with e1 _ e3
                  subst e1 e3
                  have d1 : wr.cell? ⟨g, j, none⟩ = some (.string ⟨y.toArray⟩) := by
                    have := World.ownsRow.cells HRH.out (g := g) rfl j (qES y) (by rw [List.getElem?_map, hy]; rfl)
                    rw [Addr.add_lit, Nat.zero_add] at this
                    exact (hW.cell (p := ⟨g, j, none⟩) (World.ownsRow.lt HRH.out g rfl).2).trans this
                  have j1 : (j : Int) < (TT.length : Int) := by omega
                  have j0 : (0 : Int) ≤ (j : Int) := by omega
                  have jw : wrap64 ((j : Int) + 1) = (j : Int) + 1 := by have := HZ1.out; rw [wr64] <;> omega
                  have HJ2 := Lib.hid hjl
                  have HW := Lib.hid hW
                  clear hj hjl hy hcl hW
                  go_wp2
                  go_quiet (fail)
                  all_goals go_wp2
                  all_goals go_roundw
                  all_goals first
                    | exact ⟨j + 1, by first | rfl | (rw [jw]; rfl), HJ2.out, ⟨HW.out.os, HW.out.tape, HW.out.output, HW.out.size, HW.out.block⟩⟩
                    | exact meas16 HJ2.out
                    | (rw [jw]; exact meas16 HJ2.out)
                · obtain rfl : j = TT.length := by omega
                  have HW := Lib.hid hW
                  have j1 : ¬ (TT.length : Int) < (TT.length : Int) := by omega
                  clear hj hjl hW
                  go_wp2
                  go_roundw
                  case rel => exact ⟨k + 1, _, _, _, TT, _, _, by first | rfl | (rw [hw1]; rfl), HJ.out, rfl, HLN.out, HSH.out.below HW.out, HBH.out.trans (HW.out.mono HBH.out.size)⟩
                  case measure => first | exact meas16 HJ.out | (rw [hw1]; exact meas16 HJ.out)
    by_cases h3 : op = 3
    ·
      as_aux_lemma =>
        subst h3
        have C := Lib.hid hS.clear
        have HS := Lib.hid hS
        clear hS
        go_wp2_with fail
        refine C.out.mono ?_
        rintro e w3 ⟨v3, o3, rfl, hS3, hb3⟩
        have HB3 := Lib.hid (HB.out.trans (hb3.mono hbw))
        have hS4 := hS3.nilR
        clear hS3 hb3
        go_wp2_with fail
        have CA := Lib.hid (allS_any hS4.Q)
        refine CA.out.mono ?_
        rintro e wA ⟨r, rfl, hr, hbA⟩
        have hSA := hS4.below hbA
        have HBA := Lib.hid (HB3.out.trans (hbA.mono HB3.out.size))
        have HR := Lib.hid hr
        have CH := Lib.hid (headS_any hSA.Q)
        have HSA := Lib.hid hSA
        have HLN : Hid (([] : List (List UInt8)).length ≤ k + 1) := by show _ ≤ _; simp
        have HZ1 : Hid (([] : List (List UInt8)).length ≤ 1024) := by have h := hSA.Q.few; rw [List.length_map] at h; have := HM.out; show _ ≤ _; omega
        obtain ⟨ra, rc, rfl⟩ : ∃ ra rc, r = .slice ra ([] : List (List UInt8)).length rc := by
          rcases hr.2 with ⟨rfl, h0⟩ | ⟨g, cap, cur, rfl, _⟩
          · rw [h0]; exact ⟨_, _, rfl⟩
          · exact ⟨_, _, rfl⟩
        clear hr hSA hbA CA
        go_wp2_with fail
        refine CH.out.mono ?_
        rintro e wH ⟨rfl, hbH⟩
        have hSH := HSA.out.below hbH
        have HBH := Lib.hid (HBA.out.trans (hbH.mono HBA.out.size))
        have hro : Hid (wH.ownsRow wA.heap.size 9 1 (.slice ra ([] : List (List UInt8)).length rc) ([] : List (List UInt8)).length (([] : List (List UInt8)).map qES) ∨ True) := .inr trivial
        have HRH := Lib.hid (own_below' HR.out hbH)
        have CL := Lib.hid (lenS_any hSH.Q)
        have HSH := Lib.hid hSH
        clear HR HSA CH hro hbH
        clear hSH
        go_wp2_with fail
        refine CL.out.mono ?_
        rintro e wL ⟨rfl, rfl⟩
        go_wp2
        go_loopw [16] (fun i wr => i = .int .i64 0 ∧ wr = wL) (fun _ _ => 0)
        case atStart => exact ⟨rfl, rfl⟩
        case round =>
          obtain ⟨rfl, rfl⟩ := hrel
          go_wp2
          go_roundw
          case rel => exact ⟨k + 1, _, _, _, [], _, _, by first | rfl | (rw [hw1]; rfl), HJ.out, rfl, HLN.out, HSH.out, HBH.out⟩
          case measure => first | exact meas16 HJ.out | (rw [hw1]; exact meas16 HJ.out)
    ·
      as_aux_lemma =>
        skip
        go_wp2_with fail
        have CA := Lib.hid (allS_any hS.Q)
        refine CA.out.mono ?_
        rintro e wA ⟨r, rfl, hr, hbA⟩
        have hSA := hS.below hbA
        have HBA := Lib.hid (HB.out.trans (hbA.mono HB.out.size))
        have HR := Lib.hid hr
        have CH := Lib.hid (headS_any hSA.Q)
        have HSA := Lib.hid hSA
        have HLN : Hid (X.length ≤ k + 1) := by have := HXk.out; show _ ≤ _; omega
        have HZ1 : Hid (X.length ≤ 1024) := by have h := hSA.Q.few; rw [List.length_map] at h; have := HM.out; show _ ≤ _; omega
        obtain ⟨ra, rc, rfl⟩ : ∃ ra rc, r = .slice ra X.length rc := by
          rcases hr.2 with ⟨rfl, h0⟩ | ⟨g, cap, cur, rfl, _⟩
          · rw [h0]; exact ⟨_, _, rfl⟩
          · exact ⟨_, _, rfl⟩
        clear hr hSA hbA CA
        go_wp2_with fail
        refine CH.out.mono ?_
        rintro e wH ⟨rfl, hbH⟩
        have hSH := HSA.out.below hbH
        have HBH := Lib.hid (HBA.out.trans (hbH.mono HBA.out.size))
        have hro : Hid (wH.ownsRow wA.heap.size 9 1 (.slice ra X.length rc) X.length (X.map qES) ∨ True) := .inr trivial
        have HRH := Lib.hid (own_below' HR.out hbH)
        have CL := Lib.hid (lenS_any hSH.Q)
        have HSH := Lib.hid hSH
        clear HR HSA CH hro hbH
        cases X with
        | nil =>
          clear hSH
          go_wp2_with fail
          refine CL.out.mono ?_
          rintro e wL ⟨rfl, rfl⟩
          go_wp2
          go_loopw [16] (fun i wr => i = .int .i64 0 ∧ wr = wL) (fun _ _ => 0)
          case atStart => exact ⟨rfl, rfl⟩
          case round =>
            obtain ⟨rfl, rfl⟩ := hrel
            go_wp2
            go_roundw
            case rel => exact ⟨k + 1, _, _, _, [], _, _, by first | rfl | (rw [hw1]; rfl), HJ.out, rfl, HLN.out, HSH.out, HBH.out⟩
            case measure => first | exact meas16 HJ.out | (rw [hw1]; exact meas16 HJ.out)
        | cons z zs =>
          obtain ⟨gl, ol, hgl, hcl⟩ := hSH.cell (j := 0) (x := z) rfl
          first
            | subst hgl
            | (injection hgl with hgl
               injection hgl with e1 e2
               subst e1 e2)
          have hcl0 := hcl _ (Below.refl _ _)
          rw [Nat.add_zero] at hcl0
          have hcd : hdS (z :: zs) = .string ⟨z.toArray⟩ := rfl
          have hpos : (0 : Int) < ((zs.length + 1 : Nat) : Int) := by omega
          have hle : (((z :: zs).length : Nat) : Int) = ((zs.length + 1 : Nat) : Int) := rfl
          clear hSH hcl
          rw [hcd]
          generalize hT : z :: zs = TT at *
          have hTl : zs.length + 1 = TT.length := by rw [← hT]; rfl
          have hTe : TT.isEmpty = false := by rw [← hT]; rfl
          have hTp : (0 : Int) < (TT.length : Int) := by omega
          have hTn : ¬ ((TT.length : Int) ≤ 0) := by omega
          clear hle hcd hpos hTl hT
          go_wp2_with fail
          refine CL.out.mono ?_
          rintro e wL ⟨rfl, rfl⟩
          go_wp2
          go_loopw [16] (fun i wr => ∃ j : Nat, i = .int .i64 (j : Int) ∧ j ≤ TT.length ∧ Below wL.heap.size wL wr) (fun i _ => TT.length - (intOf i).toNat)
          case atStart => exact ⟨0, rfl, Nat.zero_le _, Below.refl _ _⟩
          case round =>
            obtain ⟨j, rfl, hj, hW⟩ := hrel
            by_cases hjl : j < TT.length
            · obtain ⟨y, hy⟩ : ∃ y, TT[j]? = some y := ⟨_, List.getElem?_eq_getElem hjl⟩
              obtain ⟨gl', ol', e1, hcl⟩ := HSH.out.cell hy
              injection e1 with e1
              injection e1 with e1 e2
              subst e1 e2
              have d0 := hcl _ hW
              obtain ⟨g, cp, e⟩ := own_some1 HRH.out (by omega)
              injection e with e1 _ e3
              subst e1 e3
              have d1 : wr.cell? ⟨g, j, none⟩ = some (.string ⟨y.toArray⟩) := by
                have := World.ownsRow.cells HRH.out (g := g) rfl j (qES y) (by rw [List.getElem?_map, hy]; rfl)
                rw [Addr.add_lit, Nat.zero_add] at this
                exact (hW.cell (p := ⟨g, j, none⟩) (World.ownsRow.lt HRH.out g rfl).2).trans this
              have j1 : (j : Int) < (TT.length : Int) := by omega
              have j0 : (0 : Int) ≤ (j : Int) := by omega
              have jw : wrap64 ((j : Int) + 1) = (j : Int) + 1 := by have := HZ1.out; rw [wr64] <;> omega
              have HJ2 := Lib.hid hjl
              have HW := Lib.hid hW
              clear hj hjl hy hcl hW
              go_wp2
              go_quiet (fail)
              all_goals go_wp2
              all_goals go_roundw
              all_goals first
                | exact ⟨j + 1, by first | rfl | (rw [jw]; rfl), HJ2.out, ⟨HW.out.os, HW.out.tape, HW.out.output, HW.out.size, HW.out.block⟩⟩
                | exact meas16 HJ2.out
                | (rw [jw]; exact meas16 HJ2.out)
            · obtain rfl : j = TT.length := by omega
              have HW := Lib.hid hW
              have j1 : ¬ (TT.length : Int) < (TT.length : Int) := by omega
              clear hj hjl hW
              go_wp2
              go_roundw
              case rel => exact ⟨k + 1, _, _, _, TT, _, _, by first | rfl | (rw [hw1]; rfl), HJ.out, rfl, HLN.out, HSH.out.below HW.out, HBH.out.trans (HW.out.mono HBH.out.size)⟩
              case measure => first | exact meas16 HJ.out | (rw [hw1]; exact meas16 HJ.out)
end LawQueuePlays
end Go.Proofs.Ytdgjcahgoilahaa
