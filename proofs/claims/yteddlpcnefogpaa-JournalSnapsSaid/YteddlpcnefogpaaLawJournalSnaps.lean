/- belfrylaw11.JournalSnaps: the walk. -/
import Derived.Test.YteddlpcnefogpaaJlS
namespace Go.Proofs.Yteddlpcnefogpaa
open Go Go.Proofs Go.RowKit Go.Shelf
set_option maxRecDepth 100000
namespace LawJournalSnaps
set_option linter.unusedSimpArgs false in
set_option maxHeartbeats 16000000 in
theorem main (aa : Option Addr) (ac : Nat) (L : List Rec) (sa : Option Addr) (sc : Nat) (S : List Rec) (w : World) (hA : Rcs w (.slice aa L.length ac) L) (hS : Rcs w (.slice sa S.length sc) S) (hl : L.length ≤ 30) (hsl : S.length ≤ 30)
    (hbl : ∀ r ∈ L, r.2.length ≤ 9223372036854775807) (hbs : ∀ r ∈ S, r.2.length ≤ 9223372036854775807) :
    Calls Try.prog 6 #[.slice aa L.length ac, .slice sa S.length sc] w fun e w' => e = .returned (.bool true) ∧ Below w.heap.size w w' := by
  obtain ⟨i1, hi1, hy0, hy1, hy2⟩ := info_parts info_rrec
  have HJ := Lib.hid hi1
  have HY := Lib.hid hy0
  have HY1 := Lib.hid hy1
  have HY2 := Lib.hid hy2
  have HK := Lib.hid (known_any w)
  have HA := Lib.hid hA
  have HS := Lib.hid hS
  have HBl := Lib.hid hbl
  have HBs := Lib.hid hbs
  have q0 : ¬ (30 : Int) < (L.length : Int) := by omega
  have q1 : ¬ (30 : Int) < (S.length : Int) := by omega
  clear hA hS hi1 hy0 hy1 hy2 hbl hbs
  go_enter Try.func6, Try.ntmps6
  go_wp2_with fail
  refine HK.out.mono ?_
  rintro e w1 ⟨rfl, hb1⟩
  have HN := Lib.hid (new_any w1)
  have HB1 := Lib.hid hb1
  clear hb1 HK
  go_wp2_with fail
  refine HN.out.mono ?_
  rintro e w2 ⟨b, v2, rfl, D2, g2⟩
  have D2 := D2.mono HB1.out.size
  have B2 := HB1.out.trans (grownBy_below g2 HB1.out.size (fun k e => by cases e))
  have HO := Lib.hid (open_new w.heap.size b v2 w2 D2)
  have HB2 := Lib.hid B2
  clear D2 g2 B2 HN HB1
  go_wp2_with fail
  refine HO.out.mono ?_
  rintro e w3 ⟨lb, v3, oa, oc, rfl, L3, hb3⟩
  have HL3 := Lib.hid L3
  have HB3 := Lib.hid (HB2.out.trans hb3)
  clear L3 hb3 HO HB2
  go_wp2
  go_loopw [9, 10] (fun vw i wr => ∃ k : Nat, i = .int .i64 (k : Int) ∧ k ≤ S.length ∧ (∀ r ∈ S.take k, Fit r) ∧ RRs w.heap.size wr vw (S.take k) ∧ (∃ v, LgAt w.heap.size wr lb b v (stD [] 0 0) 0 0) ∧ Below w.heap.size w wr) (fun _ i _ => S.length - (intOf i).toNat)
  case atStart => exact ⟨0, rfl, Nat.zero_le _, by simp, World.ownsRow_nil _ _ _ _, ⟨_, HL3.out⟩, HB3.out⟩
  case round =>
    obtain ⟨k, rfl, hk, hF, hOw, ⟨v, hLg⟩, hBe⟩ := hrel
    by_cases hlt : k < S.length
    · obtain ⟨r, hr⟩ : ∃ r, S[k]? = some r := ⟨_, List.getElem?_eq_getElem hlt⟩
      rcases HS.out with ⟨_, rfl⟩ | ⟨g, off, cap, e, hg, hcs⟩
      · simp at hlt
      injection e with e1 e2 e3
      clear e2
      subst e1 e3
      obtain ⟨da, dc, c0w, c1w, hbw⟩ := hcs k r hr
      have c0 := (hBe.cell (p := ⟨g, off + k * 2, none⟩) hg).trans c0w
      have c1 := (hBe.cell (p := ⟨g, off + k * 2 + 1, none⟩) hg).trans c1w
      have hby := hbw.below hBe
      have hrb := HBs.out r (List.mem_of_getElem? hr)
      have h0 : (0 : Int) ≤ (k : Int) := by omega
      have h1 : (k : Int) < (S.length : Int) := by omega
      have hfs : Fit r → ∀ q ∈ S.take (k + 1), Fit q := fun h => fit_snoc hF hr h
      have htk : S.take (k + 1) = S.take k ++ [r] := by
        obtain ⟨hn, he⟩ := List.getElem?_eq_some_iff.1 hr
        rw [List.take_succ_eq_append_getElem hn, he]
      have hrE := rrC_snoc (S.take k) r
      have hkl : (S.take k).length = k := by rw [List.length_take, Nat.min_eq_left hk]
      have HFS := Lib.hid hfs
      have HTK := Lib.hid htk
      have HRE := Lib.hid hrE
      have HOw := Lib.hid hOw
      have HLg := Lib.hid hLg
      have HBe := Lib.hid hBe
      have hz2 := hBe.size
      obtain ⟨kd, x⟩ := r
      dsimp only at c0 c1 hrb c0w c1w
      have HKd := Lib.hid (kind_eq kd)
      have cvq : ∀ q, (convert 22 9 (.slice da x.length dc)).run Try.prog (wr.drewN q) = .ok (.string ⟨x.toArray⟩) (wr.drewN q) := fun q => text_of_bys (hby.below (below_drewN (Below.refl _ _) q)).bys
      have cvd : (convert 22 9 (.slice da x.length dc)).run Try.prog wr.drew = .ok (.string ⟨x.toArray⟩) wr.drew := cvq 1
      clear c0w c1w hbw hcs hr hfs htk hrE hOw hLg hBe hby hF
      by_cases hkd : kd = 0
      · have a1 : ((kd.toNat : Int) == 0) = true := by rw [HKd.out]; simpa using hkd
        clear hkd
        go_wp2
        go_ret
        exact ⟨rfl, HBe.out⟩
      · have a1 : ((kd.toNat : Int) == 0) = false := by rw [HKd.out]; simpa using hkd
        by_cases hx : x.length ≤ 100
        · have a2 : ¬ (100 : Int) < (x.length : Int) := by omega
          have hfit : Fit (kd, x) := ⟨hkd, hx⟩
          have HFit := Lib.hid hfit
          clear hkd hfit
          go_wp2
          go_region_law (refine step_append_own rfl _ _ 27 rfl w.heap.size 48 i1 (.agg #[.int .u8 0, .string ⟨#[]⟩]) 2 24 Try.underlying27 HJ.out HY.out HY1.out HY2.out rfl (by decide) _ (S.take k).length _ (by simp [Act.eval, Act.put]) (HOw.out.drew.alloc _) ⟨wr.heap.size, 0, none⟩ 1 1 [byV kd, .string ⟨x.toArray⟩] (by simp [Act.eval, Act.put]) rfl (cells2_new _ _ _ _) (by intro u hu; simp at hu; rcases hu with rfl | rfl <;> rfl) (by unfold maxLen; omega) (by omega) (by simp; omega) ?_; intro v4 w4 own4 g4)
          all_goals
            have hL4 := LgAt.row ((HLg.out.drewN 1).new _) (World.ownsRow.alloc (World.ownsRow.drew HOw.out) _) g4
            have hB4 : Below w.heap.size w w4 := (HBe.out.drew.alloc (by simpa using hz2) _).grown g4 (by simpa using Nat.le_succ_of_le hz2) (fun q e => (World.ownsRow.lt HOw.out q e).1)
            have hW4 : RRs w.heap.size w4 v4 (S.take (k + 1)) := by
              show World.ownsRow _ _ _ _ _ _ _
              rw [HTK.out, HRE.out, List.length_append]
              exact own4
            have hL5 : ∃ v, LgAt w.heap.size w4 lb b v (stD [] 0 0) 0 0 := ⟨v, hL4⟩
            have HF := Lib.hid (And.intro hW4 (And.intro hL5 hB4))
            clear hL5 hL4 hB4 hW4 own4 g4 cvq cvd c0 c1
            go_wp2
            go_roundw
            case rel => exact ⟨k + 1, by simp, by omega, HFS.out HFit.out, HF.out⟩
            case measure => simp [intOf]; omega
        · have a2 : (100 : Int) < (x.length : Int) := by omega
          clear hkd
          go_wp2
          go_ret
          exact ⟨rfl, HBe.out⟩
    · obtain rfl : k = S.length := by omega
      rw [List.take_length] at hF hOw
      have hq : ¬ (S.length : Int) < (S.length : Int) := by omega
      have HOw := Lib.hid hOw
      have HLg := Lib.hid hLg
      have HBe := Lib.hid hBe
      have HFS := Lib.hid hF
      clear hOw hLg hBe hF
      go_wp2
      go_loopw [11] (fun i wr => ∃ k : Nat, i = .int .i64 (k : Int) ∧ k ≤ L.length ∧ (∀ r ∈ L.take k, Fit r) ∧ RRs w.heap.size wr u9 S ∧ (∃ v, LgAt w.heap.size wr lb b v (stD (flatE (L.take k)) 0 (k : Int)) ((flatE (L.take k)).length : Int) (k : Int)) ∧ Below w.heap.size w wr) (fun i _ => L.length - (intOf i).toNat)
      case atStart => exact ⟨0, rfl, Nat.zero_le _, by simp, HOw.out, ⟨_, HLg.out⟩, HBe.out⟩
      case round =>
        rename_i wq
        clear HLg HBe HOw
        obtain ⟨k, rfl, hk, hF, hOw, ⟨v, hLg⟩, hBe⟩ := hrel
        by_cases hlt : k < L.length
        · obtain ⟨r, hr⟩ : ∃ r, L[k]? = some r := ⟨_, List.getElem?_eq_getElem hlt⟩
          rcases HA.out with ⟨_, rfl⟩ | ⟨g, off, cap, e, hg, hcs⟩
          · simp at hlt
          injection e with e1 e2 e3
          clear e2
          subst e1 e3
          obtain ⟨da, dc, c0w, c1w, hbw⟩ := hcs k r hr
          have c0 := (hBe.cell (p := ⟨g, off + k * 2, none⟩) hg).trans c0w
          have c1 := (hBe.cell (p := ⟨g, off + k * 2 + 1, none⟩) hg).trans c1w
          have hby := hbw.below hBe
          have hrb := HBl.out r (List.mem_of_getElem? hr)
          have h0 : (0 : Int) ≤ (k : Int) := by omega
          have h1 : (k : Int) < (L.length : Int) := by omega
          have hfs : Fit r → ∀ q ∈ L.take (k + 1), Fit q := fun h => fit_snoc hF hr h
          have htk : L.take (k + 1) = L.take k ++ [r] := by
            obtain ⟨hn, he⟩ := List.getElem?_eq_some_iff.1 hr
            rw [List.take_succ_eq_append_getElem hn, he]
          have hfe := fit_end hF
          have hfl := flatE_len (L.take k)
          have hkl : (L.take k).length = k := by rw [List.length_take, Nat.min_eq_left hk]
          have hfE := flatE_snoc (L.take k) r
          have HFS := Lib.hid hfs
          have HTK := Lib.hid htk
          have HFE := Lib.hid hfE
          have HOw := Lib.hid hOw
          have HLg := Lib.hid hLg
          have HBe := Lib.hid hBe
          have HBy := Lib.hid hby
          obtain ⟨P, hP⟩ : ∃ P, flatE (L.take k) = P := ⟨_, rfl⟩
          have hPl : P.length ≤ 3120 := by rw [← hP, hfl]; omega
          have HP := Lib.hid hP
          obtain ⟨kd, x⟩ := r
          dsimp only at c0 c1 hrb
          have HKd := Lib.hid (kind_eq kd)
          clear c0w c1w hbw hcs hr hfs htk hfE hOw hLg hBe hby hF hfe hfl hP
          by_cases hkd : kd = 0
          · have a1 : ((kd.toNat : Int) == 0) = true := by rw [HKd.out]; simpa using hkd
            clear hkd
            go_wp2
            go_ret
            exact ⟨rfl, HBe.out⟩
          · have a1 : ((kd.toNat : Int) == 0) = false := by rw [HKd.out]; simpa using hkd
            by_cases hx : x.length ≤ 100
            · have a2 : ¬ (100 : Int) < (x.length : Int) := by omega
              have hfit : Fit (kd, x) := ⟨hkd, hx⟩
              have hL0 := HLg.out
              rw [HP.out] at hL0
              have hadd := add_any w.heap.size lb b v (stD P 0 (k : Int)) (k : Int) kd da dc x _ hL0 HBy.out hfit.ok rfl (by show (k : Int) < _; omega) (by show P.length + _ ≤ _; omega) (by omega) (by omega)
              rw [stD_app] at hadd
              have HAdd := Lib.hid hadd
              have HFit := Lib.hid hfit
              clear hkd hfit hL0 hadd
              go_wp2_with fail
              refine HAdd.out.mono ?_
              rintro e w4 ⟨v4, rfl, L4, T4⟩
              have hW4 := T4.row HLg.out HOw.out
              have hB4 := HBe.out.trans (T4.below HLg.out)
              have hL4 : ∃ v, LgAt w.heap.size w4 lb b v (stD (flatE (L.take (k + 1))) 0 ((k + 1 : Nat) : Int)) ((flatE (L.take (k + 1))).length : Int) ((k + 1 : Nat) : Int) := by
                rw [HTK.out, HFE.out, HP.out]
                refine ⟨v4, ?_⟩
                have := L4
                simp only [if_true, stD] at this
                simpa [stD] using this
              have HF := Lib.hid (And.intro hW4 (And.intro hL4 hB4))
              clear L4 T4 hW4 hB4 hL4 HAdd c0 c1
              go_wp2
              go_roundw
              case rel => exact ⟨k + 1, by simp, by omega, HFS.out HFit.out, HF.out⟩
              case measure => simp [intOf]; omega
            · have a2 : (100 : Int) < (x.length : Int) := by omega
              clear hkd
              go_wp2
              go_ret
              exact ⟨rfl, HBe.out⟩
        · obtain rfl : k = L.length := by omega
          rw [List.take_length] at hF hLg
          have hq2 : ¬ (L.length : Int) < (L.length : Int) := by omega
          have hfe := fit_end hF
          have hfl := flatE_len L
          have hfs := fit_end HFS.out
          obtain ⟨P, hP⟩ : ∃ P, flatE L = P := ⟨_, rfl⟩
          rw [hP] at hLg hfl
          have hsnp := snap_any w.heap.size lb b v (stD P 0 (L.length : Int)) _ _ sa S.length sc S _ hLg (HS.out.below hBe) (fun r hr => (HFS.out r hr).ok) rfl (by show (L.length : Int) < _; omega) (by omega) (by omega)
          rw [stD_rep] at hsnp
          have HSn := Lib.hid hsnp
          have HP := Lib.hid hP
          have HOw := Lib.hid hOw
          have HLg := Lib.hid hLg
          have HBe := Lib.hid hBe
          have HFl := Lib.hid hF
          clear hOw hLg hBe hF hP hsnp hfe hfl hfs
          go_wp2_with fail
          refine HSn.out.mono ?_
          rintro e w5 ⟨v5, rfl, L5, T5⟩
          have L5' : LgAt w.heap.size w5 lb b v5 (stD (flatE S) (flatE S).length ((L.length : Int) + 1)) ((flatE S).length : Int) (S.length : Int) := L5
          have HLn := Lib.hid (llen_any w.heap.size lb b v5 _ _ _ w5 L5')
          have HW5 := Lib.hid (T5.row HLg.out HOw.out)
          have HB5 := Lib.hid (HBe.out.trans (T5.below HLg.out))
          have HL5 := Lib.hid L5'
          clear L5 L5' T5 HSn HLg HOw HBe
          go_wp2_with fail
          refine HLn.out.mono ?_
          rintro e w6 ⟨rfl, rfl⟩
          clear HLn
          go_wp2
          go_loopw [9, 14] (fun vw i wr => ∃ k : Nat, i = .int .i64 (k : Int) ∧ k ≤ L.length ∧ RRs w.heap.size wr vw (S ++ L.take k) ∧ (∃ v, LgAt w.heap.size wr lb b v (stD (flatE (S ++ L.take k)) (flatE S).length ((L.length : Int) + 1 + (k : Int))) ((flatE (S ++ L.take k)).length : Int) ((S.length : Int) + (k : Int))) ∧ Below w.heap.size w wr) (fun _ i _ => L.length - (intOf i).toNat)
          case atStart => exact ⟨0, rfl, Nat.zero_le _, by rw [List.take_zero, List.append_nil]; exact HW5.out, ⟨_, by rw [List.take_zero, List.append_nil]; simpa using HL5.out⟩, HB5.out⟩
          case round =>
            rename_i wq3
            clear HL5 HB5 HW5
            obtain ⟨k, rfl, hk, hOw, ⟨v, hLg⟩, hBe⟩ := hrel
            by_cases hlt : k < L.length
            · obtain ⟨r, hr⟩ : ∃ r, L[k]? = some r := ⟨_, List.getElem?_eq_getElem hlt⟩
              have hfit := HFl.out r (List.mem_of_getElem? hr)
              rcases HA.out with ⟨_, rfl⟩ | ⟨g, off, cap, e, hg, hcs⟩
              · simp at hlt
              injection e with e1 e2 e3
              clear e2
              subst e1 e3
              obtain ⟨da, dc, c0w, c1w, hbw⟩ := hcs k r hr
              have c0 := (hBe.cell (p := ⟨g, off + k * 2, none⟩) hg).trans c0w
              have c1 := (hBe.cell (p := ⟨g, off + k * 2 + 1, none⟩) hg).trans c1w
              have hby := hbw.below hBe
              have hrb := HBl.out r (List.mem_of_getElem? hr)
              have h0 : (0 : Int) ≤ (k : Int) := by omega
              have h1 : (k : Int) < (L.length : Int) := by omega
              have htk : S ++ L.take (k + 1) = (S ++ L.take k) ++ [r] := by
                obtain ⟨hn, he⟩ := List.getElem?_eq_some_iff.1 hr
                rw [List.take_succ_eq_append_getElem hn, he, List.append_assoc]
              have hFt : ∀ q ∈ S ++ L.take k, Fit q := fun q hq => (List.mem_append.1 hq).elim (HFS.out q) (fun h => HFl.out q (List.mem_of_mem_take h))
              have hfe := fit_end hFt
              have hfl := flatE_len (S ++ L.take k)
              have hkl : (S ++ L.take k).length = S.length + k := by rw [List.length_append, List.length_take, Nat.min_eq_left hk]
              have hfE := flatE_snoc (S ++ L.take k) r
              have hrE := rrC_snoc (S ++ L.take k) r
              obtain ⟨P, hP⟩ : ∃ P, flatE (S ++ L.take k) = P := ⟨_, rfl⟩
              have hPl : P.length ≤ 6240 := by rw [← hP, hfl]; omega
              obtain ⟨KS, hKS⟩ : ∃ q, (flatE S).length = q := ⟨_, rfl⟩
              rw [hP, hKS] at hLg
              rw [hP] at hfE
              obtain ⟨kd, x⟩ := r
              dsimp only at c0 c1 hrb c0w c1w
              have hadd := add_any w.heap.size lb b v (stD P KS ((L.length : Int) + 1 + (k : Int))) ((S.length : Int) + (k : Int)) kd da dc x _ hLg hby hfit.ok rfl (by show (L.length : Int) + 1 + (k : Int) < _; omega) (by have := hfit.2; dsimp only at this; show P.length + _ ≤ _; omega) (by omega) (by omega)
              rw [stD_app] at hadd
              have HAdd := Lib.hid hadd
              have HTK := Lib.hid htk
              have HRE := Lib.hid hrE
              have HFE := Lib.hid hfE
              have HOw := Lib.hid hOw
              have HLg := Lib.hid hLg
              have HBe := Lib.hid hBe
              have HKS := Lib.hid hKS
              have Hbw := Lib.hid hbw
              have Hg := Lib.hid hg
              have C0w := Lib.hid c0w
              have C1w := Lib.hid c1w
              have HKd := Lib.hid (kind_eq kd)
              clear c0w c1w hbw hcs hr htk hfE hrE hOw hLg hBe hby hfe hfl hP hFt hfit hadd hKS hg
              go_wp2_with fail
              refine HAdd.out.mono ?_
              rintro e w4 ⟨v4, rfl, L4, T4⟩
              have hO4 := T4.row HLg.out HOw.out
              have hB4 := HBe.out.trans (T4.below HLg.out)
              have hL4 : LgAt w.heap.size w4 lb b v4 (stD (P ++ encR (kd, x)) KS ((L.length : Int) + 1 + (k : Int) + 1)) ((P ++ encR (kd, x)).length : Int) ((S.length : Int) + (k : Int) + 1) := by
                have := L4
                simp only [if_true] at this
                simpa [stD] using this
              have d0 := (hB4.cell (p := ⟨g, off + k * 2, none⟩) Hg.out).trans C0w.out
              have d1 := (hB4.cell (p := ⟨g, off + k * 2 + 1, none⟩) Hg.out).trans C1w.out
              have hby := Hbw.out.below hB4
              have cvq : ∀ q, (convert 22 9 (.slice da x.length dc)).run Try.prog (w4.drewN q) = .ok (.string ⟨x.toArray⟩) (w4.drewN q) := fun q => text_of_bys (hby.below (below_drewN (Below.refl _ _) q)).bys
              have cvd : (convert 22 9 (.slice da x.length dc)).run Try.prog w4.drew = .ok (.string ⟨x.toArray⟩) w4.drew := cvq 1
              have HO4 := Lib.hid hO4
              have HB4 := Lib.hid hB4
              have HL4 := Lib.hid hL4
              have hz2 := hB4.size
              clear hO4 hB4 hL4 L4 T4 HAdd c0 c1 hby HLg HOw HBe
              go_wp2
              go_region_law (refine step_append_own rfl _ _ 27 rfl w.heap.size 48 i1 (.agg #[.int .u8 0, .string ⟨#[]⟩]) 2 24 Try.underlying27 HJ.out HY.out HY1.out HY2.out rfl (by decide) _ (S ++ L.take k).length _ (by simp [Act.eval, Act.put]) (HO4.out.drew.alloc _) ⟨w4.heap.size, 0, none⟩ 1 1 [byV kd, .string ⟨x.toArray⟩] (by simp [Act.eval, Act.put]) rfl (cells2_new _ _ _ _) (by intro u hu; simp at hu; rcases hu with rfl | rfl <;> rfl) (by unfold maxLen; omega) (by omega) (by simp; omega) ?_; intro v6 w6 own6 g6)
              all_goals
                have hL6 := LgAt.row ((HL4.out.drewN 1).new _) (World.ownsRow.alloc (World.ownsRow.drew HO4.out) _) g6
                have hB6 : Below w.heap.size w w6 := (HB4.out.drew.alloc (by simpa using hz2) _).grown g6 (by simpa using Nat.le_succ_of_le hz2) (fun q e => (World.ownsRow.lt HO4.out q e).1)
                have hW6 : RRs w.heap.size w6 v6 (S ++ L.take (k + 1)) := by
                  show World.ownsRow _ _ _ _ _ _ _
                  rw [HTK.out, HRE.out, List.length_append]
                  exact own6
                have hL7 : ∃ v, LgAt w.heap.size w6 lb b v (stD (flatE (S ++ L.take (k + 1))) (flatE S).length ((L.length : Int) + 1 + ((k + 1 : Nat) : Int))) ((flatE (S ++ L.take (k + 1))).length : Int) ((S.length : Int) + ((k + 1 : Nat) : Int)) := by
                  rw [HTK.out, HFE.out, HKS.out]
                  refine ⟨v4, ?_⟩
                  have e1 : (L.length : Int) + 1 + ((k + 1 : Nat) : Int) = (L.length : Int) + 1 + (k : Int) + 1 := by omega
                  have e2 : (S.length : Int) + ((k + 1 : Nat) : Int) = (S.length : Int) + (k : Int) + 1 := by omega
                  rw [e1, e2]
                  exact hL6
                have HF := Lib.hid (And.intro hW6 (And.intro hL7 hB6))
                clear hL7 hL6 hB6 hW6 own6 g6 cvq cvd d0 d1
                go_wp2
                go_roundw
                case rel => exact ⟨k + 1, by simp, by omega, HF.out⟩
                case measure => simp [intOf]; omega
            · obtain rfl : k = L.length := by omega
              rw [List.take_length] at hOw hLg
              have hq3 : ¬ (L.length : Int) < (L.length : Int) := by omega
              have hFt : ∀ q ∈ S ++ L, Fit q := fun q hq => (List.mem_append.1 hq).elim (HFS.out q) (HFl.out q)
              have hsc : scanR (flatE (S ++ L)) = S ++ L := scanR_all (fun q hq => (hFt q hq).ok)
              have hsl2 : (S ++ L).length ≤ 60 := by rw [List.length_append]; omega
              have hsy := lsync_any w.heap.size lb b v _ _ _ _ hLg (by show (L.length : Int) + 1 + (L.length : Int) < _; omega)
              rw [stD_sync] at hsy
              have HSy := Lib.hid hsy
              have HSc := Lib.hid hsc
              have HOw := Lib.hid hOw
              have HBe := Lib.hid hBe
              have HLg := Lib.hid hLg
              clear hsy hsc hOw hBe hLg hFt
              go_wp2_with fail
              refine HSy.out.mono ?_
              rintro e w6 ⟨he6, v6, D6, T6⟩
              obtain rfl : e = .returned (.int .i64 0) := he6
              obtain ⟨Q, hQ⟩ : ∃ Q, flatE (S ++ L) = Q := ⟨_, rfl⟩
              obtain ⟨OP, hOP⟩ : ∃ q, (L.length : Int) + 1 + (L.length : Int) + 1 = q := ⟨_, rfl⟩
              have hOPl : OP < 4611686018427387904 := by omega
              have hscq := HSc.out
              rw [hQ] at hscq
              rw [hQ, hOP] at D6
              have D6' : DkAt w.heap.size w6 b v6 (stD Q Q.length OP) := D6
              have R6 := (LTo.of T6 lb).row HLg.out HOw.out
              have L6 := HLg.out.op T6 D6'
              have B6 := HBe.out.trans ((LTo.of T6 lb).below HLg.out)
              have hcu := cut_any w.heap.size b v6 (stD Q Q.length OP) 0 w6 D6'
              rw [stD_cut] at hcu
              have HCu := Lib.hid hcu
              have HSq := Lib.hid hscq
              have HR6 := Lib.hid R6
              have HL6 := Lib.hid L6
              have HB6 := Lib.hid B6
              clear D6 D6' T6 R6 L6 B6 hcu hscq HSy HSc HOw HLg HBe hQ hOP
              go_wp2_with fail
              refine HCu.out.mono ?_
              rintro e w7 ⟨rfl, v7, D7, T7, _⟩
              have HR7 := Lib.hid ((LTo.of T7 lb).row HL6.out HR6.out)
              have HL7 := Lib.hid (HL6.out.op T7 D7)
              have HB7 := Lib.hid (HB6.out.trans ((LTo.of T7 lb).below HL6.out))
              have HOn := Lib.hid (on_any w.heap.size b v7 _ w7 D7)
              clear D7 T7 HCu HR6 HL6 HB6
              go_wp2_with fail
              refine HOn.out.mono ?_
              rintro e w8 ⟨rfl, D8, T8⟩
              have D8' : DkAt w.heap.size w8 b v7 (stD Q Q.length OP) := D8
              have HR8 := Lib.hid ((LTo.of T8 lb).row HL7.out HR7.out)
              have HL8 := Lib.hid (HL7.out.op T8 D8')
              have HB8 := Lib.hid (HB7.out.trans ((LTo.of T8 lb).below HL7.out))
              have HOp := Lib.hid (open_any w.heap.size b v7 _ w8 D8' rfl rfl hOPl)
              clear D8 D8' T8 HOn HR7 HL7 HB7
              go_wp2_with fail
              refine HOp.out.mono ?_
              rintro e w9 ⟨l9, v9, vs, xs, rfl, hxs, hys, _, _, T9⟩
              have hrx := Rcs.of_ys hys
              rw [hxs, show (stD Q Q.length OP).row = Q from rfl, HSq.out] at hrx
              obtain ⟨xa, xc, rfl⟩ := hys.2.1
              have hR9 := (LTo.of T9 lb).row HL8.out HR8.out
              obtain ⟨⟨wa, wc, rfl, _⟩, _⟩ := RRv.of_row hR9 0 (Nat.zero_le _)
              have hsm := same_any xa wa xs.length _ xc wc (S ++ L) (S ++ L) w9 hrx (RRv.all hR9) (by omega) (by omega)
              rw [show decide (S ++ L = S ++ L) = true by simp, List.length_append] at hsm
              have HSm := Lib.hid hsm
              have HB9 := Lib.hid (HB8.out.trans ((LTo.of T9 lb).below HL8.out))
              clear hxs hys hrx hR9 hsm T9 HOp HR8 HL8 HB8
              go_wp2_with fail
              refine HSm.out.mono ?_
              rintro e w10 ⟨rfl, hb10⟩
              have HB10 := Lib.hid (HB9.out.trans (hb10.mono HB9.out.size))
              clear hb10 HSm HB9
              go_wp2
              go_ret
              exact ⟨rfl, HB10.out⟩
theorem any (aa : Option Addr) (ac : Nat) (L : List Rec) (sa : Option Addr) (sc : Nat) (S : List Rec) (w : World) (hA : Rcs w (.slice aa L.length ac) L) (_ : L.length ≤ 9223372036854775807) (hbl : ∀ r ∈ L, r.2.length ≤ 9223372036854775807) (hS : Rcs w (.slice sa S.length sc) S) (_ : S.length ≤ 9223372036854775807) (hbs : ∀ r ∈ S, r.2.length ≤ 9223372036854775807) :
    Calls Try.prog 6 #[.slice aa L.length ac, .slice sa S.length sc] w fun e w' => e = .returned (.bool true) ∧ Below w.heap.size w w' := by
  by_cases h1 : L.length ≤ 30
  · by_cases h2 : S.length ≤ 30
    · exact main aa ac L sa sc S w hA hS h1 h2 hbl hbs
    · have HK := Lib.hid (known_any w)
      have q0 : ¬ (30 : Int) < (L.length : Int) := by omega
      have q1 : (30 : Int) < (S.length : Int) := by omega
      clear hA hS hbl hbs
      go_enter Try.func6, Try.ntmps6
      go_wp2_with fail
      refine HK.out.mono ?_
      rintro e w1 ⟨rfl, hb⟩
      have HB := Lib.hid hb
      clear hb HK
      go_wp2
      go_ret
      exact ⟨rfl, HB.out⟩
  · have HK := Lib.hid (known_any w)
    have q1 : (30 : Int) < (L.length : Int) := by omega
    clear hA hS hbl hbs
    go_enter Try.func6, Try.ntmps6
    go_wp2_with fail
    refine HK.out.mono ?_
    rintro e w1 ⟨rfl, hb⟩
    have HB := Lib.hid hb
    clear hb HK
    go_wp2
    go_ret
    exact ⟨rfl, HB.out⟩
end LawJournalSnaps
end Go.Proofs.Yteddlpcnefogpaa
