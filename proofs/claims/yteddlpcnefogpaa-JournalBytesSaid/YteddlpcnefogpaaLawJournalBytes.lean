/- belfrylaw11.JournalBytes: the walk. -/
import Derived.Test.YteddlpcnefogpaaJkN
namespace Go.Proofs.Yteddlpcnefogpaa
open Go Go.Proofs Go.RowKit Go.Shelf
set_option maxRecDepth 100000
attribute [local go_sem] Oper.semAt_some
namespace LawJournalBytes
theorem BysC.take {W : World} {a : Option Addr} {n c : Nat} {l : List UInt8} (h : BysC W a n c l) {k : Nat} (hk : k ≤ l.length) : Bys W (.slice a k c) (l.take k) := by
  have hn := h.bys.len
  rcases h.bys with ⟨⟨_, _, e⟩, rfl⟩ | ⟨b, off, cap, e, hb, hc⟩
  · obtain rfl : k = 0 := by simpa using hk
    exact .inl ⟨⟨_, _, rfl⟩, rfl⟩
  · injection e with e1 e2 e3
    subst e1 e3
    refine .inr ⟨b, off, c, by rw [List.length_take, Nat.min_eq_left hk], hb, fun j x hj => ?_⟩
    rw [List.getElem?_take] at hj
    split at hj
    · exact hc j x hj
    · cases hj
set_option maxHeartbeats 8000000 in
theorem main (aa : Option Addr) (ac : Nat) (A : List UInt8) (w : World) (hA : BysC w aa A.length ac A) (hl : A.length ≤ 500) :
    Calls Try.prog 3 #[.slice aa A.length ac] w fun e w' => e = .returned (.bool true) ∧ Below w.heap.size w w' := by
  have HK := Lib.hid (known_any w)
  have HA := Lib.hid hA
  have q0 : ¬ (500 : Int) < (A.length : Int) := by omega
  clear hA
  refine (callsIn_wide (n := 9)).1 ?_
  refine callsIn_of_wp Try.func3 rfl trivial ?_ rfl
  simp only [Try.ntmps3, List.size_toArray, List.length_cons, List.length_nil, Nat.reduceAdd, Nat.reduceSub, Array.replicate_succ, Array.replicate_zero, List.push_toArray, List.append_toArray, List.nil_append, List.cons_append]
  gi_wp2_with fail
  refine ⟨trivial, (callsIn_wide.2 HK.out).mono ?_⟩
  rintro e w1 ⟨rfl, hb1⟩
  have hA1 := HA.out.below hb1
  have H1 := Lib.hid (scan_any aa A.length ac A w1 hA1.bys hA1.le (by omega))
  have HA1 := Lib.hid hA1
  have HB1 := Lib.hid hb1
  clear hb1 hA1 HK HA
  gi_wp2_with fail
  refine ⟨trivial, (callsIn_wide.2 H1.out).mono ?_⟩
  rintro e w2 ⟨vx, xs, rfl, hxs, hys, hb2⟩
  obtain ⟨K, hK⟩ : ∃ K, endR (scanR A) = K := ⟨_, rfl⟩
  obtain ⟨R, hR⟩ : ∃ R, scanR A = R := ⟨_, rfl⟩
  have hKl : K ≤ A.length := by rw [← hK]; exact endR_le A
  have htk : A.take K = flatE R := by rw [← hK, ← hR]; exact scanR_take A
  have hRl : R.length ≤ 500 := by
    have h1 := flatE_len R
    have h2 : R.length ≤ endR R := by clear hR htk h1; induction R with
      | nil => simp [endR]
      | cons r R ih => simp only [List.length_cons, endR]; omega
    rw [← hR] at h2 ⊢
    omega
  have hx2 := Rcs.of_ys hys
  rw [hxs, hR] at hx2
  obtain ⟨sa, sc, rfl⟩ := hys.2.1
  have hxl : xs.length = R.length := by rw [← hR, ← hxs, List.length_map]
  rw [hxl] at hx2 ⊢
  have hA2 := HA1.out.below hb2
  have cv2 := text_of_bys hA2.bys
  have H2 := rscan_any A w2 (by omega)
  rw [hK]
  have HX2 := Lib.hid hx2
  have HA2 := Lib.hid hA2
  have HB2 := Lib.hid (HB1.out.trans (hb2.mono HB1.out.size))
  have H2 := Lib.hid H2
  have HR := Lib.hid hR
  have HKK := Lib.hid hK
  have HTK := Lib.hid htk
  clear hx2 hA2 hb2 hys hxs hxl hR hK htk H1 HA1 HB1
  gi_wp2_with fail
  refine ⟨trivial, (callsIn_wide.2 H2.out).mono ?_⟩
  rintro e w3 ⟨vy, rfl, hy3, hb3⟩
  rw [HKK.out]
  rw [HR.out] at hy3
  have hx3 := HX2.out.below hb3
  have hA3 := HA2.out.below hb3
  have hyv := RRv.all hy3
  obtain ⟨⟨ya, yc, rfl, _⟩, _⟩ := RRv.of_row hy3 0 (Nat.zero_le _)
  have H3 := same_any sa ya R.length R.length sc yc R R w3 hx3 hyv (by omega) (by omega)
  rw [show decide (R = R) = true by simp] at H3
  have H3 := Lib.hid H3
  have HB3 := Lib.hid (HB2.out.trans (hb3.mono HB2.out.size))
  have HA3 := Lib.hid hA3
  have HY3 := Lib.hid hyv
  clear hx3 hA3 hyv hy3 hb3 H2 HA2 HX2 HB2 cv2
  gi_wp2_with fail
  refine ⟨trivial, (callsIn_wide.2 H3.out).mono ?_⟩
  rintro e w4 ⟨rfl, hb4⟩
  have hA4 := HA3.out.below hb4
  have H4 := Lib.hid (of_any (.slice aa A.length ac) A w4 hA4.bys (by omega))
  have HA4 := Lib.hid hA4
  have HY4 := Lib.hid (HY3.out.below hb4)
  have HB4 := Lib.hid (HB3.out.trans (hb4.mono HB3.out.size))
  clear hA4 hb4 H3 HA3 HY3 HB3
  gi_wp2_with fail
  refine ⟨trivial, (callsIn_wide.2 H4.out).mono ?_⟩
  rintro e w5 ⟨b, v5, rfl, D5, g5⟩
  have hb5 := grown_is g5
  have H5 := Lib.hid (open_any _ b v5 (Dk.of A) w5 D5 rfl rfl (by show (0 : Int) < _; decide))
  have HD5 := Lib.hid D5
  have Hb5 := Lib.hid hb5
  have hsz5 := HB4.out.size
  have hop := Dk.opened_is (d := Dk.of A) rfl rfl (Nat.le_refl _)
  clear hb5 g5 D5 H4
  gi_wp2_with fail
  refine ⟨trivial, (callsIn_wide.2 H5.out).mono ?_⟩
  rintro e w6 ⟨lb, v6, vz, zs, rfl, hzs, hys, L6, hlb, T6⟩
  have hb6 : Below w4.heap.size w4 w6 := Hb5.out.trans (HD5.out.below T6)
  rw [show (Dk.of A).row = A from rfl, HR.out] at hzs L6 hop
  have hz6 := Rcs.of_ys hys
  rw [hzs] at hz6
  obtain ⟨za, zc, rfl⟩ := hys.2.1
  have hzl : zs.length = R.length := by rw [← hzs, List.length_map]
  rw [hzl] at hz6 ⊢
  have hA6 := HA4.out.below hb6
  have hY6 := HY4.out.below hb6
  have hB6 := HB4.out.trans (hb6.mono HB4.out.size)
  have hcut := BysC.take hA6 hKl
  have cvA := text_of_bys hcut
  rw [HTK.out] at cvA
  have HA6 := Lib.hid hA6
  have HCT := Lib.hid hcut
  have HZ6 := Lib.hid hz6
  have HY6 := Lib.hid hY6
  have HB6 := Lib.hid hB6
  have HL6 := Lib.hid L6
  have HOP := Lib.hid hop.1
  obtain ⟨F, hF⟩ : ∃ F, flatE R = F := ⟨_, rfl⟩
  rw [hF] at cvA
  have HF := Lib.hid hF
  have hKs : (0 : Int) ≤ (K : Int) := by omega
  have hKs2 : (K : Int) ≤ (A.length : Int) := by omega
  have hKc : K ≤ ac := Nat.le_trans hKl HA4.out.le
  have hKc2 : (K : Int) ≤ (ac : Int) := by omega
  clear hb6 hz6 hys hzs hzl hA6 hY6 hB6 hcut L6 hop T6 H5 HD5 Hb5 HA4 HY4 HB4 hlb hF
  gi_wp2_with fail
  refine region_anyM (S := fun u => (convert 22 9 (.slice aa K ac)).run Try.prog u = .ok (.string ⟨F.toArray⟩) u) 28 (by kernel_rfl) (fun hS => ?_) (by have := text_of_bys (HCT.out.below ((Below.refl _ w6).drew)); rwa [HTK.out, HF.out] at this)
  refine anyM_d 0 [0, 28] hS ?_
  refine anyM_d 1 [1, 28] hS ?_
  refine anyM_d 2 [2, 28] hS ?_
  refine anyM_d 3 [3, 28] hS ?_
  refine anyM_d 4 [4, 28] hS ?_
  refine anyM_d 5 [5, 28] hS ?_
  refine anyM_d 6 [6, 28] hS ?_
  refine anyM_d 7 [7, 28] hS ?_
  refine anyM_d 8 [8, 28] hS ?_
  have H9 := same_any za ya R.length R.length zc yc R R w6.drew (HZ6.out.below ((Below.refl _ w6).drew)) (HY6.out.below ((Below.refl _ w6).drew)) (by omega) (by omega)
  rw [show decide (R = R) = true by simp] at H9
  have H9 := Lib.hid H9
  refine anyM_o 9 (fun KK hK => ?_)
  go_simp
  refine ⟨trivial, ?_⟩
  refine (callsIn_wide.2 H9.out).mono ?_
  rintro e w7 ⟨rfl, hb7⟩
  have hb67 : Below w6.heap.size w6 w7 := ((Below.refl _ w6).drew).trans hb7
  have L7 := HL6.out.grow (grown_below hb67)
  have hS7 : (convert 22 9 (.slice aa K ac)).run Try.prog w7 = .ok (.string ⟨F.toArray⟩) w7 := by
    have := text_of_bys (HCT.out.below hb67)
    rwa [HTK.out, HF.out] at this
  have HA7 := Lib.hid (HCT.out.below hb67)
  have HB7 := Lib.hid (HB6.out.trans (hb67.mono (HB6.out.size)))
  have HL7 := Lib.hid L7
  clear hb7 hb67 L7 hS H9 HB6 HL6 HCT
  dsimp only
  refine hK _ _ hS7 ?_
  clear hK KK
  refine anyM_d 10 [10, 28] (v := .bool true) hS7 ?_
  refine anyM_d 11 [11, 28] hS7 ?_
  refine anyM_d 12 [12, 28] hS7 ?_
  refine anyM_d 14 [14, 28] hS7 ?_
  refine anyM_d 15 [15, 28] hS7 ?_
  have H13 := Lib.hid (llen_any _ lb b v6 _ _ _ w7 HL7.out)
  refine anyM_o 13 (fun KK hK => ?_)
  go_simp
  refine ⟨trivial, ?_⟩
  refine (callsIn_wide.2 H13.out).mono ?_
  rintro e w8 ⟨rfl, rfl⟩
  dsimp only
  refine hK _ _ hS7 ?_
  clear hK KK H13
  refine anyM_d 16 [16, 28] (v := .bool true) hS7 ?_
  refine anyM_d 17 [17, 28] (v := .bool true) hS7 ?_
  refine anyM_d 18 [18, 28] hS7 ?_
  refine anyM_d 19 [19, 28] hS7 ?_
  refine anyM_d 22 [22, 28] hS7 ?_
  refine anyM_d 23 [23, 28] hS7 ?_
  refine anyM_d 24 [24, 28] (v := .slice aa K ac) hS7 ?_
  refine anyM_d 25 [25, 28] (v := .string ⟨F.toArray⟩) hS7 ?_
  have H20 := bytes_any _ b v6 _ w7 HL7.out.dk
  rw [HOP.out, HF.out] at H20
  have H20 := Lib.hid H20
  refine anyM_o 20 (fun KK hK => ?_)
  go_simp
  refine ⟨trivial, ?_⟩
  refine (callsIn_wide.2 H20.out).mono ?_
  rintro e w8 ⟨v8, rfl, ⟨a8, c8, rfl⟩, own8, g8, _⟩
  have G8 := grow_nil g8
  have cv8 := text_of_row own8
  have hb8 := grown_is G8
  have hS8 : (convert 22 9 (.slice aa K ac)).run Try.prog w8 = .ok (.string ⟨F.toArray⟩) w8 := by
    have := text_of_bys (HA7.out.below hb8)
    rwa [HTK.out, HF.out] at this
  have HB8 := Lib.hid (HB7.out.trans (hb8.mono HB7.out.size))
  clear own8 g8 G8 hb8 H20 HB7 HA7
  dsimp only
  refine hK _ _ hS8 ?_
  clear hK KK hS7
  refine anyM_strong (S' := fun u => (convert 22 9 (.slice aa K ac)).run Try.prog u = .ok (.string ⟨F.toArray⟩) u ∧ (convert 22 9 (.slice a8 F.length c8)).run Try.prog u = .ok (.string ⟨F.toArray⟩) u) (fun u h => h.1) _ _ _ _ ?_
  have hS9 := And.intro hS8 cv8
  refine anyM_d 21 [21, 28] (v := .string ⟨F.toArray⟩) hS9 ?_
  refine anyM_d 26 [26, 28] (v := .bool true) hS9 ?_
  refine anyM_d 27 [27, 28] (v := .bool true) hS9 ?_
  refine anyM_l (fun KK hK => ?_)
  go_simp
  refine hK _ _ ?_
  clear hK KK hS9 hS8 cv8
  refine anyIn_done (by kernel_rfl) ?_ _
  gi_wp2
  go_ret
  exact ⟨rfl, HB8.out⟩
theorem any (aa : Option Addr) (ac : Nat) (A : List UInt8) (w : World) (hA : BysC w aa A.length ac A) (hl : A.length ≤ 9223372036854775807) :
    Calls Try.prog 3 #[.slice aa A.length ac] w fun e w' => e = .returned (.bool true) ∧ Below w.heap.size w w' := by
  by_cases h1 : A.length ≤ 500
  · exact main aa ac A w hA h1
  · have HK := Lib.hid (known_any w)
    have q1 : (500 : Int) < (A.length : Int) := by omega
    clear hA
    go_enter Try.func3, Try.ntmps3
    go_wp2_with fail
    refine HK.out.mono ?_
    rintro e w1 ⟨rfl, hb⟩
    have HB := Lib.hid hb
    clear hb HK
    go_wp2
    go_ret
    exact ⟨rfl, HB.out⟩
end LawJournalBytes
end Go.Proofs.Yteddlpcnefogpaa
