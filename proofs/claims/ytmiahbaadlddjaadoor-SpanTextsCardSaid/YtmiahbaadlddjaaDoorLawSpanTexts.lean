/- belfrylaw2.SpanTexts: every text, every span. -/
import Derived.Test.YtmiahbaadlddjaaDoorIdxS
import Derived.Test.YtmiahbaadlddjaaDoorRParse
import Derived.Test.YtmiahbaadlddjaaDoorParseN
import Derived.Test.YtmiahbaadlddjaaDoorSpanOf
import Derived.Test.YtmiahbaadlddjaaDoorSpanA
namespace Go.Proofs.YtmiahbaadlddjaaDoor
open Go Go.Proofs Go.RowKit Go.Shelf
set_option maxRecDepth 100000
theorem rparse_zero (W : World) :
    Calls Tryd.prog 20 #[.string ⟨#[48]⟩] W fun e w' => e = .returned (Two (0, 0)) ∧ Below W.heap.size W w' := by
  go_enter Tryd.func20, Tryd.ntmps20
  go_wp2
  go_ret2
  exact ⟨rfl, Below.refl _ _⟩
theorem rparse_any (l : List UInt8) (hl : l.length ≤ 1000) (W : World) :
    Calls Tryd.prog 20 #[.string ⟨l.toArray⟩] W fun e w' => e = .returned (Two (parseR l)) ∧ Below W.heap.size W w' := by
  by_cases h : l = [48]
  · subst h; exact rparse_zero W
  · rw [← ref_same]
    exact rparse_loop ⟨l.toArray⟩ l rfl hl (by rw [ByteArray.toList_eq]; simpa using h) h W
theorem parse_all (l : List UInt8) (hl : l.length ≤ 1000) (w : World) (he : ErrOk w) :
    Calls Tryd.prog 19 #[.string ⟨l.toArray⟩] w fun e w' => e = .returned (Two (parseR l)) ∧ Below w.heap.size w w' :=
  parse_any l hl w (fun k => ix_any _ (by rw [List.length_drop]; omega)) (fun k W hb => pu_all W _ (by rw [List.length_drop]; omega) (he.below hb))
theorem parseR_cases (l : List UInt8) : (parseR l).2 = 0 ∨ (parseR l).2 = 1 ∨ (parseR l).2 = 2 := by
  rw [← ref_same]
  unfold refR
  split
  · exact .inl rfl
  · split
    · exact .inr (.inr rfl)
    · split
      · exact .inr (.inr rfl)
      · split
        · exact .inr (.inl rfl)
        · exact .inl rfl
set_option maxHeartbeats 4000000 in
theorem texts_law (s : ByteArray) (d : Int) (hd : -9223372036854775808 ≤ d ∧ d ≤ 9223372036854775807) (w : World) (ht : Tab w) (he : ErrOk w) :
    Calls Tryd.prog 5 #[.string s, .int .i64 d] w fun e w' => e = .returned (.bool true) ∧ Below w.heap.size w w' := by
  have K := Lib.hid (known_any w ht)
  have HT := Lib.hid ht
  have HE := Lib.hid he
  clear ht he
  obtain ⟨l, hl⟩ : ∃ l, s.data.toList = l := ⟨_, rfl⟩
  obtain rfl := bytes_mk s l hl
  clear hl
  have hsz : (⟨l.toArray⟩ : ByteArray).size = l.length := rfl
  by_cases h200 : 200 < l.length
  · have hz : (200 : Int) < (l.length : Int) := by omega
    go_enter Tryd.func5, Tryd.ntmps5
    go_wp2_with fail
    refine K.out.mono ?_
    rintro e w1 ⟨rfl, hb1⟩
    go_wp2
    go_ret
    exact ⟨rfl, hb1⟩
  · have hz : ¬ (200 : Int) < (l.length : Int) := by omega
    have hl1 : l.length ≤ 1000 := by omega
    have P := Lib.hid (fun W h => parse_all l hl1 W h)
    have R := Lib.hid (fun W => rparse_any l hl1 W)
    have PC := Lib.hid (parse_canon l)
    clear hl1 h200
    go_enter Tryd.func5, Tryd.ntmps5
    go_wp2_with fail
    refine K.out.mono ?_
    rintro e w1 ⟨rfl, hb1⟩
    have T1 := Lib.hid (HT.out.below hb1)
    have E1 := Lib.hid (HE.out.below hb1)
    have hB1 := hb1
    clear hb1 HT HE K
    go_wp2_with fail
    refine (P.out _ E1.out).mono ?_
    rintro e w2 ⟨rfl, hb2⟩
    have T2 := Lib.hid (T1.out.below hb2)
    have E2 := Lib.hid (E1.out.below hb2)
    have hB2 := hB1.trans (hb2.mono hB1.size)
    clear hb2 T1 E1 hB1
    unfold Two
    go_wp2_with fail
    refine (R.out _).mono ?_
    rintro e w3 ⟨rfl, hb3⟩
    have T3 := Lib.hid (T2.out.below hb3)
    have E3 := Lib.hid (E2.out.below hb3)
    have hB3 := hB2.trans (hb3.mono hB2.size)
    clear hb3 T2 E2 hB2
    unfold Two
    obtain ⟨x, c, hxc⟩ : ∃ x c, parseR l = (x, c) := ⟨_, _, rfl⟩
    rw [hxc]
    rw [hxc] at PC
    have hcs := parseR_cases l
    rw [hxc] at hcs
    clear P R hxc
    rcases hcs with h0 | h0 | h0
    · obtain rfl : c = 0 := h0
      obtain ⟨m, rfl, hm, rfl⟩ := PC.out x rfl
      have TX := Lib.hid (fun W h => text_any m (by omega) W h)
      clear PC
      generalize textR m = l at *
      go_wp2_with fail
      refine (TX.out _ T3.out).mono ?_
      rintro e w4 ⟨rfl, hb4⟩
      have T4 := Lib.hid (T3.out.below hb4)
      have E4 := Lib.hid (E3.out.below hb4)
      have hB4 := hB3.trans (hb4.mono hB3.size)
      clear hb4 T3 E3 hB3 TX
      go_wp2_with fail
      by_cases hT : isT d = true
      · have TY := Lib.hid (fun W => time_yes d hT W)
        obtain ⟨q1, q2⟩ := isT_true.1 hT
        clear hT
        obtain ⟨n, rfl⟩ := Int.eq_ofNat_of_zero_le q1
        have TX2 := Lib.hid (fun W h => text_any n (by omega) W h)
        have PB := Lib.hid (fun W h => parse_back n (by omega) W h)
        have SP := Lib.hid (fun W => spanText_any n (by omega) W)
        generalize textR n = tl at *
        refine (TY.out _).mono ?_
        rintro e w5 ⟨rfl, rfl⟩
        go_wp2_with fail
        refine (TX2.out _ T4.out).mono ?_
        rintro e w6 ⟨rfl, hb6⟩
        have E6 := Lib.hid (E4.out.below hb6)
        have hB6 := hB4.trans (hb6.mono hB4.size)
        clear hb6
        go_wp2_with fail
        refine (PB.out _ E6.out).mono ?_
        rintro e w7 ⟨rfl, hb7⟩
        have hB7 := hB6.trans (hb7.mono hB6.size)
        clear hb7 hB6 E6
        go_wp2_with fail
        refine (SP.out _).mono ?_
        rintro e w8 ⟨rfl, hb8⟩
        have hB8 := hB7.trans (hb8.mono hB7.size)
        clear hb8
        go_wp2
        go_ret
        exact ⟨rfl, hB8⟩
      · have hT' : isT d = false := by simpa using hT
        have TY := Lib.hid (fun W => time_no d hT' W)
        clear hT hT'
        refine (TY.out _).mono ?_
        rintro e w5 ⟨rfl, rfl⟩
        go_wp2
        go_ret
        exact ⟨rfl, hB4⟩
    · obtain rfl : c = 1 := h0
      clear PC
      go_wp2_with fail
      by_cases hT : isT d = true
      · have TY := Lib.hid (fun W => time_yes d hT W)
        obtain ⟨q1, q2⟩ := isT_true.1 hT
        clear hT
        obtain ⟨n, rfl⟩ := Int.eq_ofNat_of_zero_le q1
        have TX2 := Lib.hid (fun W h => text_any n (by omega) W h)
        have PB := Lib.hid (fun W h => parse_back n (by omega) W h)
        have SP := Lib.hid (fun W => spanText_any n (by omega) W)
        generalize textR n = tl at *
        refine (TY.out _).mono ?_
        rintro e w5 ⟨rfl, rfl⟩
        go_wp2_with fail
        refine (TX2.out _ T3.out).mono ?_
        rintro e w6 ⟨rfl, hb6⟩
        have E6 := Lib.hid (E3.out.below hb6)
        have hB6 := hB3.trans (hb6.mono hB3.size)
        clear hb6
        go_wp2_with fail
        refine (PB.out _ E6.out).mono ?_
        rintro e w7 ⟨rfl, hb7⟩
        have hB7 := hB6.trans (hb7.mono hB6.size)
        clear hb7 hB6 E6
        go_wp2_with fail
        refine (SP.out _).mono ?_
        rintro e w8 ⟨rfl, hb8⟩
        have hB8 := hB7.trans (hb8.mono hB7.size)
        clear hb8
        go_wp2
        go_ret
        exact ⟨rfl, hB8⟩
      · have hT' : isT d = false := by simpa using hT
        have TY := Lib.hid (fun W => time_no d hT' W)
        clear hT hT'
        refine (TY.out _).mono ?_
        rintro e w5 ⟨rfl, rfl⟩
        go_wp2
        go_ret
        exact ⟨rfl, hB3⟩
    · obtain rfl : c = 2 := h0
      clear PC
      go_wp2_with fail
      by_cases hT : isT d = true
      · have TY := Lib.hid (fun W => time_yes d hT W)
        obtain ⟨q1, q2⟩ := isT_true.1 hT
        clear hT
        obtain ⟨n, rfl⟩ := Int.eq_ofNat_of_zero_le q1
        have TX2 := Lib.hid (fun W h => text_any n (by omega) W h)
        have PB := Lib.hid (fun W h => parse_back n (by omega) W h)
        have SP := Lib.hid (fun W => spanText_any n (by omega) W)
        generalize textR n = tl at *
        refine (TY.out _).mono ?_
        rintro e w5 ⟨rfl, rfl⟩
        go_wp2_with fail
        refine (TX2.out _ T3.out).mono ?_
        rintro e w6 ⟨rfl, hb6⟩
        have E6 := Lib.hid (E3.out.below hb6)
        have hB6 := hB3.trans (hb6.mono hB3.size)
        clear hb6
        go_wp2_with fail
        refine (PB.out _ E6.out).mono ?_
        rintro e w7 ⟨rfl, hb7⟩
        have hB7 := hB6.trans (hb7.mono hB6.size)
        clear hb7 hB6 E6
        go_wp2_with fail
        refine (SP.out _).mono ?_
        rintro e w8 ⟨rfl, hb8⟩
        have hB8 := hB7.trans (hb8.mono hB7.size)
        clear hb8
        go_wp2
        go_ret
        exact ⟨rfl, hB8⟩
      · have hT' : isT d = false := by simpa using hT
        have TY := Lib.hid (fun W => time_no d hT' W)
        clear hT hT'
        refine (TY.out _).mono ?_
        rintro e w5 ⟨rfl, rfl⟩
        go_wp2
        go_ret
        exact ⟨rfl, hB3⟩
end Go.Proofs.YtmiahbaadlddjaaDoor
