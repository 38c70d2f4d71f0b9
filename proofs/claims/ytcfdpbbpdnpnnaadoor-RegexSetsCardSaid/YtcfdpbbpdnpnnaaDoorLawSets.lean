/- belfrylaw4.RegexSets: for every three bytes the law returns true. -/
import Derived.Test.YtcfdpbbpdnpnnaaDoorKnown
import Derived.Test.YtcfdpbbpdnpnnaaDoorSetsM
namespace Go.Proofs.YtcfdpbbpdnpnnaaDoor
open Go Go.Proofs Go.RowKit Go.Shelf
set_option maxRecDepth 100000
theorem conv_1 (ch : UInt8) (W : World) : (convert 40 9 (.slice (some ⟨W.heap.size, 0, none⟩) 1 1)).run Tryd.prog (W.alloc (.cells #[.int .u8 (ch.toNat : Int)] 5)) = .ok (.string ⟨#[ch]⟩) (W.alloc (.cells #[.int .u8 (ch.toNat : Int)] 5)) := by
  refine run_convert_bytes_back _ 40 9 5 ⟨W.heap.size, 0, none⟩ 1 [ch] Tryd.underlying40 Tryd.underlying5 Tryd.underlying9 ?_
  intro j hj
  obtain rfl : j = 0 := by simp at hj; exact hj
  rw [Addr.add_lit]
  simp
theorem conv_3 (a b : UInt8) (W : World) : (convert 40 9 (.slice (some ⟨W.heap.size, 0, none⟩) 3 3)).run Tryd.prog (W.alloc (.cells #[.int .u8 (a.toNat : Int), .int .u8 45, .int .u8 (b.toNat : Int)] 5)) = .ok (.string ⟨#[a, 45, b]⟩) (W.alloc (.cells #[.int .u8 (a.toNat : Int), .int .u8 45, .int .u8 (b.toNat : Int)] 5)) := by
  refine run_convert_bytes_back _ 40 9 5 ⟨W.heap.size, 0, none⟩ 3 [a, 45, b] Tryd.underlying40 Tryd.underlying5 Tryd.underlying9 ?_
  intro j hj
  have hj3 : j < 3 := hj
  rw [Addr.add_lit]
  match j, hj3 with
  | 0, _ => simp
  | 1, _ => simp
  | 2, _ => simp
theorem catL (a b : List UInt8) : (⟨a.toArray⟩ : ByteArray) ++ ⟨b.toArray⟩ = ⟨(a ++ b).toArray⟩ := by
  apply ByteArray.ext
  simp
theorem cat_plain (a b : UInt8) : (⟨#[91]⟩ : ByteArray) ++ ⟨#[a, 45, b]⟩ ++ ⟨#[93]⟩ = ⟨([91, a, 45, b, 93] : List UInt8).toArray⟩ := by
  have h1 := catL [91] [a, 45, b]
  have h2 := catL ([91] ++ [a, 45, b]) [93]
  rw [← h1] at h2
  exact h2
theorem cat_turned (a b : UInt8) : (⟨#[91, 94]⟩ : ByteArray) ++ ⟨#[a, 45, b]⟩ ++ ⟨#[93]⟩ = ⟨([91, 94, a, 45, b, 93] : List UInt8).toArray⟩ := by
  have h1 := catL [91, 94] [a, 45, b]
  have h2 := catL ([91, 94] ++ [a, 45, b]) [93]
  rw [← h1] at h2
  exact h2
theorem cat_two (c : UInt8) : (⟨#[c]⟩ : ByteArray) ++ ⟨#[c]⟩ = ⟨([c, c] : List UInt8).toArray⟩ := catL [c] [c]
def Low (a : UInt8) : Prop := 97 ≤ a.toNat ∧ a.toNat ≤ 122
theorem comp_plain_lt (a b : UInt8) (ha : Low a) (hb : Low b) (h : b.toNat < a.toNat) (w : World) (hT : Tab w) :
    Calls Tryd.prog 9 #[.string (⟨#[91]⟩ ++ ⟨#[a, 45, b]⟩ ++ ⟨#[93]⟩)] w fun e w' => e = .returned (.tuple #[.pointer none, .int .i64 3, .int .i64 2]) ∧ Below w.heap.size w w' := by
  rw [cat_plain]
  have k := compile_any ⟨([91, a, 45, b, 93] : List UInt8).toArray⟩ [91, a, 45, b, 93] rfl (by simp) w hT
  rw [Rx.set_plain_lt a b ha.1 ha.2 hb.1 hb.2 h] at k
  exact k.mono fun e w' q => ⟨q.2, q.1⟩
theorem comp_turned_lt (a b : UInt8) (ha : Low a) (hb : Low b) (h : b.toNat < a.toNat) (w : World) (hT : Tab w) :
    Calls Tryd.prog 9 #[.string (⟨#[91, 94]⟩ ++ ⟨#[a, 45, b]⟩ ++ ⟨#[93]⟩)] w fun e w' => e = .returned (.tuple #[.pointer none, .int .i64 4, .int .i64 2]) ∧ Below w.heap.size w w' := by
  rw [cat_turned]
  have k := compile_any ⟨([91, 94, a, 45, b, 93] : List UInt8).toArray⟩ [91, 94, a, 45, b, 93] rfl (by simp) w hT
  rw [Rx.set_turned_lt a b ha.1 ha.2 hb.1 hb.2 h] at k
  exact k.mono fun e w' q => ⟨q.2, q.1⟩
theorem comp_plain_le (a b : UInt8) (ha : Low a) (hb : Low b) (h : ¬ b.toNat < a.toNat) (w : World) (hT : Tab w) :
    Calls Tryd.prog 9 #[.string (⟨#[91]⟩ ++ ⟨#[a, 45, b]⟩ ++ ⟨#[93]⟩)] w (CP w ⟨([91, a, 45, b, 93] : List UInt8).toArray⟩ [91, a, 45, b, 93] (.ok (Rx.setP false a.toNat b.toNat) 0)) := by
  rw [cat_plain]
  have k := compile_any ⟨([91, a, 45, b, 93] : List UInt8).toArray⟩ [91, a, 45, b, 93] rfl (by simp) w hT
  rw [Rx.set_plain_le a b ha.1 ha.2 hb.1 hb.2 h] at k
  exact k
theorem comp_turned_le (a b : UInt8) (ha : Low a) (hb : Low b) (h : ¬ b.toNat < a.toNat) (w : World) (hT : Tab w) :
    Calls Tryd.prog 9 #[.string (⟨#[91, 94]⟩ ++ ⟨#[a, 45, b]⟩ ++ ⟨#[93]⟩)] w (CP w ⟨([91, 94, a, 45, b, 93] : List UInt8).toArray⟩ [91, 94, a, 45, b, 93] (.ok (Rx.setP true a.toNat b.toNat) 0)) := by
  rw [cat_turned]
  have k := compile_any ⟨([91, 94, a, 45, b, 93] : List UInt8).toArray⟩ [91, 94, a, 45, b, 93] rfl (by simp) w hT
  rw [Rx.set_turned_le a b ha.1 ha.2 hb.1 hb.2 h] at k
  exact k
def bet (a b c : UInt8) : Bool := decide ((a.toNat : Int) ≤ (c.toNat : Int)) && decide ((c.toNat : Int) ≤ (b.toNat : Int))
theorem takes_bet (neg : Bool) (a b c : UInt8) (h : ¬ b.toNat < a.toNat) (hb : Low b) : Rx.matchN (Rx.setP neg a.toNat b.toNat) [c] = (bet a b c != neg) := by
  have k := Rx.set_takes neg a.toNat b.toNat c.toNat c.toNat_lt (by omega) hb.2
  rw [show c.toNat.toUInt8 = c from by simp] at k
  rw [k]
  congr 1
  unfold Rx.inR bet
  simp only [Int.ofNat_le]
set_option maxHeartbeats 8000000 in
theorem sets_law (a b c : UInt8) (w : World) (hT : Tab w) : Calls Tryd.prog 7 #[.int .u8 (a.toNat : Int), .int .u8 (b.toNat : Int), .int .u8 (c.toNat : Int)] w fun e w' => e = .returned (.bool true) ∧ Below w.heap.size w w' := by
  have K := Lib.hid (known_any w hT)
  have HT := Lib.hid hT
  clear hT
  go_enter Tryd.func7, Tryd.ntmps7
  go_wp2_with fail
  refine K.out.mono ?_
  rintro e w1 ⟨rfl, hb⟩
  have HT1 := Lib.hid (HT.out.below hb)
  have HB := Lib.hid hb
  clear hb HT K
  go_wp2_with fail
  all_goals first | (go_ret; exact ⟨rfl, HB.out⟩) | skip
  rename_i h1 _ _ _ _
  have ha : Low a := ⟨by omega, by omega⟩
  have hb : Low b := ⟨by omega, by omega⟩
  have hc3 := conv_3 a b w1
  have HT1 := Lib.hid (HT1.out.below (below_cells (.cells #[.int .u8 (a.toNat : Int), .int .u8 45, .int .u8 (b.toNat : Int)] 5)))
  have HB := Lib.hid (HB.out.alloc HB.out.size (.cells #[.int .u8 (a.toNat : Int), .int .u8 45, .int .u8 (b.toNat : Int)] 5))
  rw [hc3]
  clear hc3
  generalize w1.alloc (.cells #[.int .u8 (a.toNat : Int), .int .u8 45, .int .u8 (b.toNat : Int)] 5) = W1 at *
  by_cases hlt : b.toNat < a.toNat
  · have Hi : (b.toNat : Int) < (a.toNat : Int) := by omega
    go_wp2_with fail
    refine (comp_plain_lt a b ha hb hlt W1 HT1.out).mono ?_
    rintro e w2 ⟨rfl, hb2⟩
    have HT2 := Lib.hid (HT1.out.below hb2)
    have HB := Lib.hid (HB.out.trans (hb2.mono HB.out.size))
    clear hb2
    go_wp2_with fail
    refine (comp_turned_lt a b ha hb hlt w2 HT2.out).mono ?_
    rintro e w3 ⟨rfl, hb2⟩
    have HB := Lib.hid (HB.out.trans (hb2.mono HB.out.size))
    clear hb2
    go_wp2
    all_goals first | (exfalso; omega) | (go_ret; exact ⟨rfl, HB.out⟩) | trace_state
  · have Hi : (a.toNat : Int) ≤ (b.toNat : Int) := by omega
    go_wp2_with fail
    refine (comp_plain_le a b ha hb hlt W1 HT1.out).mono ?_
    rintro e w2 ⟨hb2, xb, rfl, hgx, hX⟩
    have HT2 := Lib.hid (HT1.out.below hb2)
    have HX := Lib.hid hX
    have HB := Lib.hid (HB.out.trans (hb2.mono HB.out.size))
    clear hb2 hX hgx
    go_wp2_with fail
    refine (comp_turned_le a b ha hb hlt w2 HT2.out).mono ?_
    rintro e w3 ⟨hb2, yb, rfl, hgy, hY⟩
    have HX := Lib.hid (HX.out.below hb2)
    have HY := Lib.hid hY
    have HB := Lib.hid (HB.out.trans (hb2.mono HB.out.size))
    clear hb2 hY hgy
    go_wp2_with fail
    have hc1 := conv_1 c w3
    have HX := Lib.hid (HX.out.below (below_cells (.cells #[.int .u8 (c.toNat : Int)] 5)))
    have HY := Lib.hid (HY.out.below (below_cells (.cells #[.int .u8 (c.toNat : Int)] 5)))
    have HB := Lib.hid (HB.out.alloc HB.out.size (.cells #[.int .u8 (c.toNat : Int)] 5))
    have MX := Lib.hid (takes_bet false a b c hlt hb)
    have MY := Lib.hid (takes_bet true a b c hlt hb)
    have N0 := Lib.hid (Rx.set_else false a.toNat b.toNat [] (by simp))
    have N2 := Lib.hid (Rx.set_else false a.toNat b.toNat [c, c] (by simp))
    have C2 := Lib.hid (cat_two c)
    rw [hc1]
    clear hc1
    generalize w3.alloc (.cells #[.int .u8 (c.toNat : Int)] 5) = W3 at *
    by_cases q1 : (a.toNat : Int) ≤ (c.toNat : Int)
    · by_cases q2 : (c.toNat : Int) ≤ (b.toNat : Int)
      · have EB : bet a b c = true := by unfold bet; simp only [q1, q2, decide_true, Bool.and_self]
        rw [EB] at MX MY
        go_wp2_with fail
        refine (match_c _ xb _ _ _ _ HX.out [c] (by simp) true MX.out _ rfl).mono ?_
        rintro e w4 ⟨rfl, hq⟩
        have HX := Lib.hid (HX.out.below hq)
        have HY := Lib.hid (HY.out.below hq)
        have HB := Lib.hid (HB.out.trans (hq.mono HB.out.size))
        clear hq
        go_wp2_with fail
        refine (match_c _ yb _ _ _ _ HY.out [c] (by simp) false MY.out _ rfl).mono ?_
        rintro e w5 ⟨rfl, hq⟩
        have HX := Lib.hid (HX.out.below hq)
        have HY := Lib.hid (HY.out.below hq)
        have HB := Lib.hid (HB.out.trans (hq.mono HB.out.size))
        clear hq
        go_wp2_with fail
        refine (match_c _ xb _ _ _ _ HX.out [c] (by simp) true MX.out _ rfl).mono ?_
        rintro e w6 ⟨rfl, hq⟩
        have HX := Lib.hid (HX.out.below hq)
        have HY := Lib.hid (HY.out.below hq)
        have HB := Lib.hid (HB.out.trans (hq.mono HB.out.size))
        clear hq
        go_wp2_with fail
        refine (match_c _ xb _ _ _ _ HX.out [] (by simp) false N0.out _ rfl).mono ?_
        rintro e w7 ⟨rfl, hq⟩
        have HX := Lib.hid (HX.out.below hq)
        have HY := Lib.hid (HY.out.below hq)
        have HB := Lib.hid (HB.out.trans (hq.mono HB.out.size))
        clear hq
        go_wp2_with fail
        rw [C2.out]
        refine (match_c _ xb _ _ _ _ HX.out [c, c] (by simp) false N2.out _ rfl).mono ?_
        rintro e w8 ⟨rfl, hq⟩
        have HX := Lib.hid (HX.out.below hq)
        have HY := Lib.hid (HY.out.below hq)
        have HB := Lib.hid (HB.out.trans (hq.mono HB.out.size))
        clear hq
        go_wp2
        go_ret
        exact ⟨rfl, HB.out⟩
      · have EB : bet a b c = false := by unfold bet; simp only [q1, q2, decide_true, decide_false, Bool.and_false]
        have q4 : decide (c.toNat ≤ b.toNat) = false := decide_eq_false (by omega)
        rw [EB] at MX MY
        go_wp2_with fail
        refine (match_c _ xb _ _ _ _ HX.out [c] (by simp) false MX.out _ rfl).mono ?_
        rintro e w4 ⟨rfl, hq⟩
        have HX := Lib.hid (HX.out.below hq)
        have HY := Lib.hid (HY.out.below hq)
        have HB := Lib.hid (HB.out.trans (hq.mono HB.out.size))
        clear hq
        go_wp2_with fail
        refine (match_c _ yb _ _ _ _ HY.out [c] (by simp) true MY.out _ rfl).mono ?_
        rintro e w5 ⟨rfl, hq⟩
        have HX := Lib.hid (HX.out.below hq)
        have HY := Lib.hid (HY.out.below hq)
        have HB := Lib.hid (HB.out.trans (hq.mono HB.out.size))
        clear hq
        go_wp2_with fail
        refine (match_c _ xb _ _ _ _ HX.out [c] (by simp) false MX.out _ rfl).mono ?_
        rintro e w6 ⟨rfl, hq⟩
        have HX := Lib.hid (HX.out.below hq)
        have HY := Lib.hid (HY.out.below hq)
        have HB := Lib.hid (HB.out.trans (hq.mono HB.out.size))
        clear hq
        go_wp2_with fail
        refine (match_c _ xb _ _ _ _ HX.out [] (by simp) false N0.out _ rfl).mono ?_
        rintro e w7 ⟨rfl, hq⟩
        have HX := Lib.hid (HX.out.below hq)
        have HY := Lib.hid (HY.out.below hq)
        have HB := Lib.hid (HB.out.trans (hq.mono HB.out.size))
        clear hq
        go_wp2_with fail
        rw [C2.out]
        refine (match_c _ xb _ _ _ _ HX.out [c, c] (by simp) false N2.out _ rfl).mono ?_
        rintro e w8 ⟨rfl, hq⟩
        have HX := Lib.hid (HX.out.below hq)
        have HY := Lib.hid (HY.out.below hq)
        have HB := Lib.hid (HB.out.trans (hq.mono HB.out.size))
        clear hq
        go_wp2
        go_ret
        exact ⟨rfl, HB.out⟩
    · have EB : bet a b c = false := by unfold bet; simp only [q1, decide_false, Bool.false_and]
      rw [EB] at MX MY
      go_wp2_with fail
      refine (match_c _ xb _ _ _ _ HX.out [c] (by simp) false MX.out _ rfl).mono ?_
      rintro e w4 ⟨rfl, hq⟩
      have HX := Lib.hid (HX.out.below hq)
      have HY := Lib.hid (HY.out.below hq)
      have HB := Lib.hid (HB.out.trans (hq.mono HB.out.size))
      clear hq
      go_wp2_with fail
      refine (match_c _ yb _ _ _ _ HY.out [c] (by simp) true MY.out _ rfl).mono ?_
      rintro e w5 ⟨rfl, hq⟩
      have HX := Lib.hid (HX.out.below hq)
      have HY := Lib.hid (HY.out.below hq)
      have HB := Lib.hid (HB.out.trans (hq.mono HB.out.size))
      clear hq
      go_wp2_with fail
      refine (match_c _ xb _ _ _ _ HX.out [c] (by simp) false MX.out _ rfl).mono ?_
      rintro e w6 ⟨rfl, hq⟩
      have HX := Lib.hid (HX.out.below hq)
      have HY := Lib.hid (HY.out.below hq)
      have HB := Lib.hid (HB.out.trans (hq.mono HB.out.size))
      clear hq
      go_wp2_with fail
      refine (match_c _ xb _ _ _ _ HX.out [] (by simp) false N0.out _ rfl).mono ?_
      rintro e w7 ⟨rfl, hq⟩
      have HX := Lib.hid (HX.out.below hq)
      have HY := Lib.hid (HY.out.below hq)
      have HB := Lib.hid (HB.out.trans (hq.mono HB.out.size))
      clear hq
      go_wp2_with fail
      rw [C2.out]
      refine (match_c _ xb _ _ _ _ HX.out [c, c] (by simp) false N2.out _ rfl).mono ?_
      rintro e w8 ⟨rfl, hq⟩
      have HX := Lib.hid (HX.out.below hq)
      have HY := Lib.hid (HY.out.below hq)
      have HB := Lib.hid (HB.out.trans (hq.mono HB.out.size))
      clear hq
      go_wp2
      go_ret
      exact ⟨rfl, HB.out⟩
theorem sets_law3 (x0 x1 x2 : Int) (b0 : 0 ≤ x0 ∧ x0 ≤ 255) (b1 : 0 ≤ x1 ∧ x1 ≤ 255) (b2 : 0 ≤ x2 ∧ x2 ≤ 255) (w : World) (hT : Tab w) :
    Calls Tryd.prog 7 #[.int .u8 x0, .int .u8 x1, .int .u8 x2] w fun e w' => e = .returned (.bool true) ∧ Below w.heap.size w w' := by
  have e0 : ((x0.toNat.toUInt8).toNat : Int) = x0 := by simp; omega
  have e1 : ((x1.toNat.toUInt8).toNat : Int) = x1 := by simp; omega
  have e2 : ((x2.toNat.toUInt8).toNat : Int) = x2 := by simp; omega
  have k := sets_law x0.toNat.toUInt8 x1.toNat.toUInt8 x2.toNat.toUInt8 w hT
  rw [e0, e1, e2] at k
  exact k
end Go.Proofs.YtcfdpbbpdnpnnaaDoor
