/- belfrylaw4.RegexQuote: for every two texts the law returns true. -/
import Derived.Test.YtcfdpbbpdnpnnaaDoorKnown
import Derived.Test.YtcfdpbbpdnpnnaaDoorQuoteM
namespace Go.Proofs.YtcfdpbbpdnpnnaaDoor
open Go Go.Proofs Go.RowKit Go.Shelf
set_option maxRecDepth 100000
theorem rng_ok (l : List UInt8) (h : l.any badB = false) : ∀ c ∈ l, Rx.okB c := by
  intro c hc
  rw [List.any_eq_false] at h
  have := h c hc
  unfold badB at this
  simp at this
  exact ⟨by omega, by omega⟩
theorem sz_list (l : List UInt8) : (⟨l.toArray⟩ : ByteArray).size = l.length := by rw [Lib.size_eq]
set_option maxHeartbeats 8000000 in
theorem quote_law (l u : List UInt8) (hl : l.length ≤ 9223372036854775807) (hu : u.length ≤ 9223372036854775807) (w : World) (hT : Tab w) : Calls Tryd.prog 4 #[.string ⟨l.toArray⟩, .string ⟨u.toArray⟩] w fun e w' => e = .returned (.bool true) ∧ Below w.heap.size w w' := by
  have K := Lib.hid (known_any w hT)
  have HT := Lib.hid hT
  have sl := sz_list l
  have su := sz_list u
  have el : (⟨l.toArray⟩ : ByteArray).toList = l := by rw [ByteArray.toList_eq]
  have eu : (⟨u.toArray⟩ : ByteArray).toList = u := by rw [ByteArray.toList_eq]
  clear hT
  by_cases hs : 30 < l.length
  · have d1 : decide ((30 : Int) < (l.length : Int)) = true := decide_eq_true (by omega)
    have d2 : decide (30 < l.length) = true := decide_eq_true hs
    go_enter Tryd.func4, Tryd.ntmps4
    go_wp2_with fail
    refine K.out.mono ?_
    rintro e w1 ⟨rfl, hb⟩
    go_wp2
    go_ret; exact ⟨rfl, hb⟩
  have d1 : decide ((30 : Int) < (l.length : Int)) = false := decide_eq_false (by omega)
  have d2 : decide (30 < l.length) = false := decide_eq_false hs
  by_cases ht : 30 < u.length
  · have d3 : decide ((30 : Int) < (u.length : Int)) = true := decide_eq_true (by omega)
    have d4 : decide (30 < u.length) = true := decide_eq_true ht
    go_enter Tryd.func4, Tryd.ntmps4
    go_wp2_with fail
    refine K.out.mono ?_
    rintro e w1 ⟨rfl, hb⟩
    go_wp2
    go_ret; exact ⟨rfl, hb⟩
  have d3 : decide ((30 : Int) < (u.length : Int)) = false := decide_eq_false (by omega)
  have d4 : decide (30 < u.length) = false := decide_eq_false ht
  by_cases h0 : l = []
  · subst h0
    go_enter Tryd.func4, Tryd.ntmps4
    go_wp2_with fail
    refine K.out.mono ?_
    rintro e w1 ⟨rfl, hb⟩
    go_wp2
    go_ret; exact ⟨rfl, hb⟩
  have q0 : (l == []) = false := by rw [beq_eq_false_iff_ne]; exact h0
  have hp := printable_at ⟨l.toArray⟩ l rfl (by omega)
  by_cases hb : l.any badB = true
  · rw [hb] at hp
    have HP := Lib.hid hp
    clear hp
    go_enter Tryd.func4, Tryd.ntmps4
    go_wp2_with fail
    refine K.out.mono ?_
    rintro e w1 ⟨rfl, hb⟩
    go_wp2_with fail
    refine (HP.out w1).mono ?_
    rintro e w2 ⟨rfl, rfl⟩
    go_wp2
    go_ret; exact ⟨rfl, hb⟩
  rw [Bool.not_eq_true] at hb
  rw [hb] at hp
  have HP := Lib.hid hp
  clear hp
  have HQ := Lib.hid (quote_at ⟨l.toArray⟩ l rfl (by omega))
  have HR := Lib.hid (rquote_at ⟨l.toArray⟩ l rfl (by omega))
  have hql := quoteR_len l
  have hcq := Rx.compile_quote l h0 (by omega) (rng_ok l hb)
  have HC := Lib.hid (fun (w : World) (h : Tab w) => hcq ▸ compile_any ⟨(quoteR l).toArray⟩ (quoteR l) rfl (by omega) w h)
  have hms := Rx.quote_match l l (by omega)
  have MS : Hid (Rx.matchN (.alt .nil (Rx.quoteP l)) l = true) := hms.trans (decide_eq_true rfl)
  have hmt := Rx.quote_match l u (by omega)
  have ll : l.length ≤ 1000 := by omega
  have ul : u.length ≤ 1000 := by omega
  have eq : (⟨(quoteR l).toArray⟩ : ByteArray).toList = quoteR l := by rw [ByteArray.toList_eq]
  have q2 : (quoteR l == quoteR l) = true := beq_self_eq_true _
  have MT : Hid (Rx.matchN (.alt .nil (Rx.quoteP l)) u = (l == u)) := hmt.trans (by rw [Bool.eq_iff_iff, decide_eq_true_iff, beq_iff_eq]; exact eq_comm)
  have q3 : ((l == u) == (l == u)) = true := beq_self_eq_true _
  clear h0 hb hql hms hmt hcq
  generalize hB : (l == u) = B at *
  have HBQ := Lib.hid hB
  clear hB
  go_enter Tryd.func4, Tryd.ntmps4
  go_wp2_with fail
  refine K.out.mono ?_
  rintro e w1 ⟨rfl, hb⟩
  have HT1 := Lib.hid (HT.out.below hb)
  have HB := Lib.hid hb
  clear hb HT K
  go_wp2_with fail
  refine (HP.out w1).mono ?_
  rintro e w2 ⟨rfl, rfl⟩
  go_wp2_with fail
  refine (HQ.out w1).mono ?_
  rintro e w2 ⟨rfl, hb⟩
  have HT2 := Lib.hid (HT1.out.below hb)
  have HB := Lib.hid (HB.out.trans (hb.mono HB.out.size))
  clear hb
  go_wp2_with fail
  refine (HC.out w2 HT2.out).mono ?_
  rintro e w3 ⟨hb, xb, rfl, hgx, hX⟩
  have HX := Lib.hid hX
  have HB := Lib.hid (HB.out.trans (hb.mono HB.out.size))
  clear hb hX hgx
  go_wp2_with fail
  refine (HR.out w3).mono ?_
  rintro e w4 ⟨rfl, hb⟩
  have HX := Lib.hid (HX.out.below hb)
  have HB := Lib.hid (HB.out.trans (hb.mono HB.out.size))
  clear hb
  go_wp2_with fail
  refine (match_c _ xb _ _ _ _ HX.out l ll _ MS.out _ rfl).mono ?_
  rintro e w5 ⟨rfl, hb⟩
  have HX := Lib.hid (HX.out.below hb)
  have HB := Lib.hid (HB.out.trans (hb.mono HB.out.size))
  clear hb
  go_wp2_with fail
  refine (match_c _ xb _ _ _ _ HX.out u ul _ MT.out _ rfl).mono ?_
  rintro e w6 ⟨rfl, hb⟩
  have HB := Lib.hid (HB.out.trans (hb.mono HB.out.size))
  clear hb
  go_wp2
  go_ret
  exact ⟨by rw [HBQ.out, q3]; rfl, HB.out⟩
end Go.Proofs.YtcfdpbbpdnpnnaaDoor
