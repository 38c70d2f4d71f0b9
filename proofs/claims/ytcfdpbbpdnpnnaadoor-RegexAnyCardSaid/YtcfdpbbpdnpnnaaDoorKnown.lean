/- The law's known. -/
import Derived.Test.YtcfdpbbpdnpnnaaDoorMatch
namespace Go.Proofs.YtcfdpbbpdnpnnaaDoor
open Go Go.Proofs Go.RowKit Go.Shelf
set_option maxRecDepth 100000
def L1 : List UInt8 := [97, 40, 98, 124, 99, 41, 42, 91, 48, 45, 57, 93, 63, 92, 46]
def P1 : Rx.Pt := match Rx.compileF L1 with | .ok p _ => p | .bad _ _ => .nil
theorem k1 : Rx.compileF L1 = .ok P1 0 := by kernel_rfl
theorem k2 : Rx.compileF [97, 98, 40] = .bad 2 3 := by kernel_rfl
theorem m1 : Rx.matchN P1 [97, 98, 99, 99, 98, 55, 46] = true := by kernel_rfl
theorem m2 : Rx.matchN P1 [97, 46] = true := by kernel_rfl
theorem m3 : Rx.matchN P1 [97, 55] = false := by kernel_rfl
theorem m4 : Rx.matchN P1 [120, 97, 46] = false := by kernel_rfl
theorem q1 : quoteR [97, 46, 98] = [97, 92, 46, 98] := by kernel_rfl
theorem RxAt.below {base rb : Nat} {s : ByteArray} {l : List UInt8} {p : Rx.Pt} {w w' : World} (h : RxAt base rb s l p w) (hb : Below w.heap.size w w') : RxAt base rb s l p w' := by
  obtain ⟨g, cap, h1, h2, h3⟩ := h
  exact ⟨g, cap, h1, h2.below hb, h3.below hb⟩
theorem rtext_any (base rb : Nat) (s : ByteArray) (l : List UInt8) (p : Rx.Pt) (w : World) (hX : RxAt base rb s l p w) :
    Calls Tryd.prog 11 #[.pointer (some ⟨rb, 0, none⟩)] w fun e w' => e = .returned (.string s) ∧ w = w' := by
  obtain ⟨g, cap, _, aX, _⟩ := hX
  have a0 := aX.cell 0 _ rfl
  have nx := aX.lt
  clear aX
  go_enter Tryd.func11, Tryd.ntmps11
  go_wp2
  go_ret
  exact ⟨rfl, rfl⟩
theorem comp_k1 (w : World) (hT : Tab w) : Calls Tryd.prog 9 #[.string ⟨#[97, 40, 98, 124, 99, 41, 42, 91, 48, 45, 57, 93, 63, 92, 46]⟩] w (CP w ⟨L1.toArray⟩ L1 (.ok P1 0)) := by
  have h := compile_any ⟨L1.toArray⟩ L1 rfl (by decide) w hT
  rw [k1] at h
  exact h
theorem comp_k2 (w : World) (hT : Tab w) : Calls Tryd.prog 9 #[.string ⟨#[97, 98, 40]⟩] w fun e w' => e = .returned (.tuple #[.pointer none, .int .i64 3, .int .i64 2]) ∧ Below w.heap.size w w' := by
  have h := compile_any ⟨#[97, 98, 40]⟩ [97, 98, 40] rfl (by decide) w hT
  rw [k2] at h
  exact h.mono fun e w' q => ⟨q.2, q.1⟩
theorem match_c (base rb : Nat) (sp : ByteArray) (lp : List UInt8) (p : Rx.Pt) (w : World) (hX : RxAt base rb sp lp p w) (l : List UInt8) (hl : l.length ≤ 1000) (b : Bool) (hm : Rx.matchN p l = b) (s : ByteArray) (hs : s.data.toList = l) :
    Calls Tryd.prog 12 #[.pointer (some ⟨rb, 0, none⟩), .string s] w fun e w' => e = .returned (.bool b) ∧ Below w.heap.size w w' := by
  rw [← hm]; exact match_any base rb s sp l lp hs hl p w hX
theorem quote_c (w : World) : Calls Tryd.prog 15 #[.string ⟨#[97, 46, 98]⟩] w fun e w' => e = .returned (.string ⟨#[97, 92, 46, 98]⟩) ∧ Below w.heap.size w w' := by
  have h := quote_at ⟨#[97, 46, 98]⟩ [97, 46, 98] rfl (by decide) w
  rw [q1] at h
  exact h
set_option maxHeartbeats 4000000 in
theorem known_any (w : World) (hT : Tab w) : Calls Tryd.prog 8 #[] w fun e w' => e = .returned (.bool true) ∧ Below w.heap.size w w' := by
  have HT := Lib.hid hT
  clear hT
  go_enter Tryd.func8, Tryd.ntmps8
  go_wp2_with fail
  refine (comp_k1 _ HT.out).mono ?_
  rintro e w1 ⟨hb, rb, rfl, hge, hX⟩
  have HT1 := Lib.hid (HT.out.below hb)
  have HB := Lib.hid hb
  have HX := Lib.hid hX
  clear hb hX hge HT
  go_wp2_with fail
  refine (comp_k2 _ HT1.out).mono ?_
  rintro e w2 ⟨rfl, hb⟩
  have HX := Lib.hid (HX.out.below hb)
  have HB := Lib.hid (HB.out.trans (hb.mono HB.out.size))
  clear hb HT1
  go_wp2_with fail
  refine (match_c _ rb _ _ P1 _ HX.out _ (by decide) true m1 _ rfl).mono ?_
  rintro e w3 ⟨rfl, hb⟩
  have HX := Lib.hid (HX.out.below hb)
  have HB := Lib.hid (HB.out.trans (hb.mono HB.out.size))
  clear hb
  go_wp2_with fail
  refine (match_c _ rb _ _ P1 _ HX.out _ (by decide) true m2 _ rfl).mono ?_
  rintro e w4 ⟨rfl, hb⟩
  have HX := Lib.hid (HX.out.below hb)
  have HB := Lib.hid (HB.out.trans (hb.mono HB.out.size))
  clear hb
  go_wp2_with fail
  refine (match_c _ rb _ _ P1 _ HX.out _ (by decide) false m3 _ rfl).mono ?_
  rintro e w5 ⟨rfl, hb⟩
  have HX := Lib.hid (HX.out.below hb)
  have HB := Lib.hid (HB.out.trans (hb.mono HB.out.size))
  clear hb
  go_wp2_with fail
  refine (match_c _ rb _ _ P1 _ HX.out _ (by decide) false m4 _ rfl).mono ?_
  rintro e w6 ⟨rfl, hb⟩
  have HX := Lib.hid (HX.out.below hb)
  have HB := Lib.hid (HB.out.trans (hb.mono HB.out.size))
  clear hb
  go_wp2_with fail
  refine (rtext_any _ rb _ _ P1 _ HX.out).mono ?_
  rintro e w7 ⟨rfl, rfl⟩
  have teq : ((⟨L1.toArray⟩ : ByteArray) == ⟨#[97, 40, 98, 124, 99, 41, 42, 91, 48, 45, 57, 93, 63, 92, 46]⟩) = true := by decide
  go_wp2_with fail
  refine (quote_c _).mono ?_
  rintro e w8 ⟨rfl, hb⟩
  have HB := Lib.hid (HB.out.trans (hb.mono HB.out.size))
  clear hb
  go_wp2
  go_ret
  exact ⟨rfl, HB.out⟩
end Go.Proofs.YtcfdpbbpdnpnnaaDoor
