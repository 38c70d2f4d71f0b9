/- slices.BinarySearchFunc over labels, by With's closure. -/
import Derived.Test.YtmcmgmpgmbljiaaDoorCmp
import Derived.Test.YtmcmgmpgmbljiaaDoorCheck
import Derived.IntWalk
namespace Go.Proofs.YtmcmgmpgmbljiaaDoor
open Go Go.Proofs Go.RowKit Go.Shelf
set_option maxRecDepth 100000
theorem with1_any (n v t : List UInt8) (w : World) : Calls Tryd.prog 49 #[.agg #[.string ⟨n.toArray⟩, .string ⟨v.toArray⟩], .string ⟨t.toArray⟩] w fun e w' => e = .returned (.int .i64 (cmpR n t)) ∧ Below w.heap.size w w' := by
  have C := Lib.hid (fun W => cmp_any n t W)
  go_enter Tryd.func49, Tryd.ntmps49
  go_wp2_with fail
  refine (C.out _).mono ?_
  rintro e w1 ⟨rfl, rfl⟩
  go_wp2
  go_ret
  exact ⟨rfl, by go_grown⟩
theorem cmpR_lt (a b : List UInt8) : decide (cmpR a b < 0) = Op.bytesLess a b := by
  unfold cmpR
  cases h : Op.bytesLess a b
  · cases h2 : (a == b) <;> simp
  · simp
def BsPost (p : Nat) (w : World) (e : Ending) (w' : World) : Prop := ∃ b, e = .returned (.tuple #[.int .i64 (p : Int), .bool b]) ∧ Below w.heap.size w w'
set_option maxHeartbeats 4000000 in
theorem bs_any (a : Option Addr) (len cap : Nat) (zs : List SLab) (hreach : zs.length ≤ 100) (t : List UInt8) (p : Nat) (hp : p ≤ zs.length) (hP : ∀ k x, zs[k]? = some x → (Op.bytesLess x.1.1 t = true ↔ k < p)) (w : World) (hI : Labs w.heap.size w (.slice a len cap) zs) :
    Calls Tryd.prog 48 #[.slice a len cap, .string ⟨t.toArray⟩, .func (.func 49) #[] #[]] w (BsPost p w) := by
  obtain rfl : len = zs.length := hI.len
  have HP := Lib.hid hP
  have HI := Lib.hid hI
  clear hP hI
  go_enter Tryd.func48, Tryd.ntmps48
  go_wp2
  go_loopw [9, 10] (fun i9 j10 wr => ∃ i j : Nat, i9 = .int .i64 (i : Int) ∧ j10 = .int .i64 (j : Int) ∧ i ≤ p ∧ p ≤ j ∧ j ≤ zs.length ∧ Below w.heap.size w wr) (fun i9 j10 _ => (intOf j10).toNat - (intOf i9).toNat)
  case atStart => exact ⟨0, zs.length, rfl, rfl, Nat.zero_le _, hp, Nat.le_refl _, Below.refl _ _⟩
  case round =>
    obtain ⟨i, j, rfl, rfl, h1, h2, h3, hB⟩ := hrel
    by_cases hlt : i < j
    · have hlt' : (i : Int) < (j : Int) := by omega
      obtain ⟨h, hh⟩ : ∃ h : Nat, h = (i + j) / 2 := ⟨_, rfl⟩
      have hhn : h < zs.length := by omega
      obtain ⟨x, hx⟩ : ∃ x, zs[h]? = some x := ⟨_, List.getElem?_eq_getElem hhn⟩
      have hPh := HP.out h x hx
      rcases HI.out.below hB with ⟨_, rfl⟩ | ⟨b, off, c, e, hb, hc⟩
      · simp at hhn
      obtain ⟨rfl, rfl⟩ : a = some ⟨b, off, none⟩ ∧ cap = c := by simpa using e
      obtain ⟨c0, c1⟩ := hc h x hx
      obtain ⟨⟨xn, xv⟩, hx0⟩ := x
      dsimp only at hPh c0 c1
      have W1 := Lib.hid (with1_any xn xv t wr)
      have q1 : (0 : Int) ≤ ((i : Int) + (j : Int)) / 2 := by omega
      have q2 : ((i : Int) + (j : Int)) / 2 < (zs.length : Int) := by omega
      have q3 : (((i : Int) + (j : Int)) / 2).toNat = h := by omega
      have Q4 := Lib.hid (show ((i : Int) + (j : Int)) / 2 = (h : Int) by omega)
      have q5 : IntKind.i64.wrap ((h : Int) + 1) = (h : Int) + 1 := by rw [IntKind.wrap_i64]; omega
      have hlt2 := cmpR_lt xn t
      have HH := Lib.hid hh
      have HPH := Lib.hid hPh
      clear e hc hx hh hPh
      go_wp2_with fail
      refine (W1.out).mono ?_
      rintro e w1 ⟨rfl, hb1⟩
      have hB1 := hB.trans (hb1.mono hB.size)
      cases hbl : Op.bytesLess xn t
      · rw [hbl] at hlt2
        go_wp2
        rw [Q4.out]
        have hnp : ¬ h < p := fun hc => by have := HPH.out.2 hc; rw [hbl] at this; cases this
        have := HH.out
        exact ⟨⟨i, h, rfl, rfl, h1, by omega, by omega, hB1⟩, by simp only [intOf]; omega⟩
      · rw [hbl] at hlt2
        go_wp2
        rw [Q4.out]
        have hnp : h < p := HPH.out.1 hbl
        have := HH.out
        exact ⟨⟨h + 1, j, by go_num, rfl, by omega, h2, h3, hB1⟩, by simp only [intOf]; omega⟩
    · obtain rfl : i = p := by omega
      obtain rfl : j = i := by omega
      have hlt' : ¬ (j : Int) < (j : Int) := by omega
      by_cases hn : j < zs.length
      · obtain ⟨x, hx⟩ : ∃ x, zs[j]? = some x := ⟨_, List.getElem?_eq_getElem hn⟩
        rcases HI.out.below hB with ⟨_, rfl⟩ | ⟨b, off, c, e, hb, hc⟩
        · simp at hn
        obtain ⟨rfl, rfl⟩ : a = some ⟨b, off, none⟩ ∧ cap = c := by simpa using e
        obtain ⟨c0, c1⟩ := hc j x hx
        obtain ⟨⟨xn, xv⟩, hx0⟩ := x
        dsimp only at c0 c1
        have W1 := Lib.hid (with1_any xn xv t wr)
        have q1 : (0 : Int) ≤ (j : Int) := by omega
        have q2 : (j : Int) < (zs.length : Int) := by omega
        clear e hc hx hlt
        go_wp2_with fail
        refine (W1.out).mono ?_
        rintro e w1 ⟨rfl, hb1⟩
        have hB1 := hB.trans (hb1.mono hB.size)
        go_wp2
        go_ret2
        exact ⟨_, rfl, hB1⟩
      · have q2 : ¬ (j : Int) < (zs.length : Int) := by omega
        clear hlt
        go_wp2
        go_ret2
        exact ⟨_, rfl, hB⟩
end Go.Proofs.YtmcmgmpgmbljiaaDoor
