/- cmp.Compare of texts; label.Compare. -/
import Derived.Test.YtmcmgmpgmbljiaaDoorHash
namespace Go.Proofs.YtmcmgmpgmbljiaaDoor
open Go Go.Proofs Go.RowKit Go.Shelf
set_option maxRecDepth 100000
theorem nan_no (s : ByteArray) (w : World) : Calls Tryd.prog 59 #[.string s] w fun e w' => e = .returned (.bool false) ∧ w = w' := by
  go_enter Tryd.func59, Tryd.ntmps59
  go_wp2
  go_ret
  exact ⟨rfl, rfl⟩
/-- how a text stands to another, by bytes -/
def cmpR (a b : List UInt8) : Int := if Op.bytesLess a b = true then -1 else if (a == b) = true then 0 else 1
theorem cmp_any (a b : List UInt8) (w : World) : Calls Tryd.prog 43 #[.string ⟨a.toArray⟩, .string ⟨b.toArray⟩] w fun e w' => e = .returned (.int .i64 (cmpR a b)) ∧ w = w' := by
  have N := Lib.hid (fun s W => nan_no s W)
  have ea : (⟨a.toArray⟩ : ByteArray).toList = a := by rw [ByteArray.toList_eq]
  have eb : (⟨b.toArray⟩ : ByteArray).toList = b := by rw [ByteArray.toList_eq]
  have R : Hid (cmpR a b = if Op.bytesLess a b = true then -1 else if (a == b) = true then 0 else 1) := rfl
  cases h1 : Op.bytesLess a b
  · cases h2 : (a == b)
    · go_enter Tryd.func43, Tryd.ntmps43
      go_wp2_with fail
      refine (N.out _ _).mono ?_
      rintro e w1 ⟨rfl, rfl⟩
      go_wp2_with fail
      refine (N.out _ _).mono ?_
      rintro e w1 ⟨rfl, rfl⟩
      go_wp2
      go_ret
      exact ⟨by rw [R.out, if_neg (by rw [h1]; simp), if_neg (by rw [h2]; simp)]; rfl, rfl⟩
    · go_enter Tryd.func43, Tryd.ntmps43
      go_wp2_with fail
      refine (N.out _ _).mono ?_
      rintro e w1 ⟨rfl, rfl⟩
      go_wp2_with fail
      refine (N.out _ _).mono ?_
      rintro e w1 ⟨rfl, rfl⟩
      go_wp2
      go_ret
      exact ⟨by rw [R.out, if_neg (by rw [h1]; simp), if_pos h2]; rfl, rfl⟩
  · go_enter Tryd.func43, Tryd.ntmps43
    go_wp2_with fail
    refine (N.out _ _).mono ?_
    rintro e w1 ⟨rfl, rfl⟩
    go_wp2_with fail
    refine (N.out _ _).mono ?_
    rintro e w1 ⟨rfl, rfl⟩
    go_wp2
    go_ret
    exact ⟨by rw [R.out, if_pos h1]; rfl, rfl⟩
theorem compare_any (a1 a2 : Option Addr) (n1 c1 n2 c2 : Nat) (x y : List SLab) (hx : x.length ≤ 100) (hy : y.length ≤ 100) (w : World) (h1 : Labs w.heap.size w (.slice a1 n1 c1) x) (h2 : Labs w.heap.size w (.slice a2 n2 c2) y) :
    Calls Tryd.prog 21 #[.slice a1 n1 c1, .slice a2 n2 c2] w fun e w' => e = .returned (.int .i64 (cmpR (textL x) (textL y))) ∧ Below w.heap.size w w' := by
  have T1 := Lib.hid (fun W (hb : Below w.heap.size w W) => ltext_any a1 n1 c1 x hx W (by
    have := h1.below hb
    rcases this with h | ⟨b, off, cap, e, hlt, hc⟩
    · exact .inl h
    · exact .inr ⟨b, off, cap, e, Nat.lt_of_lt_of_le hlt hb.size, hc⟩))
  have T2 := Lib.hid (fun W (hb : Below w.heap.size w W) => ltext_any a2 n2 c2 y hy W (by
    have := h2.below hb
    rcases this with h | ⟨b, off, cap, e, hlt, hc⟩
    · exact .inl h
    · exact .inr ⟨b, off, cap, e, Nat.lt_of_lt_of_le hlt hb.size, hc⟩))
  have C := Lib.hid (fun W => cmp_any (textL x) (textL y) W)
  unfold textL at C ⊢
  generalize (runS x).1 ++ [125] = p at *
  generalize (runS y).1 ++ [125] = q at *
  have hB0 := Below.refl w.heap.size w
  clear h1 h2
  go_enter Tryd.func21, Tryd.ntmps21
  go_wp2_with fail
  refine (T1.out _ hB0).mono ?_
  rintro e w1 ⟨rfl, hb1⟩
  go_wp2_with fail
  refine (T2.out _ hb1).mono ?_
  rintro e w2 ⟨rfl, hb2⟩
  have hB2 := hb1.trans (hb2.mono hb1.size)
  clear hb1 hb2 hB0
  go_wp2_with fail
  refine (C.out _).mono ?_
  rintro e w3 ⟨rfl, rfl⟩
  go_wp2
  go_ret
  exact ⟨rfl, hB2⟩
end Go.Proofs.YtmcmgmpgmbljiaaDoor
