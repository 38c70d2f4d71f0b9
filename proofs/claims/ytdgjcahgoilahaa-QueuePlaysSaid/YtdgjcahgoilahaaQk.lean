/- known: two things. -/
import Derived.Test.YtdgjcahgoilahaaQs
import Derived.Test.YtdgjcahgoilahaaQi
import Derived.Test.YtdgjcahgoilahaaQn
namespace Go.Proofs.Ytdgjcahgoilahaa
open Go Go.Proofs Go.RowKit Go.Shelf
set_option maxRecDepth 100000
section
variable {B b most : Nat} {v : Value} {o : Option Nat} {X : List (List UInt8)} {w : World}
theorem putS_ok (x : List UInt8) (h : QAS B w b most v o X) (hl : X.length < most) : Calls Try.prog 8 #[.pointer (some ⟨b, 0, none⟩), qES x] w fun e w' => ∃ v' o', e = .returned (.int .i64 0) ∧ QAS B w' b most v' o' (X ++ [x]) ∧ Below B w w' :=
  (putS_any x h).mono (by
    rintro e w2 ⟨v', o', X', rfl, rfl, hQ, hto⟩
    rw [if_pos hl] at hQ ⊢
    exact ⟨v', o', rfl, hQ, h.to_below hto⟩)
theorem putS_no (x : List UInt8) (h : QAS B w b most v o X) (hl : ¬ X.length < most) : Calls Try.prog 8 #[.pointer (some ⟨b, 0, none⟩), qES x] w fun e w' => ∃ v' o', e = .returned (.int .i64 11) ∧ QAS B w' b most v' o' X ∧ Below B w w' :=
  (putS_any x h).mono (by
    rintro e w2 ⟨v', o', X', rfl, rfl, hQ, hto⟩
    rw [if_neg hl] at hQ ⊢
    exact ⟨v', o', rfl, hQ, h.to_below hto⟩)
theorem takeS_some {x : List UInt8} {t : List (List UInt8)} (h : QAS B w b most v o (x :: t)) : Calls Try.prog 9 #[.pointer (some ⟨b, 0, none⟩)] w fun e w' => ∃ v' o', e = .returned (.tuple #[.string ⟨x.toArray⟩, .bool true]) ∧ QAS B w' b most v' o' t ∧ Below B w w' :=
  (takeS_any h).mono (by
    rintro e w2 ⟨v', o', rfl, hQ, hto⟩
    exact ⟨v', o', rfl, hQ, h.to_below hto⟩)
theorem headS_some {x : List UInt8} {t : List (List UInt8)} (h : QAS B w b most v o (x :: t)) : Calls Try.prog 12 #[.pointer (some ⟨b, 0, none⟩)] w fun e w' => e = .returned (.tuple #[.string ⟨x.toArray⟩, .bool true]) ∧ Below w.heap.size w w' := headS_any h
theorem takeS_none (h : QAS B w b most v o []) : Calls Try.prog 9 #[.pointer (some ⟨b, 0, none⟩)] w fun e w' => ∃ v' o', e = .returned (.tuple #[.string ⟨#[]⟩, .bool false]) ∧ QAS B w' b most v' o' [] ∧ Below B w w' :=
  (takeS_any h).mono (by
    rintro e w2 ⟨v', o', rfl, hQ, hto⟩
    exact ⟨v', o', rfl, hQ, h.to_below hto⟩)
end
set_option maxHeartbeats 4000000 in
theorem known_any (w : World) : Calls Try.prog 6 #[] w fun e w' => e = .returned (.bool true) ∧ Below w.heap.size w w' := by
  have C1 := Lib.hid (newS_any 2 w)
  have C12 := Lib.hid (fun u => newN_any 0 u)
  go_enter Try.func6, Try.ntmps6
  go_wp2_with fail
  refine C1.out.mono ?_
  rintro e w1 (⟨_, rfl, hQ1, hB1⟩ | ⟨hn, _⟩)
  case inr => exact absurd ⟨by omega, by omega⟩ hn
  have C := Lib.hid (putS_ok [97] hQ1 (by decide))
  have hB := Lib.hid hB1
  clear hB1 hQ1 C1
  go_wp2_with fail
  refine C.out.mono ?_
  rintro e w2 ⟨v2, o2, rfl, hQ2, hb2⟩
  have C := Lib.hid (putS_ok [98] hQ2 (by decide))
  have hB := Lib.hid (hB.out.trans hb2)
  clear hQ2 hb2
  go_wp2_with fail
  refine C.out.mono ?_
  rintro e w3 ⟨v3, o3, rfl, hQ3, hb3⟩
  have C := Lib.hid (putS_no [99] hQ3 (by decide))
  have hB := Lib.hid (hB.out.trans hb3)
  clear hQ3 hb3
  go_wp2_with fail
  refine C.out.mono ?_
  rintro e w4 ⟨v4, o4, rfl, hQ4, hb4⟩
  have C := Lib.hid (allS_any hQ4)
  have hB := Lib.hid (hB.out.trans hb4)
  have HQ := Lib.hid hQ4
  clear hQ4 hb4
  go_wp2_with fail
  refine C.out.mono ?_
  rintro e w5 ⟨r, rfl, hr, hb5⟩
  obtain ⟨gr, cr, rfl⟩ := ownsRow_succ (k := 1) hr
  have hQ5 := HQ.out.below hb5
  have C := Lib.hid (headS_some hQ5)
  have hB := Lib.hid (hB.out.trans (hb5.mono hB.out.size))
  have HQ := Lib.hid hQ5
  clear hQ5 hb5 hr
  go_wp2_with fail
  refine C.out.mono ?_
  rintro e w6 ⟨rfl, hb6⟩
  have hQ6 := HQ.out.below hb6
  have C := Lib.hid (takeS_some hQ6)
  have hB := Lib.hid (hB.out.trans (hb6.mono hB.out.size))
  clear hQ6 hb6
  go_wp2_with fail
  refine C.out.mono ?_
  rintro e w7 ⟨v7, o7, rfl, hQ7, hb7⟩
  have C := Lib.hid (clearS_any hQ7)
  have hB := Lib.hid (hB.out.trans hb7)
  have HQ := Lib.hid hQ7
  clear hQ7 hb7
  go_wp2_with fail
  refine C.out.mono ?_
  rintro e w8 ⟨rfl, v8, o8, hQ8, hto8⟩
  have hb8 := HQ.out.to_below hto8
  have C := Lib.hid (takeS_none hQ8)
  have hB := Lib.hid (hB.out.trans hb8)
  clear hQ8 hb8 hto8
  go_wp2_with fail
  refine C.out.mono ?_
  rintro e w9 ⟨v9, o9, rfl, hQ9, hb9⟩
  have hB := Lib.hid (hB.out.trans hb9)
  have HQ := Lib.hid hQ9
  clear hQ9 hb9
  go_wp2_with fail
  refine (C12.out _).mono ?_
  rintro e w10 (⟨hn, _⟩ | ⟨_, rfl, rfl⟩)
  case inl => exact absurd hn (by omega)
  have C := Lib.hid (lenS_any HQ.out)
  clear C12
  go_wp2_with fail
  refine C.out.mono ?_
  rintro e w11 ⟨rfl, rfl⟩
  go_wp2
  go_ret
  exact ⟨rfl, hB.out⟩
end Go.Proofs.Ytdgjcahgoilahaa
