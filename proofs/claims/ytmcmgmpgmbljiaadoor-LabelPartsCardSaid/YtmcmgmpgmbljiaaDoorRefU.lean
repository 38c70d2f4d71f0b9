/- belfryref9.Compare. -/
import Derived.Test.YtmcmgmpgmbljiaaDoorRefT
import Derived.Test.YtmcmgmpgmbljiaaDoorOrd
import Derived.Test.YtmcmgmpgmbljiaaDoorKnown
namespace Go.Proofs.YtmcmgmpgmbljiaaDoor
open Go Go.Proofs Go.RowKit Go.Shelf
set_option maxRecDepth 100000
theorem cmp_swap (p q : List UInt8) : cmpR q p = 0 - cmpR p q := by
  have t1 := bl_tot p q
  have t2 := bl_tot q p
  have sy : (q == p) = (p == q) := by
    cases h : (p == q)
    · rw [beq_eq_false_iff_ne] at h ⊢; exact fun e => h e.symm
    · rw [beq_iff_eq] at h ⊢; exact h.symm
  unfold cmpR
  rw [sy]
  rw [sy] at t2
  cases h1 : Op.bytesLess p q <;> cases h2 : Op.bytesLess q p <;> cases h3 : (p == q) <;> rw [h1, h2, h3] at t1 <;> first | rfl | cases t1 | skip
  all_goals
    rw [h1, h2, h3] at t2
    first | rfl | cases t2 | skip
  all_goals
    rw [beq_iff_eq] at h3
    subst h3
    rw [bl_irr] at h1
    cases h1
theorem cmp_bd (p q : List UInt8) : -1 ≤ cmpR p q ∧ cmpR p q ≤ 1 := by
  unfold cmpR
  split
  · omega
  · split <;> omega
theorem rcompare_any (a1 a2 : Option Addr) (n1 c1 n2 c2 : Nat) (x y : List SLab) (hx : x.length ≤ 100) (hy : y.length ≤ 100) (w : World) (h1 : Labs w.heap.size w (.slice a1 n1 c1) x) (h2 : Labs w.heap.size w (.slice a2 n2 c2) y) :
    Calls Tryd.prog 22 #[.slice a1 n1 c1, .slice a2 n2 c2] w fun e w' => e = .returned (.int .i64 (cmpR (textL x) (textL y))) ∧ Below w.heap.size w w' := by
  obtain rfl : n1 = x.length := h1.len
  obtain rfl : n2 = y.length := h2.len
  have T1 := Lib.hid (rtext_any a1 x.length c1 x hx w h1)
  have T2 := Lib.hid (fun (W : World) (hb : Below w.heap.size w W) => rtext_any a2 y.length c2 y hy W (labs_later h2 hb))
  clear h1 h2
  generalize textL x = p at *
  generalize textL y = q at *
  have ep : ByteArray.toList ⟨p.toArray⟩ = p := by rw [ByteArray.toList_eq]
  have eq : ByteArray.toList ⟨q.toArray⟩ = q := by rw [ByteArray.toList_eq]
  have hB0 := Below.refl w.heap.size w
  have R : Hid (cmpR p q = if Op.bytesLess p q = true then -1 else if (p == q) = true then 0 else 1) := rfl
  cases h1 : Op.bytesLess p q
  · cases h2 : (p == q)
    · go_enter Tryd.func22, Tryd.ntmps22
      go_wp2_with fail
      refine (T1.out).mono ?_
      rintro e w1 ⟨rfl, hb1⟩
      go_wp2_with fail
      refine (T2.out _ hb1).mono ?_
      rintro e w2 ⟨rfl, hb2⟩
      go_wp2
      go_ret
      exact ⟨by rw [R.out, if_neg (by rw [h1]; simp), if_neg (by rw [h2]; simp)]; rfl, hb1.trans (hb2.mono hb1.size)⟩
    · go_enter Tryd.func22, Tryd.ntmps22
      go_wp2_with fail
      refine (T1.out).mono ?_
      rintro e w1 ⟨rfl, hb1⟩
      go_wp2_with fail
      refine (T2.out _ hb1).mono ?_
      rintro e w2 ⟨rfl, hb2⟩
      go_wp2
      go_ret
      exact ⟨by rw [R.out, if_neg (by rw [h1]; simp), if_pos h2]; rfl, hb1.trans (hb2.mono hb1.size)⟩
  · go_enter Tryd.func22, Tryd.ntmps22
    go_wp2_with fail
    refine (T1.out).mono ?_
    rintro e w1 ⟨rfl, hb1⟩
    go_wp2_with fail
    refine (T2.out _ hb1).mono ?_
    rintro e w2 ⟨rfl, hb2⟩
    go_wp2
    go_ret
    exact ⟨by rw [R.out, if_pos h1]; rfl, hb1.trans (hb2.mono hb1.size)⟩
end Go.Proofs.YtmcmgmpgmbljiaaDoor
