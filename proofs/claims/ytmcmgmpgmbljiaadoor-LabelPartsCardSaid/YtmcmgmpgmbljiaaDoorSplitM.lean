/- Sets whose names rise: mathematics. -/
import Derived.Test.YtmcmgmpgmbljiaaDoorWith
import Derived.Test.YtmcmgmpgmbljiaaDoorBack
import Derived.Test.YtmcmgmpgmbljiaaDoorOrd
import Derived.Test.YtmcmgmpgmbljiaaDoorGet
namespace Go.Proofs.YtmcmgmpgmbljiaaDoor
open Go Go.Proofs Go.RowKit Go.Shelf
set_option maxRecDepth 100000
def ltL (x y : SLab) : Prop := Op.bytesLess x.1.1 y.1.1 = true
def Rise (zs : List SLab) : Prop := zs.Pairwise ltL
theorem chk_rise : ∀ (zs : List SLab) (l : List UInt8), chk l zs = 0 → (∀ z ∈ zs, Op.bytesLess l z.1.1 = true) ∧ Rise zs := by
  intro zs
  induction zs with
  | nil => intro l _; exact ⟨fun z hz => absurd hz (by simp), List.Pairwise.nil⟩
  | cons y t ih =>
    intro l h
    rw [chk_cons] at h
    by_cases h1 : nameR y.1.1 = false
    · rw [if_pos h1] at h; cases h
    · rw [if_neg h1] at h
      by_cases h2 : (Op.bytesLess y.1.1 l || y.1.1 == l) = true
      · rw [if_pos h2] at h; cases h
      · rw [if_neg h2] at h
        have hl : Op.bytesLess l y.1.1 = true := by
          rw [bl_tot] at h2
          simpa using h2
        by_cases h3 : valueR y.1.2 = false
        · rw [if_pos h3] at h; cases h
        · rw [if_neg h3] at h
          obtain ⟨i1, i2⟩ := ih _ h
          refine ⟨fun z hz => ?_, List.Pairwise.cons i1 i2⟩
          rcases List.mem_cons.1 hz with rfl | hz
          · exact hl
          · exact bl_trans _ _ _ hl (i1 z hz)
theorem rise_ne {x y : SLab} (h : ltL x y) : x.1.1 ≠ y.1.1 := fun e => by
  unfold ltL at h
  rw [e, bl_irr] at h
  cases h
/-- the labels of zs whose names are among some -/
def selN (ns : List (List UInt8)) (zs : List SLab) : List SLab := zs.filter fun z => ns.contains z.1.1
/-- one name more -/
theorem sel_with (zs : List SLab) (h : Rise zs) (ns : List (List UInt8)) (y : SLab) (hy : y ∈ zs) (hn : ns.contains y.1.1 = false) (hv : y.1.2 ≠ []) :
    ∃ p, p ≤ (othersR (selN ns zs) y.1.1).length ∧ (∀ k x, (othersR (selN ns zs) y.1.1)[k]? = some x → (Op.bytesLess x.1.1 y.1.1 = true ↔ k < p)) ∧ withR (selN ns zs) y.1.1 y.1.2 y.2 p = selN (y.1.1 :: ns) zs := by
  obtain ⟨A, C, rfl⟩ := List.append_of_mem hy
  obtain ⟨hA, hyC, hAy⟩ := List.pairwise_append.1 h
  obtain ⟨hC1, hC⟩ := List.pairwise_cons.1 hyC
  have e1 : selN ns (A ++ y :: C) = selN ns A ++ selN ns C := by
    unfold selN
    rw [List.filter_append, List.filter_cons, if_neg (by rw [hn]; simp)]
  have hAn : ∀ z ∈ A, (z.1.1 == y.1.1) = false := fun z hz => by
    rw [beq_eq_false_iff_ne]; exact rise_ne (hAy z hz y List.mem_cons_self)
  have hCn : ∀ z ∈ C, (z.1.1 == y.1.1) = false := fun z hz => by
    rw [beq_eq_false_iff_ne]; exact fun e => rise_ne (hC1 z hz) e.symm
  have e2 : selN (y.1.1 :: ns) (A ++ y :: C) = selN ns A ++ y :: selN ns C := by
    unfold selN
    rw [List.filter_append, List.filter_cons, if_pos (by simp)]
    congr 1
    · refine List.filter_congr fun z hz => ?_
      rw [List.contains_cons, hAn z hz, Bool.false_or]
    · congr 1
      refine List.filter_congr fun z hz => ?_
      rw [List.contains_cons, hCn z hz, Bool.false_or]
  have hsub : ∀ B : List SLab, ∀ z ∈ selN ns B, z ∈ B := fun B z hz => (List.mem_filter.1 hz).1
  have e3 : othersR (selN ns A ++ selN ns C) y.1.1 = selN ns A ++ selN ns C := by
    unfold othersR
    rw [List.filter_eq_self]
    intro z hz
    have hne : (z.1.1 == y.1.1) = false := by
      rcases List.mem_append.1 hz with h | h
      · exact hAn z (hsub _ z h)
      · exact hCn z (hsub _ z h)
    unfold keepB
    rw [List.contains_cons, hne]
    rfl
  rw [e1, e3]
  refine ⟨(selN ns A).length, by simp, fun k x hx => ?_, ?_⟩
  · rw [List.getElem?_append] at hx
    split at hx
    · rename_i hk
      have hm := hsub _ x (List.mem_of_getElem? hx)
      exact ⟨fun _ => hk, fun _ => hAy x hm y List.mem_cons_self⟩
    · rename_i hk
      have hm := hsub _ x (List.mem_of_getElem? hx)
      have hlt := bl_asym (hC1 x hm)
      exact ⟨fun h => absurd h (by rw [hlt]; simp), fun h => absurd h hk⟩
  · unfold withR
    rw [if_neg hv, e3, e2, List.take_left, List.drop_left]
theorem sel_all (zs : List SLab) (ns : List (List UInt8)) (h : ∀ z ∈ zs, ns.contains z.1.1 = true) : selN ns zs = zs := by
  unfold selN; rw [List.filter_eq_self]; exact h
theorem sel_congr (zs : List SLab) (ns ms : List (List UInt8)) (h : ∀ z ∈ zs, ns.contains z.1.1 = ms.contains z.1.1) : selN ns zs = selN ms zs := by
  unfold selN; exact List.filter_congr h
theorem keep_true (ns : List (List UInt8)) (zs : List SLab) : zs.filter (keepB ns true) = selN ns zs := by
  unfold selN; refine List.filter_congr fun z _ => ?_
  unfold keepB; cases ns.contains z.1.1 <;> rfl
theorem get_sel (zs : List SLab) (ns : List (List UInt8)) (n : List UInt8) (h : ns.contains n = false) : getR n (selN ns zs) = [] := by
  refine get_none n _ fun z hz e => ?_
  have := (List.mem_filter.1 hz).2
  rw [e, h] at this
  cases this
theorem split_len (ns : List (List UInt8)) (zs : List SLab) : (selN ns zs).length + (zs.filter (keepB ns false)).length = zs.length := by
  have e : zs.filter (keepB ns false) = zs.filter (fun z => !ns.contains z.1.1) := List.filter_congr fun z _ => by
    unfold keepB; cases ns.contains z.1.1 <;> rfl
  rw [e]
  unfold selN
  induction zs with
  | nil => rfl
  | cons z t ih =>
    have ih' := ih (List.filter_congr fun z _ => by unfold keepB; cases ns.contains z.1.1 <;> rfl)
    rw [List.filter_cons, List.filter_cons]
    cases h : ns.contains z.1.1
    · rw [if_neg (by simp), if_pos (by simp)]
      simp only [List.length_cons]
      omega
    · rw [if_pos rfl, if_neg (by simp)]
      simp only [List.length_cons]
      omega
end Go.Proofs.YtmcmgmpgmbljiaaDoor
