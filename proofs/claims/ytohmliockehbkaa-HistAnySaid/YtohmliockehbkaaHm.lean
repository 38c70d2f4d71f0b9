/- hist: sums, quantiles, what both have together: mathematics alone. -/
import Derived.Test.YtohmliockehbkaaHb
namespace Go.Proofs.Ytohmliockehbkaa
open Go Go.Proofs
def allI : List (Fin 65) := List.finRange 65
theorem allI_len : allI.length = 65 := List.length_finRange
theorem allI_get {k : Nat} (hk : k < 65) : allI[k]? = some ⟨k, hk⟩ := by
  rw [List.getElem?_eq_getElem (by rw [allI_len]; exact hk)]
  simp [allI]
theorem take_succ {k : Nat} (hk : k < 65) : allI.take (k + 1) = allI.take k ++ [⟨k, hk⟩] := by
  rw [List.take_add_one, allI_get hk]; rfl
theorem drop_at {k : Nat} (hk : k < 65) : allI.drop k = ⟨k, hk⟩ :: allI.drop (k + 1) := by
  rw [List.drop_eq_getElem_cons (by rw [allI_len]; exact hk)]
  congr 1
  simp [allI]
def nth (h : List Int) (i : Nat) : Int := h.getD i 0
def sumB (h : List Int) (l : List (Fin 65)) : Int := l.foldl (fun a i => a + nth h i.val) 0
theorem sumB_snoc (h : List Int) (l : List (Fin 65)) (i : Fin 65) : sumB h (l ++ [i]) = sumB h l + nth h i.val := by simp [sumB]
/-- 65 counts, none below 0, none above 2^50 -/
structure Small (h : List Int) : Prop where
  len : h.length = 65
  low : ∀ x ∈ h, 0 ≤ x
  high : ∀ x ∈ h, x ≤ 1125899906842624
theorem nth_mem {h : List Int} {i : Nat} (hi : i < h.length) : nth h i ∈ h := by
  unfold nth
  rw [List.getD_eq_getElem?_getD, List.getElem?_eq_getElem hi]
  exact List.getElem_mem hi
theorem nth_some {h : List Int} {i : Nat} (hi : i < h.length) : h[i]? = some (nth h i) := by
  unfold nth
  rw [List.getD_eq_getElem?_getD, List.getElem?_eq_getElem hi]; rfl
theorem Small.at {h : List Int} (s : Small h) (i : Nat) : 0 ≤ nth h i ∧ nth h i ≤ 1125899906842624 := by
  rcases Nat.lt_or_ge i h.length with hi | hi
  · exact ⟨s.low _ (nth_mem hi), s.high _ (nth_mem hi)⟩
  · have : nth h i = 0 := by unfold nth; rw [List.getD_eq_getElem?_getD, List.getElem?_eq_none hi]; rfl
    omega
theorem sumB_from {h : List Int} (s : Small h) : ∀ (l : List (Fin 65)) (a : Int), a ≤ l.foldl (fun a i => a + nth h i.val) a ∧ l.foldl (fun a i => a + nth h i.val) a ≤ a + (l.length : Int) * 1125899906842624
  | [], a => by simp
  | i :: l, a => by
    have := sumB_from s l (a + nth h i.val)
    have := s.at i.val
    simp only [List.foldl_cons, List.length_cons]
    omega
theorem sumB_bounds {h : List Int} (s : Small h) (l : List (Fin 65)) : 0 ≤ sumB h l ∧ sumB h l ≤ (l.length : Int) * 1125899906842624 := by
  have := sumB_from s l 0
  unfold sumB
  omega
def countR (h : List Int) : Int := sumB h allI
theorem countR_bounds {h : List Int} (s : Small h) : 0 ≤ countR h ∧ countR h ≤ 73183493944770560 := by
  have := sumB_bounds s allI
  rw [allI_len] at this
  unfold countR
  omega
def scanQ (need : Int) (h : List Int) : Int → List (Fin 65) → Option Nat
  | _, [] => none
  | u, i :: r => if 0 < u + nth h i.val ∧ need ≤ 100 * (u + nth h i.val) then some i.val else scanQ need h (u + nth h i.val) r
def qOf : Option Nat → Int × Bool
  | none => (0, false)
  | some i => (boundR i, true)
def quantR (h : List Int) (q : Int) : Int × Bool := if q < 0 ∨ 100 < q then (0, false) else qOf (scanQ (q * countR h) h 0 allI)
/-- nothing found in these -/
def NotYet (need : Int) (h : List Int) (pre : List (Fin 65)) : Prop := ∀ r, scanQ need h 0 (pre ++ r) = scanQ need h (sumB h pre) r
def Found (need : Int) (h : List Int) (pre : List (Fin 65)) (i : Nat) : Prop := ∀ r, scanQ need h 0 (pre ++ r) = some i
theorem notYet_nil (need : Int) (h : List Int) : NotYet need h [] := fun _ => rfl
theorem notYet_snoc {need : Int} {h : List Int} {pre : List (Fin 65)} (n : NotYet need h pre) {i : Fin 65} (hc : ¬ (0 < sumB h pre + nth h i.val ∧ need ≤ 100 * (sumB h pre + nth h i.val))) : NotYet need h (pre ++ [i]) := fun r => by
  rw [List.append_assoc, n]
  show scanQ need h (sumB h pre) (i :: r) = _
  rw [scanQ, if_neg hc, sumB_snoc]
theorem found_snoc {need : Int} {h : List Int} {pre : List (Fin 65)} (n : NotYet need h pre) {i : Fin 65} (hc : 0 < sumB h pre + nth h i.val ∧ need ≤ 100 * (sumB h pre + nth h i.val)) : Found need h (pre ++ [i]) i.val := fun r => by
  rw [List.append_assoc, n]
  show scanQ need h (sumB h pre) (i :: r) = _
  rw [scanQ, if_pos hc]
theorem found_all {need : Int} {h : List Int} {pre : List (Fin 65)} {i : Nat} (f : Found need h pre i) (hp : pre <+: allI) : scanQ need h 0 allI = some i := by
  obtain ⟨r, hr⟩ := hp
  rw [← hr]; exact f r
theorem notYet_all {need : Int} {h : List Int} (f : NotYet need h allI) : scanQ need h 0 allI = none := by
  have := f []
  rw [List.append_nil] at this
  rw [this]; rfl
/-- what h has where g's counts of these are put to it -/
def mergeL (h g : List Int) (l : List (Fin 65)) : List Int := l.foldl (fun a i => a.set i.val (nth a i.val + nth g i.val)) h
theorem mergeL_snoc (h g : List Int) (l : List (Fin 65)) (i : Fin 65) : mergeL h g (l ++ [i]) = (mergeL h g l).set i.val (nth (mergeL h g l) i.val + nth g i.val) := by simp [mergeL]
def mergeR (h g : List Int) : List Int := mergeL h g allI
theorem mergeL_len (h g : List Int) (l : List (Fin 65)) : (mergeL h g l).length = h.length := by
  unfold mergeL
  induction l generalizing h with
  | nil => rfl
  | cons i l ih => rw [List.foldl_cons, ih, List.length_set]
theorem mergeL_bounds {h g : List Int} (sh : Small h) (sg : Small g) : ∀ (l : List (Fin 65)) (a : List Int) (B : Int), (∀ j, 0 ≤ nth a j ∧ nth a j ≤ B) → ∀ j, 0 ≤ nth (mergeL a g l) j ∧ nth (mergeL a g l) j ≤ B + (l.length : Int) * 1125899906842624
  | [], a, B, ha, j => by have := ha j; simp only [mergeL, List.foldl_nil, List.length_nil]; omega
  | i :: l, a, B, ha, j => by
    have hn : ∀ j, 0 ≤ nth (a.set i.val (nth a i.val + nth g i.val)) j ∧ nth (a.set i.val (nth a i.val + nth g i.val)) j ≤ B + 1125899906842624 := fun j => by
      have h1 := ha j
      have h2 := ha i.val
      have h3 := sg.at i.val
      unfold nth at *
      simp only [List.getD_eq_getElem?_getD, List.getElem?_set] at *
      split
      · split
        · simp only [Option.getD_some]; omega
        · simp only [Option.getD_none]; omega
      · omega
    have := mergeL_bounds sh sg l _ _ hn j
    simp only [mergeL, List.foldl_cons, List.length_cons] at this ⊢
    omega
theorem mergeL_at {h g : List Int} (sh : Small h) (sg : Small g) (l : List (Fin 65)) (hl : l.length ≤ 65) (j : Nat) : 0 ≤ nth (mergeL h g l) j ∧ nth (mergeL h g l) j ≤ 74309393851613184 := by
  have := mergeL_bounds sh sg l h 1125899906842624 (fun j => sh.at j) j
  omega
end Go.Proofs.Ytohmliockehbkaa
