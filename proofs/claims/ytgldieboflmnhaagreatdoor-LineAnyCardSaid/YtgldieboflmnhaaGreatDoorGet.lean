/- label.Get. -/
import Derived.Test.YtgldieboflmnhaaGreatDoorTxt
namespace Go.Proofs.YtgldieboflmnhaaGreatDoor
open Go Go.Proofs Go.RowKit Go.Shelf
set_option maxRecDepth 100000
attribute [local go_sem] Oper.semAt_some
def getR (n : List UInt8) : List SLab → List UInt8
  | [] => []
  | x :: t => if x.1.1 = n then x.1.2 else getR n t
theorem get_hit (n : List UInt8) (p : List SLab) (x : SLab) (hp : ∀ y ∈ p, y.1.1 ≠ n) (hx : x.1.1 = n) : getR n (p ++ [x]) = x.1.2 := by
  induction p with
  | nil => show (if x.1.1 = n then x.1.2 else getR n []) = _; rw [if_pos hx]
  | cons y t ih =>
    show (if y.1.1 = n then y.1.2 else getR n (t ++ [x])) = _
    rw [if_neg (hp y List.mem_cons_self)]
    exact ih (fun z hz => hp z (List.mem_cons_of_mem _ hz))
theorem get_pre (n : List UInt8) (p : List SLab) (x : SLab) (zs : List SLab) (hp : ∀ y ∈ p, y.1.1 ≠ n) (hx : x.1.1 = n) (h : p ++ [x] <+: zs) : getR n (p ++ [x]) = getR n zs := by
  obtain ⟨t, rfl⟩ := h
  induction p with
  | nil =>
    show (if x.1.1 = n then x.1.2 else getR n []) = (if x.1.1 = n then x.1.2 else getR n t)
    rw [if_pos hx, if_pos hx]
  | cons y q ih =>
    show (if y.1.1 = n then y.1.2 else getR n (q ++ [x])) = (if y.1.1 = n then y.1.2 else getR n (q ++ [x] ++ t))
    rw [if_neg (hp y List.mem_cons_self), if_neg (hp y List.mem_cons_self)]
    exact ih (fun z hz => hp z (List.mem_cons_of_mem _ hz))
theorem get_none (n : List UInt8) : ∀ zs : List SLab, (∀ y ∈ zs, y.1.1 ≠ n) → getR n zs = [] := by
  intro zs
  induction zs with
  | nil => intro _; rfl
  | cons y t ih =>
    intro h
    show (if y.1.1 = n then y.1.2 else getR n t) = _
    rw [if_neg (h y List.mem_cons_self)]
    exact ih (fun z hz => h z (List.mem_cons_of_mem _ hz))
end Go.Proofs.YtgldieboflmnhaaGreatDoor
