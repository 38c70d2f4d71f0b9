/- Ahead of the law: rows of bytes that came in; texts of them; what a loop carries; a stronger condition on the way. -/
import Derived.Test.YteddlpcnefogpaaDkK
namespace Go.Proofs.Yteddlpcnefogpaa
open Go Go.Proofs Go.RowKit Go.Shelf
set_option maxRecDepth 100000
section
variable {F : Fence} {n : Nat} {P : Program} {ops : Array Oper} {Q : Exit → Act → World → Prop} {md : Region.Mode} {S S' : World → Prop} {m : Nat}
theorem anyM_strong (h : ∀ u, S' u → S u) : ∀ (k : Nat) (l : Array Bool) (a : Act) (w : World), anyM F n P md ops Q S' m k l a w → anyM F n P md ops Q S m k l a w
  | 0, _, _, _, H => H
  | k + 1, _, _, _, H => ⟨H.1, fun i hi => wpOpIn_mono (fun b u q => ⟨q.1, fun e => ⟨h u (q.2 e).1, anyM_strong h k _ b u (q.2 e).2⟩⟩) (H.2 i hi)⟩
end
theorem bapp (a b : List UInt8) : ((⟨a.toArray⟩ : ByteArray) ++ ⟨b.toArray⟩) = ⟨(a ++ b).toArray⟩ := by
  apply ByteArray.ext; simp
theorem text_of_bys {w : World} {sv : Value} {zs : List UInt8} (h : Bys w sv zs) : (convert 22 9 sv).run Try.prog w = .ok (.string ⟨zs.toArray⟩) w := by
  have h0 : ∀ (a : Option Addr) (c : Nat), (convert 22 9 (.slice a 0 c)).run Try.prog w = .ok (.string ⟨#[]⟩) w := fun a c => by
    rw [run_convert_bytes_string w _ _ 5 a 0 c Try.underlying22 Try.underlying5 Try.underlying9]
    cases a <;> simp [Conv.bytesToString, loadCells]
    all_goals rfl
  rcases h with ⟨⟨a, c, rfl⟩, rfl⟩ | ⟨b, off, cap, rfl, _, hc⟩
  · exact h0 a c
  · exact run_convert_bytes_back w _ _ 5 ⟨b, off, none⟩ cap zs Try.underlying22 Try.underlying5 Try.underlying9 (fun j hj => by
      rw [Addr.add_lit]
      exact hc j _ (List.getElem?_eq_getElem hj))
/-- the slice value sb holds rows of bytes -/
def Rws (W : World) (sb : Value) (R : List (Value × List UInt8)) : Prop :=
  ((∃ a c, sb = .slice a 0 c) ∧ R = []) ∨ ∃ g off cap, sb = .slice (some ⟨g, off, none⟩) R.length cap ∧ (∀ j x, R[j]? = some x → W.cell? ⟨g, off + j, none⟩ = some x.1) ∧ ∀ x ∈ R, Bys W x.1 x.2
/-- all the bytes of the first rows -/
def flat (R : List (Value × List UInt8)) : List UInt8 := R.flatMap (·.2)
theorem flat_snoc (R : List (Value × List UInt8)) (x : Value × List UInt8) : flat (R ++ [x]) = flat R ++ x.2 := by unfold flat; simp
theorem flat_len (n : Nat) : ∀ (R : List (Value × List UInt8)), (∀ x ∈ R, x.2.length ≤ n) → (flat R).length ≤ n * R.length
  | [], _ => by simp [flat]
  | x :: R, h => by
    have := flat_len n R (fun y hy => h y (List.mem_cons_of_mem _ hy))
    have h1 := h x List.mem_cons_self
    unfold flat at *
    rw [List.flatMap_cons, List.length_append, List.length_cons, Nat.mul_add]
    omega
/-- the disk in the loop -/
def lpD (A T : List UInt8) (k : Nat) : Dk := { row := A ++ T, kept := A.length, off := false, armed := 0, leave := 0, ops := 2 + (k : Int) }
theorem lpD_app (A T z : List UInt8) (k : Nat) : (lpD A T k).append z = (0, lpD A (T ++ z) (k + 1)) := by
  unfold Dk.append Dk.fin lpD
  simp only [Bool.false_eq_true, if_false]
  rw [if_neg (by decide)]
  refine Prod.ext rfl ?_
  simp only [List.append_assoc]
  congr 1
def lpA (A : List UInt8) : Dk := { row := A, kept := 0, off := false, armed := 0, leave := 0, ops := 1 }
theorem lpA_is (A : List UInt8) : (Dk.of []).append A = (0, lpA A) := by
  unfold Dk.append Dk.of Dk.fin lpA
  simp
  decide
theorem lpD_0 (A : List UInt8) : (lpA A).sync = (0, lpD A [] 0) := by
  unfold Dk.sync Dk.fin lpD lpA
  simp
  decide
theorem lpD_cut (A T : List UInt8) (k : Nat) (keep : Int) : (lpD A T k).cut keep = ⟨A ++ T.take (min (max keep 0).toNat T.length), A.length + min (max keep 0).toNat T.length, true, 0, 0, 2 + (k : Int)⟩ := by
  unfold Dk.cut Dk.left lpD
  have e : (A ++ T).length - A.length = T.length := by simp
  simp only [e, List.take_append, Nat.add_sub_cancel_left, List.take_of_length_le (Nat.le_add_right _ _)]
end Go.Proofs.Yteddlpcnefogpaa
