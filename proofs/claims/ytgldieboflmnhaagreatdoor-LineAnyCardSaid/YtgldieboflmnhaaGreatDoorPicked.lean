/- label.picked: those labels that have one of the names, or none: the iterator's contract. -/
import Derived.Test.YtgldieboflmnhaaGreatDoorCheck
import Derived.Test.YtgldieboflmnhaaGreatDoorRangeM
import Derived.Test.YtgldieboflmnhaaGreatDoorHeldD
namespace Go.Proofs.YtgldieboflmnhaaGreatDoor
open Go Go.Proofs Go.RowKit Go.Shelf
set_option maxRecDepth 100000
attribute [local go_sem] Oper.semAt_some
/-- the slice value nv holds the texts ns, in a block below n₀; or there are none -/
def Names (n₀ : Nat) (W : World) (nv : Value) (ns : List (List UInt8)) : Prop :=
  (∃ a c, nv = .slice a 0 c ∧ ns = []) ∨ ∃ b off cap, nv = .slice (some ⟨b, off, none⟩) ns.length cap ∧ b < n₀ ∧ ns.length ≤ 1000 ∧ ∀ j x, ns[j]? = some x → W.cell? ⟨b, off + j, none⟩ = some (.string ⟨x.toArray⟩)
theorem Names.below {n₀ : Nat} {A B : World} (h : Below n₀ A B) {nv : Value} {ns : List (List UInt8)} : Names n₀ A nv ns → Names n₀ B nv ns
  | .inl e => .inl e
  | .inr ⟨b, off, cap, e, hb, hl, hc⟩ => .inr ⟨b, off, cap, e, hb, hl, fun j x hj => (h.cell (p := ⟨b, off + j, none⟩) hb).trans (hc j x hj)⟩
def keepB (ns : List (List UInt8)) (among : Bool) (x : SLab) : Bool := ns.contains x.1.1 == among
theorem filter_snoc (p : SLab → Bool) (l : List SLab) (x : SLab) : (l ++ [x]).filter p = if p x = true then l.filter p ++ [x] else l.filter p := by
  rw [List.filter_append]
  by_cases h : p x = true
  · rw [if_pos h]; simp [h]
  · rw [if_neg h]; simp [h]
theorem own_later {β : Type} {B B' : Nat} {J : β → World → Prop} (h : OwnFrom B J) (hB : B ≤ B') : OwnFrom B' J := fun s W W' row hs hg hr => h s W W' row hs hg (fun r e => ⟨Nat.le_trans hB (hr r e).1, (hr r e).2⟩)
theorem own_map {α β : Type} {B : Nat} {J : β → World → Prop} (f : α → β) (h : OwnFrom B J) : OwnFrom B (fun s W => J (f s) W) := fun s W W' row hs hg hr => h (f s) W W' row hs hg hr
end Go.Proofs.YtgldieboflmnhaaGreatDoor
