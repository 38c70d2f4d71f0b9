/- braces: how items are read, as functions (mathematics); texts in memory. -/
import Derived.Test.YteagpkkffnehiaaGreatDoorTakeE
namespace Go.Proofs.YteagpkkffnehiaaGreatDoor
open Go Go.Proofs Go.RowKit Go.Shelf
set_option maxRecDepth 100000
/-- texts in memory -/
def TxAt (n₀ : Nat) (W : World) (sv : Value) (ts : List (List UInt8)) : Prop :=
  ts.length ≤ 1000 ∧ ∃ b off cap, sv = .slice (some ⟨b, off, none⟩) ts.length cap ∧ b < n₀ ∧ ∀ j x, ts[j]? = some x → W.cell? ⟨b, off + j, none⟩ = some (.string ⟨x.toArray⟩)
theorem TxAt.below {n₀ : Nat} {A B : World} {sv : Value} {ts : List (List UInt8)} (h : TxAt n₀ A sv ts) (hb : Below n₀ A B) : TxAt n₀ B sv ts := by
  obtain ⟨hl, b, off, cap, e, h1, h2⟩ := h
  exact ⟨hl, b, off, cap, e, h1, fun j x hj => (hb.cell (p := ⟨b, off + j, none⟩) h1).trans (h2 j x hj)⟩
theorem TxAt.mono {n₀ n₁ : Nat} {A : World} {sv : Value} {ts : List (List UInt8)} (h : TxAt n₀ A sv ts) (hb : n₀ ≤ n₁) : TxAt n₁ A sv ts := by
  obtain ⟨hl, b, off, cap, e, h1, h2⟩ := h
  exact ⟨hl, b, off, cap, e, by omega, h2⟩
/-- does one of the words begin with this byte? -/
def headB (ops : List (List UInt8)) (c : UInt8) : Bool := ops.any fun op => Lib.hasPrefix op [c]
def cutN (ops : List (List UInt8)) (l : List UInt8) : List UInt8 × List UInt8 := (l.takeWhile fun c => !headB ops c, l.dropWhile fun c => !headB ops c)
def longF (s : List UInt8) (found op : List UInt8) : List UInt8 := if found.length < op.length ∧ Lib.hasPrefix s op = true then op else found
/-- the longest of the words that the text begins with -/
def longR (ops : List (List UInt8)) (s : List UInt8) : List UInt8 := ops.foldl (longF s) []
theorem long_pre (ops : List (List UInt8)) (s : List UInt8) : Lib.hasPrefix s (longR ops s) = true := by
  have key : ∀ (ops : List (List UInt8)) (f : List UInt8), Lib.hasPrefix s f = true → Lib.hasPrefix s (ops.foldl (longF s) f) = true := by
    intro ops
    induction ops with
    | nil => intro f h; exact h
    | cons o t ih =>
      intro f h
      rw [List.foldl_cons]
      refine ih _ ?_
      unfold longF
      split
      · rename_i q; exact q.2
      · exact h
  exact key ops [] (by unfold Lib.hasPrefix; simp)
/-- an item: its name, the word, its value -/
abbrev Itm := List UInt8 × List UInt8 × List UInt8
def takeI (ops : List (List UInt8)) (a s : List UInt8) : Option (Itm × List UInt8) :=
  match tE [] (Lib.trimPrefix ((cutN ops (Lib.trimPrefix s a)).2.drop (longR ops (cutN ops (Lib.trimPrefix s a)).2).length) [34]) with
  | none => none
  | some (v, r) => if Lib.hasPrefix s a = true ∧ longR ops (cutN ops (Lib.trimPrefix s a)).2 ≠ [] ∧ Lib.hasPrefix ((cutN ops (Lib.trimPrefix s a)).2.drop (longR ops (cutN ops (Lib.trimPrefix s a)).2).length) [34] = true then some (((cutN ops (Lib.trimPrefix s a)).1, longR ops (cutN ops (Lib.trimPrefix s a)).2, v), r) else none
def itmV (x : Itm) : Value := .agg #[.string ⟨x.1.toArray⟩, .string ⟨x.2.1.toArray⟩, .string ⟨x.2.2.toArray⟩]
def takeIV : Option (Itm × List UInt8) → Value
  | none => .tuple #[.agg #[.string ⟨#[]⟩, .string ⟨#[]⟩, .string ⟨#[]⟩], .string ⟨#[]⟩, .bool false]
  | some (x, r) => .tuple #[itmV x, .string ⟨r.toArray⟩, .bool true]
end Go.Proofs.YteagpkkffnehiaaGreatDoor
