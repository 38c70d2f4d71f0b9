/- The texts of labels as they are read (mathematics), by the reading of items with the one word '='. -/
import Derived.Test.YteagpkkffnehiaaGreatDoorBrT
namespace Go.Proofs.YteagpkkffnehiaaGreatDoor
open Go Go.Proofs Go.RowKit Go.Shelf
set_option maxRecDepth 100000
def cutR (l : List UInt8) : List UInt8 × List UInt8 × Bool := if l.contains 61 = true then (l.takeWhile (· != 61), (l.dropWhile (· != 61)).drop 1, true) else (l, [], false)
def takeL (a s : List UInt8) : Option (Lab × List UInt8) :=
  match tE [] (Lib.trimPrefix (cutR (Lib.trimPrefix s a)).2.1 [34]) with
  | none => none
  | some (v, r) => if Lib.hasPrefix s a = true ∧ Lib.hasPrefix (cutR (Lib.trimPrefix s a)).2.1 [34] = true then some (((cutR (Lib.trimPrefix s a)).1, v), r) else none
theorem trim_len (s p : List UInt8) : (Lib.trimPrefix s p).length ≤ s.length := by
  unfold Lib.trimPrefix; split
  · rw [List.length_drop]; omega
  · exact Nat.le_refl _
theorem cut_len (l : List UInt8) : (cutR l).2.1.length ≤ l.length := by
  unfold cutR; split
  · dsimp only
    rw [List.length_drop]
    have := (List.dropWhile_sublist (p := (· != 61)) (l := l)).length_le
    omega
  · simp
def nilLab : SLab := ⟨([], []), by unfold Short; simp⟩
/-- what comes of the text r, where a stands ahead of the next label -/
def Wr : List UInt8 → List UInt8 → List (SLab × Bool) → Prop
  | _, _, [] => False
  | a, r, z :: t => match takeL a r with
    | none => z = (nilLab, false) ∧ t = []
    | some (x, b) => z.1.1 = x ∧ z.2 = true ∧ (if b = [125] then t = [] else Wr [44] b t)
theorem wr_none {a r : List UInt8} {z : SLab × Bool} {t : List (SLab × Bool)} (h : Wr a r (z :: t)) (e : takeL a r = none) : z = (nilLab, false) ∧ t = [] := by
  unfold Wr at h; rw [e] at h; exact h
theorem wr_some {a r b : List UInt8} {x : Lab} {z : SLab × Bool} {t : List (SLab × Bool)} (h : Wr a r (z :: t)) (e : takeL a r = some (x, b)) : z.1.1 = x ∧ z.2 = true ∧ (if b = [125] then t = [] else Wr [44] b t) := by
  unfold Wr at h; rw [e] at h; exact h
def WrS (s : List UInt8) (zs : List (SLab × Bool)) : Prop :=
  if Lib.hasPrefix s [123, 125] = true then (if Lib.trimPrefix s [123, 125] = [] then zs = [] else zs = [(nilLab, false)]) else Wr [123] s zs
theorem te_len (s : List UInt8) : ∀ S v r, tE S s = some (v, r) → r.length < s.length := by
  induction hn : s.length using Nat.strongRecOn generalizing s with
  | _ n ih =>
    intro S v r h
    match s, hn with
    | [], _ => rw [tE_nil] at h; cases h
    | c :: t, hn =>
      by_cases h1 : c.toNat = 34
      · rw [tE_q _ _ _ h1] at h; cases h; simp at hn; omega
      · by_cases h2 : c.toNat = 92
        · match t, hn with
          | [], _ => rw [tE_b0 _ _ h2] at h; cases h
          | d :: u, hn =>
            by_cases h3 : d.toNat = 34 ∨ d.toNat = 92
            · rw [tE_b1 _ _ _ _ h2 h3] at h
              have := ih u.length (by simp at hn; omega) u rfl _ _ _ h
              simp at hn; omega
            · rw [tE_b2 _ _ _ _ h2 h3] at h; cases h
        · rw [tE_c _ _ _ h1 h2] at h
          have := ih t.length (by simp at hn; omega) t rfl _ _ _ h
          simp at hn; omega
theorem take_lt (a s : List UInt8) (x : Lab) (b : List UInt8) (h : takeL a s = some (x, b)) : b.length < s.length := by
  unfold takeL at h
  have h1 := trim_len s a
  have h2 := cut_len (Lib.trimPrefix s a)
  have h3 := trim_len (cutR (Lib.trimPrefix s a)).2.1 [34]
  split at h
  · cases h
  · rename_i v r he
    have h4 := te_len _ _ _ _ he
    split at h
    · cases h; omega
    · cases h
theorem hp_one (s : List UInt8) (c : UInt8) : Lib.hasPrefix s [c] = true ↔ ∃ t, s = c :: t := by
  unfold Lib.hasPrefix
  rw [List.isPrefixOf_iff_prefix]
  constructor
  · rintro ⟨t, h⟩; exact ⟨t, h.symm⟩
  · rintro ⟨t, rfl⟩; exact ⟨t, rfl⟩
def isW : List (List UInt8) := [[61]]
theorem headW (c : UInt8) : (!headB isW c) = (c != 61) := by
  rw [Bool.eq_iff_iff]
  unfold headB isW
  rw [Bool.not_eq_true', bne_iff_ne]
  have k := hp_one [61] c
  constructor
  · intro h e
    subst e
    have : Lib.hasPrefix [61] [61] = true := by decide
    simp [this] at h
  · intro h
    have : Lib.hasPrefix [61] [c] = false := by
      rw [← Bool.not_eq_true, k]
      rintro ⟨t, e⟩
      injection e with e1 e2
      exact h e1.symm
    simp [this]
theorem cutW (l : List UInt8) : cutN isW l = (l.takeWhile (· != 61), l.dropWhile (· != 61)) := by
  unfold cutN
  have e : (fun c => !headB isW c) = (fun c : UInt8 => c != 61) := funext headW
  rw [e]
theorem longW (s : List UInt8) : longR isW s = if Lib.hasPrefix s [61] = true then [61] else [] := by
  show longF s [] [61] = _
  unfold longF
  by_cases h : Lib.hasPrefix s [61] = true
  · rw [if_pos h, if_pos ⟨by simp, h⟩]
  · rw [if_neg h, if_neg (fun q => h q.2)]
theorem dw_head (l : List UInt8) : (l.contains 61 = true ∧ ∃ t, l.dropWhile (· != 61) = 61 :: t) ∨ (l.contains 61 = false ∧ l.dropWhile (· != 61) = []) := by
  induction l with
  | nil => right; exact ⟨rfl, rfl⟩
  | cons a t ih =>
    by_cases h : a = 61
    · left; subst h; exact ⟨by simp, t, by simp⟩
    · have ha : (a != 61) = true := by rw [bne_iff_ne]; exact h
      have hc : (a :: t).contains 61 = t.contains 61 := by
        rw [List.contains_cons]
        have : ((61 : UInt8) == a) = false := by rw [beq_eq_false_iff_ne]; exact fun e => h e.symm
        rw [this, Bool.false_or]
      rw [List.dropWhile_cons, if_pos ha, hc]
      exact ih
def labI (x : Lab) : Itm := (x.1, [61], x.2)
/-- an item with '=' is a label -/
theorem takeW (a s : List UInt8) : takeI isW a s = (takeL a s).map (fun xr => (labI xr.1, xr.2)) := by
  unfold takeI takeL
  rw [cutW]
  dsimp only
  generalize Lib.trimPrefix s a = u
  rw [longW]
  rcases dw_head u with ⟨hc, t, ht⟩ | ⟨hc, ht⟩
  · have hp : Lib.hasPrefix (61 :: t) [61] = true := (hp_one _ _).2 ⟨t, rfl⟩
    have hcut : cutR u = (u.takeWhile (· != 61), t, true) := by unfold cutR; rw [if_pos hc, ht]; rfl
    rw [ht, if_pos hp, hcut]
    rw [show List.drop ([61] : List UInt8).length (61 :: t) = t from rfl]
    dsimp only
    cases tE [] (Lib.trimPrefix t [34]) with
    | none => rfl
    | some vr =>
      obtain ⟨v, r⟩ := vr
      dsimp only
      by_cases h : Lib.hasPrefix s a = true ∧ Lib.hasPrefix t [34] = true
      · rw [if_pos h, if_pos ⟨h.1, by simp, h.2⟩]; rfl
      · rw [if_neg h, if_neg (fun q => h ⟨q.1, q.2.2⟩)]; rfl
  · have hp : ¬ Lib.hasPrefix ([] : List UInt8) [61] = true := by rw [hp_one]; rintro ⟨t, e⟩; cases e
    have hcut : cutR u = (u, [], false) := by unfold cutR; rw [if_neg (by rw [hc]; simp)]
    have h34 : ¬ Lib.hasPrefix ([] : List UInt8) [34] = true := by rw [hp_one]; rintro ⟨t, e⟩; cases e
    rw [ht, if_neg hp, hcut]
    dsimp only
    rw [List.drop_nil]
    cases tE [] (Lib.trimPrefix [] [34]) with
    | none => rfl
    | some vr =>
      obtain ⟨v, r⟩ := vr
      dsimp only
      rw [if_neg (fun q => q.2.1 rfl), if_neg (fun q => h34 q.2)]; rfl
end Go.Proofs.YteagpkkffnehiaaGreatDoor
