/- A text as a pattern. -/
import Derived.Test.YtcfdpbbpdnpnnaaDoorPat
namespace Go.Proofs.YtcfdpbbpdnpnnaaDoor.Rx
inductive Res (α : Type) where
  | ok (x : α) (k : Nat)
  | bad (e k : Nat)
def pk (l : List UInt8) (k : Nat) : Nat := (l[k]?.map (·.toNat)).getD 0
def outL : List UInt8 := [40, 41, 91, 93, 124, 42, 43, 63]
def inL : List UInt8 := [93, 45, 94]
def inS (sp : List UInt8) (x : Nat) : Bool := sp.contains x.toUInt8
/-- a byte that is none of sp, or a stroke and any byte -/
def singleF (sp l : List UInt8) (k : Nat) : Res Nat :=
  if pk l k = 92 then
    (if pk l (k + 1) < 32 ∨ 126 < pk l (k + 1) then .bad 2 (k + 1) else .ok (pk l (k + 1)) (k + 2))
  else if pk l k < 32 ∨ 126 < pk l k ∨ inS sp (pk l k) = true then .bad 2 k
  else .ok (pk l k) (k + 1)
/-- a byte, or all from one to another -/
def rangeF (l : List UInt8) (k : Nat) : Res (Nat × Nat) := match singleF inL l k with
  | .bad e j => .bad e j
  | .ok a j => if pk l j = 45 then (match singleF inL l (j + 1) with
      | .bad e i => .bad e i
      | .ok b i => if b < a then .bad 2 (j + 1) else .ok (a, b) i)
    else .ok (a, a) j
def itemsF (l : List UInt8) : Nat → Nat → List (Nat × Nat) → Res (List (Nat × Nat))
  | 0, k, _ => .bad 2 k
  | f + 1, k, acc => match rangeF l k with
    | .bad e j => .bad e j
    | .ok r j => if pk l j = 93 then .ok (acc ++ [r]) (j + 1) else itemsF l f j (acc ++ [r])
/-- the bytes from a on, n of them -/
def runM (a : Nat) : Nat → Nat
  | 0 => 0
  | n + 1 => runM a n ||| 2 ^ (a + n)
def maskR (rs : List (Nat × Nat)) : Nat := rs.foldl (fun m r => m ||| runM r.1 (r.2 + 1 - r.1)) 0
def fullM : Nat := 2 ^ 256 - 1
def maskB (neg : Bool) (rs : List (Nat × Nat)) : Nat := if neg then fullM - maskR rs else maskR rs
def setF (l : List UInt8) (k : Nat) : Res Pt := match itemsF l (l.length + 1) (if pk l (k + 1) = 94 then k + 2 else k + 1) [] with
  | .bad e j => .bad e j
  | .ok rs j => .ok (.leaf (maskB (pk l (k + 1) == 94) rs)) j
def atomF (inner : Nat → Res Pt) (l : List UInt8) (k : Nat) : Res Pt :=
  if pk l k = 40 then inner k
  else if pk l k = 91 then setF l k
  else if pk l k = 46 then .ok (.leaf fullM) (k + 1)
  else match singleF outL l k with
    | .bad e j => .bad e j
    | .ok c j => .ok (.leaf (2 ^ c)) j
def partF (inner : Nat → Res Pt) (l : List UInt8) (k : Nat) : Res Pt := match atomF inner l k with
  | .bad e j => .bad e j
  | .ok p j => if pk l j = 42 then .ok (.star p) (j + 1) else if pk l j = 43 then .ok (.plus p) (j + 1) else if pk l j = 63 then .ok (.opt p) (j + 1) else .ok p j
/-- is a row over there? -/
def rowEnd (l : List UInt8) (j : Nat) : Bool := decide (l.length ≤ j) || pk l j == 124 || pk l j == 41
def rowL (inner : Nat → Res Pt) (l : List UInt8) : Nat → Nat → Pt → Res Pt
  | 0, j, _ => .bad 2 j
  | f + 1, j, acc => if rowEnd l j then .ok acc j else match partF inner l j with
    | .bad e i => .bad e i
    | .ok p i => rowL inner l f i (.seq acc p)
def rowF (inner : Nat → Res Pt) (l : List UInt8) (k : Nat) : Res Pt := match partF inner l k with
  | .bad e j => .bad e j
  | .ok p j => rowL inner l (l.length + 1) j (.seq .eps p)
def choiceL (inner : Nat → Res Pt) (l : List UInt8) : Nat → Nat → Pt → Res Pt
  | 0, j, _ => .bad 2 j
  | f + 1, j, acc => if pk l j = 124 then (match rowF inner l (j + 1) with
      | .bad e i => .bad e i
      | .ok p i => choiceL inner l f i (.alt acc p)) else .ok acc j
def choiceF (inner : Nat → Res Pt) (l : List UInt8) (k : Nat) : Res Pt := match rowF inner l k with
  | .bad e j => .bad e j
  | .ok p j => choiceL inner l (l.length + 1) j (.alt .nil p)
def innerF (l : List UInt8) : Nat → Nat → Res Pt
  | 0, k => .bad 4 k
  | d + 1, k => match choiceF (innerF l d) l (k + 1) with
    | .bad e j => .bad e j
    | .ok p j => if pk l j = 41 then .ok p (j + 1) else .bad 2 j
/-- what a text is as a pattern: its parts, or the error and where -/
def compileF (l : List UInt8) : Res Pt :=
  if 64 < l.length then .bad 4 0 else match choiceF (innerF l 9) l 0 with
    | .bad e j => .bad e j
    | .ok p j => if j < l.length then .bad 2 j else .ok p 0
-- how far, how many leaves
theorem pk_end {l : List UInt8} {k : Nat} (h : l.length ≤ k) : pk l k = 0 := by unfold pk; rw [List.getElem?_eq_none h]; rfl
theorem pk_lt {l : List UInt8} {k : Nat} (h : pk l k ≠ 0) : k < l.length := by
  rcases Nat.lt_or_ge k l.length with g | g
  · exact g
  · exact (h (pk_end g)).elim
theorem pk_byte (l : List UInt8) (k : Nat) : pk l k < 256 := by
  unfold pk
  cases l[k]? with
  | none => decide
  | some c => exact c.toNat_lt
def Goes (l : List UInt8) (k : Nat) {α : Type} (r : Res α) (P : α → Nat → Prop) : Prop := match r with
  | .ok x j => k < j ∧ j ≤ l.length ∧ P x j
  | .bad e j => k ≤ j ∧ j ≤ l.length ∧ (e = 2 ∨ e = 4)
theorem single_goes (sp : List UInt8) {l : List UInt8} {k : Nat} (h : k ≤ l.length) : Goes l k (singleF sp l k) (fun x _ => 32 ≤ x ∧ x ≤ 126) := by
  unfold singleF
  split
  · rename_i q
    have hk := pk_lt (l := l) (k := k) (by omega)
    split
    · exact ⟨by omega, by omega, Or.inl rfl⟩
    · have := pk_lt (l := l) (k := k + 1) (by omega)
      exact ⟨by omega, by omega, by omega, by omega⟩
  · split
    · exact ⟨by omega, by omega, Or.inl rfl⟩
    · rename_i q1 q
      have hk := pk_lt (l := l) (k := k) (by intro e; exact q (Or.inl (by omega)))
      have g1 : ¬ (pk l k < 32) := fun e => q (Or.inl e)
      have g2 : ¬ (126 < pk l k) := fun e => q (Or.inr (Or.inl e))
      exact ⟨by omega, by omega, by omega, by omega⟩
theorem range_goes {l : List UInt8} {k : Nat} (h : k ≤ l.length) : Goes l k (rangeF l k) (fun x _ => 32 ≤ x.1 ∧ x.1 ≤ x.2 ∧ x.2 ≤ 126) := by
  have g := single_goes inL h
  unfold rangeF
  cases hs : singleF inL l k with
  | bad e j => rw [hs] at g; exact g
  | ok a j =>
    rw [hs] at g
    obtain ⟨g1, g2, g3, g4⟩ := g
    dsimp only
    split
    · rename_i q
      have hj := pk_lt (l := l) (k := j) (by omega)
      have g' := single_goes inL (l := l) (k := j + 1) (by omega)
      cases hs2 : singleF inL l (j + 1) with
      | bad e i => rw [hs2] at g'; exact ⟨by have := g'.1; omega, g'.2.1, g'.2.2⟩
      | ok b i =>
        rw [hs2] at g'
        obtain ⟨k1, k2, k3, k4⟩ := g'
        dsimp only
        split
        · exact ⟨by omega, by omega, Or.inl rfl⟩
        · exact ⟨by omega, k2, by simp; omega, by simp; omega, by simp; omega⟩
    · exact ⟨g1, g2, by simp; omega, by simp, by simp; omega⟩
theorem items_goes {l : List UInt8} : ∀ (f k : Nat) (acc : List (Nat × Nat)), k ≤ l.length → l.length - k < f → Goes l k (itemsF l f k acc) (fun _ _ => True) := by
  intro f
  induction f with
  | zero => intro k acc _ h; omega
  | succ f ih =>
    intro k acc h hf
    have g := range_goes h
    unfold itemsF
    cases hs : rangeF l k with
    | bad e j => rw [hs] at g; exact g
    | ok r j =>
      rw [hs] at g
      obtain ⟨g1, g2, _⟩ := g
      dsimp only
      split
      · rename_i q
        have hj := pk_lt (l := l) (k := j) (by omega)
        exact ⟨by omega, by omega, trivial⟩
      · have i := ih j (acc ++ [r]) g2 (by omega)
        cases h2 : itemsF l f j (acc ++ [r]) with
        | bad e j => rw [h2] at i; exact ⟨by have := i.1; omega, i.2.1, i.2.2⟩
        | ok x j => rw [h2] at i; exact ⟨by have := i.1; omega, i.2.1, trivial⟩
/-- parts have as many leaves as bytes at most -/
def Few (k : Nat) (p : Pt) (j : Nat) : Prop := leaves p ≤ j - k
theorem set_goes {l : List UInt8} {k : Nat} (h : pk l k = 91) : Goes l k (setF l k) (Few k) := by
  have hk := pk_lt (l := l) (k := k) (by omega)
  unfold setF
  have hs : (if pk l (k + 1) = 94 then k + 2 else k + 1) ≤ l.length ∧ k < (if pk l (k + 1) = 94 then k + 2 else k + 1) := by
    split
    · have := pk_lt (l := l) (k := k + 1) (by omega)
      omega
    · omega
  have i := items_goes (l.length + 1) _ [] hs.1 (by omega)
  cases h2 : itemsF l (l.length + 1) (if pk l (k + 1) = 94 then k + 2 else k + 1) [] with
  | bad e j => rw [h2] at i; exact ⟨by have := i.1; omega, i.2.1, i.2.2⟩
  | ok x j => rw [h2] at i; exact ⟨by have := i.1; omega, i.2.1, by have := i.1; unfold Few; simp only [leaves]; omega⟩
theorem atom_goes {inner : Nat → Res Pt} {l : List UInt8} (hi : ∀ k, pk l k = 40 → Goes l k (inner k) (Few k)) {k : Nat} (h : k ≤ l.length) : Goes l k (atomF inner l k) (Few k) := by
  unfold atomF
  split
  · exact hi k (by assumption)
  · split
    · exact set_goes (by assumption)
    · split
      · have hk := pk_lt (l := l) (k := k) (by omega)
        exact ⟨by omega, by omega, by unfold Few; simp only [leaves]; omega⟩
      · have g := single_goes outL h
        cases hs : singleF outL l k with
        | bad e j => rw [hs] at g; exact g
        | ok c j => rw [hs] at g; exact ⟨g.1, g.2.1, by have := g.1; unfold Few; simp only [leaves]; omega⟩
theorem part_goes {inner : Nat → Res Pt} {l : List UInt8} (hi : ∀ k, pk l k = 40 → Goes l k (inner k) (Few k)) {k : Nat} (h : k ≤ l.length) : Goes l k (partF inner l k) (Few k) := by
  have g := atom_goes hi h
  unfold partF
  cases hs : atomF inner l k with
  | bad e j => rw [hs] at g; exact g
  | ok p j =>
    rw [hs] at g
    obtain ⟨g1, g2, g3⟩ := g
    unfold Few at g3
    dsimp only
    have z : pk l j ≠ 0 → j < l.length := fun q => pk_lt q
    split
    · have := z (by omega); exact ⟨by omega, by omega, by unfold Few; simp only [leaves]; omega⟩
    · split
      · have := z (by omega); exact ⟨by omega, by omega, by unfold Few; simp only [leaves]; omega⟩
      · split
        · have := z (by omega); exact ⟨by omega, by omega, by unfold Few; simp only [leaves]; omega⟩
        · exact ⟨g1, g2, g3⟩
theorem rowL_goes {inner : Nat → Res Pt} {l : List UInt8} (hi : ∀ k, pk l k = 40 → Goes l k (inner k) (Few k)) (k0 : Nat) : ∀ (f j : Nat) (acc : Pt), k0 < j → j ≤ l.length → l.length - j < f → leaves acc ≤ j - k0 → Goes l k0 (rowL inner l f j acc) (Few k0) := by
  intro f
  induction f with
  | zero => intro j acc _ _ h; omega
  | succ f ih =>
    intro j acc h0 h hf hl
    unfold rowL
    split
    · exact ⟨h0, h, hl⟩
    · have g := part_goes hi h
      cases hs : partF inner l j with
      | bad e i => rw [hs] at g; exact ⟨by have := g.1; omega, g.2.1, g.2.2⟩
      | ok p i =>
        rw [hs] at g
        obtain ⟨g1, g2, g3⟩ := g
        unfold Few at g3
        exact ih i (.seq acc p) (by omega) g2 (by omega) (by simp only [leaves]; omega)
theorem row_goes {inner : Nat → Res Pt} {l : List UInt8} (hi : ∀ k, pk l k = 40 → Goes l k (inner k) (Few k)) {k : Nat} (h : k ≤ l.length) : Goes l k (rowF inner l k) (Few k) := by
  have g := part_goes hi h
  unfold rowF
  cases hs : partF inner l k with
  | bad e j => rw [hs] at g; exact g
  | ok p j =>
    rw [hs] at g
    obtain ⟨g1, g2, g3⟩ := g
    unfold Few at g3
    exact rowL_goes hi k _ j _ g1 g2 (by omega) (by simp only [leaves]; omega)
theorem choiceL_goes {inner : Nat → Res Pt} {l : List UInt8} (hi : ∀ k, pk l k = 40 → Goes l k (inner k) (Few k)) (k0 : Nat) : ∀ (f j : Nat) (acc : Pt), k0 < j → j ≤ l.length → l.length - j < f → leaves acc ≤ j - k0 → Goes l k0 (choiceL inner l f j acc) (Few k0) := by
  intro f
  induction f with
  | zero => intro j acc _ _ h; omega
  | succ f ih =>
    intro j acc h0 h hf hl
    unfold choiceL
    split
    · have hj := pk_lt (l := l) (k := j) (by omega)
      have g := row_goes hi (k := j + 1) (by omega)
      cases hs : rowF inner l (j + 1) with
      | bad e i => rw [hs] at g; exact ⟨by have := g.1; omega, g.2.1, g.2.2⟩
      | ok p i =>
        rw [hs] at g
        obtain ⟨g1, g2, g3⟩ := g
        unfold Few at g3
        exact ih i (.alt acc p) (by omega) g2 (by omega) (by simp only [leaves]; omega)
    · exact ⟨h0, h, hl⟩
theorem choice_goes {inner : Nat → Res Pt} {l : List UInt8} (hi : ∀ k, pk l k = 40 → Goes l k (inner k) (Few k)) {k : Nat} (h : k ≤ l.length) : Goes l k (choiceF inner l k) (Few k) := by
  have g := row_goes hi h
  unfold choiceF
  cases hs : rowF inner l k with
  | bad e j => rw [hs] at g; exact g
  | ok p j =>
    rw [hs] at g
    obtain ⟨g1, g2, g3⟩ := g
    unfold Few at g3
    exact choiceL_goes hi k _ j _ g1 g2 (by omega) (by simp only [leaves]; omega)
theorem inner_goes {l : List UInt8} : ∀ (d k : Nat), pk l k = 40 → Goes l k (innerF l d k) (Few k) := by
  intro d
  induction d with
  | zero => intro k h; have := pk_lt (l := l) (k := k) (by omega); exact ⟨by omega, by omega, Or.inr rfl⟩
  | succ d ih =>
    intro k h
    have hk := pk_lt (l := l) (k := k) (by omega)
    have g := choice_goes ih (l := l) (k := k + 1) (by omega)
    unfold innerF
    cases hs : choiceF (innerF l d) l (k + 1) with
    | bad e j => rw [hs] at g; exact ⟨by have := g.1; omega, g.2.1, g.2.2⟩
    | ok p j =>
      rw [hs] at g
      obtain ⟨g1, g2, g3⟩ := g
      unfold Few at g3
      dsimp only
      split
      · have := pk_lt (l := l) (k := j) (by omega)
        exact ⟨by omega, by omega, by unfold Few; omega⟩
      · exact ⟨by omega, by omega, Or.inl rfl⟩
end Go.Proofs.YtcfdpbbpdnpnnaaDoor.Rx
