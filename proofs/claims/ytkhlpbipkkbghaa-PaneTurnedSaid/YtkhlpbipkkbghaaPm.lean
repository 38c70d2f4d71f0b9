/- What samples come to, as mathematics: panes, put together, of a row of samples. It speaks of no program. -/
import Derived.Test.YtkhlpbipkkbghaaOrd6
import Derived.Test.YtkhlpbipkkbghaaMath
namespace Go.Proofs.Ytkhlpbipkkbghaa
open Go Go.Proofs Go.RowKit
set_option maxRecDepth 100000
/-- a pane -/
structure Pn where
  c : Int
  h : Int
  l : Int
  mn : Int
  mx : Int
  t : Int
  s : Int
  q : Int
  v : Int
/-- a sample's numbers -/
structure Nm where
  v : Int
  t : Int
  s : Int
  q : Int
def Pn.V (p : Pn) : Value := .agg #[.int .i64 p.c, .int .i64 p.h, .int .u64 p.l, .int .i64 p.mn, .int .i64 p.mx, .int .i64 p.t, .int .i64 p.s, .int .i64 p.q, .int .i64 p.v]
def Pn.zero : Pn := ⟨0, 0, 0, 0, 0, 0, 0, 0, 0⟩
def hiS (x : Int) : Int := x / 18446744073709551616
def loS (x : Int) : Int := x % 18446744073709551616
theorem val_hl (x : Int) : val (hiS x) (loS x) = x := by unfold val hiS loS; omega
/-- one stands ahead of another -/
def Lt3 (a b c x y z : Int) : Prop := a < x ∨ (a = x ∧ (b < y ∨ (b = y ∧ c < z)))
instance (a b c x y z : Int) : Decidable (Lt3 a b c x y z) := by unfold Lt3; infer_instance
theorem cmpS_neg {a b c x y z : Int} : cmpS a b c x y z < 0 ↔ Lt3 a b c x y z := by
  unfold cmpS or3I ordI Lt3
  repeat' split
  all_goals omega
theorem cmpS_pos {a b c x y z : Int} : 0 < cmpS a b c x y z ↔ Lt3 x y z a b c := by
  unfold cmpS or3I ordI Lt3
  repeat' split
  all_goals omega
theorem cmpS_zero {a b c x y z : Int} : cmpS a b c x y z = 0 ↔ a = x ∧ b = y ∧ c = z := by
  unfold cmpS or3I ordI
  repeat' split
  all_goals omega
def mergeR (p q : Pn) : Pn := if p.c < 1 then q else if q.c < 1 then p else
  { c := p.c + q.c, h := hiS (val p.h p.l + val q.h q.l), l := loS (val p.h p.l + val q.h q.l), mn := min p.mn q.mn, mx := max p.mx q.mx,
    t := if Lt3 p.t p.s p.q q.t q.s q.q then q.t else p.t, s := if Lt3 p.t p.s p.q q.t q.s q.q then q.s else p.s,
    q := if Lt3 p.t p.s p.q q.t q.s q.q then q.q else p.q, v := if Lt3 p.t p.s p.q q.t q.s q.q then q.v else p.v }
theorem merge_c {p q : Pn} (hp : 0 ≤ p.c) (hq : 0 ≤ q.c) : (mergeR p q).c = p.c + q.c := by
  unfold mergeR
  split
  · omega
  · split
    · omega
    · rfl
theorem merge_assoc {a b c : Pn} (ha : 0 ≤ a.c) (hb : 0 ≤ b.c) (hc : 0 ≤ c.c) : mergeR (mergeR a b) c = mergeR a (mergeR b c) := by
  by_cases a1 : a.c < 1
  · have e : ∀ x, mergeR a x = x := fun x => by unfold mergeR; rw [if_pos a1]
    rw [e, e]
  by_cases c1 : c.c < 1
  · have e : ∀ x, 0 ≤ x.c → ¬ x.c < 1 → mergeR x c = x := fun x _ h => by unfold mergeR; rw [if_neg h, if_pos c1]
    by_cases b1 : b.c < 1
    · have e1 : mergeR a b = a := by unfold mergeR; rw [if_neg a1, if_pos b1]
      have e2 : mergeR b c = c := by unfold mergeR; rw [if_pos b1]
      rw [e1, e2]
    · rw [e b hb b1, e _ (by rw [merge_c ha hb]; omega) (by rw [merge_c ha hb]; omega)]
  by_cases b1 : b.c < 1
  · have e1 : mergeR a b = a := by unfold mergeR; rw [if_neg a1, if_pos b1]
    have e2 : mergeR b c = c := by unfold mergeR; rw [if_pos b1]
    rw [e1, e2]
  have k1 : ¬ a.c + b.c < 1 := by omega
  have k2 : ¬ b.c + c.c < 1 := by omega
  by_cases h1 : Lt3 a.t a.s a.q b.t b.s b.q <;> by_cases h2 : Lt3 b.t b.s b.q c.t c.s c.q <;> by_cases h3 : Lt3 a.t a.s a.q c.t c.s c.q
  all_goals
    simp only [mergeR, a1, b1, c1, k1, k2, h1, h2, h3, ↓reduceIte, val_hl, Int.add_assoc, Int.min_assoc, Int.max_assoc]
  all_goals exfalso; unfold Lt3 at h1 h2 h3; omega
theorem merge_comm {a b : Pn} (h : a.c < 1 ∨ b.c < 1 ∨ ¬ (a.t = b.t ∧ a.s = b.s ∧ a.q = b.q)) (h2 : ¬ (a.c < 1 ∧ b.c < 1)) : mergeR a b = mergeR b a := by
  unfold mergeR
  by_cases a1 : a.c < 1
  · rw [if_pos a1, if_pos a1]
    by_cases b1 : b.c < 1
    · exact absurd ⟨a1, b1⟩ h2
    · rw [if_neg b1]
  · rw [if_neg a1, if_neg a1]
    by_cases b1 : b.c < 1
    · rw [if_pos b1, if_pos b1]
    · rw [if_neg b1, if_neg b1]
      have hk : ¬ (a.t = b.t ∧ a.s = b.s ∧ a.q = b.q) := by rcases h with h | h | h <;> first | contradiction | exact h
      have e : Lt3 b.t b.s b.q a.t a.s a.q ↔ ¬ Lt3 a.t a.s a.q b.t b.s b.q := by unfold Lt3; omega
      by_cases h1 : Lt3 a.t a.s a.q b.t b.s b.q
      · have h3 : ¬ Lt3 b.t b.s b.q a.t a.s a.q := by rw [e]; exact fun q => q h1
        simp only [if_pos h1, if_neg h3, Int.add_comm, Int.min_comm, Int.max_comm]
      · have h3 : Lt3 b.t b.s b.q a.t a.s a.q := e.2 h1
        simp only [if_neg h1, if_pos h3, Int.add_comm, Int.min_comm, Int.max_comm]
/-- of one sample -/
def oneR (x : Nm) : Pn := ⟨1, hiS x.v, loS x.v, x.v, x.v, x.t, x.s, x.q, x.v⟩
def ofR (L : List Nm) : Pn := L.foldl (fun p x => mergeR p (oneR x)) Pn.zero
theorem ofR_snoc (L : List Nm) (x : Nm) : ofR (L ++ [x]) = mergeR (ofR L) (oneR x) := by unfold ofR; rw [List.foldl_append]; rfl
theorem ofR_nil : ofR [] = Pn.zero := rfl
theorem list_snoc {α : Type} {P : List α → Prop} (h0 : P []) (h1 : ∀ l x, P l → P (l ++ [x])) (l : List α) : P l := by
  have h : ∀ m : List α, P m.reverse := by
    intro m
    induction m with
    | nil => exact h0
    | cons a t ih => rw [List.reverse_cons]; exact h1 _ _ ih
  have := h l.reverse
  rwa [List.reverse_reverse] at this
theorem ofR_c (L : List Nm) : (ofR L).c = L.length := by
  refine list_snoc (P := fun L => (ofR L).c = (L.length : Int)) rfl (fun l x ih => ?_) L
  rw [ofR_snoc, merge_c (by rw [ih]; omega) (by show (0 : Int) ≤ 1; omega), ih, List.length_append]
  show (l.length : Int) + 1 = _
  simp
theorem merge_zero (p : Pn) (h : ¬ p.c < 1) : mergeR p Pn.zero = p := by
  unfold mergeR; rw [if_neg h, if_pos (by show (0 : Int) < 1; omega)]
theorem zero_merge (p : Pn) : mergeR Pn.zero p = p := by
  unfold mergeR; rw [if_pos (by show (0 : Int) < 1; omega)]
theorem ofR_app (a b : List Nm) : ofR (a ++ b) = mergeR (ofR a) (ofR b) := by
  refine list_snoc (P := fun b => ofR (a ++ b) = mergeR (ofR a) (ofR b)) ?_ (fun l x ih => ?_) b
  · rw [List.append_nil, ofR_nil]
    rcases a with _ | ⟨x, t⟩
    · exact (zero_merge _).symm
    · exact (merge_zero _ (by rw [ofR_c]; simp only [List.length_cons]; omega)).symm
  · rw [← List.append_assoc, ofR_snoc, ofR_snoc, ih]
    exact merge_assoc (by rw [ofR_c]; omega) (by rw [ofR_c]; omega) (by show (0 : Int) ≤ 1; omega)
/-- what is known of the pane of n samples -/
structure Bd (n : Nat) (p : Pn) : Prop where
  c : p.c = n
  i : InI p.h p.l
  s0 : -(9223372036854775808 * (n : Int)) ≤ val p.h p.l
  s1 : val p.h p.l ≤ 9223372036854775808 * (n : Int)
  mn : I64 p.mn
  mx : I64 p.mx
  v : I64 p.v
theorem ini_hl {x : Int} (h : Fits x) : InI (hiS x) (loS x) := by unfold Fits at h; unfold hiS loS; exact ⟨by omega, by omega, by omega, by omega⟩
theorem Bd.zero : Bd 0 Pn.zero := ⟨rfl, ⟨by decide, by decide, by decide, by decide⟩, by decide, by decide, ⟨by decide, by decide⟩, ⟨by decide, by decide⟩, ⟨by decide, by decide⟩⟩
theorem Bd.one {x : Nm} (h : I64 x.v) : Bd 1 (oneR x) := by
  have e : val (oneR x).h (oneR x).l = x.v := val_hl x.v
  have hh := h
  unfold I64 at h
  refine ⟨rfl, ini_hl (by unfold Fits; omega), by rw [e]; omega, by rw [e]; omega, hh, hh, hh⟩
theorem Bd.fits {n m : Nat} {p q : Pn} (hp : Bd n p) (hq : Bd m q) (h : n + m ≤ 1000000000) : Fits (val p.h p.l + val q.h q.l) := by
  have := hp.s0; have := hp.s1; have := hq.s0; have := hq.s1
  unfold Fits
  have a1 : (9223372036854775808 * (n : Int)) ≤ 9223372036854775808 * 1000000000 := by omega
  have a2 : (9223372036854775808 * (m : Int)) ≤ 9223372036854775808 * 1000000000 := by omega
  omega
theorem Bd.merge {n m : Nat} {p q : Pn} (hp : Bd n p) (hq : Bd m q) (h : n + m ≤ 1000000000) : Bd (n + m) (mergeR p q) := by
  have F := hp.fits hq h
  unfold mergeR
  by_cases h1 : p.c < 1
  · rw [if_pos h1]
    have := hp.c
    obtain rfl : n = 0 := by omega
    rw [Nat.zero_add]; exact hq
  rw [if_neg h1]
  by_cases h2 : q.c < 1
  · rw [if_pos h2]
    have := hq.c
    obtain rfl : m = 0 := by omega
    exact hp
  rw [if_neg h2]
  have a0 := hp.s0; have a1 := hp.s1; have b0 := hq.s0; have b1 := hq.s1
  refine ⟨?_, ini_hl F, ?_, ?_, ?_, ?_, ?_⟩
  · show p.c + q.c = _
    rw [hp.c, hq.c]; simp
  · show _ ≤ val (hiS _) (loS _)
    rw [val_hl]; push_cast; omega
  · show val (hiS _) (loS _) ≤ _
    rw [val_hl]; push_cast; omega
  · have := hp.mn; have := hq.mn
    show I64 (min _ _)
    unfold I64 at *; omega
  · have := hp.mx; have := hq.mx
    show I64 (max _ _)
    unfold I64 at *; omega
  · show I64 (ite _ _ _)
    split
    · exact hq.v
    · exact hp.v
theorem ofR_bd (L : List Nm) : (∀ x ∈ L, I64 x.v) → L.length ≤ 1000000 → Bd L.length (ofR L) := by
  refine list_snoc (P := fun L => (∀ x ∈ L, I64 x.v) → L.length ≤ 1000000 → Bd L.length (ofR L)) (fun _ _ => Bd.zero) (fun l x ih h hl => ?_) L
  rw [ofR_snoc, List.length_append] at *
  exact (ih (fun y hy => h y (by simp [hy])) (by simp at hl; omega)).merge (Bd.one (h x (by simp))) (by simp at hl ⊢; omega)
/-- what the bounds and the last one of a pane are -/
structure Has (L : List Nm) (p : Pn) : Prop where
  le : ∀ x ∈ L, p.mn ≤ x.v ∧ x.v ≤ p.mx ∧ x.t ≤ p.t
  key : ∃ x ∈ L, x.t = p.t ∧ x.s = p.s ∧ x.q = p.q ∧ x.v = p.v
  s0 : p.mn * (L.length : Int) ≤ val p.h p.l
  s1 : val p.h p.l ≤ p.mx * (L.length : Int)
theorem has_of (L : List Nm) : L ≠ [] → Has L (ofR L) := by
  refine list_snoc (P := fun L => L ≠ [] → Has L (ofR L)) (fun h => absurd rfl h) (fun l x ih _ => ?_) L
  rw [ofR_snoc]
  by_cases hl : l = []
  · subst hl
    rw [ofR_nil, zero_merge]
    refine ⟨fun y hy => ?_, ⟨x, by simp, rfl, rfl, rfl, rfl⟩, ?_, ?_⟩
    · obtain rfl : y = x := by simpa using hy
      exact ⟨Int.le_refl _, Int.le_refl _, Int.le_refl _⟩
    · show x.v * _ ≤ val (hiS _) (loS _)
      rw [val_hl]; simp
    · show val (hiS _) (loS _) ≤ x.v * _
      rw [val_hl]; simp
  · have H := ih hl
    have hc := ofR_c l
    have hpos : 0 < l.length := List.length_pos_iff.2 hl
    generalize ofR l = p at *
    have e : mergeR p (oneR x) = { c := p.c + 1, h := hiS (val p.h p.l + x.v), l := loS (val p.h p.l + x.v), mn := min p.mn x.v, mx := max p.mx x.v, t := if Lt3 p.t p.s p.q x.t x.s x.q then x.t else p.t, s := if Lt3 p.t p.s p.q x.t x.s x.q then x.s else p.s, q := if Lt3 p.t p.s p.q x.t x.s x.q then x.q else p.q, v := if Lt3 p.t p.s p.q x.t x.s x.q then x.v else p.v } := by
      unfold mergeR
      rw [if_neg (by omega), if_neg (by show ¬ (1 : Int) < 1; omega)]
      have e2 : val (oneR x).h (oneR x).l = x.v := val_hl x.v
      rw [e2]; rfl
    rw [e]
    refine ⟨fun y hy => ?_, ?_, ?_, ?_⟩
    · have hy2 : y ∈ l ∨ y = x := by simpa using hy
      show min _ _ ≤ _ ∧ _ ≤ max _ _ ∧ _ ≤ ite _ _ _
      have : p.t ≤ (if Lt3 p.t p.s p.q x.t x.s x.q then x.t else p.t) ∧ x.t ≤ (if Lt3 p.t p.s p.q x.t x.s x.q then x.t else p.t) := by
        split <;> rename_i h3 <;> unfold Lt3 at h3 <;> omega
      rcases hy2 with h | rfl
      · have := H.le y h
        omega
      · omega
    · by_cases h3 : Lt3 p.t p.s p.q x.t x.s x.q
      · simp only [if_pos h3]
        exact ⟨x, by simp, rfl, rfl, rfl, rfl⟩
      · simp only [if_neg h3]
        obtain ⟨y, hy, k⟩ := H.key
        exact ⟨y, by simp [hy], k⟩
    · show min p.mn x.v * _ ≤ val (hiS _) (loS _)
      rw [val_hl, List.length_append]
      have h0 := H.s0
      have m1 : min p.mn x.v * (l.length : Int) ≤ p.mn * (l.length : Int) := Int.mul_le_mul_of_nonneg_right (by omega) (by omega)
      have m2 : min p.mn x.v * ((l.length + [x].length : Nat) : Int) = min p.mn x.v * (l.length : Int) + min p.mn x.v := by
        rw [show ((l.length + [x].length : Nat) : Int) = (l.length : Int) + 1 by simp, Int.mul_add, Int.mul_one]
      rw [m2]
      omega
    · show val (hiS _) (loS _) ≤ max p.mx x.v * _
      rw [val_hl, List.length_append]
      have h0 := H.s1
      have m1 : p.mx * (l.length : Int) ≤ max p.mx x.v * (l.length : Int) := Int.mul_le_mul_of_nonneg_right (by omega) (by omega)
      have m2 : max p.mx x.v * ((l.length + [x].length : Nat) : Int) = max p.mx x.v * (l.length : Int) + max p.mx x.v := by
        rw [show ((l.length + [x].length : Nat) : Int) = (l.length : Int) + 1 by simp, Int.mul_add, Int.mul_one]
      rw [m2]
      omega
/-- no two of them have one time, source and place -/
def Apart (L : List Nm) : Prop := ∀ i k : Nat, i < k → ∀ x y : Nm, L[i]? = some x → L[k]? = some y → ¬ (x.t = y.t ∧ x.s = y.s ∧ x.q = y.q)
theorem parts_comm {A B : List Nm} (h : Apart (A ++ B)) (hne : A ≠ [] ∨ B ≠ []) : mergeR (ofR A) (ofR B) = mergeR (ofR B) (ofR A) := by
  have hA := ofR_c A
  have hB := ofR_c B
  by_cases a0 : A = []
  · have : B ≠ [] := by rcases hne with h | h; exact absurd a0 h; exact h
    have := List.length_pos_iff.2 this
    subst a0
    exact merge_comm (.inl (by rw [hA]; simp)) (by omega)
  by_cases b0 : B = []
  · have := List.length_pos_iff.2 a0
    subst b0
    exact merge_comm (.inr (.inl (by rw [hB]; simp))) (by omega)
  have la := List.length_pos_iff.2 a0
  refine merge_comm (.inr (.inr ?_)) (by omega)
  obtain ⟨x, hx, x1, x2, x3, _⟩ := (has_of A a0).key
  obtain ⟨y, hy, y1, y2, y3, _⟩ := (has_of B b0).key
  obtain ⟨i, hi⟩ := List.getElem?_of_mem hx
  obtain ⟨k, hk⟩ := List.getElem?_of_mem hy
  have li := (List.getElem?_eq_some_iff.1 hi).1
  rw [← x1, ← x2, ← x3, ← y1, ← y2, ← y3]
  exact h i (A.length + k) (by omega) x y (by rw [List.getElem?_append_left li]; exact hi) (by rw [List.getElem?_append_right (by omega), Nat.add_sub_cancel_left]; exact hk)
/-- turned over, it comes to the same -/
theorem ofR_turn {L : List Nm} (h : Apart L) (hne : L ≠ []) (k : Nat) : ofR (L.drop k ++ L.take k) = ofR L := by
  have e := List.take_append_drop k L
  have h2 : Apart (L.take k ++ L.drop k) := by rw [e]; exact h
  have h3 : L.take k ≠ [] ∨ L.drop k ≠ [] := by
    by_cases q : L.take k = []
    · right; intro q2; rw [q, q2] at e; exact hne e.symm
    · exact .inl q
  rw [ofR_app, ← parts_comm h2 h3, ← ofR_app, e]
/-- what a fold makes of a pane -/
def pvalR (p : Pn) (f : Int) : Int × Int × Int × Bool :=
  if p.c < 1 then (0, 0, 0, false) else if f = 1 then (hiS p.c, loS p.c, 1, true) else if f = 2 then (p.h, p.l, 1, true) else if f = 3 then (hiS p.mn, loS p.mn, 1, true)
  else if f = 4 then (hiS p.mx, loS p.mx, 1, true) else if f = 5 then (p.h, p.l, p.c, true) else if f = 6 then (hiS p.v, loS p.v, 1, true) else (0, 0, 0, false)
def valV (r : Int × Int × Int × Bool) : Value := .tuple #[.agg #[.int .i64 r.1, .int .u64 r.2.1], .int .i64 r.2.2.1, .bool r.2.2.2]
end Go.Proofs.Ytkhlpbipkkbghaa
