/- What samples come to, as mathematics: panes, put together, of a row of samples. It speaks of no program. -/
import Derived.Test.YtedcdhngiofpjaaGreatDoorHeldIn
import Derived.Test.YtedcdhngiofpjaaGreatDoorWd
import Derived.Laws.Rows
import Derived.Laws.Tables
import Derived.WalkKit
import Derived.OwnWalkIn
import Derived.Test.YtedcdhngiofpjaaGreatDoorAt
import Derived.Test.YtedcdhngiofpjaaGreatDoorProg
import Derived.Test.YtedcdhngiofpjaaGreatDoorTk7
import Derived.Deep.RegionHeld3
import Derived.KernelRfl
namespace Go.Proofs.YtedcdhngiofpjaaGreatDoor
open Go Go.Proofs Go.RowKit
set_option maxRecDepth 100000
/-- a pane -/
structure Pn where
  c : Int
  h : Int
  l : Int
  mn : Int
  mx : Int
  t : Int
  s : Int
  q : Int
  v : Int
/-- a sample's numbers -/
structure Nm where
  v : Int
  t : Int
  s : Int
  q : Int
def Pn.V (p : Pn) : Value := .agg #[.int .i64 p.c, .int .i64 p.h, .int .u64 p.l, .int .i64 p.mn, .int .i64 p.mx, .int .i64 p.t, .int .i64 p.s, .int .i64 p.q, .int .i64 p.v]
def Pn.zero : Pn := ⟨0, 0, 0, 0, 0, 0, 0, 0, 0⟩
def hiS (x : Int) : Int := x / 18446744073709551616
def loS (x : Int) : Int := x % 18446744073709551616
theorem val_hl (x : Int) : val (hiS x) (loS x) = x := by unfold val hiS loS; omega
/-- one stands ahead of another -/
def Lt3 (a b c x y z : Int) : Prop := a < x ∨ (a = x ∧ (b < y ∨ (b = y ∧ c < z)))
instance (a b c x y z : Int) : Decidable (Lt3 a b c x y z) := by unfold Lt3; infer_instance
theorem cmpS_neg {a b c x y z : Int} : cmpS a b c x y z < 0 ↔ Lt3 a b c x y z := by
  unfold cmpS or3I ordI Lt3
  repeat' split
  all_goals omega
theorem cmpS_pos {a b c x y z : Int} : 0 < cmpS a b c x y z ↔ Lt3 x y z a b c := by
  unfold cmpS or3I ordI Lt3
  repeat' split
  all_goals omega
theorem cmpS_zero {a b c x y z : Int} : cmpS a b c x y z = 0 ↔ a = x ∧ b = y ∧ c = z := by
  unfold cmpS or3I ordI
  repeat' split
  all_goals omega
def mergeR (p q : Pn) : Pn := if p.c < 1 then q else if q.c < 1 then p else
  { c := p.c + q.c, h := hiS (val p.h p.l + val q.h q.l), l := loS (val p.h p.l + val q.h q.l), mn := min p.mn q.mn, mx := max p.mx q.mx,
    t := if Lt3 p.t p.s p.q q.t q.s q.q then q.t else p.t, s := if Lt3 p.t p.s p.q q.t q.s q.q then q.s else p.s,
    q := if Lt3 p.t p.s p.q q.t q.s q.q then q.q else p.q, v := if Lt3 p.t p.s p.q q.t q.s q.q then q.v else p.v }
theorem merge_c {p q : Pn} (hp : 0 ≤ p.c) (hq : 0 ≤ q.c) : (mergeR p q).c = p.c + q.c := by
  unfold mergeR
  split
  · omega
  · split
    · omega
    · rfl
theorem merge_assoc {a b c : Pn} (ha : 0 ≤ a.c) (hb : 0 ≤ b.c) (hc : 0 ≤ c.c) : mergeR (mergeR a b) c = mergeR a (mergeR b c) := by
  by_cases a1 : a.c < 1
  · have e : ∀ x, mergeR a x = x := fun x => by unfold mergeR; rw [if_pos a1]
    rw [e, e]
  by_cases c1 : c.c < 1
  · have e : ∀ x, 0 ≤ x.c → ¬ x.c < 1 → mergeR x c = x := fun x _ h => by unfold mergeR; rw [if_neg h, if_pos c1]
    by_cases b1 : b.c < 1
    · have e1 : mergeR a b = a := by unfold mergeR; rw [if_neg a1, if_pos b1]
      have e2 : mergeR b c = c := by unfold mergeR; rw [if_pos b1]
      rw [e1, e2]
    · rw [e b hb b1, e _ (by rw [merge_c ha hb]; omega) (by rw [merge_c ha hb]; omega)]
  by_cases b1 : b.c < 1
  · have e1 : mergeR a b = a := by unfold mergeR; rw [if_neg a1, if_pos b1]
    have e2 : mergeR b c = c := by unfold mergeR; rw [if_pos b1]
    rw [e1, e2]
  have k1 : ¬ a.c + b.c < 1 := by omega
  have k2 : ¬ b.c + c.c < 1 := by omega
  by_cases h1 : Lt3 a.t a.s a.q b.t b.s b.q <;> by_cases h2 : Lt3 b.t b.s b.q c.t c.s c.q <;> by_cases h3 : Lt3 a.t a.s a.q c.t c.s c.q
  all_goals
    simp only [mergeR, a1, b1, c1, k1, k2, h1, h2, h3, ↓reduceIte, val_hl, Int.add_assoc, Int.min_assoc, Int.max_assoc]
  all_goals exfalso; unfold Lt3 at h1 h2 h3; omega
theorem merge_comm {a b : Pn} (h : a.c < 1 ∨ b.c < 1 ∨ ¬ (a.t = b.t ∧ a.s = b.s ∧ a.q = b.q)) (h2 : ¬ (a.c < 1 ∧ b.c < 1)) : mergeR a b = mergeR b a := by
  unfold mergeR
  by_cases a1 : a.c < 1
  · rw [if_pos a1, if_pos a1]
    by_cases b1 : b.c < 1
    · exact absurd ⟨a1, b1⟩ h2
    · rw [if_neg b1]
  · rw [if_neg a1, if_neg a1]
    by_cases b1 : b.c < 1
    · rw [if_pos b1, if_pos b1]
    · rw [if_neg b1, if_neg b1]
      have hk : ¬ (a.t = b.t ∧ a.s = b.s ∧ a.q = b.q) := by rcases h with h | h | h <;> first | contradiction | exact h
      have e : Lt3 b.t b.s b.q a.t a.s a.q ↔ ¬ Lt3 a.t a.s a.q b.t b.s b.q := by unfold Lt3; omega
      by_cases h1 : Lt3 a.t a.s a.q b.t b.s b.q
      · have h3 : ¬ Lt3 b.t b.s b.q a.t a.s a.q := by rw [e]; exact fun q => q h1
        simp only [if_pos h1, if_neg h3, Int.add_comm, Int.min_comm, Int.max_comm]
      · have h3 : Lt3 b.t b.s b.q a.t a.s a.q := e.2 h1
        simp only [if_neg h1, if_pos h3, Int.add_comm, Int.min_comm, Int.max_comm]
/-- of one sample -/
def oneR (x : Nm) : Pn := ⟨1, hiS x.v, loS x.v, x.v, x.v, x.t, x.s, x.q, x.v⟩
def ofR (L : List Nm) : Pn := L.foldl (fun p x => mergeR p (oneR x)) Pn.zero
theorem ofR_snoc (L : List Nm) (x : Nm) : ofR (L ++ [x]) = mergeR (ofR L) (oneR x) := by unfold ofR; rw [List.foldl_append]; rfl
theorem ofR_nil : ofR [] = Pn.zero := rfl
theorem list_snoc {α : Type} {P : List α → Prop} (h0 : P []) (h1 : ∀ l x, P l → P (l ++ [x])) (l : List α) : P l := by
  have h : ∀ m : List α, P m.reverse := by
    intro m
    induction m with
    | nil => exact h0
    | cons a t ih => rw [List.reverse_cons]; exact h1 _ _ ih
  have := h l.reverse
  rwa [List.reverse_reverse] at this
theorem ofR_c (L : List Nm) : (ofR L).c = L.length := by
  refine list_snoc (P := fun L => (ofR L).c = (L.length : Int)) rfl (fun l x ih => ?_) L
  rw [ofR_snoc, merge_c (by rw [ih]; omega) (by show (0 : Int) ≤ 1; omega), ih, List.length_append]
  show (l.length : Int) + 1 = _
  simp
theorem merge_zero (p : Pn) (h : ¬ p.c < 1) : mergeR p Pn.zero = p := by
  unfold mergeR; rw [if_neg h, if_pos (by show (0 : Int) < 1; omega)]
theorem zero_merge (p : Pn) : mergeR Pn.zero p = p := by
  unfold mergeR; rw [if_pos (by show (0 : Int) < 1; omega)]
theorem ofR_app (a b : List Nm) : ofR (a ++ b) = mergeR (ofR a) (ofR b) := by
  refine list_snoc (P := fun b => ofR (a ++ b) = mergeR (ofR a) (ofR b)) ?_ (fun l x ih => ?_) b
  · rw [List.append_nil, ofR_nil]
    rcases a with _ | ⟨x, t⟩
    · exact (zero_merge _).symm
    · exact (merge_zero _ (by rw [ofR_c]; simp only [List.length_cons]; omega)).symm
  · rw [← List.append_assoc, ofR_snoc, ofR_snoc, ih]
    exact merge_assoc (by rw [ofR_c]; omega) (by rw [ofR_c]; omega) (by show (0 : Int) ≤ 1; omega)
/-- what is known of the pane of n samples -/
structure Bd (n : Nat) (p : Pn) : Prop where
  c : p.c = n
  i : InI p.h p.l
  s0 : -(9223372036854775808 * (n : Int)) ≤ val p.h p.l
  s1 : val p.h p.l ≤ 9223372036854775808 * (n : Int)
  mn : I64 p.mn
  mx : I64 p.mx
  v : I64 p.v
theorem ini_hl {x : Int} (h : Fits x) : InI (hiS x) (loS x) := by unfold Fits at h; unfold hiS loS; exact ⟨by omega, by omega, by omega, by omega⟩
theorem Bd.zero : Bd 0 Pn.zero := ⟨rfl, ⟨by decide, by decide, by decide, by decide⟩, by decide, by decide, ⟨by decide, by decide⟩, ⟨by decide, by decide⟩, ⟨by decide, by decide⟩⟩
theorem Bd.one {x : Nm} (h : I64 x.v) : Bd 1 (oneR x) := by
  have e : val (oneR x).h (oneR x).l = x.v := val_hl x.v
  have hh := h
  unfold I64 at h
  refine ⟨rfl, ini_hl (by unfold Fits; omega), by rw [e]; omega, by rw [e]; omega, hh, hh, hh⟩
theorem Bd.fits {n m : Nat} {p q : Pn} (hp : Bd n p) (hq : Bd m q) (h : n + m ≤ 1000000000) : Fits (val p.h p.l + val q.h q.l) := by
  have := hp.s0; have := hp.s1; have := hq.s0; have := hq.s1
  unfold Fits
  have a1 : (9223372036854775808 * (n : Int)) ≤ 9223372036854775808 * 1000000000 := by omega
  have a2 : (9223372036854775808 * (m : Int)) ≤ 9223372036854775808 * 1000000000 := by omega
  omega
theorem Bd.merge {n m : Nat} {p q : Pn} (hp : Bd n p) (hq : Bd m q) (h : n + m ≤ 1000000000) : Bd (n + m) (mergeR p q) := by
  have F := hp.fits hq h
  unfold mergeR
  by_cases h1 : p.c < 1
  · rw [if_pos h1]
    have := hp.c
    obtain rfl : n = 0 := by omega
    rw [Nat.zero_add]; exact hq
  rw [if_neg h1]
  by_cases h2 : q.c < 1
  · rw [if_pos h2]
    have := hq.c
    obtain rfl : m = 0 := by omega
    exact hp
  rw [if_neg h2]
  have a0 := hp.s0; have a1 := hp.s1; have b0 := hq.s0; have b1 := hq.s1
  refine ⟨?_, ini_hl F, ?_, ?_, ?_, ?_, ?_⟩
  · show p.c + q.c = _
    rw [hp.c, hq.c]; simp
  · show _ ≤ val (hiS _) (loS _)
    rw [val_hl]; push_cast; omega
  · show val (hiS _) (loS _) ≤ _
    rw [val_hl]; push_cast; omega
  · have := hp.mn; have := hq.mn
    show I64 (min _ _)
    unfold I64 at *; omega
  · have := hp.mx; have := hq.mx
    show I64 (max _ _)
    unfold I64 at *; omega
  · show I64 (ite _ _ _)
    split
    · exact hq.v
    · exact hp.v
theorem ofR_bd (L : List Nm) : (∀ x ∈ L, I64 x.v) → L.length ≤ 1000000 → Bd L.length (ofR L) := by
  refine list_snoc (P := fun L => (∀ x ∈ L, I64 x.v) → L.length ≤ 1000000 → Bd L.length (ofR L)) (fun _ _ => Bd.zero) (fun l x ih h hl => ?_) L
  rw [ofR_snoc, List.length_append] at *
  exact (ih (fun y hy => h y (by simp [hy])) (by simp at hl; omega)).merge (Bd.one (h x (by simp))) (by simp at hl ⊢; omega)
/-- what the bounds and the last one of a pane are -/
structure Has (L : List Nm) (p : Pn) : Prop where
  le : ∀ x ∈ L, p.mn ≤ x.v ∧ x.v ≤ p.mx ∧ x.t ≤ p.t
  key : ∃ x ∈ L, x.t = p.t ∧ x.s = p.s ∧ x.q = p.q ∧ x.v = p.v
  s0 : p.mn * (L.length : Int) ≤ val p.h p.l
  s1 : val p.h p.l ≤ p.mx * (L.length : Int)
theorem has_of (L : List Nm) : L ≠ [] → Has L (ofR L) := by
  refine list_snoc (P := fun L => L ≠ [] → Has L (ofR L)) (fun h => absurd rfl h) (fun l x ih _ => ?_) L
  rw [ofR_snoc]
  by_cases hl : l = []
  · subst hl
    rw [ofR_nil, zero_merge]
    refine ⟨fun y hy => ?_, ⟨x, by simp, rfl, rfl, rfl, rfl⟩, ?_, ?_⟩
    · obtain rfl : y = x := by simpa using hy
      exact ⟨Int.le_refl _, Int.le_refl _, Int.le_refl _⟩
    · show x.v * _ ≤ val (hiS _) (loS _)
      rw [val_hl]; simp
    · show val (hiS _) (loS _) ≤ x.v * _
      rw [val_hl]; simp
  · have H := ih hl
    have hc := ofR_c l
    have hpos : 0 < l.length := List.length_pos_iff.2 hl
    generalize ofR l = p at *
    have e : mergeR p (oneR x) = { c := p.c + 1, h := hiS (val p.h p.l + x.v), l := loS (val p.h p.l + x.v), mn := min p.mn x.v, mx := max p.mx x.v, t := if Lt3 p.t p.s p.q x.t x.s x.q then x.t else p.t, s := if Lt3 p.t p.s p.q x.t x.s x.q then x.s else p.s, q := if Lt3 p.t p.s p.q x.t x.s x.q then x.q else p.q, v := if Lt3 p.t p.s p.q x.t x.s x.q then x.v else p.v } := by
      unfold mergeR
      rw [if_neg (by omega), if_neg (by show ¬ (1 : Int) < 1; omega)]
      have e2 : val (oneR x).h (oneR x).l = x.v := val_hl x.v
      rw [e2]; rfl
    rw [e]
    refine ⟨fun y hy => ?_, ?_, ?_, ?_⟩
    · have hy2 : y ∈ l ∨ y = x := by simpa using hy
      show min _ _ ≤ _ ∧ _ ≤ max _ _ ∧ _ ≤ ite _ _ _
      have : p.t ≤ (if Lt3 p.t p.s p.q x.t x.s x.q then x.t else p.t) ∧ x.t ≤ (if Lt3 p.t p.s p.q x.t x.s x.q then x.t else p.t) := by
        split <;> rename_i h3 <;> unfold Lt3 at h3 <;> omega
      rcases hy2 with h | rfl
      · have := H.le y h
        omega
      · omega
    · by_cases h3 : Lt3 p.t p.s p.q x.t x.s x.q
      · simp only [if_pos h3]
        exact ⟨x, by simp, rfl, rfl, rfl, rfl⟩
      · simp only [if_neg h3]
        obtain ⟨y, hy, k⟩ := H.key
        exact ⟨y, by simp [hy], k⟩
    · show min p.mn x.v * _ ≤ val (hiS _) (loS _)
      rw [val_hl, List.length_append]
      have h0 := H.s0
      have m1 : min p.mn x.v * (l.length : Int) ≤ p.mn * (l.length : Int) := Int.mul_le_mul_of_nonneg_right (by omega) (by omega)
      have m2 : min p.mn x.v * ((l.length + [x].length : Nat) : Int) = min p.mn x.v * (l.length : Int) + min p.mn x.v := by
        rw [show ((l.length + [x].length : Nat) : Int) = (l.length : Int) + 1 by simp, Int.mul_add, Int.mul_one]
      rw [m2]
      omega
    · show val (hiS _) (loS _) ≤ max p.mx x.v * _
      rw [val_hl, List.length_append]
      have h0 := H.s1
      have m1 : p.mx * (l.length : Int) ≤ max p.mx x.v * (l.length : Int) := Int.mul_le_mul_of_nonneg_right (by omega) (by omega)
      have m2 : max p.mx x.v * ((l.length + [x].length : Nat) : Int) = max p.mx x.v * (l.length : Int) + max p.mx x.v := by
        rw [show ((l.length + [x].length : Nat) : Int) = (l.length : Int) + 1 by simp, Int.mul_add, Int.mul_one]
      rw [m2]
      omega
/-- no two of them have one time, source and place -/
def Apart (L : List Nm) : Prop := ∀ i k : Nat, i < k → ∀ x y : Nm, L[i]? = some x → L[k]? = some y → ¬ (x.t = y.t ∧ x.s = y.s ∧ x.q = y.q)
theorem parts_comm {A B : List Nm} (h : Apart (A ++ B)) (hne : A ≠ [] ∨ B ≠ []) : mergeR (ofR A) (ofR B) = mergeR (ofR B) (ofR A) := by
  have hA := ofR_c A
  have hB := ofR_c B
  by_cases a0 : A = []
  · have : B ≠ [] := by rcases hne with h | h; exact absurd a0 h; exact h
    have := List.length_pos_iff.2 this
    subst a0
    exact merge_comm (.inl (by rw [hA]; simp)) (by omega)
  by_cases b0 : B = []
  · have := List.length_pos_iff.2 a0
    subst b0
    exact merge_comm (.inr (.inl (by rw [hB]; simp))) (by omega)
  have la := List.length_pos_iff.2 a0
  refine merge_comm (.inr (.inr ?_)) (by omega)
  obtain ⟨x, hx, x1, x2, x3, _⟩ := (has_of A a0).key
  obtain ⟨y, hy, y1, y2, y3, _⟩ := (has_of B b0).key
  obtain ⟨i, hi⟩ := List.getElem?_of_mem hx
  obtain ⟨k, hk⟩ := List.getElem?_of_mem hy
  have li := (List.getElem?_eq_some_iff.1 hi).1
  rw [← x1, ← x2, ← x3, ← y1, ← y2, ← y3]
  exact h i (A.length + k) (by omega) x y (by rw [List.getElem?_append_left li]; exact hi) (by rw [List.getElem?_append_right (by omega), Nat.add_sub_cancel_left]; exact hk)
/-- turned over, it comes to the same -/
theorem ofR_turn {L : List Nm} (h : Apart L) (hne : L ≠ []) (k : Nat) : ofR (L.drop k ++ L.take k) = ofR L := by
  have e := List.take_append_drop k L
  have h2 : Apart (L.take k ++ L.drop k) := by rw [e]; exact h
  have h3 : L.take k ≠ [] ∨ L.drop k ≠ [] := by
    by_cases q : L.take k = []
    · right; intro q2; rw [q, q2] at e; exact hne e.symm
    · exact .inl q
  rw [ofR_app, ← parts_comm h2 h3, ← ofR_app, e]
/-- what a fold makes of a pane -/
def pvalR (p : Pn) (f : Int) : Int × Int × Int × Bool :=
  if p.c < 1 then (0, 0, 0, false) else if f = 1 then (hiS p.c, loS p.c, 1, true) else if f = 2 then (p.h, p.l, 1, true) else if f = 3 then (hiS p.mn, loS p.mn, 1, true)
  else if f = 4 then (hiS p.mx, loS p.mx, 1, true) else if f = 5 then (p.h, p.l, p.c, true) else if f = 6 then (hiS p.v, loS p.v, 1, true) else (0, 0, 0, false)
def valV (r : Int × Int × Int × Bool) : Value := .tuple #[.agg #[.int .i64 r.1, .int .u64 r.2.1], .int .i64 r.2.2.1, .bool r.2.2.2]
end Go.Proofs.YtedcdhngiofpjaaGreatDoor
/- hist: rows of 65 counts in memory, taken and laid whole. -/
namespace Go.Proofs.YtedcdhngiofpjaaGreatDoor
open Go Go.Proofs Go.RowKit
set_option maxRecDepth 100000
def hc (h : List Int) : Array Value := (h.map (Value.int .i64)).toArray
theorem hc_size (h : List Int) : (hc h).size = h.length := by simp [hc]
theorem hc_get (h : List Int) (i : Nat) : (hc h)[i]? = (h[i]?).map (Value.int .i64) := by simp [hc]
theorem hc_one (h : List Int) : (hc h).all (·.oneCell') = true := by
  rw [Array.all_eq_true_iff_forall_mem]
  intro x hx
  simp only [hc, List.mem_toArray, List.mem_map] at hx
  obtain ⟨_, _, rfl⟩ := hx
  rfl
theorem hc_set (h : List Int) (i : Nat) (x : Int) : (hc h).setIfInBounds i (.int .i64 x) = hc (h.set i x) := by
  simp [hc, List.map_set]
/-- a row of counts lies in a block of its own -/
structure HAt (T : TypeId) (w : World) (b : Nat) (h : List Int) : Prop where
  blk : w.heap[b]? = some (.cells (hc h) T (0, 0))
  len : h.length = 65
section
variable {T : TypeId} {w wx : World} {b : Nat} {h : List Int}
theorem HAt.lt (H : HAt T w b h) : b < w.heap.size := (Array.getElem?_eq_some_iff.1 H.blk).1
theorem HAt.cell (H : HAt T w b h) {i : Nat} {x : Int} (hx : h[i]? = some x) : w.cell? ⟨b, i, none⟩ = some (.int .i64 x) := by
  rw [cell_of_row w b i _ _ _ H.blk, hc_get, hx]; rfl
theorem HAt.cell0 (H : HAt T w b h) {i : Nat} (hi : i < 65) : w.cell? ⟨b, i, none⟩ = some (.int .i64 (h.getD i 0)) := by
  have := H.len
  exact H.cell (by rw [List.getD_eq_getElem?_getD, List.getElem?_eq_getElem (by omega)]; rfl)
theorem HAt.free (H : HAt T w b h) (i : Nat) : w.frozen? ⟨b, i, none⟩ = false := frozen_of_row w b i _ _ H.blk
theorem HAt.keep (H : HAt T w b h) (e : wx.heap[b]? = w.heap[b]?) : HAt T wx b h := ⟨e.trans H.blk, H.len⟩
theorem HAt.below (H : HAt T w b h) (hb : Below w.heap.size w wx) : HAt T wx b h := H.keep (hb.block b H.lt)
theorem HAt.alloc (H : HAt T w b h) (o : Obj) : HAt T (w.alloc o) b h := H.keep (Below.heap_alloc w o b H.lt)
theorem HAt.drew (H : HAt T w b h) : HAt T w.drew b h := ⟨H.blk, H.len⟩
theorem HAt.far (H : HAt T w b h) {a j : Nat} (hne : b ≠ a) (v : Value) : HAt T (w.setCell ⟨a, j, none⟩ v) b h := H.keep (Below.heap_setCell w ⟨a, j, none⟩ v b hne)
theorem HAt.set (H : HAt T w b h) (i : Nat) (x : Int) : HAt T (w.setCell ⟨b, i, none⟩ (.int .i64 x)) b (h.set i x) :=
  ⟨by rw [heap_setCell_same w b i _ _ _ H.blk, hc_set], by simpa using H.len⟩
theorem HAt.farRow (H : HAt T w b h) {a : Nat} (hne : b ≠ a) (c : Array Value) : HAt T (w.setRow a c) b h := H.keep (setRow_other w a b c hne)
theorem HAt.row (H : HAt T w b h) {g : List Int} (hg : g.length = 65) : HAt T (w.setRow b (hc g)) b g := ⟨setRow_heap w b _ _ _ _ H.blk, hg⟩
end
theorem hat_new (w : World) (T : TypeId) {h : List Int} (hl : h.length = 65) : HAt T (w.alloc (.cells (hc h) T)) w.heap.size h := ⟨heap_alloc_new w _, hl⟩
theorem below_row {n : Nat} {w wx : World} {b : Nat} (hb : Below n w wx) (hn : n ≤ b) (c : Array Value) : Below n w (wx.setRow b c) :=
  ⟨hb.os, hb.tape, hb.output, by rw [setRow_size]; exact hb.size, fun k hk => (setRow_other wx b k c (by omega)).trans (hb.block k hk)⟩
/-- the two types of 65 numbers -/
structure Row65 (U : TypeId) : Prop where
  und : Tryz.prog.underlying U = some (.array 65 2)
  info : (Tryz.prog.info? U).map (·.size) = some 65
theorem rowH : Row65 59 := ⟨by kernel_rfl, by kernel_rfl⟩
theorem rowR : Row65 58 := ⟨by kernel_rfl, by kernel_rfl⟩
section
variable {ops : Array Oper} {rest : List Oper} {o : Oper} {a : Act} {w : World} {Q : Exit → Act → World → Prop} {U T : TypeId} {x y : Operand} {b : Nat} {h g : List Int}
theorem Row65.size (R : Row65 U) (hl : h.length = 65) : (Tryz.prog.info? U).map (·.size) = some (hc h).size := by rw [hc_size, hl]; exact R.info
theorem ld_row (R : Row65 U) (H : HAt T w b h) (hgd : o.guard = none) (ho : o.op = .load U x) (hx : a.eval x = .pointer (some ⟨b, 0, none⟩))
    (k : wpList Tryz.prog ops Q rest (a.put o.dst (.agg (hc h))) w) : wpList Tryz.prog ops Q (o :: rest) a w :=
  wpList_load_row hgd U x ho b hx T (hc h) (0, 0) _ H.blk R.und rfl (R.size H.len) k
theorem st_row (R : Row65 U) (H : HAt T w b h) (hgd : o.guard = none) (ho : o.op = .store U x y) (hx : a.eval x = .pointer (some ⟨b, 0, none⟩)) (hy : a.eval y = .agg (hc g)) (hg : g.length = 65)
    (k : wpList Tryz.prog ops Q rest (a.put o.dst undef) (w.setRow b (hc g))) : wpList Tryz.prog ops Q (o :: rest) a w :=
  wpList_store_row hgd U x y ho b (hc g) hx hy T (hc h) H.blk (R.size hg) (by rw [hc_size, hc_size, H.len, hg]) (hc_one g) k
/-- the walk stops behind it -/
theorem stS_row (R : Row65 U) (H : HAt T w b h) (hgd : o.guard = none) (ho : o.op = .store U x y) (hx : a.eval x = .pointer (some ⟨b, 0, none⟩)) (hy : a.eval y = .agg (hc g)) (hg : g.length = 65)
    (k : ∀ w2, w2 = w.setRow b (hc g) → wpList Tryz.prog ops Q rest (a.put o.dst undef) w2) : wpList Tryz.prog ops Q (o :: rest) a w :=
  st_row R H hgd ho hx hy hg (k _ rfl)
theorem ldG_row (R : Row65 U) (H : HAt T w b h) (hw : Region.wanted o (yielded ops a.tmps) = true) (ho : o.op = .load U x) (hx : a.eval x = .pointer (some ⟨b, 0, none⟩))
    (k : wpList Tryz.prog ops Q rest (a.put o.dst (.agg (hc h))) w) : wpList Tryz.prog ops Q (o :: rest) a w := by
  unfold wpList
  rw [if_pos hw]
  exact .inl (wp_load_row U x ho b hx T (hc h) (0, 0) _ H.blk R.und rfl (R.size H.len) k)
variable {F : Fence} {n : Nat}
theorem ldI_row (R : Row65 U) (H : HAt T w b h) (hgd : o.guard = none) (ho : o.op = .load U x) (hx : a.eval x = .pointer (some ⟨b, 0, none⟩))
    (k : wpListIn F n Tryz.prog ops Q rest (a.put o.dst (.agg (hc h))) w) : wpListIn F n Tryz.prog ops Q (o :: rest) a w := by
  refine wpListIn_plain hgd fun K hK => ?_
  unfold Oper.wpIn
  refine ⟨by simp [Oper.about, ho], ?_⟩
  rw [Oper.semAt_plain F _ _ (by rw [ho]; intro c hc'; cases hc')]
  simp only [execOp, ho, hx, Instr.loadAt, Instr.sureAddr, Sem.run_bind, Sem.run_pure, Result.andThen_ok, run_loadVar_row w b T U (hc h) (0, 0) _ H.blk R.und rfl (R.size H.len)]
  exact hK _ _ k
theorem stI_row (R : Row65 U) (H : HAt T w b h) (hgd : o.guard = none) (ho : o.op = .store U x y) (hx : a.eval x = .pointer (some ⟨b, 0, none⟩)) (hy : a.eval y = .agg (hc g)) (hg : g.length = 65)
    (k : wpListIn F n Tryz.prog ops Q rest (a.put o.dst undef) (w.setRow b (hc g))) : wpListIn F n Tryz.prog ops Q (o :: rest) a w := by
  refine wpListIn_plain hgd fun K hK => ?_
  unfold Oper.wpIn
  refine ⟨by simp [Oper.about, ho], ?_⟩
  rw [Oper.semAt_plain F _ _ (by rw [ho]; intro c hc'; cases hc')]
  simp only [execOp, ho, hx, hy, Instr.storeAt, Instr.sureAddr, Sem.run_bind, Sem.run_pure, Result.andThen_ok, run_storeVar_row w b T U (hc h) (hc g) H.blk (R.size hg) (by rw [hc_size, hc_size, H.len, hg]) (hc_one g)]
  exact hK _ _ k
end
def zs65 : List Int := List.replicate 65 0
theorem zs65_len : zs65.length = 65 := by simp [zs65]
theorem zeroH : ∀ w, (zeroValue 59).run Tryz.prog w = .ok (.agg (hc zs65)) w := fun w => by kernel_rfl
theorem zeroR : ∀ w, (zeroValue 58).run Tryz.prog w = .ok (.agg (hc zs65)) w := fun w => by kernel_rfl
theorem hc_ne {h : List Int} (hl : h.length = 65) : hc h ≠ #[] := by
  intro e
  have := hc_size h
  rw [e, hl] at this
  cases this
end Go.Proofs.YtedcdhngiofpjaaGreatDoor
/- Operations of a drawn region outside a fence, a line each: one that alone can come, two of which either can. -/
namespace Go.Proofs.YtedcdhngiofpjaaGreatDoor
open Go Go.Proofs
section
variable {P : Program} {ops : Array Oper} {Q : Exit → Act → World → Prop} {md : Region.Mode} {S : World → Prop}
theorem anyH_1 (i : Nat) {o : Oper} {k : Nat} {l l' : Array Bool} {a : Act} {w : World}
    (h : ∀ K : Act → World → Prop, Shut (∀ b u, S u → (S u → wpAnyH P md ops Q S k l' b u) → K b u) → Oper.wp P o a w K Q)
    (ho : ops[i]? = some o := by (simp only [qa, qb, qc]; exact rfl)) (hr : Region.ready md ops l = [i] := by kernel_rfl) (hw : Region.wanted o (yielded ops a.tmps) = true := by rfl)
    (hl : l.setIfInBounds i true = l' := by (first | (simp only [qd, qe, qf]; done) | (simp only [qd, qe, qf]; with_reducible rfl) | with_reducible rfl)) : wpAnyH P md ops Q S (k + 1) l a w := by
  subst hl
  exact wpAnyH_ready hr (by simp) (AllReadyH.cons ho (fun K hK => by rw [if_pos hw]; exact h K hK) AllReadyH.nil)
theorem anyH_2 (i j : Nat) {o oj : Oper} {k : Nat} {l l' l'' : Array Bool} {a : Act} {w : World}
    (h : ∀ K : Act → World → Prop, Shut (∀ b u, S u → (S u → wpAnyH P md ops Q S k l' b u) → K b u) → Oper.wp P o a w K Q)
    (h2 : ∀ K : Act → World → Prop, Shut (∀ b u, S u → (S u → wpAnyH P md ops Q S k l'' b u) → K b u) → Oper.wp P oj a w K Q)
    (ho : ops[i]? = some o := by (simp only [qa, qb, qc]; exact rfl)) (hoj : ops[j]? = some oj := by (simp only [qa, qb, qc]; exact rfl)) (hr : Region.ready md ops l = [i, j] := by kernel_rfl)
    (hw : Region.wanted o (yielded ops a.tmps) = true := by rfl) (hwj : Region.wanted oj (yielded ops a.tmps) = true := by rfl)
    (hl : l.setIfInBounds i true = l' := by (first | (simp only [qd, qe, qf]; done) | (simp only [qd, qe, qf]; with_reducible rfl) | with_reducible rfl))
    (hlj : l.setIfInBounds j true = l'' := by (first | (simp only [qd, qe, qf]; done) | (simp only [qd, qe, qf]; with_reducible rfl) | with_reducible rfl)) : wpAnyH P md ops Q S (k + 1) l a w := by
  subst hl hlj
  exact wpAnyH_ready hr (by simp) (AllReadyH.cons ho (fun K hK => by rw [if_pos hw]; exact h K hK) (AllReadyH.cons hoj (fun K hK => by rw [if_pos hwj]; exact h2 K hK) AllReadyH.nil))
end
section
variable {F : Fence} {n : Nat} {P : Program} {ops : Array Oper} {Q : Exit → Act → World → Prop} {md : Region.Mode} {S : World → Prop} {m : Nat}
/-- in a fence: number i is taken, out of what S says (C); D: what is still to come between it and number m -/
theorem anyM_c (i : Nat) (D : List Nat) {C : World → Prop} {oi : Oper} {v : Value} {k : Nat} {l l' : Array Bool} {a a' : Act} {w : World} (hS : S w) (hc : ∀ u, S u → C u) (h : anyM F n P md ops Q S m k l' a' w)
    (hi : ops[i]? = some oi := by (simp only [qa, qb, qc]; exact rfl))
    (hd : noDefer ops = true := by kernel_rfl) (hs : Region.noSelect ops = true := by kernel_rfl) (hf : Region.free md ops l i = true := by kernel_rfl) (hr : (Region.ready md ops l).contains i = true := by kernel_rfl) (hwt : downD md ops l D i m = true := by kernel_rfl)
    (hQ : ∀ c a w, Q (.panic c) (a.put oi.dst v) w → Q (.panic c) a w := by exact fun _ _ _ h => h)
    (hy : YieldsIf P ops C oi v a := by (refine Or.inl ⟨by rfl, ?_⟩; intro u e0; (try dsimp only at e0); go_simp; (try with_reducible rfl)))
    (hab : ∀ w, oi.about P w a.eval = none := by exact fun _ => rfl)
    (hl : l.setIfInBounds i true = l' := by (first | (simp only [qd, qe, qf]; done) | (simp only [qd, qe, qf]; with_reducible rfl) | with_reducible rfl))
    (ha : a.put oi.dst v = a' := by (first | (simp only [Act.put, qd, qe, qf]; done) | (simp only [Act.put, qd, qe, qf]; with_reducible rfl) | with_reducible rfl)) : anyM F n P md ops Q S m (k + 1) l a w := by
  subst hl ha
  exact anyM_take D hd hi hs hf hr hwt hQ (hy.imp (fun q => ⟨q.1, fun u hu => q.2 u (hc u hu)⟩) id) hab hS h
end
end Go.Proofs.YtedcdhngiofpjaaGreatDoor
