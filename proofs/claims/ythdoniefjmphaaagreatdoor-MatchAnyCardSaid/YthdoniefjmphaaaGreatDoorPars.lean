/- Patterns: what they take; the net of a pattern takes the same. -/
import Derived.Test.YthdoniefjmphaaaGreatDoorProg
import Derived.Lib.TrailingZeros
namespace Go.Proofs.YthdoniefjmphaaaGreatDoor.Rx
inductive Pt where
 | leaf (m : Nat)
 | nil
 | eps
 | alt (a b : Pt)
 | seq (a b : Pt)
 | star (a : Pt)
 | plus (a : Pt)
 | opt (a : Pt)
inductive Lang : Pt → List UInt8 → Prop where
 | leaf {m : Nat} {c : UInt8} (h : m.testBit c.toNat = true) : Lang (.leaf m) [c]
 | eps : Lang .eps []
 | altL {a b : Pt} {u : List UInt8} (h : Lang a u) : Lang (.alt a b) u
 | altR {a b : Pt} {u : List UInt8} (h : Lang b u) : Lang (.alt a b) u
 | seq {a b : Pt} {u v : List UInt8} (h : Lang a u) (k : Lang b v) : Lang (.seq a b) (u ++ v)
 | star0 {a : Pt} : Lang (.star a) []
 | starS {a : Pt} {u v : List UInt8} (h : Lang a u) (k : Lang (.star a) v) : Lang (.star a) (u ++ v)
 | plus1 {a : Pt} {u : List UInt8} (h : Lang a u) : Lang (.plus a) u
 | plusS {a : Pt} {u v : List UInt8} (h : Lang a u) (k : Lang (.plus a) v) : Lang (.plus a) (u ++ v)
 | opt0 {a : Pt} : Lang (.opt a) []
 | opt1 {a : Pt} {u : List UInt8} (h : Lang a u) : Lang (.opt a) u
structure Pce where
 first : Nat
 last : Nat
 none : Bool
abbrev Nt := List (Nat × Nat)
def joinN (last next : Nat) (n : Nt) : Nt := n.mapIdx (fun i e => if last.testBit i then (e.1, e.2 ||| next) else e)
def build : Pt → Nt → Pce × Nt
 | .leaf m, n => (⟨2 ^ n.length, 2 ^ n.length, false⟩, n ++ [(m, 0)])
 | .nil, n => (⟨0, 0, false⟩, n)
 | .eps, n => (⟨0, 0, true⟩, n)
 | .alt a b, n =>
  let x := build a n
  let y := build b x.2
  (⟨x.1.first ||| y.1.first, x.1.last ||| y.1.last, x.1.none || y.1.none⟩, y.2)
 | .seq a b, n =>
  let x := build a n
  let y := build b x.2
  (⟨if x.1.none then x.1.first ||| y.1.first else x.1.first, if y.1.none then y.1.last ||| x.1.last else y.1.last, x.1.none && y.1.none⟩, joinN x.1.last y.1.first y.2)
 | .star a, n => let x := build a n; (⟨x.1.first, x.1.last, true⟩, joinN x.1.last x.1.first x.2)
 | .plus a, n => let x := build a n; (x.1, joinN x.1.last x.1.first x.2)
 | .opt a, n => let x := build a n; (⟨x.1.first, x.1.last, true⟩, x.2)
def leaves : Pt → Nat
 | .leaf _ => 1
 | .nil => 0
 | .eps => 0
 | .alt a b => leaves a + leaves b
 | .seq a b => leaves a + leaves b
 | .star a => leaves a
 | .plus a => leaves a
 | .opt a => leaves a
theorem joinN_length (l x : Nat) (n : Nt) : (joinN l x n).length = n.length := by unfold joinN; simp
theorem build_length (p : Pt) : ∀ n, (build p n).2.length = n.length + leaves p := by
 induction p with
 | leaf m => intro n; simp [build, leaves]
 | nil => intro n; simp [build, leaves]
 | eps => intro n; simp [build, leaves]
 | alt a b iha ihb => intro n; simp only [build, leaves]; rw [ihb, iha]; omega
 | seq a b iha ihb => intro n; simp only [build, leaves, joinN_length]; rw [ihb, iha]; omega
 | star a ih => intro n; simp only [build, leaves, joinN_length]; rw [ih]
 | plus a ih => intro n; simp only [build, leaves, joinN_length]; rw [ih]
 | opt a ih => intro n; simp only [build, leaves]; rw [ih]
def edge (n : Nt) (i j : Nat) : Prop := ∃ e, n[i]? = some e ∧ e.2.testBit j = true
def takesN (n : Nt) (i : Nat) (c : UInt8) : Prop := ∃ e, n[i]? = some e ∧ e.1.testBit c.toNat = true
inductive Run (n : Nt) : Nat → List UInt8 → Nat → Prop where
 | one {i : Nat} {c : UInt8} (h : takesN n i c) : Run n i [c] i
 | more {i j q : Nat} {c : UInt8} {u : List UInt8} (h : takesN n i c) (e : edge n i j) (k : Run n j u q) : Run n i (c :: u) q
def Acc (n : Nt) (x : Pce) (u : List UInt8) : Prop :=
 (u = [] ∧ x.none = true) ∨ ∃ i q, x.first.testBit i = true ∧ x.last.testBit q = true ∧ Run n i u q
theorem edge_join {l x : Nat} {n : Nt} {i j : Nat} : edge (joinN l x n) i j ↔ edge n i j ∨ (i < n.length ∧ l.testBit i = true ∧ x.testBit j = true) := by
 unfold edge joinN;constructor
 ·
  rintro ⟨e, he, hj⟩;rw [List.getElem?_mapIdx] at he;cases h : n[i]? with
  | none => rw [h] at he; simp at he
  | some e0 =>
   rw [h] at he;simp only [Option.map_some, Option.some.injEq] at he;have hlt : i < n.length := by
    rcases Nat.lt_or_ge i n.length with h1 | h1
    ·
     exact h1
    ·
     rw [List.getElem?_eq_none h1] at h; cases h
   by_cases hl : l.testBit i = true
   ·
    rw [if_pos hl] at he;subst he;simp only [Nat.testBit_or, Bool.or_eq_true] at hj;rcases hj with hj | hj
    ·
     exact Or.inl ⟨e0, rfl, hj⟩
    ·
     exact Or.inr ⟨hlt, hl, hj⟩
   ·
    rw [if_neg hl] at he;subst he;exact Or.inl ⟨e0, rfl, hj⟩
 ·
  rintro (⟨e0, h, hj⟩ | ⟨hlt, hl, hj⟩)
  ·
   by_cases hl : l.testBit i = true
   ·
    refine ⟨(e0.1, e0.2 ||| x), ?_, ?_⟩
    ·
     rw [List.getElem?_mapIdx, h]; simp [hl]
    ·
     simp [Nat.testBit_or, hj]
   ·
    refine ⟨e0, ?_, hj⟩;rw [List.getElem?_mapIdx, h]; simp [hl]
  ·
   refine ⟨(n[i].1, n[i].2 ||| x), ?_, ?_⟩
   ·
    rw [List.getElem?_mapIdx, List.getElem?_eq_getElem hlt]; simp [hl]
   ·
    simp [Nat.testBit_or, hj]
theorem takes_join {l x : Nat} {n : Nt} {i : Nat} {c : UInt8} : takesN (joinN l x n) i c ↔ takesN n i c := by
 unfold takesN joinN;constructor
 ·
  rintro ⟨e, he, hj⟩;rw [List.getElem?_mapIdx] at he;cases h : n[i]? with
  | none => rw [h] at he; simp at he
  | some e0 =>
   rw [h] at he;simp only [Option.map_some, Option.some.injEq] at he;refine ⟨e0, rfl, ?_⟩;subst he;revert hj;split <;> exact id
 ·
  rintro ⟨e0, h, hj⟩;refine ⟨if l.testBit i then (e0.1, e0.2 ||| x) else e0, ?_, ?_⟩
  ·
   rw [List.getElem?_mapIdx, h]; rfl
  ·
   split <;> exact hj
structure Sits (n : Nt) (x : Pce) (lo hi : Nat) : Prop where
 first : ∀ i, x.first.testBit i = true → lo ≤ i ∧ i < hi
 last : ∀ i, x.last.testBit i = true → lo ≤ i ∧ i < hi
 edges : ∀ i j, lo ≤ i → i < hi → edge n i j → lo ≤ j ∧ j < hi
def Keeps (n n' : Nt) : Prop := ∀ i, i < n.length → n'[i]? = n[i]?
theorem Keeps.refl (n : Nt) : Keeps n n := fun _ _ => rfl
theorem Keeps.trans {a b c : Nt} (h : Keeps a b) (k : Keeps b c) (hl : a.length ≤ b.length) : Keeps a c := fun i hi => (k i (by omega)).trans (h i hi)
theorem Keeps.edge {n n' : Nt} (h : Keeps n n') {i j : Nat} (hi : i < n.length) : edge n' i j ↔ edge n i j := by unfold Rx.edge; rw [h i hi]
theorem Keeps.takes {n n' : Nt} (h : Keeps n n') {i : Nat} {c : UInt8} (hi : i < n.length) : takesN n' i c ↔ takesN n i c := by unfold takesN; rw [h i hi]
theorem keeps_join {l x : Nat} {n n' : Nt} (h : Keeps n n') (hl : ∀ i, l.testBit i = true → n.length ≤ i) : Keeps n (joinN l x n') := by
 intro i hi;unfold joinN;rw [List.getElem?_mapIdx, h i hi, List.getElem?_eq_getElem hi];have : ¬ (l.testBit i = true) := fun hb => by have := hl i hb; omega
 simp [this]
theorem Run.append {n : Nt} {i l j q : Nat} {u v : List UInt8} (h : Run n i u l) (e : edge n l j) (k : Run n j v q) : Run n i (u ++ v) q := by
 induction h with
 | one h => exact .more h e k
 | more h e2 _ ih => exact .more h e2 (ih e)
theorem Run.ne {n : Nt} {i q : Nat} {u : List UInt8} (h : Run n i u q) : u ≠ [] := by cases h <;> simp
theorem run_same {n n' : Nt} {lo hi : Nat} (ht : ∀ i c, lo ≤ i → i < hi → (takesN n' i c ↔ takesN n i c)) (he : ∀ i j, lo ≤ i → i < hi → (edge n' i j ↔ edge n i j))
  (hs : ∀ i j, lo ≤ i → i < hi → edge n i j → lo ≤ j ∧ j < hi) {i q : Nat} {u : List UInt8} (h1 : lo ≤ i) (h2 : i < hi) : (Run n' i u q ↔ Run n i u q) ∧ (Run n i u q → lo ≤ q ∧ q < hi) := by
 refine ⟨⟨fun h => ?_, fun h => ?_⟩, fun h => ?_⟩
 ·
  induction h with
  | one h => exact .one ((ht _ _ h1 h2).1 h)
  | more h e _ ih =>
   have e' := (he _ _ h1 h2).1 e;have := hs _ _ h1 h2 e';exact .more ((ht _ _ h1 h2).1 h) e' (ih this.1 this.2)
 ·
  induction h with
  | one h => exact .one ((ht _ _ h1 h2).2 h)
  | more h e _ ih =>
   have := hs _ _ h1 h2 e;exact .more ((ht _ _ h1 h2).2 h) ((he _ _ h1 h2).2 e) (ih this.1 this.2)
 ·
  induction h with
  | one h => exact ⟨h1, h2⟩
  | more h e _ ih =>
   have := hs _ _ h1 h2 e;exact ih this.1 this.2
theorem lang_leaf {m : Nat} {u : List UInt8} : Lang (.leaf m) u ↔ ∃ c : UInt8, u = [c] ∧ m.testBit c.toNat = true :=
 ⟨fun h => by cases h with | leaf h => exact ⟨_, rfl, h⟩, fun ⟨_, e, h⟩ => by subst e; exact .leaf h⟩
theorem lang_nil {u : List UInt8} : ¬ Lang .nil u := fun h => by cases h
theorem lang_eps {u : List UInt8} : Lang .eps u ↔ u = [] := ⟨fun h => by cases h; rfl, fun e => by subst e; exact .eps⟩
theorem lang_alt {a b : Pt} {u : List UInt8} : Lang (.alt a b) u ↔ Lang a u ∨ Lang b u :=
 ⟨fun h => by cases h with | altL h => exact Or.inl h | altR h => exact Or.inr h, fun h => h.elim .altL .altR⟩
theorem lang_seq {a b : Pt} {u : List UInt8} : Lang (.seq a b) u ↔ ∃ v w, u = v ++ w ∧ Lang a v ∧ Lang b w :=
 ⟨fun h => by cases h with | seq h k => exact ⟨_, _, rfl, h, k⟩, fun ⟨_, _, e, h, k⟩ => by subst e; exact .seq h k⟩
theorem lang_opt {a : Pt} {u : List UInt8} : Lang (.opt a) u ↔ u = [] ∨ Lang a u :=
 ⟨fun h => by cases h with | opt0 => exact Or.inl rfl | opt1 h => exact Or.inr h, fun h => h.elim (fun e => by subst e; exact .opt0) .opt1⟩
theorem star_plus {a : Pt} {u v : List UInt8} (h : Lang a u) (k : Lang (.star a) v) : Lang (.plus a) (u ++ v) := by
 generalize hs : Pt.star a = s at k;induction k generalizing u with
 | star0 => rw [List.append_nil]; exact .plus1 h
 | starS h2 k2 _ ih2 => cases hs; exact .plusS h (ih2 h2 rfl)
 | _ => cases hs
theorem plus_star {a : Pt} {v : List UInt8} (k : Lang (.plus a) v) : ∃ u w, v = u ++ w ∧ Lang a u ∧ Lang (.star a) w := by
 generalize hs : Pt.plus a = s at k;induction k with
 | plus1 h => cases hs; exact ⟨_, [], (List.append_nil _).symm, h, .star0⟩
 | plusS h k _ ih =>
  cases hs
  obtain ⟨u, w, e, h2, k2⟩ := ih rfl;exact ⟨_, _, rfl, h, by rw [e]; exact .starS h2 k2⟩
 | _ => cases hs
structure Good (n : Nt) (x : Pce) (n' : Nt) (L : List UInt8 → Prop) : Prop where
 le : n.length ≤ n'.length
 keeps : Keeps n n'
 sits : Sits n' x n.length n'.length
 acc : ∀ u, Acc n' x u ↔ L u
theorem good_leaf (m : Nat) (n : Nt) : Good n ⟨2 ^ n.length, 2 ^ n.length, false⟩ (n ++ [(m, 0)]) (Lang (.leaf m)) := by
 have tb : ∀ i, (2 ^ n.length).testBit i = true ↔ i = n.length := fun i => by rw [Nat.testBit_two_pow]; simp; omega
 refine ⟨by simp, fun i hi => List.getElem?_append_left hi, ⟨fun i h => ?_, fun i h => ?_, fun i j h1 h2 he => ?_⟩, fun u => ?_⟩
 ·
  have := (tb i).1 h; simp; omega
 ·
  have := (tb i).1 h; simp; omega
 ·
  simp at h2;obtain ⟨e, he, hj⟩ := he;have : i = n.length := by omega
  subst this;simp at he;subst he;simp at hj
 ·
  rw [lang_leaf];constructor
  ·
   rintro (⟨_, h⟩ | ⟨i, q, h1, h2, hr⟩)
   ·
    cases h
   ·
    have e1 := (tb i).1 h1;subst e1;cases hr with
    | one h =>
     obtain ⟨e, he, hj⟩ := h;simp at he; subst he;exact ⟨_, rfl, hj⟩
    | more h e k =>
     obtain ⟨e, he, hj⟩ := e;simp at he; subst he;simp at hj
  ·
   rintro ⟨c, rfl, h⟩;exact Or.inr ⟨n.length, n.length, (tb _).2 rfl, (tb _).2 rfl, .one ⟨(m, 0), by simp, h⟩⟩
theorem good_none (n : Nt) (b : Bool) : Good n ⟨0, 0, b⟩ n (fun u => u = [] ∧ b = true) := by
 refine ⟨Nat.le_refl _, Keeps.refl _, ⟨fun i h => ?_, fun i h => ?_, fun i j h1 h2 he => ?_⟩, fun u => ?_⟩
 ·
  simp at h
 ·
  simp at h
 ·
  omega
 ·
  refine ⟨?_, fun h => Or.inl h⟩;rintro (h | ⟨i, q, h1, _⟩)
  ·
   exact h
  ·
   simp at h1
theorem good_opt {n n1 : Nt} {x : Pce} {L : List UInt8 → Prop} (h : Good n x n1 L) : Good n ⟨x.first, x.last, true⟩ n1 (fun u => u = [] ∨ L u) := by
 refine ⟨h.le, h.keeps, ⟨h.sits.first, h.sits.last, h.sits.edges⟩, fun u => ?_⟩;rw [← h.acc];constructor
 ·
  rintro (⟨e, _⟩ | h)
  ·
   exact Or.inl e
  ·
   exact Or.inr (Or.inr h)
 ·
  rintro (e | ⟨e, _⟩ | h)
  ·
   exact Or.inl ⟨e, rfl⟩
  ·
   exact Or.inl ⟨e, rfl⟩
  ·
   exact Or.inr h
theorem or_bit {a b i : Nat} : (a ||| b).testBit i = true ↔ a.testBit i = true ∨ b.testBit i = true := by rw [Nat.testBit_or, Bool.or_eq_true]
theorem good_alt {n n1 n2 : Nt} {x y : Pce} {L M : List UInt8 → Prop} (h : Good n x n1 L) (k : Good n1 y n2 M) :
  Good n ⟨x.first ||| y.first, x.last ||| y.last, x.none || y.none⟩ n2 (fun u => L u ∨ M u) := by
 have hs := h.sits; have ks := k.sits; have hl := h.le; have kl := k.le;have A : ∀ {i q u}, n.length ≤ i → i < n1.length → _ := fun {i q u} h1 h2 => run_same (n := n1) (n' := n2) (lo := n.length) (hi := n1.length) (i := i) (q := q) (u := u) (fun i c _ h2 => k.keeps.takes h2) (fun i j _ h2 => k.keeps.edge h2) hs.edges h1 h2
 have B : ∀ {i q u}, n1.length ≤ i → i < n2.length → _ := fun {i q u} h1 h2 => run_same (n := n2) (n' := n2) (lo := n1.length) (hi := n2.length) (i := i) (q := q) (u := u) (fun i c _ h2 => Iff.rfl) (fun i j _ h2 => Iff.rfl) ks.edges h1 h2
 refine ⟨by omega, h.keeps.trans k.keeps hl, ⟨fun i hi => ?_, fun i hi => ?_, fun i j h1 h2 he => ?_⟩, fun u => ?_⟩
 ·
  rcases or_bit.1 hi with g | g
  ·
   have := hs.first i g; omega
  ·
   have := ks.first i g; omega
 ·
  rcases or_bit.1 hi with g | g
  ·
   have := hs.last i g; omega
  ·
   have := ks.last i g; omega
 ·
  rcases Nat.lt_or_ge i n1.length with g | g
  ·
   have := hs.edges i j h1 g ((k.keeps.edge g).1 he); omega
  ·
   have := ks.edges i j g h2 he; omega
 ·
  rw [← h.acc, ← k.acc];constructor
  ·
   rintro (⟨e, hb⟩ | ⟨i, q, h1, h2, hr⟩)
   ·
    rcases Bool.or_eq_true _ _ ▸ hb with g | g
    ·
     exact Or.inl (Or.inl ⟨e, g⟩)
    ·
     exact Or.inr (Or.inl ⟨e, g⟩)
   ·
    rcases or_bit.1 h1 with g | g
    ·
     have hi := hs.first i g
     have r1 := (A hi.1 hi.2).1.1 hr;have hq := (A hi.1 hi.2).2 r1;rcases or_bit.1 h2 with g2 | g2
     ·
      exact Or.inl (Or.inr ⟨i, q, g, g2, r1⟩)
     ·
      have := ks.last q g2; omega
    ·
     have hi := ks.first i g
     have hq := (B hi.1 hi.2).2 hr;rcases or_bit.1 h2 with g2 | g2
     ·
      have := hs.last q g2; omega
     ·
      exact Or.inr (Or.inr ⟨i, q, g, g2, hr⟩)
  ·
   rintro ((⟨e, g⟩ | ⟨i, q, h1, h2, hr⟩) | (⟨e, g⟩ | ⟨i, q, h1, h2, hr⟩))
   ·
    exact Or.inl ⟨e, by rw [g]; rfl⟩
   ·
    have hi := hs.first i h1
    exact Or.inr ⟨i, q, or_bit.2 (Or.inl h1), or_bit.2 (Or.inl h2), (A hi.1 hi.2).1.2 hr⟩
   ·
    exact Or.inl ⟨e, by rw [g, Bool.or_true]⟩
   ·
    exact Or.inr ⟨i, q, or_bit.2 (Or.inr h1), or_bit.2 (Or.inr h2), hr⟩
theorem good_seq {n n1 n2 : Nt} {x y : Pce} {L M : List UInt8 → Prop} (h : Good n x n1 L) (k : Good n1 y n2 M) :
  Good n ⟨if x.none then x.first ||| y.first else x.first, if y.none then y.last ||| x.last else y.last, x.none && y.none⟩ (joinN x.last y.first n2) (fun u => ∃ v w, u = v ++ w ∧ L v ∧ M w) := by
 have hs := h.sits; have ks := k.sits; have hl := h.le; have kl := k.le;have A : ∀ {i q u}, n.length ≤ i → i < n1.length → _ := fun {i q u} h1 h2 => run_same (n := n1) (n' := n2) (lo := n.length) (hi := n1.length) (i := i) (q := q) (u := u) (fun i c _ h2 => k.keeps.takes h2) (fun i j _ h2 => k.keeps.edge h2) hs.edges h1 h2
 have nb : ∀ i, n1.length ≤ i → x.last.testBit i = true → False := fun i hi g => by have := hs.last i g; omega
 have B : ∀ {i q u}, n1.length ≤ i → i < n2.length → _ := fun {i q u} h1 h2 => run_same (n := n2) (n' := joinN x.last y.first n2) (lo := n1.length) (hi := n2.length) (i := i) (q := q) (u := u) (fun i c _ h2 => takes_join) (fun i j h1 h2 => ⟨fun e => (edge_join.1 e).elim id (fun g => (nb i h1 g.2.1).elim), fun e => edge_join.2 (Or.inl e)⟩) ks.edges h1 h2
 have mono : ∀ {i q u}, Run n2 i u q → Run (joinN x.last y.first n2) i u q := by
  intro i q u hr;induction hr with
  | one h => exact .one (takes_join.2 h)
  | more h e _ ih => exact .more (takes_join.2 h) (edge_join.2 (Or.inl e)) ih
 refine ⟨by rw [joinN_length]; omega, keeps_join (h.keeps.trans k.keeps hl) (fun i g => (hs.last i g).1), ⟨fun i hi => ?_, fun i hi => ?_, fun i j h1 h2 he => ?_⟩, fun u => ?_⟩
 ·
  rw [joinN_length];have : x.first.testBit i = true ∨ y.first.testBit i = true := by
   revert hi;cases x.none
   ·
    exact fun g => Or.inl g
   ·
    exact fun g => or_bit.1 g
  rcases this with g | g
  ·
   have := hs.first i g; omega
  ·
   have := ks.first i g; omega
 ·
  rw [joinN_length];have : x.last.testBit i = true ∨ y.last.testBit i = true := by
   revert hi;cases y.none
   ·
    exact fun g => Or.inr g
   ·
    exact fun g => (or_bit.1 g).symm
  rcases this with g | g
  ·
   have := hs.last i g; omega
  ·
   have := ks.last i g; omega
 ·
  rw [joinN_length] at h2 ⊢;rcases edge_join.1 he with g | ⟨_, g1, g2⟩
  ·
   rcases Nat.lt_or_ge i n1.length with q | q
   ·
    have := hs.edges i j h1 q ((k.keeps.edge q).1 g); omega
   ·
    have := ks.edges i j q h2 g; omega
  ·
   have := ks.first j g2; omega
 ·
  have split : ∀ {i q u}, Run (joinN x.last y.first n2) i u q → n.length ≤ i → i < n1.length →
    (q < n1.length ∧ Run n1 i u q) ∨ (∃ u1 u2 l f, u = u1 ++ u2 ∧ Run n1 i u1 l ∧ x.last.testBit l = true ∧ y.first.testBit f = true ∧ Run n2 f u2 q) := by
   intro i q u hr;induction hr with
   | one h0 => intro h1 h2; exact Or.inl ⟨h2, .one ((k.keeps.takes h2).1 (takes_join.1 h0))⟩
   | @more i j q c u h0 e hk ih =>
    intro h1 h2;have t1 := (k.keeps.takes h2).1 (takes_join.1 h0);rcases edge_join.1 e with g | ⟨_, g1, g2⟩
    ·
     have e1 := (k.keeps.edge h2).1 g;have hj := hs.edges i j h1 h2 e1;rcases ih hj.1 hj.2 with ⟨hq, hr⟩ | ⟨u1, u2, l, f, e2, r1, hl1, hf, r2⟩
     ·
      exact Or.inl ⟨hq, .more t1 e1 hr⟩
     ·
      exact Or.inr ⟨c :: u1, u2, l, f, by rw [e2]; rfl, .more t1 e1 r1, hl1, hf, r2⟩
    ·
     have hj := ks.first j g2
     exact Or.inr ⟨[c], u, i, j, rfl, .one t1, g1, g2, (B hj.1 hj.2).1.1 hk⟩
  constructor
  ·
   rintro (⟨e, hb⟩ | ⟨i, q, h1, h2, hr⟩)
   ·
    have hb := Bool.and_eq_true _ _ ▸ hb;exact ⟨[], [], by rw [e]; rfl, (h.acc []).1 (Or.inl ⟨rfl, hb.1⟩), (k.acc []).1 (Or.inl ⟨rfl, hb.2⟩)⟩
   ·
    have hf : x.first.testBit i = true ∨ (x.none = true ∧ y.first.testBit i = true) := by
     revert h1;cases x.none
     ·
      exact fun g => Or.inl g
     ·
      exact fun g => (or_bit.1 g).imp_right fun g => ⟨rfl, g⟩
    have hq : y.last.testBit q = true ∨ (y.none = true ∧ x.last.testBit q = true) := by
     revert h2;cases y.none
     ·
      exact fun g => Or.inl g
     ·
      exact fun g => (or_bit.1 g).imp_right fun g => ⟨rfl, g⟩
    rcases hf with g | ⟨g0, g⟩
    ·
     have hi := hs.first i g
     rcases split hr hi.1 hi.2 with ⟨hq1, r1⟩ | ⟨u1, u2, l, f, e, r1, hl1, hf1, r2⟩
     ·
      rcases hq with g2 | ⟨g3, g2⟩
      ·
       have := ks.last q g2; omega
      ·
       exact ⟨u, [], (List.append_nil _).symm, (h.acc u).1 (Or.inr ⟨i, q, g, g2, r1⟩), (k.acc []).1 (Or.inl ⟨rfl, g3⟩)⟩
     ·
      rcases hq with g2 | ⟨g3, g2⟩
      ·
       exact ⟨u1, u2, e, (h.acc u1).1 (Or.inr ⟨i, l, g, hl1, r1⟩), (k.acc u2).1 (Or.inr ⟨f, q, hf1, g2, r2⟩)⟩
      ·
       have hf2 := ks.first f hf1
       have hq2 := (B hf2.1 hf2.2).2 r2;have := hs.last q g2; omega
    ·
     have hi := ks.first i g
     have r2 := (B hi.1 hi.2).1.1 hr;have hq2 := (B hi.1 hi.2).2 r2;rcases hq with g2 | ⟨g3, g2⟩
     ·
      exact ⟨[], u, rfl, (h.acc []).1 (Or.inl ⟨rfl, g0⟩), (k.acc u).1 (Or.inr ⟨i, q, g, g2, r2⟩)⟩
     ·
      have := hs.last q g2; omega
  ·
   rintro ⟨v, w, e, hv, hw⟩;rcases (h.acc v).2 hv with ⟨ev, hx⟩ | ⟨i, q, h1, h2, hr⟩
   ·
    rcases (k.acc w).2 hw with ⟨ew, hy⟩ | ⟨i, q, h1, h2, hr⟩
    ·
     exact Or.inl ⟨by rw [e, ev, ew]; rfl, by rw [hx, hy]; rfl⟩
    ·
     refine Or.inr ⟨i, q, ?_, ?_, ?_⟩
     ·
      simp only [hx, if_true]; exact or_bit.2 (Or.inr h1)
     ·
      show (if y.none = true then y.last ||| x.last else y.last).testBit q = true;split
      ·
       exact or_bit.2 (Or.inl h2)
      ·
       exact h2
     ·
      rw [e, ev]; exact mono hr
   ·
    have hf : (if x.none = true then x.first ||| y.first else x.first).testBit i = true := by
     split
     ·
      exact or_bit.2 (Or.inl h1)
     ·
      exact h1
    have hi := hs.first i h1
    have r1 := mono ((A hi.1 hi.2).1.2 hr);have hq1 := hs.last q h2;rcases (k.acc w).2 hw with ⟨ew, hy⟩ | ⟨i2, q2, h12, h22, hr2⟩
    ·
     refine Or.inr ⟨i, q, hf, ?_, ?_⟩
     ·
      simp only [hy, if_true]; exact or_bit.2 (Or.inr h2)
     ·
      rw [e, ew, List.append_nil]; exact r1
    ·
     refine Or.inr ⟨i, q2, hf, ?_, ?_⟩
     ·
      show (if y.none = true then y.last ||| x.last else y.last).testBit q2 = true;split
      ·
       exact or_bit.2 (Or.inl h22)
      ·
       exact h22
     ·
      rw [e];exact r1.append (edge_join.2 (Or.inr ⟨by omega, h2, h12⟩)) (mono hr2)
theorem again_runs {n n1 : Nt} {x : Pce} {a : Pt} (h : Good n x n1 (Lang a)) :
  (∀ {i q u}, Run (joinN x.last x.first n1) i u q → n.length ≤ i → i < n1.length → x.last.testBit q = true →
   ∃ u1 u2 l, u = u1 ++ u2 ∧ Run n1 i u1 l ∧ x.last.testBit l = true ∧ Lang (.star a) u2) ∧
  (∀ {u}, Lang (.star a) u → u = [] ∨ ∃ i q, x.first.testBit i = true ∧ x.last.testBit q = true ∧ Run (joinN x.last x.first n1) i u q) := by
 have hs := h.sits; have hl := h.le;have mono : ∀ {i q u}, Run n1 i u q → Run (joinN x.last x.first n1) i u q := by
  intro i q u hr;induction hr with
  | one h => exact .one (takes_join.2 h)
  | more h e _ ih => exact .more (takes_join.2 h) (edge_join.2 (Or.inl e)) ih
 constructor
 ·
  intro i q u hr;induction hr with
  | @one i c h0 => intro h1 h2 hq; exact ⟨[c], [], i, rfl, .one (takes_join.1 h0), hq, .star0⟩
  | @more i j q c u h0 e hk ih =>
   intro h1 h2 hq;have t1 := takes_join.1 h0;rcases edge_join.1 e with g | ⟨_, g1, g2⟩
   ·
    have hj := hs.edges i j h1 h2 g;obtain ⟨u1, u2, l, e2, r1, hl1, ks⟩ := ih hj.1 hj.2 hq;exact ⟨c :: u1, u2, l, by rw [e2]; rfl, .more t1 g r1, hl1, ks⟩
   ·
    have hj := hs.first j g2
    obtain ⟨u1, u2, l, e2, r1, hl1, ks⟩ := ih hj.1 hj.2 hq;exact ⟨[c], u, i, rfl, .one t1, g1, by rw [e2]; exact .starS ((h.acc u1).1 (Or.inr ⟨j, l, g2, hl1, r1⟩)) ks⟩
 ·
  intro u hu;generalize he : Pt.star a = s at hu;induction hu with
  | star0 => exact Or.inl rfl
  | @starS a' u v h2 k2 _ ih2 =>
   cases he
   rcases (h.acc u).2 h2 with ⟨e, _⟩ | ⟨i, q, h1, hq, hr⟩
   ·
    rw [e]; exact ih2 rfl
   ·
    rcases ih2 rfl with e | ⟨i2, q2, h12, hq2, hr2⟩
    ·
     rw [e, List.append_nil]; exact Or.inr ⟨i, q, h1, hq, mono hr⟩
    ·
     have := hs.last q hq;exact Or.inr ⟨i, q2, h1, hq2, (mono hr).append (edge_join.2 (Or.inr ⟨this.2, hq, h12⟩)) hr2⟩
  | _ => cases he
theorem sits_again {n n1 : Nt} {x : Pce} {b : Bool} {L : List UInt8 → Prop} (h : Good n x n1 L) : Sits (joinN x.last x.first n1) ⟨x.first, x.last, b⟩ n.length (joinN x.last x.first n1).length := by
 rw [joinN_length];refine ⟨h.sits.first, h.sits.last, fun i j h1 h2 he => ?_⟩;rcases edge_join.1 he with g | ⟨_, _, g⟩
 ·
  exact h.sits.edges i j h1 h2 g
 ·
  exact h.sits.first j g
theorem good_star {n n1 : Nt} {x : Pce} {a : Pt} (h : Good n x n1 (Lang a)) : Good n ⟨x.first, x.last, true⟩ (joinN x.last x.first n1) (Lang (.star a)) := by
 refine ⟨by rw [joinN_length]; exact h.le, keeps_join h.keeps (fun i g => (h.sits.last i g).1), sits_again h, fun u => ?_⟩;obtain ⟨F, B⟩ := again_runs h;constructor
 ·
  rintro (⟨e, _⟩ | ⟨i, q, h1, h2, hr⟩)
  ·
   rw [e]; exact .star0
  ·
   have hi := h.sits.first i h1
   obtain ⟨u1, u2, l, e, r1, hl1, ks⟩ := F hr hi.1 hi.2 h2;rw [e]; exact .starS ((h.acc u1).1 (Or.inr ⟨i, l, h1, hl1, r1⟩)) ks
 ·
  intro hu;rcases B hu with e | g
  ·
   exact Or.inl ⟨e, rfl⟩
  ·
   exact Or.inr g
theorem good_plus {n n1 : Nt} {x : Pce} {a : Pt} (h : Good n x n1 (Lang a)) : Good n x (joinN x.last x.first n1) (Lang (.plus a)) := by
 refine ⟨by rw [joinN_length]; exact h.le, keeps_join h.keeps (fun i g => (h.sits.last i g).1), sits_again h, fun u => ?_⟩;obtain ⟨F, B⟩ := again_runs h;constructor
 ·
  rintro (⟨e, hb⟩ | ⟨i, q, h1, h2, hr⟩)
  ·
   exact .plus1 ((h.acc u).1 (Or.inl ⟨e, hb⟩))
  ·
   have hi := h.sits.first i h1
   obtain ⟨u1, u2, l, e, r1, hl1, ks⟩ := F hr hi.1 hi.2 h2;rw [e]; exact star_plus ((h.acc u1).1 (Or.inr ⟨i, l, h1, hl1, r1⟩)) ks
 ·
  intro hu;obtain ⟨v, w, e, hv, hw⟩ := plus_star hu;rcases B (.starS hv hw) with e2 | g
  ·
   rw [← e] at e2;refine Or.inl ⟨e2, ?_⟩;rw [e2] at e;have : v = [] := (List.append_eq_nil_iff.1 e.symm).1;rw [this] at hv;rcases (h.acc []).2 hv with ⟨_, g⟩ | ⟨i, q, _, _, hr⟩
   ·
    exact g
   ·
    exact (hr.ne rfl).elim
  ·
   rw [← e] at g; exact Or.inr g
theorem Good.congr {n n1 : Nt} {x : Pce} {L M : List UInt8 → Prop} (h : Good n x n1 L) (e : ∀ u, L u ↔ M u) : Good n x n1 M := ⟨h.le, h.keeps, h.sits, fun u => (h.acc u).trans (e u)⟩
theorem build_good (p : Pt) : ∀ n, Good n (build p n).1 (build p n).2 (Lang p) := by
 induction p with
 | leaf m => exact good_leaf m
 | nil => exact fun n => (good_none n false).congr fun u => ⟨fun h => (Bool.noConfusion h.2), fun h => (lang_nil h).elim⟩
 | eps => exact fun n => (good_none n true).congr fun u => by rw [lang_eps]; simp
 | alt a b iha ihb => exact fun n => (good_alt (iha n) (ihb _)).congr fun u => lang_alt.symm
 | seq a b iha ihb => exact fun n => (good_seq (iha n) (ihb _)).congr fun u => lang_seq.symm
 | star a ih => exact fun n => good_star (ih n)
 | plus a ih => exact fun n => good_plus (ih n)
 | opt a ih => exact fun n => (good_opt (ih n)).congr fun u => lang_opt.symm
def bl : Nat → Nat → Nat → List Nat
 | 0, _, _ => []
 | f + 1, o, x => if x % 2 = 1 then o :: bl f (o + 1) (x / 2) else bl f (o + 1) (x / 2)
theorem bl_succ (f o x : Nat) : bl (f + 1) o x = if x % 2 = 1 then o :: bl f (o + 1) (x / 2) else bl f (o + 1) (x / 2) := rfl
theorem bl_mem : ∀ (f o x i : Nat), i ∈ bl f o x ↔ o ≤ i ∧ i < o + f ∧ x.testBit (i - o) = true := by
 intro f;induction f with
 | zero => intro o x i; simp [bl]; omega
 | succ f ih =>
  intro o x i;unfold bl;have key : i ∈ bl f (o + 1) (x / 2) ↔ o + 1 ≤ i ∧ i < o + (f + 1) ∧ x.testBit (i - o) = true := by
   rw [ih];constructor
   ·
    rintro ⟨h1, h2, h3⟩;refine ⟨h1, by omega, ?_⟩;rw [show i - o = (i - (o + 1)) + 1 from by omega, Nat.testBit_succ]; exact h3
   ·
    rintro ⟨h1, h2, h3⟩;refine ⟨h1, by omega, ?_⟩;rw [show i - o = (i - (o + 1)) + 1 from by omega, Nat.testBit_succ] at h3; exact h3
  split
  ·
   rename_i hx
   rw [List.mem_cons, key];constructor
   ·
    rintro (rfl | ⟨h1, h2, h3⟩)
    ·
     exact ⟨Nat.le_refl _, by omega, by rw [Nat.sub_self, Nat.testBit_zero]; simpa using hx⟩
    ·
     exact ⟨by omega, h2, h3⟩
   ·
    rintro ⟨h1, h2, h3⟩;rcases Nat.eq_or_lt_of_le h1 with e | e
    ·
     exact Or.inl e.symm
    ·
     exact Or.inr ⟨e, h2, h3⟩
  ·
   rename_i hx
   rw [key];constructor
   ·
    rintro ⟨h1, h2, h3⟩; exact ⟨by omega, h2, h3⟩
   ·
    rintro ⟨h1, h2, h3⟩;rcases Nat.eq_or_lt_of_le h1 with e | e
    ·
     subst e;rw [Nat.sub_self, Nat.testBit_zero] at h3;simp at h3; omega
    ·
     exact ⟨e, h2, h3⟩
theorem bl_mod : ∀ (f o x : Nat), bl f o (x % 2 ^ f) = bl f o x := by
 intro f;induction f with
 | zero => intro o x; rfl
 | succ f ih =>
  intro o x;have e1 : x % 2 ^ (f + 1) % 2 = x % 2 := by rw [Nat.pow_succ, Nat.mul_comm, Nat.mod_mul_right_mod]
  have e2 : x % 2 ^ (f + 1) / 2 = x / 2 % 2 ^ f := by rw [Nat.pow_succ, Nat.mul_comm, Nat.mod_mul_right_div_self]
  unfold bl;rw [e1, e2, ih]
theorem bl_add : ∀ (f g o x : Nat), bl (f + g) o x = bl f o x ++ bl g (o + f) (x / 2 ^ f) := by
 intro f;induction f with
 | zero => intro g o x; simp [bl]
 | succ f ih =>
  intro g o x;rw [show f + 1 + g = (f + g) + 1 from by omega];have e : x / 2 / 2 ^ f = x / 2 ^ (f + 1) := by rw [Nat.div_div_eq_div_mul, Nat.pow_succ, Nat.mul_comm]
  have := ih g (o + 1) (x / 2);rw [e] at this;rw [bl_succ, bl_succ, this, show o + 1 + f = o + (f + 1) from by omega];split <;> rfl
theorem and_pred_odd {x : Nat} (h : x % 2 = 1) : x &&& (x - 1) = x - 1 := by
 apply Nat.eq_of_testBit_eq;intro i;rw [Nat.testBit_and];cases i with
 | zero => rw [Nat.testBit_zero, Nat.testBit_zero, show (x - 1) % 2 = 0 from by omega]; simp
 | succ i => rw [Nat.testBit_succ, Nat.testBit_succ, show (x - 1) / 2 = x / 2 from by omega, Bool.and_self]
theorem and_pred_even {x : Nat} (h : x % 2 = 0) (h0 : 0 < x) : x &&& (x - 1) = 2 * (x / 2 &&& (x / 2 - 1)) := by
 apply Nat.eq_of_testBit_eq;intro i;rw [Nat.testBit_and];cases i with
 | zero => rw [Nat.testBit_zero, Nat.testBit_zero, h, Nat.testBit_zero, Nat.mul_mod_right]; rfl
 | succ i => rw [Nat.testBit_succ, Nat.testBit_succ, Nat.testBit_succ, show (x - 1) / 2 = x / 2 - 1 from by omega, Nat.mul_div_cancel_left _ (by decide), Nat.testBit_and]
theorem bl_step : ∀ (f o x : Nat), 0 < x → x < 2 ^ f → bl f o x = (o + Lib.ctzFrom f x) :: bl f o (x &&& (x - 1)) := by
 intro f;induction f with
 | zero => intro o x h0 h; simp at h; omega
 | succ f ih =>
  intro o x h0 h;by_cases hx : x % 2 = 1
  ·
   rw [and_pred_odd hx];unfold bl Lib.ctzFrom;rw [if_pos hx, if_pos hx, if_neg (by omega), show (x - 1) / 2 = x / 2 from by omega];rfl
  ·
   rw [and_pred_even (by omega) h0];unfold bl Lib.ctzFrom;rw [if_neg hx, if_neg hx, if_neg (by rw [Nat.mul_mod_right]; decide), Nat.mul_div_cancel_left _ (by decide), ih (o + 1) (x / 2) (by omega) (by rw [Nat.pow_succ] at h; omega), show o + 1 + Lib.ctzFrom f (x / 2) = o + (1 + Lib.ctzFrom f (x / 2)) from by omega]
theorem bl_zero : ∀ (f o : Nat), bl f o 0 = [] := by
 intro f;induction f with
 | zero => intro o; rfl
 | succ f ih => intro o; unfold bl; exact ih (o + 1)
def elems (m : Nat) : List Nat := bl 256 0 m
theorem elems_mem {m i : Nat} : i ∈ elems m ↔ i < 256 ∧ m.testBit i = true := by unfold elems; rw [bl_mem]; simp
def behindS (n : Nt) (c : UInt8) (acc : Nat) (i : Nat) : Nat := match n[i]? with
 | some e => if e.1.testBit c.toNat then acc ||| e.2 else acc
 | none => acc
def behindN (n : Nt) (now : Nat) (c : UInt8) : Nat := (elems now).foldl (behindS n c) 0
theorem behindS_bit {n : Nt} {c : UInt8} {acc i j : Nat} : (behindS n c acc i).testBit j = true ↔ acc.testBit j = true ∨ (takesN n i c ∧ edge n i j) := by
 unfold behindS takesN edge;cases h : n[i]? with
 | none => simp
 | some e =>
  simp only [Option.some.injEq, exists_eq_left'];by_cases g : e.1.testBit c.toNat = true
  ·
   rw [if_pos g, or_bit]; simp [g]
  ·
   rw [if_neg g]; simp [g]
theorem behind_fold {n : Nt} {c : UInt8} {j : Nat} : ∀ (l : List Nat) (acc : Nat), (l.foldl (behindS n c) acc).testBit j = true ↔ acc.testBit j = true ∨ ∃ i, i ∈ l ∧ takesN n i c ∧ edge n i j := by
 intro l;induction l with
 | nil => intro acc; simp
 | cons i t ih =>
  intro acc;rw [List.foldl_cons, ih, behindS_bit];constructor
  ·
   rintro ((h | h) | ⟨k, h1, h2⟩)
   ·
    exact Or.inl h
   ·
    exact Or.inr ⟨i, List.mem_cons_self, h⟩
   ·
    exact Or.inr ⟨k, List.mem_cons_of_mem _ h1, h2⟩
  ·
   rintro (h | ⟨k, h1, h2⟩)
   ·
    exact Or.inl (Or.inl h)
   ·
    rcases List.mem_cons.1 h1 with e | h1
    ·
     subst e; exact Or.inl (Or.inr h2)
    ·
     exact Or.inr ⟨k, h1, h2⟩
theorem behind_bit {n : Nt} {c : UInt8} {now j : Nat} (hn : n.length ≤ 256) : (behindN n now c).testBit j = true ↔ ∃ i, now.testBit i = true ∧ takesN n i c ∧ edge n i j := by
 unfold behindN;rw [behind_fold];simp only [Nat.zero_testBit, Bool.false_eq_true, false_or];constructor
 ·
  rintro ⟨i, h1, h2⟩; exact ⟨i, (elems_mem.1 h1).2, h2⟩
 ·
  rintro ⟨i, h1, h2⟩;refine ⟨i, elems_mem.2 ⟨?_, h1⟩, h2⟩;obtain ⟨⟨e, he, _⟩, _⟩ := h2;have := (List.getElem?_eq_some_iff.1 he).1;omega
def nowN (n : Nt) (now : Nat) (u : List UInt8) : Nat := u.foldl (behindN n) now
theorem now_bit {n : Nt} (hn : n.length ≤ 256) {j : Nat} : ∀ (u : List UInt8) (now : Nat), (nowN n now u).testBit j = true ↔ (u = [] ∧ now.testBit j = true) ∨ ∃ i q, now.testBit i = true ∧ Run n i u q ∧ edge n q j := by
 intro u;induction u with
 | nil =>
  intro now;simp only [nowN, List.foldl_nil, true_and];refine ⟨fun h => Or.inl h, ?_⟩;rintro (h | ⟨i, q, _, hr, _⟩)
  ·
   exact h
  ·
   exact (hr.ne rfl).elim
 | cons c u ih =>
  intro now;have ih := ih (behindN n now c);simp only [nowN, List.foldl_cons] at ih ⊢;rw [ih, behind_bit hn];constructor
  ·
   rintro (⟨e, i, h1, h2, h3⟩ | ⟨i', q, h1, hr, h4⟩)
   ·
    subst e; exact Or.inr ⟨i, i, h1, .one h2, h3⟩
   ·
    obtain ⟨i, g1, g2, g3⟩ := (behind_bit hn).1 h1;exact Or.inr ⟨i, q, g1, .more g2 g3 hr, h4⟩
  ·
   rintro (⟨e, _⟩ | ⟨i, q, h1, hr, h4⟩)
   ·
    cases e
   ·
    cases hr with
    | one h => exact Or.inl ⟨rfl, i, h1, h, h4⟩
    | more h e k => exact Or.inr ⟨_, q, (behind_bit hn).2 ⟨i, h1, h, e⟩, k, h4⟩
def beginN (p : Pt) : Nat := let x := (build p [(0, 0)]).1; if x.none then x.first ||| 1 else x.first
def netN (p : Pt) : Nt := let x := build p [(0, 0)]; joinN x.1.last 1 x.2
def matchN (p : Pt) (u : List UInt8) : Bool := (nowN (netN p) (beginN p) u).testBit 0
theorem net_length (p : Pt) : (netN p).length = 1 + leaves p := by
 unfold netN; rw [joinN_length, build_length]; rfl
theorem one_bit {i : Nat} : (1 : Nat).testBit i = true ↔ i = 0 := by
 have := @Nat.testBit_two_pow 0 i;simp only [Nat.pow_zero] at this;rw [this]; simp; omega
theorem match_lang (p : Pt) (hl : leaves p < 256) (u : List UInt8) : matchN p u = true ↔ Lang p u := by
 have g := build_good p [(0, 0)];unfold matchN;rw [now_bit (by rw [net_length]; omega), ← g.acc];unfold netN beginN;have hs := g.sits;have k0 : (build p [(0, 0)]).2[0]? = some (0, 0) := g.keeps 0 (by simp);generalize build p [(0, 0)] = X at *;obtain ⟨x, n⟩ := X;simp only at *;have hf : ∀ i, (if x.none = true then x.first ||| 1 else x.first).testBit i = true ↔ x.first.testBit i = true ∨ (x.none = true ∧ i = 0) := by
  intro i;cases x.none
  ·
   simp
  ·
   simp only [if_true, or_bit, one_bit, true_and]
 have same : ∀ {i q u}, 1 ≤ i → (Run (joinN x.last 1 n) i u q → Run n i u q) ∧ (Run n i u q → Run (joinN x.last 1 n) i u q) := by
  intro i q u h1;constructor
  ·
   intro hr;induction hr with
   | one h => exact .one (takes_join.1 h)
   | @more i j q c u h e hk ih =>
    have hlt : i < n.length := by
     obtain ⟨e, he, _⟩ := takes_join.1 h;exact (List.getElem?_eq_some_iff.1 he).1
    rcases edge_join.1 e with g1 | ⟨_, g2, g3⟩
    ·
     exact .more (takes_join.1 h) g1 (ih (hs.edges i j h1 hlt g1).1)
    ·
     have e0 := one_bit.1 g3;subst e0;have t0 : ∀ c, ¬ takesN n 0 c := by
      rintro c ⟨e, he, ht⟩;rw [k0] at he; cases he; simp at ht
     cases hk with
     | one h => exact (t0 _ (takes_join.1 h)).elim
     | more h _ _ => exact (t0 _ (takes_join.1 h)).elim
  ·
   intro hr;induction hr with
   | one h => exact .one (takes_join.2 h)
   | @more i j q c u h e hk ih =>
    have hlt : i < n.length := by
     obtain ⟨e, he, _⟩ := h;exact (List.getElem?_eq_some_iff.1 he).1
    exact .more (takes_join.2 h) (edge_join.2 (Or.inl e)) (ih (hs.edges i j h1 hlt e).1)
 have t0 : ∀ c, ¬ takesN (joinN x.last 1 n) 0 c := by
  rintro c ht;obtain ⟨e, he, ht⟩ := takes_join.1 ht;rw [k0] at he; cases he; simp at ht
 have len1 : ([(0, 0)] : Nt).length = 1 := rfl;rw [len1] at hs;constructor
 ·
  rintro (⟨e, h⟩ | ⟨i, q, h1, hr, he⟩)
  ·
   rcases (hf 0).1 h with h | ⟨h, _⟩
   ·
    have := (hs.first 0 h).1; omega
   ·
    exact Or.inl ⟨e, h⟩
  ·
   rcases (hf i).1 h1 with h | ⟨_, h⟩
   ·
    have hi := hs.first i h
    have r := (same hi.1).1 hr;have hq := (run_same (n := n) (n' := n) (lo := 1) (hi := n.length) (fun _ _ _ _ => Iff.rfl) (fun _ _ _ _ => Iff.rfl) hs.edges hi.1 hi.2).2 r;rcases edge_join.1 he with e0 | ⟨_, g, _⟩
    ·
     have := (hs.edges q 0 hq.1 hq.2 e0).1; omega
    ·
     exact Or.inr ⟨i, q, h, g, r⟩
   ·
    subst h;cases hr with
    | one h => exact (t0 _ h).elim
    | more h _ _ => exact (t0 _ h).elim
 ·
  rintro (⟨e, h⟩ | ⟨i, q, h1, h2, hr⟩)
  ·
   exact Or.inl ⟨e, (hf 0).2 (Or.inr ⟨h, rfl⟩)⟩
  ·
   have hi := hs.first i h1
   have hq := hs.last q h2;exact Or.inr ⟨i, q, (hf i).2 (Or.inl h1), (same hi.1).2 hr, edge_join.2 (Or.inr ⟨hq.2, h2, one_bit.2 rfl⟩)⟩
def joinS (next : Nat) (n : Nt) (i : Nat) : Nt := n.modify i (fun e => (e.1, e.2 ||| next))
theorem joinS_get (next : Nat) (n : Nt) (i j : Nat) : (joinS next n i)[j]? = (n[j]?).map (fun e => if i = j then (e.1, e.2 ||| next) else e) := by
 unfold joinS;rw [List.getElem?_modify];cases n[j]? with
 | none => rfl
 | some e => simp only [Option.map_eq_map, Option.map_some]
theorem bl_nodup : ∀ (f o x : Nat), (bl f o x).Nodup := by
 intro f;induction f with
 | zero => intro o x; exact List.nodup_nil
 | succ f ih =>
  intro o x;unfold bl;split
  ·
   refine List.nodup_cons.2 ⟨fun h => ?_, ih _ _⟩;have := (bl_mem f (o + 1) (x / 2) o).1 h;omega
  ·
   exact ih _ _
theorem join_fold_get (next : Nat) (j : Nat) : ∀ (l : List Nat) (n : Nt), l.Nodup → (l.foldl (joinS next) n)[j]? = (n[j]?).map (fun e => if j ∈ l then (e.1, e.2 ||| next) else e) := by
 intro l;induction l with
 | nil => intro n _; simp
 | cons i t ih =>
  intro n hd;obtain ⟨h1, h2⟩ := List.nodup_cons.1 hd;rw [List.foldl_cons, ih _ h2, joinS_get];cases n[j]? with
  | none => rfl
  | some e =>
   simp only [Option.map_some];congr 1
   by_cases hij : i = j
   ·
    subst hij;rw [if_pos rfl, if_neg h1, if_pos List.mem_cons_self]
   ·
    rw [if_neg hij];have : j ∈ i :: t ↔ j ∈ t := by rw [List.mem_cons]; exact ⟨fun h => h.elim (fun e => (hij e.symm).elim) id, Or.inr⟩
    by_cases hjt : j ∈ t
    ·
     rw [if_pos hjt, if_pos (this.2 hjt)]
    ·
     rw [if_neg hjt, if_neg (fun h => hjt (this.1 h))]
theorem join_fold (last next : Nat) (n : Nt) (hn : n.length ≤ 256) : (elems last).foldl (joinS next) n = joinN last next n := by
 apply List.ext_getElem?;intro j;rw [join_fold_get _ _ (elems last) _ (by unfold elems; exact bl_nodup _ _ _)];unfold joinN;rw [List.getElem?_mapIdx];by_cases hj : j < n.length
 ·
  rw [List.getElem?_eq_getElem hj];simp only [Option.map_some];congr 1
  have : j ∈ elems last ↔ last.testBit j = true := by rw [elems_mem]; exact ⟨fun h => h.2, fun h => ⟨by omega, h⟩⟩
  by_cases h : last.testBit j = true
  ·
   rw [if_pos (this.2 h), if_pos h]
  ·
   rw [if_neg (fun g => h (this.1 g)), if_neg h]
 ·
  rw [List.getElem?_eq_none (by omega)]; rfl
end Go.Proofs.YthdoniefjmphaaaGreatDoor.Rx
namespace Go.Proofs.YthdoniefjmphaaaGreatDoor.Rx
inductive Res (α : Type) where
  | ok (x : α) (k : Nat)
  | bad (e k : Nat)
def pk (l : List UInt8) (k : Nat) : Nat := (l[k]?.map (·.toNat)).getD 0
def outL : List UInt8 := [40, 41, 91, 93, 124, 42, 43, 63]
def inL : List UInt8 := [93, 45, 94]
def inS (sp : List UInt8) (x : Nat) : Bool := sp.contains x.toUInt8
def singleF (sp l : List UInt8) (k : Nat) : Res Nat :=
  if pk l k = 92 then
    (if pk l (k + 1) < 32 ∨ 126 < pk l (k + 1) then .bad 2 (k + 1) else .ok (pk l (k + 1)) (k + 2))
  else if pk l k < 32 ∨ 126 < pk l k ∨ inS sp (pk l k) = true then .bad 2 k
  else .ok (pk l k) (k + 1)
def rangeF (l : List UInt8) (k : Nat) : Res (Nat × Nat) := match singleF inL l k with
  | .bad e j => .bad e j
  | .ok a j => if pk l j = 45 then (match singleF inL l (j + 1) with
      | .bad e i => .bad e i
      | .ok b i => if b < a then .bad 2 (j + 1) else .ok (a, b) i)
    else .ok (a, a) j
def itemsF (l : List UInt8) : Nat → Nat → List (Nat × Nat) → Res (List (Nat × Nat))
  | 0, k, _ => .bad 2 k
  | f + 1, k, acc => match rangeF l k with
    | .bad e j => .bad e j
    | .ok r j => if pk l j = 93 then .ok (acc ++ [r]) (j + 1) else itemsF l f j (acc ++ [r])
def runM (a : Nat) : Nat → Nat
  | 0 => 0
  | n + 1 => runM a n ||| 2 ^ (a + n)
def maskR (rs : List (Nat × Nat)) : Nat := rs.foldl (fun m r => m ||| runM r.1 (r.2 + 1 - r.1)) 0
def fullM : Nat := 2 ^ 256 - 1
def maskB (neg : Bool) (rs : List (Nat × Nat)) : Nat := if neg then fullM - maskR rs else maskR rs
def setF (l : List UInt8) (k : Nat) : Res Pt := match itemsF l (l.length + 1) (if pk l (k + 1) = 94 then k + 2 else k + 1) [] with
  | .bad e j => .bad e j
  | .ok rs j => .ok (.leaf (maskB (pk l (k + 1) == 94) rs)) j
def atomF (inner : Nat → Res Pt) (l : List UInt8) (k : Nat) : Res Pt :=
  if pk l k = 40 then inner k
  else if pk l k = 91 then setF l k
  else if pk l k = 46 then .ok (.leaf fullM) (k + 1)
  else match singleF outL l k with
    | .bad e j => .bad e j
    | .ok c j => .ok (.leaf (2 ^ c)) j
def partF (inner : Nat → Res Pt) (l : List UInt8) (k : Nat) : Res Pt := match atomF inner l k with
  | .bad e j => .bad e j
  | .ok p j => if pk l j = 42 then .ok (.star p) (j + 1) else if pk l j = 43 then .ok (.plus p) (j + 1) else if pk l j = 63 then .ok (.opt p) (j + 1) else .ok p j
def rowEnd (l : List UInt8) (j : Nat) : Bool := decide (l.length ≤ j) || pk l j == 124 || pk l j == 41
def rowL (inner : Nat → Res Pt) (l : List UInt8) : Nat → Nat → Pt → Res Pt
  | 0, j, _ => .bad 2 j
  | f + 1, j, acc => if rowEnd l j then .ok acc j else match partF inner l j with
    | .bad e i => .bad e i
    | .ok p i => rowL inner l f i (.seq acc p)
def rowF (inner : Nat → Res Pt) (l : List UInt8) (k : Nat) : Res Pt := match partF inner l k with
  | .bad e j => .bad e j
  | .ok p j => rowL inner l (l.length + 1) j (.seq .eps p)
def choiceL (inner : Nat → Res Pt) (l : List UInt8) : Nat → Nat → Pt → Res Pt
  | 0, j, _ => .bad 2 j
  | f + 1, j, acc => if pk l j = 124 then (match rowF inner l (j + 1) with
      | .bad e i => .bad e i
      | .ok p i => choiceL inner l f i (.alt acc p)) else .ok acc j
def choiceF (inner : Nat → Res Pt) (l : List UInt8) (k : Nat) : Res Pt := match rowF inner l k with
  | .bad e j => .bad e j
  | .ok p j => choiceL inner l (l.length + 1) j (.alt .nil p)
def innerF (l : List UInt8) : Nat → Nat → Res Pt
  | 0, k => .bad 4 k
  | d + 1, k => match choiceF (innerF l d) l (k + 1) with
    | .bad e j => .bad e j
    | .ok p j => if pk l j = 41 then .ok p (j + 1) else .bad 2 j
def compileF (l : List UInt8) : Res Pt :=
  if 64 < l.length then .bad 4 0 else match choiceF (innerF l 9) l 0 with
    | .bad e j => .bad e j
    | .ok p j => if j < l.length then .bad 2 j else .ok p 0
theorem pk_end {l : List UInt8} {k : Nat} (h : l.length ≤ k) : pk l k = 0 := by unfold pk; rw [List.getElem?_eq_none h]; rfl
theorem pk_lt {l : List UInt8} {k : Nat} (h : pk l k ≠ 0) : k < l.length := by
  rcases Nat.lt_or_ge k l.length with g | g
  · exact g
  · exact (h (pk_end g)).elim
theorem pk_byte (l : List UInt8) (k : Nat) : pk l k < 256 := by
  unfold pk;cases l[k]? with
  | none => decide
  | some c => exact c.toNat_lt
def Goes (l : List UInt8) (k : Nat) {α : Type} (r : Res α) (P : α → Nat → Prop) : Prop := match r with
  | .ok x j => k < j ∧ j ≤ l.length ∧ P x j
  | .bad e j => k ≤ j ∧ j ≤ l.length ∧ (e = 2 ∨ e = 4)
theorem single_goes (sp : List UInt8) {l : List UInt8} {k : Nat} (h : k ≤ l.length) : Goes l k (singleF sp l k) (fun x _ => 32 ≤ x ∧ x ≤ 126) := by
  unfold singleF;split
  · rename_i q
    have hk := pk_lt (l := l) (k := k) (by omega);split
    · exact ⟨by omega, by omega, Or.inl rfl⟩
    · have := pk_lt (l := l) (k := k + 1) (by omega);exact ⟨by omega, by omega, by omega, by omega⟩
  · split
    · exact ⟨by omega, by omega, Or.inl rfl⟩
    · rename_i q1 q
      have hk := pk_lt (l := l) (k := k) (by intro e; exact q (Or.inl (by omega)));have g1 : ¬ (pk l k < 32) := fun e => q (Or.inl e)
      have g2 : ¬ (126 < pk l k) := fun e => q (Or.inr (Or.inl e))
      exact ⟨by omega, by omega, by omega, by omega⟩
theorem range_goes {l : List UInt8} {k : Nat} (h : k ≤ l.length) : Goes l k (rangeF l k) (fun x _ => 32 ≤ x.1 ∧ x.1 ≤ x.2 ∧ x.2 ≤ 126) := by
  have g := single_goes inL h;unfold rangeF;cases hs : singleF inL l k with
  | bad e j => rw [hs] at g; exact g
  | ok a j =>
    rw [hs] at g;obtain ⟨g1, g2, g3, g4⟩ := g;dsimp only;split
    · rename_i q
      have hj := pk_lt (l := l) (k := j) (by omega);have g' := single_goes inL (l := l) (k := j + 1) (by omega);cases hs2 : singleF inL l (j + 1) with
      | bad e i => rw [hs2] at g'; exact ⟨by have := g'.1; omega, g'.2.1, g'.2.2⟩
      | ok b i =>
        rw [hs2] at g';obtain ⟨k1, k2, k3, k4⟩ := g';dsimp only;split
        · exact ⟨by omega, by omega, Or.inl rfl⟩
        · exact ⟨by omega, k2, by simp; omega, by simp; omega, by simp; omega⟩
    · exact ⟨g1, g2, by simp; omega, by simp, by simp; omega⟩
theorem items_goes {l : List UInt8} : ∀ (f k : Nat) (acc : List (Nat × Nat)), k ≤ l.length → l.length - k < f → Goes l k (itemsF l f k acc) (fun _ _ => True) := by
  intro f;induction f with
  | zero => intro k acc _ h; omega
  | succ f ih =>
    intro k acc h hf;have g := range_goes h;unfold itemsF;cases hs : rangeF l k with
    | bad e j => rw [hs] at g; exact g
    | ok r j =>
      rw [hs] at g;obtain ⟨g1, g2, _⟩ := g;dsimp only;split
      · rename_i q
        have hj := pk_lt (l := l) (k := j) (by omega);exact ⟨by omega, by omega, trivial⟩
      · have i := ih j (acc ++ [r]) g2 (by omega);cases h2 : itemsF l f j (acc ++ [r]) with
        | bad e j => rw [h2] at i; exact ⟨by have := i.1; omega, i.2.1, i.2.2⟩
        | ok x j => rw [h2] at i; exact ⟨by have := i.1; omega, i.2.1, trivial⟩
def Few (k : Nat) (p : Pt) (j : Nat) : Prop := leaves p ≤ j - k
theorem set_goes {l : List UInt8} {k : Nat} (h : pk l k = 91) : Goes l k (setF l k) (Few k) := by
  have hk := pk_lt (l := l) (k := k) (by omega);unfold setF;have hs : (if pk l (k + 1) = 94 then k + 2 else k + 1) ≤ l.length ∧ k < (if pk l (k + 1) = 94 then k + 2 else k + 1) := by
    split
    · have := pk_lt (l := l) (k := k + 1) (by omega);omega
    · omega
  have i := items_goes (l.length + 1) _ [] hs.1 (by omega);cases h2 : itemsF l (l.length + 1) (if pk l (k + 1) = 94 then k + 2 else k + 1) [] with
  | bad e j => rw [h2] at i; exact ⟨by have := i.1; omega, i.2.1, i.2.2⟩
  | ok x j => rw [h2] at i; exact ⟨by have := i.1; omega, i.2.1, by have := i.1; unfold Few; simp only [leaves]; omega⟩
theorem atom_goes {inner : Nat → Res Pt} {l : List UInt8} (hi : ∀ k, pk l k = 40 → Goes l k (inner k) (Few k)) {k : Nat} (h : k ≤ l.length) : Goes l k (atomF inner l k) (Few k) := by
  unfold atomF;split
  · exact hi k (by assumption)
  · split
    · exact set_goes (by assumption)
    · split
      · have hk := pk_lt (l := l) (k := k) (by omega);exact ⟨by omega, by omega, by unfold Few; simp only [leaves]; omega⟩
      · have g := single_goes outL h;cases hs : singleF outL l k with
        | bad e j => rw [hs] at g; exact g
        | ok c j => rw [hs] at g; exact ⟨g.1, g.2.1, by have := g.1; unfold Few; simp only [leaves]; omega⟩
theorem part_goes {inner : Nat → Res Pt} {l : List UInt8} (hi : ∀ k, pk l k = 40 → Goes l k (inner k) (Few k)) {k : Nat} (h : k ≤ l.length) : Goes l k (partF inner l k) (Few k) := by
  have g := atom_goes hi h;unfold partF;cases hs : atomF inner l k with
  | bad e j => rw [hs] at g; exact g
  | ok p j =>
    rw [hs] at g;obtain ⟨g1, g2, g3⟩ := g;unfold Few at g3;dsimp only;have z : pk l j ≠ 0 → j < l.length := fun q => pk_lt q
    split
    · have := z (by omega); exact ⟨by omega, by omega, by unfold Few; simp only [leaves]; omega⟩
    · split
      · have := z (by omega); exact ⟨by omega, by omega, by unfold Few; simp only [leaves]; omega⟩
      · split
        · have := z (by omega); exact ⟨by omega, by omega, by unfold Few; simp only [leaves]; omega⟩
        · exact ⟨g1, g2, g3⟩
theorem rowL_goes {inner : Nat → Res Pt} {l : List UInt8} (hi : ∀ k, pk l k = 40 → Goes l k (inner k) (Few k)) (k0 : Nat) : ∀ (f j : Nat) (acc : Pt), k0 < j → j ≤ l.length → l.length - j < f → leaves acc ≤ j - k0 → Goes l k0 (rowL inner l f j acc) (Few k0) := by
  intro f;induction f with
  | zero => intro j acc _ _ h; omega
  | succ f ih =>
    intro j acc h0 h hf hl;unfold rowL;split
    · exact ⟨h0, h, hl⟩
    · have g := part_goes hi h;cases hs : partF inner l j with
      | bad e i => rw [hs] at g; exact ⟨by have := g.1; omega, g.2.1, g.2.2⟩
      | ok p i =>
        rw [hs] at g;obtain ⟨g1, g2, g3⟩ := g;unfold Few at g3;exact ih i (.seq acc p) (by omega) g2 (by omega) (by simp only [leaves]; omega)
theorem row_goes {inner : Nat → Res Pt} {l : List UInt8} (hi : ∀ k, pk l k = 40 → Goes l k (inner k) (Few k)) {k : Nat} (h : k ≤ l.length) : Goes l k (rowF inner l k) (Few k) := by
  have g := part_goes hi h;unfold rowF;cases hs : partF inner l k with
  | bad e j => rw [hs] at g; exact g
  | ok p j =>
    rw [hs] at g;obtain ⟨g1, g2, g3⟩ := g;unfold Few at g3;exact rowL_goes hi k _ j _ g1 g2 (by omega) (by simp only [leaves]; omega)
theorem choiceL_goes {inner : Nat → Res Pt} {l : List UInt8} (hi : ∀ k, pk l k = 40 → Goes l k (inner k) (Few k)) (k0 : Nat) : ∀ (f j : Nat) (acc : Pt), k0 < j → j ≤ l.length → l.length - j < f → leaves acc ≤ j - k0 → Goes l k0 (choiceL inner l f j acc) (Few k0) := by
  intro f;induction f with
  | zero => intro j acc _ _ h; omega
  | succ f ih =>
    intro j acc h0 h hf hl;unfold choiceL;split
    · have hj := pk_lt (l := l) (k := j) (by omega);have g := row_goes hi (k := j + 1) (by omega);cases hs : rowF inner l (j + 1) with
      | bad e i => rw [hs] at g; exact ⟨by have := g.1; omega, g.2.1, g.2.2⟩
      | ok p i =>
        rw [hs] at g;obtain ⟨g1, g2, g3⟩ := g;unfold Few at g3;exact ih i (.alt acc p) (by omega) g2 (by omega) (by simp only [leaves]; omega)
    · exact ⟨h0, h, hl⟩
theorem choice_goes {inner : Nat → Res Pt} {l : List UInt8} (hi : ∀ k, pk l k = 40 → Goes l k (inner k) (Few k)) {k : Nat} (h : k ≤ l.length) : Goes l k (choiceF inner l k) (Few k) := by
  have g := row_goes hi h;unfold choiceF;cases hs : rowF inner l k with
  | bad e j => rw [hs] at g; exact g
  | ok p j =>
    rw [hs] at g;obtain ⟨g1, g2, g3⟩ := g;unfold Few at g3;exact choiceL_goes hi k _ j _ g1 g2 (by omega) (by simp only [leaves]; omega)
theorem inner_goes {l : List UInt8} : ∀ (d k : Nat), pk l k = 40 → Goes l k (innerF l d k) (Few k) := by
  intro d;induction d with
  | zero => intro k h; have := pk_lt (l := l) (k := k) (by omega); exact ⟨by omega, by omega, Or.inr rfl⟩
  | succ d ih =>
    intro k h;have hk := pk_lt (l := l) (k := k) (by omega);have g := choice_goes ih (l := l) (k := k + 1) (by omega);unfold innerF;cases hs : choiceF (innerF l d) l (k + 1) with
    | bad e j => rw [hs] at g; exact ⟨by have := g.1; omega, g.2.1, g.2.2⟩
    | ok p j =>
      rw [hs] at g;obtain ⟨g1, g2, g3⟩ := g;unfold Few at g3;dsimp only;split
      · have := pk_lt (l := l) (k := j) (by omega);exact ⟨by omega, by omega, by unfold Few; omega⟩
      · exact ⟨by omega, by omega, Or.inl rfl⟩
end Go.Proofs.YthdoniefjmphaaaGreatDoor.Rx
