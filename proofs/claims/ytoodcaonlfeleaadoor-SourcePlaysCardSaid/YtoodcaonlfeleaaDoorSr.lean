/- Who sends, and how far they are: as mathematics. -/
import Derived.Test.YtoodcaonlfeleaaDoorVr
namespace Go.Proofs.YtoodcaonlfeleaaDoor
open Go Go.Proofs Go.RowKit
set_option maxRecDepth 100000
def I64 (n : Int) : Prop := -9223372036854775808 ≤ n ∧ n ≤ 9223372036854775807
/-- what was heard of one -/
structure R3 where
  q : Int
  t : Int
  k : Int
def r3C (r : R3) : List Value := [.int .i64 r.q, .int .i64 r.t, .int .i64 r.k]
/-- a table -/
structure Tb where
  late : Int
  idle : Int
  ticks : Int
  front : Int
  rows : List R3
def tbC (A : Tb) : List Value := .int .i64 A.late :: .int .i64 A.idle :: .int .i64 A.ticks :: .int .i64 A.front :: A.rows.flatMap r3C
/-- the document's: what is known of one -/
structure R4 where
  q : Int
  t : Int
  p : Bool
  a : Int
def r4C (r : R4) : List Value := [.int .i64 r.q, .int .i64 r.t, .bool r.p, .int .i64 r.a]
structure Sr where
  late : Int
  idle : Int
  rest : List R4
  f : Int
def srC (S : Sr) : List Value := .int .i64 S.late :: .int .i64 S.idle :: .int .i64 0 :: .int .i64 0 :: .bool false :: .int .i64 0 :: (S.rest.flatMap r4C ++ [.int .i64 S.f])
theorem r3_len (r : R3) : (r3C r).length = 3 := rfl
theorem r4_len (r : R4) : (r4C r).length = 4 := rfl
theorem tb_rc {A : Tb} (h : A.rows.length = 16) : RC 52 (tbC A) := by
  refine ⟨?_, fun v hv => ?_⟩
  · unfold tbC; simp only [List.length_cons, flat_len r3C 3 r3_len, h]
  · simp only [tbC, List.mem_cons, List.mem_flatMap] at hv
    rcases hv with rfl | rfl | rfl | rfl | ⟨r, _, hr⟩ <;> try rfl
    simp only [r3C, List.mem_cons, List.not_mem_nil, or_false] at hr
    rcases hr with rfl | rfl | rfl <;> rfl
theorem sr_rc {S : Sr} (h : S.rest.length = 16) : RC 71 (srC S) := by
  refine ⟨?_, fun v hv => ?_⟩
  · unfold srC; simp only [List.length_cons, List.length_append, flat_len r4C 4 r4_len, h, List.length_nil]
  · simp only [srC, List.mem_cons, List.mem_append, List.mem_flatMap, List.not_mem_nil, or_false] at hv
    rcases hv with rfl | rfl | rfl | rfl | rfl | rfl | ⟨r, _, hr⟩ | rfl <;> try rfl
    simp only [r4C, List.mem_cons, List.not_mem_nil, or_false] at hr
    rcases hr with rfl | rfl | rfl | rfl <;> rfl
theorem tb_at {A : Tb} {i : Nat} {r : R3} (h : A.rows[i]? = some r) : (tbC A)[4 + i * 3]? = some (.int .i64 r.q) ∧ (tbC A)[4 + i * 3 + 1]? = some (.int .i64 r.t) ∧ (tbC A)[4 + i * 3 + 2]? = some (.int .i64 r.k) := by
  have f := flat_at r3C 3 r3_len A.rows i r h
  refine ⟨?_, ?_, ?_⟩
  · rw [show 4 + i * 3 = (i * 3 + 0) + 1 + 1 + 1 + 1 by omega]; unfold tbC; simp only [List.getElem?_cons_succ]; exact f 0 _ rfl
  · rw [show 4 + i * 3 + 1 = (i * 3 + 1) + 1 + 1 + 1 + 1 by omega]; unfold tbC; simp only [List.getElem?_cons_succ]; exact f 1 _ rfl
  · rw [show 4 + i * 3 + 2 = (i * 3 + 2) + 1 + 1 + 1 + 1 by omega]; unfold tbC; simp only [List.getElem?_cons_succ]; exact f 2 _ rfl
theorem sr_at {S : Sr} {i : Nat} {r : R4} (h : S.rest[i]? = some r) : (srC S)[6 + i * 4]? = some (.int .i64 r.q) ∧ (srC S)[6 + i * 4 + 1]? = some (.int .i64 r.t) ∧ (srC S)[6 + i * 4 + 2]? = some (.bool r.p) ∧ (srC S)[6 + i * 4 + 3]? = some (.int .i64 r.a) := by
  have f := flat_at r4C 4 r4_len S.rest i r h
  have hi : i < S.rest.length := (List.getElem?_eq_some_iff.1 h).1
  have hl := flat_len r4C 4 r4_len S.rest
  have key : ∀ j, j < 4 → (srC S)[i * 4 + j + 1 + 1 + 1 + 1 + 1 + 1]? = (S.rest.flatMap r4C)[i * 4 + j]? := fun j hj => by
    unfold srC; simp only [List.getElem?_cons_succ]
    rw [List.getElem?_append_left (by rw [hl]; omega)]
  refine ⟨?_, ?_, ?_, ?_⟩
  · rw [show 6 + i * 4 = (i * 4 + 0) + 1 + 1 + 1 + 1 + 1 + 1 by omega, key 0 (by omega)]; exact f 0 _ rfl
  · rw [show 6 + i * 4 + 1 = (i * 4 + 1) + 1 + 1 + 1 + 1 + 1 + 1 by omega, key 1 (by omega)]; exact f 1 _ rfl
  · rw [show 6 + i * 4 + 2 = (i * 4 + 2) + 1 + 1 + 1 + 1 + 1 + 1 by omega, key 2 (by omega)]; exact f 2 _ rfl
  · rw [show 6 + i * 4 + 3 = (i * 4 + 3) + 1 + 1 + 1 + 1 + 1 + 1 by omega, key 3 (by omega)]; exact f 3 _ rfl
theorem sr_f {S : Sr} (h : S.rest.length = 16) : (srC S)[70]? = some (.int .i64 S.f) := by
  have hl := flat_len r4C 4 r4_len S.rest
  unfold srC
  rw [show (70 : Nat) = 64 + 1 + 1 + 1 + 1 + 1 + 1 by omega]; simp only [List.getElem?_cons_succ]
  rw [List.getElem?_append_right (by rw [hl]; omega), hl, h]; rfl
theorem sr_setf {S : Sr} (h : S.rest.length = 16) (f : Int) : (srC S).set 70 (.int .i64 f) = srC { S with f := f } := by
  have hl := flat_len r4C 4 r4_len S.rest
  unfold srC
  rw [show (70 : Nat) = 64 + 1 + 1 + 1 + 1 + 1 + 1 by omega]; simp only [List.set_cons_succ]
  rw [List.set_append_right _ _ (by rw [hl]; omega), hl, h]; rfl
theorem sr_set {S : Sr} {i j : Nat} {r r' : R4} {v : Value} (h : S.rest[i]? = some r) (hj : j < 4) (e : r4C r' = (r4C r).set j v) : (srC S).set (6 + i * 4 + j) v = srC { S with rest := S.rest.set i r' } := by
  have hl := flat_len r4C 4 r4_len S.rest
  have hi : i < S.rest.length := (List.getElem?_eq_some_iff.1 h).1
  rw [show 6 + i * 4 + j = (i * 4 + j) + 1 + 1 + 1 + 1 + 1 + 1 by omega]
  unfold srC
  simp only [List.set_cons_succ]
  rw [List.set_append_left _ _ (by rw [hl]; omega), flat_set r4C 4 r4_len S.rest i r r' h j v hj e]
theorem tb_set {A : Tb} {i j : Nat} {r r' : R3} {v : Value} (h : A.rows[i]? = some r) (hj : j < 3) (e : r3C r' = (r3C r).set j v) : (tbC A).set (4 + i * 3 + j) v = tbC { A with rows := A.rows.set i r' } := by
  rw [show 4 + i * 3 + j = (i * 3 + j) + 1 + 1 + 1 + 1 by omega]
  unfold tbC
  simp only [List.set_cons_succ]
  rw [flat_set r3C 3 r3_len A.rows i r r' h j v hj e]
/-- is it waited for -/
def liveR (A : Tb) (r : R3) : Bool := decide (0 < r.q) && decide (A.ticks - r.k < A.idle)
/-- those of the first k that are waited for -/
def liveP (A : Tb) : Nat → List (Nat × R3)
  | 0 => []
  | k + 1 => liveP A k ++ (match A.rows[k]? with | some r => if liveR A r then [(k, r)] else [] | none => [])
def leastN (o : Option Int) (t : Int) : Option Int := match o with | none => some t | some m => some (if t < m then t else m)
def leastP (l : List (Nat × R3)) : Option Int := l.foldl (fun o x => leastN o x.2.t) none
theorem leastP_snoc (l : List (Nat × R3)) (x : Nat × R3) : leastP (l ++ [x]) = leastN (leastP l) x.2.t := by unfold leastP; rw [List.foldl_append]; rfl
def raiseT (A : Tb) (f : Int) : Tb := { A with front := max A.front f }
def advT (A : Tb) : Tb := match leastP (liveP A 16) with | none => A | some m => raiseT A (m - A.late)
def tickT (A : Tb) : Tb := advT { A with ticks := A.ticks + 1 }
def nthR (A : Tb) (i : Nat) : R3 := A.rows.getD i ⟨0, 0, 0⟩
/-- the row of a source, whichever number -/
def rowR (A : Tb) (s : Int) : R3 := if s < 1 ∨ 16 < s then ⟨0, 0, 0⟩ else nthR A (s - 1).toNat
def putT (A : Tb) (s q t : Int) : Tb := advT { A with rows := A.rows.set (s - 1).toNat ⟨q, max (rowR A s).t t, A.ticks⟩ }
/-- what is said of a sample that may be -/
def putE (A : Tb) (s q t : Int) : Int := if q ≤ (rowR A s).q then 6 else if t < A.front then 9 else 0
structure TbOk (N : Int) (A : Tb) : Prop where
  len : A.rows.length = 16
  l0 : 0 ≤ A.late ∧ A.late ≤ 4398046511104
  i0 : 1 ≤ A.idle ∧ A.idle ≤ 1000000
  k0 : 0 ≤ A.ticks ∧ A.ticks ≤ N
  f0 : I64 A.front
  r0 : ∀ r ∈ A.rows, (0 ≤ r.q ∧ r.q ≤ 9007199254740992) ∧ (0 ≤ r.t ∧ r.t ≤ 4398046511104) ∧ (0 ≤ r.k ∧ r.k ≤ A.ticks) ∧ (r.q = 0 → r.t = 0)
theorem live_mem {A : Tb} : ∀ k, ∀ x ∈ liveP A k, A.rows[x.1]? = some x.2 ∧ x.1 < k ∧ liveR A x.2 = true := by
  intro k
  induction k with
  | zero => intro x h; simp [liveP] at h
  | succ k ih =>
    intro x h
    rw [liveP, List.mem_append] at h
    rcases h with h | h
    · obtain ⟨a, b, c⟩ := ih x h
      exact ⟨a, by omega, c⟩
    · cases e : A.rows[k]? with
      | none => rw [e] at h; simp at h
      | some r =>
        rw [e] at h
        simp only at h
        split at h
        · rename_i hr
          obtain rfl : x = (k, r) := by simpa using h
          exact ⟨e, Nat.lt_succ_self _, hr⟩
        · simp at h
theorem fold_bound (M : Int) : ∀ (l : List (Nat × R3)) (o : Option Int), (∀ x ∈ l, 0 ≤ x.2.t ∧ x.2.t ≤ M) → (∀ m, o = some m → 0 ≤ m ∧ m ≤ M) → ∀ m, l.foldl (fun o x => leastN o x.2.t) o = some m → 0 ≤ m ∧ m ≤ M := by
  intro l
  induction l with
  | nil => intro o _ ho m e; exact ho m e
  | cons x t ih =>
    intro o hx ho m e
    refine ih _ (fun y hy => hx y (List.mem_cons_of_mem _ hy)) ?_ m e
    have h1 := hx x (by simp)
    intro m0 e0
    cases o with
    | none => simp only [leastN, Option.some.injEq] at e0; omega
    | some m1 => have := ho m1 rfl; simp only [leastN, Option.some.injEq] at e0; split at e0 <;> omega
theorem leastP_bound {A : Tb} {N : Int} (h : TbOk N A) (l : List (Nat × R3)) (hl : ∀ x ∈ l, x.2 ∈ A.rows) (m : Int) (e : leastP l = some m) : 0 ≤ m ∧ m ≤ 4398046511104 :=
  fold_bound _ l none (fun x hx => (h.r0 x.2 (hl x hx)).2.1) (fun m e => by cases e) m e
theorem live_rows {A : Tb} (k : Nat) : ∀ x ∈ liveP A k, x.2 ∈ A.rows := fun x hx => List.mem_of_getElem? (live_mem k x hx).1
theorem raise_ok {A : Tb} {N f : Int} (h : TbOk N A) (hf : I64 f) : TbOk N (raiseT A f) :=
  ⟨h.len, h.l0, h.i0, h.k0, by have := h.f0; unfold I64 at *; unfold raiseT; dsimp only; omega, h.r0⟩
theorem adv_ok {A : Tb} {N : Int} (h : TbOk N A) : TbOk N (advT A) := by
  unfold advT
  cases e : leastP (liveP A 16) with
  | none => exact h
  | some m =>
    have := leastP_bound h _ (live_rows 16) m e
    have := h.l0
    exact raise_ok h (by unfold I64; omega)
theorem tick_ok {A : Tb} {N : Int} (h : TbOk N A) : TbOk (N + 1) (tickT A) := by
  refine adv_ok ⟨h.len, h.l0, h.i0, by have := h.k0; dsimp only; omega, h.f0, fun r hr => ?_⟩
  obtain ⟨a, b, c, d⟩ := h.r0 r hr
  exact ⟨a, b, by dsimp only; omega, d⟩
theorem TbOk.mono {A : Tb} {N M : Int} (h : TbOk N A) (hm : N ≤ M) : TbOk M A := ⟨h.len, h.l0, h.i0, by have := h.k0; omega, h.f0, h.r0⟩
theorem nth_some {A : Tb} {i : Nat} (h : i < A.rows.length) : A.rows[i]? = some (nthR A i) := by
  unfold nthR; rw [List.getD_eq_getElem?_getD, List.getElem?_eq_getElem h]; rfl
theorem row_ok {A : Tb} {N : Int} (h : TbOk N A) (s : Int) : (0 ≤ (rowR A s).q ∧ (rowR A s).q ≤ 9007199254740992) ∧ (0 ≤ (rowR A s).t ∧ (rowR A s).t ≤ 4398046511104) ∧ (0 ≤ (rowR A s).k ∧ (rowR A s).k ≤ A.ticks) ∧ ((rowR A s).q = 0 → (rowR A s).t = 0) := by
  have := h.k0
  unfold rowR
  split
  · simp; omega
  · exact h.r0 _ (List.mem_of_getElem? (nth_some (by have := h.len; omega)))
theorem put_ok {A : Tb} {N s q t : Int} (h : TbOk N A) (hs : 1 ≤ s ∧ s ≤ 16) (hq : 1 ≤ q ∧ q ≤ 9007199254740992) (ht : 0 ≤ t ∧ t ≤ 4398046511104) : TbOk N (putT A s q t) := by
  refine adv_ok ⟨by rw [List.length_set]; exact h.len, h.l0, h.i0, h.k0, h.f0, fun r hr => ?_⟩
  rcases List.mem_or_eq_of_mem_set hr with hr | rfl
  · exact h.r0 r hr
  · have := row_ok h s
    have := h.k0
    dsimp only
    omega
end Go.Proofs.YtoodcaonlfeleaaDoor
