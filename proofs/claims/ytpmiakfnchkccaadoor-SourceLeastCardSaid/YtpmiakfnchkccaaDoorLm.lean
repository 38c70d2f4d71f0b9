/- Who holds all up: the mathematics of SourceLeast. -/
import Derived.Test.YtpmiakfnchkccaaDoorAc
namespace Go.Proofs.YtpmiakfnchkccaaDoor
open Go Go.Proofs Go.RowKit
set_option maxRecDepth 100000
def tAt (l : List Int) (j : Nat) : Int := l.getD j 0
/-- the rows when those ahead of i are there, and z -/
def rowF (l : List Int) (z i j : Nat) : R3 := if j = z then ⟨1, tAt l z, 0⟩ else if j < i then ⟨1, tAt l j, 1⟩ else ⟨0, 0, 0⟩
structure Lq (l : List Int) (d : Int) (z i : Nat) (A : Tb) : Prop where
  rows : A.rows = (List.range 16).map (rowF l z i)
  late : A.late = d
  idle : A.idle = 2
  ticks : A.ticks = 1
  adv : ∀ m, leastP (liveP A 16) = some m → m - d ≤ A.front
theorem Lq.at {l : List Int} {late : Int} {z i : Nat} {A : Tb} (h : Lq l late z i A) {j : Nat} (hj : j < 16) : A.rows[j]? = some (rowF l z i j) := by
  rw [h.rows, List.getElem?_map, List.getElem?_range hj]; rfl
theorem least_iff : ∀ (l : List (Nat × R3)) (m : Int), leastP l = some m → (∃ x ∈ l, x.2.t = m) ∧ ∀ x ∈ l, m ≤ x.2.t := by
  have key : ∀ (l : List (Nat × R3)) (o : Option Int) (m : Int), l.foldl (fun o x => leastN o x.2.t) o = some m → ((∃ x ∈ l, x.2.t = m) ∨ o = some m) ∧ (∀ x ∈ l, m ≤ x.2.t) ∧ ∀ y, o = some y → m ≤ y := by
    intro l
    induction l with
    | nil => intro o m e; exact ⟨.inr e, by simp, fun y hy => by rw [List.foldl_nil, hy] at e; injection e with e; omega⟩
    | cons x t ih =>
      intro o m e
      obtain ⟨a, b, c⟩ := ih _ _ e
      have c1 := c (match o with | none => x.2.t | some y => if x.2.t < y then x.2.t else y) (by cases o <;> rfl)
      refine ⟨?_, ?_, ?_⟩
      · rcases a with ⟨y, hy, e1⟩ | a
        · exact .inl ⟨y, List.mem_cons_of_mem _ hy, e1⟩
        · cases o with
          | none => simp only [leastN, Option.some.injEq] at a; exact .inl ⟨x, by simp, a⟩
          | some y =>
            simp only [leastN, Option.some.injEq] at a
            split at a
            · exact .inl ⟨x, by simp, a⟩
            · exact .inr (by rw [a])
      · intro y hy
        rcases List.mem_cons.1 hy with rfl | hy
        · cases o with
          | none => exact c1
          | some z => dsimp only at c1; split at c1 <;> omega
        · exact b y hy
      · intro y hy
        subst hy
        dsimp only at c1; split at c1 <;> omega
  intro l m e
  obtain ⟨a, b, _⟩ := key l none m e
  exact ⟨a.resolve_right (by simp), b⟩
theorem least_none (l : List (Nat × R3)) (h : l ≠ []) : ∃ m, leastP l = some m := by
  cases hl : leastP l with
  | some m => exact ⟨m, rfl⟩
  | none =>
    exfalso
    have key : ∀ (l : List (Nat × R3)) (y : Int), l.foldl (fun o x => leastN o x.2.t) (some y) ≠ none := by
      intro l
      induction l with
      | nil => intro y e; cases e
      | cons x t ih => intro y; exact ih _
    cases l with
    | nil => exact h rfl
    | cons x t => exact key t _ hl
theorem live_raise (A : Tb) (f : Int) : ∀ k, liveP (raiseT A f) k = liveP A k := by
  intro k
  induction k with
  | zero => rfl
  | succ k ih => rw [liveP, liveP, ih]; rfl
theorem adv_live (A : Tb) : liveP (advT A) 16 = liveP A 16 := by
  rw [adv_def]
  generalize leastP (liveP A 16) = o
  cases o with
  | none => rfl
  | some y => exact live_raise A _ 16
theorem adv_same (B : Tb) : (advT B).rows = B.rows ∧ (advT B).late = B.late ∧ (advT B).idle = B.idle ∧ (advT B).ticks = B.ticks := by
  rw [adv_def]
  generalize leastP (liveP B 16) = o
  cases o <;> exact ⟨rfl, rfl, rfl, rfl⟩
theorem adv_done (A : Tb) : ∀ m, leastP (liveP (advT A) 16) = some m → m - A.late ≤ (advT A).front := by
  intro m hm
  rw [adv_live] at hm
  rw [adv_def, hm]
  show m - A.late ≤ max A.front (m - A.late)
  omega
theorem live_mem_iff {A : Tb} : ∀ (k : Nat) (j : Nat) (r : R3), j < k → A.rows[j]? = some r → liveR A r = true → (j, r) ∈ liveP A k := by
  intro k
  induction k with
  | zero => intro j r h; omega
  | succ k ih =>
    intro j r hj hr hl
    rw [liveP, List.mem_append]
    by_cases e : j = k
    · subst e; right; rw [hr]; simp [hl]
    · left; exact ih j r (by omega) hr hl
theorem liveN_len {A : Tb} (p : Nat → Bool) (h : ∀ j, j < 16 → ∃ r, A.rows[j]? = some r ∧ liveR A r = p j) : ∀ k, k ≤ 16 → (liveP A k).length = ((List.range k).filter p).length := by
  intro k
  induction k with
  | zero => intro _; rfl
  | succ k ih =>
    intro hk
    obtain ⟨r, hr, hl⟩ := h k (by omega)
    rw [liveP, hr, List.range_succ, List.filter_append, List.length_append, List.length_append, ih (by omega)]
    dsimp only
    rw [hl]
    cases hp : p k <;> simp [hp]
theorem count_but : ∀ n, n < 17 → ∀ z, z < n → ((List.range 16).filter (fun j => decide (j < n) && !decide (j = z))).length = n - 1 := by decide +kernel
/-- a sample of the law's own is one that may be -/
theorem samp_mx {t s : Int} (ht : 0 ≤ t ∧ t ≤ 65535) (hs : 1 ≤ s ∧ s ≤ 16) : sampR [mx] t s 1 = 0 := by
  unfold sampR
  have h1 : checkR [mx] = 0 := by kernel_rfl
  have h2 : timeR t = 0 := by unfold timeR; rw [if_neg (by omega)]
  rw [h1, h2, if_neg (by decide), if_neg (by simp), if_neg (by decide), if_neg (by omega)]
theorem range_set {α : Type} (f g : Nat → α) (i : Nat) (x : α) (hx : g i = x) (h : ∀ j, j ≠ i → g j = f j) : ((List.range 16).map f).set i x = (List.range 16).map g := by
  apply List.ext_getElem?
  intro j
  by_cases e : i = j
  · subst e
    by_cases hi : i < 16
    · rw [List.getElem?_set_self (by simpa using hi), List.getElem?_map, List.getElem?_range hi, ← hx]; rfl
    · rw [List.getElem?_eq_none (by simp; omega), List.getElem?_eq_none (by simp; omega)]
  · rw [List.getElem?_set_ne e, List.getElem?_map, List.getElem?_map]
    by_cases hj : j < 16
    · rw [List.getElem?_range hj]; exact congrArg some (h j (fun q => e q.symm)).symm
    · rw [List.getElem?_eq_none (by simp; omega)]; rfl
attribute [local irreducible] advT leastP liveP
/-- behind the first, and a tick -/
theorem lq_start {l : List Int} {late : Int} {z : Nat} (hz : z < 16) (ht : 0 ≤ tAt l z ∧ tAt l z ≤ 65535) :
    putR (newT late 2) [mx] (tAt l z) ((z : Int) + 1) 1 = 0 ∧ Lq l late z 0 (tickT (putA (newT late 2) [mx] (tAt l z) ((z : Int) + 1) 1)) := by
  have hr : rowR (newT late 2) ((z : Int) + 1) = ⟨0, 0, 0⟩ := by
    unfold rowR; rw [if_neg (by omega)]
    have : ((z : Int) + 1 - 1).toNat = z := by omega
    rw [this]
    show (List.replicate 16 (⟨0, 0, 0⟩ : R3)).getD z ⟨0, 0, 0⟩ = _
    generalize (16 : Nat) = n16 at hz
    rw [List.getD_eq_getElem?_getD, List.getElem?_replicate]
    split <;> rfl
  have hc : putR (newT late 2) [mx] (tAt l z) ((z : Int) + 1) 1 = 0 := by
    unfold putR putE
    rw [samp_mx ht (by omega), if_neg (by decide), hr, if_neg (by decide), if_neg (by show ¬ tAt l z < 0; omega)]
  refine ⟨hc, ?_⟩
  have hp : putA (newT late 2) [mx] (tAt l z) ((z : Int) + 1) 1 = advT { newT late 2 with rows := (newT late 2).rows.set z ⟨1, tAt l z, 0⟩ } := by
    unfold putA
    rw [hc, if_pos rfl]
    unfold putT
    rw [hr, show ((z : Int) + 1 - 1).toNat = z by omega, show max (0 : Int) (tAt l z) = tAt l z by omega]
    rfl
  have hrows : (newT late 2).rows.set z ⟨1, tAt l z, 0⟩ = (List.range 16).map (rowF l z 0) := by
    have e0 : (newT late 2).rows = (List.range 16).map (fun _ => (⟨0, 0, 0⟩ : R3)) := by unfold newT; rfl
    rw [e0]
    exact range_set _ _ z _ (by unfold rowF; rw [if_pos rfl]) (fun j hj => by unfold rowF; rw [if_neg hj, if_neg (by omega)])
  rw [hp]
  unfold tickT
  generalize hB : ({ newT late 2 with rows := (newT late 2).rows.set z ⟨1, tAt l z, 0⟩ } : Tb) = B
  obtain ⟨a1, a2, a3, a4⟩ := adv_same B
  have c1 : B.rows = (List.range 16).map (rowF l z 0) := by rw [← hB]; exact hrows
  have c2 : B.late = late := by rw [← hB]; rfl
  have c3 : B.idle = 2 := by rw [← hB]; rfl
  have c4 : B.ticks = 0 := by rw [← hB]; rfl
  generalize advT B = C at *
  obtain ⟨b1, b2, b3, b4⟩ := adv_same { C with ticks := C.ticks + 1 }
  have ad := adv_done { C with ticks := C.ticks + 1 }
  dsimp only at b1 b2 b3 b4 ad
  refine ⟨b1.trans (a1.trans c1), b2.trans (a2.trans c2), b3.trans (a3.trans c3), ?_, fun m hm => ?_⟩
  · rw [b4, a4, c4]; decide
  · have := ad m hm
    have e : C.late = late := a2.trans c2
    generalize (advT _).front = F at *
    omega
/-- one more -/
theorem lq_put {l : List Int} {late : Int} {z i : Nat} {A : Tb} (h : Lq l late z i A) (hi : i < 16) (hiz : i ≠ z) (ht : 0 ≤ tAt l i ∧ tAt l i ≤ 65535) :
    (putR A [mx] (tAt l i) ((i : Int) + 1) 1 = 0 ∧ Lq l late z (i + 1) (putA A [mx] (tAt l i) ((i : Int) + 1) 1)) ∨
    (putR A [mx] (tAt l i) ((i : Int) + 1) 1 = 9 ∧ putA A [mx] (tAt l i) ((i : Int) + 1) 1 = A ∧ tAt l i < A.front) := by
  have hr : rowR A ((i : Int) + 1) = ⟨0, 0, 0⟩ := by
    unfold rowR; rw [if_neg (by omega)]
    have : ((i : Int) + 1 - 1).toNat = i := by omega
    rw [this]
    unfold nthR
    rw [List.getD_eq_getElem?_getD, h.at hi]
    unfold rowF; rw [if_neg hiz, if_neg (by omega)]; rfl
  by_cases hl : tAt l i < A.front
  · right
    have hc : putR A [mx] (tAt l i) ((i : Int) + 1) 1 = 9 := by
      unfold putR putE
      rw [samp_mx ht (by omega), if_neg (by decide), hr, if_neg (by decide), if_pos hl]
    exact ⟨hc, by unfold putA; rw [hc, if_neg (by decide)], hl⟩
  · left
    have hc : putR A [mx] (tAt l i) ((i : Int) + 1) 1 = 0 := by
      unfold putR putE
      rw [samp_mx ht (by omega), if_neg (by decide), hr, if_neg (by decide), if_neg hl]
    refine ⟨hc, ?_⟩
    have hp : putA A [mx] (tAt l i) ((i : Int) + 1) 1 = advT { A with rows := A.rows.set i ⟨1, tAt l i, 1⟩ } := by
      unfold putA
      rw [hc, if_pos rfl]
      unfold putT
      rw [hr, show ((i : Int) + 1 - 1).toNat = i by omega, show max (0 : Int) (tAt l i) = tAt l i by omega, h.ticks]
    have hrows : A.rows.set i ⟨1, tAt l i, 1⟩ = (List.range 16).map (rowF l z (i + 1)) := by
      rw [h.rows]
      exact range_set _ _ i _ (by unfold rowF; rw [if_neg hiz, if_pos (by omega)]) (fun j hj => by
        unfold rowF
        by_cases hz : j = z
        · rw [if_pos hz, if_pos hz]
        · rw [if_neg hz, if_neg hz]
          by_cases hji : j < i
          · rw [if_pos hji, if_pos (by omega)]
          · rw [if_neg hji, if_neg (by omega)])
    rw [hp]
    generalize hB : ({ A with rows := A.rows.set i ⟨1, tAt l i, 1⟩ } : Tb) = B
    have hBr : B.rows = (List.range 16).map (rowF l z (i + 1)) := by rw [← hB]; exact hrows
    have hBl : B.late = late := by rw [← hB]; exact h.late
    have hBi : B.idle = 2 := by rw [← hB]; exact h.idle
    have hBt : B.ticks = 1 := by rw [← hB]; exact h.ticks
    obtain ⟨a1, a2, a3, a4⟩ := adv_same B
    refine ⟨by rw [a1, hBr], by rw [a2, hBl], by rw [a3, hBi], by rw [a4, hBt], fun m hm => ?_⟩
    have := adv_done B m hm
    rwa [hBl] at this
theorem lq_skip {l : List Int} {late : Int} {z : Nat} {A : Tb} (h : Lq l late z z A) : Lq l late z (z + 1) A :=
  ⟨by
    rw [h.rows]
    apply List.map_congr_left
    intro j _
    unfold rowF
    by_cases hz : j = z
    · rw [if_pos hz, if_pos hz]
    · rw [if_neg hz, if_neg hz]
      by_cases hj : j < z
      · rw [if_pos hj, if_pos (by omega)]
      · rw [if_neg hj, if_neg (by omega)], h.late, h.idle, h.ticks, h.adv⟩
set_option maxHeartbeats 1000000 in
/-- at the end -/
theorem lq_end {l : List Int} {late least rest : Int} {z : Nat} {A : Tb} (h : Lq l late z l.length A) (hn : 2 ≤ l.length ∧ l.length ≤ 16) (hz : z < l.length) (hle : ∀ j, j < l.length → least ≤ tAt l j)
    (hr1 : ∀ j, j < l.length → j ≠ z → rest ≤ tAt l j) (hr2 : ∃ j, j < l.length ∧ j ≠ z ∧ rest = tAt l j) :
    least - late ≤ A.front ∧ (tickT A).front = max A.front (rest - late) ∧ (liveN (tickT A)).length = l.length - 1 := by
  have row : ∀ j, j < 16 → A.rows[j]? = some (rowF l z l.length j) := fun j hj => h.at hj
  refine ⟨?_, ?_, ?_⟩
  · obtain ⟨m, hm⟩ := least_none (liveP A 16) (fun e => by
      have : (z, rowF l z l.length z) ∈ liveP A 16 := live_mem_iff 16 z _ (by omega) (row z (by omega)) (by unfold liveR rowF; rw [if_pos rfl, h.ticks, h.idle]; simp)
      rw [e] at this; cases this)
    obtain ⟨⟨x, hx, e⟩, _⟩ := least_iff _ m hm
    have hadv := h.adv m hm
    obtain ⟨q1, q2, q3⟩ := live_mem 16 x hx
    rw [row x.1 q2] at q1
    injection q1 with q1
    have hx1 : x.1 < l.length := by
      rcases Nat.lt_or_ge x.1 l.length with h1 | h1
      · exact h1
      · exfalso
        rw [← q1] at q3
        unfold liveR rowF at q3
        rw [if_neg (by omega), if_neg (by omega)] at q3
        simp at q3
    have : x.2.t = tAt l x.1 := by
      rw [← q1]; unfold rowF
      by_cases hxz : x.1 = z
      · rw [if_pos hxz, hxz]
      · rw [if_neg hxz, if_pos hx1]
    have := hle x.1 hx1
    omega
  · have hB : (tickT A) = advT { A with ticks := A.ticks + 1 } := by unfold tickT; rfl
    have hl : ∀ j, j < 16 → liveR { A with ticks := A.ticks + 1 } (rowF l z l.length j) = (decide (j < l.length) && !decide (j = z)) := fun j _ => by
      unfold liveR rowF
      dsimp only
      rw [h.ticks, h.idle]
      by_cases hjz : j = z
      · rw [if_pos hjz]; simp [hjz]
      · rw [if_neg hjz]
        by_cases hjl : j < l.length
        · rw [if_pos hjl]; simp [hjz, hjl]
        · rw [if_neg hjl]; simp [hjl]
    obtain ⟨j0, hj0, hj0z, hj0e⟩ := hr2
    have mem0 : (j0, rowF l z l.length j0) ∈ liveP { A with ticks := A.ticks + 1 } 16 := live_mem_iff 16 j0 _ (by omega) (row j0 (by omega)) (by rw [hl j0 (by omega)]; simp [hj0, hj0z])
    obtain ⟨m, hm⟩ := least_none (liveP { A with ticks := A.ticks + 1 } 16) (fun e => by rw [e] at mem0; cases mem0)
    obtain ⟨⟨x, hx, e⟩, hmin⟩ := least_iff _ m hm
    have h1 := hmin _ mem0
    have e0 : (rowF l z l.length j0).t = tAt l j0 := by unfold rowF; rw [if_neg hj0z, if_pos hj0]
    dsimp only at h1
    rw [e0] at h1
    obtain ⟨q1, q2, q3⟩ := live_mem 16 x hx
    have q1' : A.rows[x.1]? = some x.2 := q1
    rw [row x.1 q2] at q1'
    injection q1' with q1'
    rw [← q1', hl x.1 q2] at q3
    have hx1 : x.1 < l.length := by simp at q3; exact q3.1
    have hxz : x.1 ≠ z := by simp at q3; exact q3.2
    have e1 : x.2.t = tAt l x.1 := by rw [← q1']; unfold rowF; rw [if_neg hxz, if_pos hx1]
    have h2 := hr1 x.1 hx1 hxz
    have hmr : m = rest := by omega
    rw [hB, adv_def, hm]
    show max A.front (m - A.late) = _
    rw [hmr, h.late]
  · have e : liveP (tickT A) 16 = liveP { A with ticks := A.ticks + 1 } 16 := by unfold tickT; exact adv_live _
    unfold liveN
    rw [List.length_map, e, liveN_len (A := { A with ticks := A.ticks + 1 }) (fun j => decide (j < l.length) && !decide (j = z)) (fun j hj => ⟨_, row j hj, by
      unfold liveR rowF
      dsimp only
      rw [h.ticks, h.idle]
      by_cases hjz : j = z
      · rw [if_pos hjz]; simp [hjz]
      · rw [if_neg hjz]
        by_cases hjl : j < l.length
        · rw [if_pos hjl]; simp [hjz, hjl]
        · rw [if_neg hjl]; simp [hjl]⟩) 16 (by omega)]
    have hc := count_but l.length (by omega) z hz
    exact hc
end Go.Proofs.YtpmiakfnchkccaaDoor
