/- The table and the document's Sources: one and the same. -/
import Derived.Test.YtoodcaonlfeleaaDoorSi
import Derived.Test.YtoodcaonlfeleaaDoorSj
namespace Go.Proofs.YtoodcaonlfeleaaDoor
open Go Go.Proofs Go.RowKit
set_option maxRecDepth 100000
/-- what the document knows of a row -/
def absR (A : Tb) (r : R3) : R4 := ⟨r.q, r.t, decide (0 < r.q), if 0 < r.q then min (A.ticks - r.k) A.idle else 0⟩
def absT (A : Tb) : Sr := ⟨A.late, A.idle, A.rows.map (absR A), A.front⟩
theorem abs_len {A : Tb} (h : A.rows.length = 16) : (absT A).rest.length = 16 := by unfold absT; simpa using h
theorem abs_at (A : Tb) (i : Nat) : (absT A).rest[i]? = (A.rows[i]?).map (absR A) := by unfold absT; simp
theorem abs_live (A : Tb) (r : R3) : live4 (absT A) (absR A r) = liveR A r := by
  unfold live4 liveR absR absT
  dsimp only
  by_cases h : 0 < r.q
  · simp only [h, decide_true, Bool.true_and, if_true]
    by_cases k : A.ticks - r.k < A.idle
    · rw [decide_eq_true k, decide_eq_true (by omega)]
    · rw [decide_eq_false k, decide_eq_false (by omega)]
  · simp [h]
theorem abs_ok {A : Tb} {N : Int} (h : TbOk N A) : SrOk (absT A) := by
  refine ⟨abs_len h.len, h.l0, h.i0, h.f0, fun r hr => ?_⟩
  obtain ⟨r', hr', rfl⟩ := List.mem_map.1 (show r ∈ A.rows.map (absR A) from hr)
  have := h.r0 r' hr'
  have := h.i0
  unfold absR
  dsimp only
  split <;> omega
theorem abs_liveS (A : Tb) : ∀ k, liveS (absT A) k = (liveP A k).map (·.1) := by
  intro k
  induction k with
  | zero => rfl
  | succ k ih =>
    show liveS (absT A) k ++ (match (absT A).rest[k]? with | some r => if live4 (absT A) r then [k] else [] | none => []) = _
    rw [liveP, List.map_append, ih, abs_at]
    cases A.rows[k]? with
    | none => rfl
    | some r =>
      dsimp only [Option.map_some]
      rw [abs_live]
      cases liveR A r <;> rfl
theorem abs_least (A : Tb) : ∀ k, leastS (absT A) k = (leastP (liveP A k)).map (· - A.late) := by
  intro k
  induction k with
  | zero => rfl
  | succ k ih =>
    show (match (absT A).rest[k]? with | some r => if live4 (absT A) r then leastN (leastS (absT A) k) (r.t - (absT A).late) else leastS (absT A) k | none => leastS (absT A) k) = _
    rw [liveP, ih, abs_at]
    cases A.rows[k]? with
    | none => simp
    | some r =>
      dsimp only [Option.map_some]
      rw [abs_live]
      cases hl : liveR A r
      · simp
      · simp only [if_true]
        rw [leastP_snoc]
        cases leastP (liveP A k) with
        | none => rfl
        | some m =>
          show some (if r.t - A.late < m - A.late then r.t - A.late else m - A.late) = some ((if r.t < m then r.t else m) - A.late)
          by_cases h : r.t < m
          · rw [if_pos h, if_pos (by omega)]
          · rw [if_neg h, if_neg (by omega)]
theorem abs_raise (A : Tb) (f : Int) : absT (raiseT A f) = { absT A with f := max A.front f } := rfl
theorem abs_adv (A : Tb) : absT (advT A) = frontS (absT A) := by
  rw [adv_def, front_def, abs_least]
  cases leastP (liveP A 16) with
  | none => rfl
  | some m =>
    show absT (raiseT A (m - A.late)) = if A.front < m - A.late then { absT A with f := m - A.late } else absT A
    rw [abs_raise]
    by_cases h : A.front < m - A.late
    · rw [if_pos h, show max A.front (m - A.late) = m - A.late by omega]
    · rw [if_neg h, show max A.front (m - A.late) = A.front by omega]; rfl
theorem abs_tick {A : Tb} : absT (tickT A) = tickS (absT A) := by
  unfold tickT tickS
  rw [abs_adv]
  congr 1
  show (⟨A.late, A.idle, A.rows.map (absR { A with ticks := A.ticks + 1 }), A.front⟩ : Sr) = ⟨A.late, A.idle, (A.rows.map (absR A)).map (age4 (absT A)), A.front⟩
  congr 1
  rw [List.map_map]
  apply List.map_congr_left
  intro r _
  show absR _ r = age4 (absT A) (absR A r)
  unfold age4
  rw [abs_live]
  unfold liveR absR
  by_cases h : 0 < r.q
  · by_cases k : A.ticks - r.k < A.idle
    · simp only [h, k, decide_true, Bool.and_self, if_true]
      congr 1
      omega
    · simp only [h, k, decide_true, decide_false, Bool.and_false, if_true]
      simp only [Bool.false_eq_true, if_false]
      congr 1
      omega
  · simp [h]
theorem abs_seq {A : Tb} (hl : A.rows.length = 16) (s : Int) : seqS (absT A) s = (rowR A s).q := by
  unfold seqS rowR
  split
  · rfl
  · rename_i h
    have hi : (s - 1).toNat < A.rows.length := by omega
    unfold nthR absT
    dsimp only
    rw [List.getD_eq_getElem?_getD, List.getElem?_map, List.getD_eq_getElem?_getD, List.getElem?_eq_getElem hi]; rfl
theorem abs_putN {A : Tb} (hl : A.rows.length = 16) (zs : List SLab) (t s q : Int) : putN (absT A) zs t s q = putR A zs t s q := by
  unfold putN putR putE
  rw [abs_seq hl]; rfl
theorem abs_putB {A : Tb} {N : Int} (hA : TbOk N A) (zs : List SLab) (t s q : Int) : putB (absT A) zs t s q = absT (putA A zs t s q) := by
  unfold putB putA
  rw [abs_putN hA.len]
  by_cases h : putR A zs t s q = 0
  · rw [if_pos h, if_pos h]
    have hc : sampR zs t s q = 0 := by
      unfold putR at h
      split at h
      · rename_i h1; exact absurd h h1
      · rename_i h1; omega
    obtain ⟨hs, hq, ht⟩ := samp_rng hc
    have hi : (s - 1).toNat < A.rows.length := by rw [hA.len]; omega
    unfold putT putS
    rw [abs_adv]
    congr 1
    show (⟨A.late, A.idle, (A.rows.map (absR A)).set (s - 1).toNat _, A.front⟩ : Sr) = ⟨A.late, A.idle, (A.rows.set (s - 1).toNat _).map (absR A), A.front⟩
    congr 1
    rw [List.map_set]
    congr 1
    have hr : rowR A s = nthR A (s - 1).toNat := by unfold rowR; rw [if_neg (by omega)]
    have hn : nthS (absT A) (s - 1).toNat = absR A (nthR A (s - 1).toNat) := by
      unfold nthS nthR absT
      dsimp only
      rw [List.getD_eq_getElem?_getD, List.getElem?_map, List.getD_eq_getElem?_getD, List.getElem?_eq_getElem hi]; rfl
    rw [hn, hr]
    have ho := hA.r0 _ (List.mem_of_getElem? (nth_some hi))
    have hi0 := hA.i0
    generalize nthR A (s - 1).toNat = r at *
    unfold newR absR
    dsimp only
    have h0 : (0 : Int) < q := by omega
    have e1 : (if decide (0 < r.q) = true ∧ ¬ r.t < t then r.t else t) = max r.t t := by
      by_cases h1 : 0 < r.q
      · by_cases h2 : r.t < t
        · rw [if_neg (fun h => h.2 h2)]; omega
        · rw [if_pos ⟨by simpa using h1, h2⟩]; omega
      · rw [if_neg (fun h => h1 (by simpa using h.1))]
        have := ho.2.2.2 (by omega)
        omega
    rw [e1, if_pos h0, decide_eq_true h0]
    congr 1
    omega
  · rw [if_neg h, if_neg h]
end Go.Proofs.YtoodcaonlfeleaaDoor
