/- The reference's way to read a time in words, and the program's: plain lists. -/
import Derived.Test.YtmiahbaadlddjaaDoorRound
namespace Go.Proofs.YtmiahbaadlddjaaDoor
open Go Go.Proofs Go.RowKit
set_option maxRecDepth 100000
def az (c : UInt8) : Bool := decide (97 ≤ c.toNat) && decide (c.toNat ≤ 122)
def maxT : Nat := 4398046511104
/-- one part behind the other, by the units that are left -/
def rGo : List (Fin 5) → List UInt8 → Nat → Bool → Option (Nat × Bool)
  | [], rest, tot, big => if rest = [] then some (tot, big) else none
  | u :: us, rest, tot, big =>
    if rest = [] then some (tot, big)
    else if rest.takeWhile dB = [] ∨ (rest.takeWhile dB).head? = some 48 then none
    else if (rest.dropWhile dB).takeWhile az = unitWord u then
      (if u ≠ 0 ∧ unitMost u < dval (rest.takeWhile dB) then none
       else if maxT / unitSize u < dval (rest.takeWhile dB) then rGo us ((rest.dropWhile dB).dropWhile az) tot true
       else rGo us ((rest.dropWhile dB).dropWhile az) (tot + dval (rest.takeWhile dB) * unitSize u) big)
    else rGo us rest tot big
def refR (l : List UInt8) : Int × Int :=
  if l = [48] then (0, 0) else match rGo [0, 1, 2, 3, 4] l 0 false with
    | none => (0, 2)
    | some (tot, big) => if l = [] then (0, 2) else if big = true ∨ maxT < tot then (0, 1) else ((tot : Int), 0)
theorem az_nB (c : UInt8) (h : az c = true) : nB c = true := by
  unfold az at h
  rw [Bool.and_eq_true, decide_eq_true_eq, decide_eq_true_eq] at h
  unfold nB
  cases hd : dB c
  · rfl
  · have := (dB_iff c).1 hd; omega
theorem word_az (u : Fin 5) : (unitWord u).all az = true := by
  match u with
  | 0 => decide
  | 1 => decide
  | 2 => decide
  | 3 => decide
  | 4 => decide
/-- where the run up to a digit is letters alone, the letters' run is it -/
theorem run_same : ∀ (r : List UInt8), (r.takeWhile nB).all az = true → r.takeWhile az = r.takeWhile nB ∧ r.dropWhile az = r.dropWhile nB := by
  intro r
  induction r with
  | nil => intro _; exact ⟨rfl, rfl⟩
  | cons c t ih =>
    intro h
    by_cases hn : nB c = true
    · rw [List.takeWhile_cons, if_pos hn, List.all_cons, Bool.and_eq_true] at h
      obtain ⟨h1, h2⟩ := ih h.2
      rw [List.takeWhile_cons, List.takeWhile_cons, List.dropWhile_cons, List.dropWhile_cons, if_pos hn, if_pos hn, if_pos h.1, if_pos h.1, h1, h2]
      exact ⟨rfl, rfl⟩
    · have ha : ¬ az c = true := fun h' => hn (az_nB c h')
      rw [List.takeWhile_cons, List.takeWhile_cons, List.dropWhile_cons, List.dropWhile_cons, if_neg hn, if_neg hn, if_neg ha, if_neg ha]
      exact ⟨rfl, rfl⟩
/-- where it is not, something else stands behind the letters -/
theorem run_other : ∀ (r : List UInt8), ¬ (r.takeWhile nB).all az = true → ∃ c t, r.dropWhile az = c :: t ∧ dB c = false := by
  intro r
  induction r with
  | nil => intro h; exact absurd rfl h
  | cons c t ih =>
    intro h
    by_cases hn : nB c = true
    · rw [List.takeWhile_cons, if_pos hn, List.all_cons, Bool.and_eq_true] at h
      by_cases ha : az c = true
      · rw [List.dropWhile_cons, if_pos ha]
        exact ih (fun h' => h ⟨ha, h'⟩)
      · rw [List.dropWhile_cons, if_neg ha]
        exact ⟨c, t, rfl, by unfold nB at hn; simpa using hn⟩
    · rw [List.takeWhile_cons, if_neg hn] at h
      exact absurd rfl h
theorem rGo_stuck (us : List (Fin 5)) (r : List UInt8) (tot : Nat) (big : Bool) (h : r ≠ []) (hd : r.takeWhile dB = []) : rGo us r tot big = none := by
  cases us with
  | nil => unfold rGo; rw [if_neg h]
  | cons u us => unfold rGo; rw [if_neg h, if_pos (.inl hd)]
theorem fold_stuck (us : List (Fin 5)) (S : Nat) (r : List UInt8) (h : ∀ u ∈ us, takeR u r = none) : us.foldl pStep (S, r) = (S, r) := by
  induction us with
  | nil => rfl
  | cons u t ih =>
    rw [List.foldl_cons, show pStep (S, r) u = (S, r) by unfold pStep; dsimp only; split; rfl; rw [h u List.mem_cons_self]]
    exact ih (fun v hv => h v (List.mem_cons_of_mem _ hv))
def Agree (S tot : Nat) (big : Bool) : Prop := (big = false → S = tot) ∧ (big = true → maxT < S)
theorem most_fit (u : Fin 5) (V : Nat) : (if V ≤ 18446744073709551615 then V else 18446744073709551615) ≤ unitMost u ↔ ¬ (u ≠ 0 ∧ unitMost u < V) := by
  match u with
  | 0 => simp only [unitMost]; constructor
         · intro _ h; exact h.1 rfl
         · intro _; split <;> omega
  | 1 => simp only [unitMost]; split <;> simp <;> omega
  | 2 => simp only [unitMost]; split <;> simp <;> omega
  | 3 => simp only [unitMost]; split <;> simp <;> omega
  | 4 => simp only [unitMost]; split <;> simp <;> omega
theorem agree_add (u : Fin 5) (S tot V : Nat) (big : Bool) (h : Agree S tot big) :
    (maxT / unitSize u < V → Agree (S + min (if V ≤ 18446744073709551615 then V else 18446744073709551615) (maxT / unitSize u + 1) * unitSize u) tot true) ∧
    (V ≤ maxT / unitSize u → Agree (S + min (if V ≤ 18446744073709551615 then V else 18446744073709551615) (maxT / unitSize u + 1) * unitSize u) (tot + V * unitSize u) big) := by
  obtain ⟨z1, z2⟩ := unitSize_bd u
  have hm : maxT / unitSize u ≤ 4398046511104 := Nat.div_le_self _ _
  have hd : maxT < (maxT / unitSize u + 1) * unitSize u := by
    have := Nat.lt_mul_div_succ maxT (show 0 < unitSize u by omega)
    rwa [Nat.mul_comm] at this
  generalize maxT / unitSize u = M at *
  constructor
  · intro hv
    have e : min (if V ≤ 18446744073709551615 then V else 18446744073709551615) (M + 1) = M + 1 := by
      apply Nat.min_eq_right
      split <;> omega
    rw [e]
    exact ⟨fun h' => (by cases h'), fun _ => by omega⟩
  · intro hv
    have e : min (if V ≤ 18446744073709551615 then V else 18446744073709551615) (M + 1) = V := by
      rw [if_pos (by omega)]
      exact Nat.min_eq_left (by omega)
    rw [e]
    exact ⟨fun h' => by rw [h.1 h'], fun h' => by have := h.2 h'; omega⟩
theorem go_same (us : List (Fin 5)) : us.Nodup → ∀ (rest : List UInt8) (S tot : Nat) (big : Bool), Agree S tot big →
    (rGo us rest tot big = none → (us.foldl pStep (S, rest)).2 ≠ []) ∧ (∀ t b, rGo us rest tot big = some (t, b) → (us.foldl pStep (S, rest)).2 = [] ∧ Agree (us.foldl pStep (S, rest)).1 t b) := by
  induction us with
  | nil =>
    intro _ rest S tot big hA
    unfold rGo
    by_cases h : rest = []
    · rw [if_pos h]
      exact ⟨fun h' => (by cases h'), fun t b h' => (by cases h'; exact ⟨h, hA⟩)⟩
    · rw [if_neg h]
      exact ⟨fun _ => h, fun t b h' => by cases h'⟩
  | cons u us ih =>
    intro hn rest S tot big hA
    rw [List.nodup_cons] at hn
    by_cases h : rest = []
    · have e : (u :: us).foldl pStep (S, rest) = (S, rest) := by
        have hs : ∀ l : List (Fin 5), l.foldl pStep (S, rest) = (S, rest) := by
          intro l
          induction l with
          | nil => rfl
          | cons v t ih2 => rw [List.foldl_cons, show pStep (S, rest) v = (S, rest) by unfold pStep; rw [if_pos h]]; exact ih2
        exact hs _
      rw [e]
      unfold rGo
      rw [if_pos h]
      exact ⟨fun h' => (by cases h'), fun t b h' => (by cases h'; exact ⟨h, hA⟩)⟩
    · by_cases hD : rest.takeWhile dB = [] ∨ (rest.takeWhile dB).head? = some 48
      · rw [fold_stuck (u :: us) S rest (fun v _ => by unfold takeR; rw [if_pos hD])]
        unfold rGo
        rw [if_neg h, if_pos hD]
        exact ⟨fun _ => h, fun t b h' => by cases h'⟩
      · have hT : ∀ v : Fin 5, takeR v rest = if (rest.dropWhile dB).takeWhile nB = unitWord v ∧ dsat (rest.takeWhile dB) ≤ unitMost v then some (dsat (rest.takeWhile dB), (rest.dropWhile dB).dropWhile nB) else none := by
          intro v; unfold takeR; rw [if_neg hD]
        unfold rGo
        rw [if_neg h, if_neg hD]
        by_cases hW : (rest.dropWhile dB).takeWhile az = unitWord u
        · rw [if_pos hW]
          by_cases hN : ((rest.dropWhile dB).takeWhile nB).all az = true
          · obtain ⟨r1, r2⟩ := run_same _ hN
            rw [r2]
            rw [r1] at hW
            have hTo : ∀ v ∈ us, takeR v rest = none := fun v hv => by
              rw [hT v, if_neg (fun h' => hn.1 (by rw [word_inj u v (hW.symm.trans h'.1)]; exact hv))]
            by_cases hb : u ≠ 0 ∧ unitMost u < dval (rest.takeWhile dB)
            · rw [if_pos hb, fold_stuck (u :: us) S rest (fun v hv => by
                rcases List.mem_cons.1 hv with rfl | hv
                · rw [hT v, if_neg (fun h' => (most_fit v _).1 h'.2 hb)]
                · exact hTo v hv)]
              exact ⟨fun _ => h, fun t b h' => by cases h'⟩
            · rw [if_neg hb]
              have e : pStep (S, rest) u = (S + min (dsat (rest.takeWhile dB)) (maxT / unitSize u + 1) * unitSize u, (rest.dropWhile dB).dropWhile nB) := by
                unfold pStep
                dsimp only
                rw [if_neg h, hT u, if_pos ⟨hW, (most_fit u _).2 hb⟩]
                rfl
              rw [List.foldl_cons, e]
              obtain ⟨a1, a2⟩ := agree_add u S tot (dval (rest.takeWhile dB)) big hA
              by_cases ho : maxT / unitSize u < dval (rest.takeWhile dB)
              · rw [if_pos ho]
                exact ih hn.2 _ _ _ _ (a1 ho)
              · rw [if_neg ho]
                exact ih hn.2 _ _ _ _ (a2 (by omega))
          · obtain ⟨c, t, r1, r2⟩ := run_other _ hN
            have hTo : ∀ v : Fin 5, takeR v rest = none := fun v => by
              rw [hT v, if_neg (fun h' => hN (by rw [h'.1]; exact word_az v))]
            rw [fold_stuck (u :: us) S rest (fun v _ => hTo v)]
            have hnone : ∀ (t' : Nat) (b' : Bool), rGo us ((rest.dropWhile dB).dropWhile az) t' b' = none := fun t' b' => rGo_stuck _ _ _ _ (by rw [r1]; simp) (by rw [r1, List.takeWhile_cons, if_neg (by rw [r2]; simp)])
            rw [hnone, hnone]
            refine ⟨fun _ => h, fun t b h' => ?_⟩
            split at h'
            · cases h'
            · split at h' <;> cases h'
        · rw [if_neg hW]
          have e : pStep (S, rest) u = (S, rest) := by
            unfold pStep
            dsimp only
            rw [if_neg h, hT u, if_neg (fun h' => hW (by rw [(run_same _ (by rw [h'.1]; exact word_az u)).1]; exact h'.1))]
          rw [List.foldl_cons, e]
          exact ih hn.2 _ _ _ _ hA
/-- both read alike -/
theorem ref_same (l : List UInt8) : refR l = parseR l := by
  unfold refR parseR
  by_cases h : l = [48]
  · rw [if_pos h, if_pos h]
  · rw [if_neg h, if_neg h]
    obtain ⟨g1, g2⟩ := go_same [0, 1, 2, 3, 4] (by decide) l 0 0 false ⟨fun _ => rfl, fun h' => by cases h'⟩
    cases hr : rGo [0, 1, 2, 3, 4] l 0 false with
    | none =>
      have R : parseP l = (0, 2) := by unfold parseP pRun; rw [if_pos (.inr (g1 hr))]
      rw [R]
    | some p =>
      obtain ⟨t, b⟩ := p
      obtain ⟨a1, a2⟩ := g2 t b hr
      dsimp only
      by_cases h0 : l = []
      · have R : parseP l = (0, 2) := by unfold parseP pRun; rw [if_pos (.inl h0)]
        rw [R, if_pos h0]
      · have R : parseP l = if maxT < ([0, 1, 2, 3, 4].foldl pStep (0, l)).1 then (0, 1) else ((([0, 1, 2, 3, 4].foldl pStep (0, l)).1 : Int), 0) := by
          unfold parseP pRun
          rw [if_neg (by rintro (h' | h'); exact h0 h'; exact h' a1)]
          rfl
        rw [R, if_neg h0]
        cases b
        · have e := a2.1 rfl
          rw [e]
          by_cases hm : maxT < t
          · rw [if_pos (.inr hm), if_pos hm]
          · rw [if_neg (by rintro (h' | h'); cases h'; exact hm h'), if_neg hm]
        · rw [if_pos (.inl rfl), if_pos (a2.2 rfl)]
end Go.Proofs.YtmiahbaadlddjaaDoor
