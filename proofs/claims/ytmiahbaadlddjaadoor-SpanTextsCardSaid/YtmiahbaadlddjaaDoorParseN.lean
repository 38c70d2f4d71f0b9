/- What Parse takes is what Text writes: plain lists. -/
import Derived.Test.YtmiahbaadlddjaaDoorParseM
namespace Go.Proofs.YtmiahbaadlddjaaDoor
open Go Go.Proofs Go.RowKit
set_option maxRecDepth 100000
theorem dval_pos : ∀ (D : List UInt8), D.all dB = true → D ≠ [] → D.head? ≠ some 48 → 0 < dval D := by
  intro D h h0 h1
  rcases D with _ | ⟨c, t⟩
  · exact absurd rfl h0
  · rw [List.all_cons, Bool.and_eq_true] at h
    have hc := (dB_iff c).1 h.1
    have hne : c.toNat ≠ 48 := fun e => h1 (by rw [List.head?_cons]; congr 1; exact UInt8.toNat_inj.1 e)
    have := dfold_ge t (dstep 0 c)
    have hs : dstep 0 c = c.toNat - 48 := by unfold dstep; omega
    have : dval (c :: t) = t.foldl dstep (dstep 0 c) := rfl
    omega
theorem dec_dval : ∀ (n : Nat) (D : List UInt8), D.length = n → D.all dB = true → D ≠ [] → D.head? ≠ some 48 → Lib.decDigits (dval D) = D := by
  intro n
  induction n with
  | zero => intro D hl _ h0 _; exact absurd (List.length_eq_zero_iff.1 hl) h0
  | succ n ih =>
    intro D hl h h0 h1
    obtain ⟨D', c, rfl⟩ : ∃ D' c, D = D' ++ [c] := ⟨D.dropLast, D.getLast h0, (List.dropLast_concat_getLast h0).symm⟩
    rw [List.all_append, Bool.and_eq_true, List.all_cons, List.all_nil, Bool.and_true] at h
    have hc := (dB_iff c).1 h.2
    rw [dval_snoc]
    have hback : UInt8.ofNat (48 + (c.toNat - 48)) = c := by
      rw [show 48 + (c.toNat - 48) = c.toNat by omega, UInt8.ofNat_toNat]
    rcases D' with _ | ⟨a, t⟩
    · have : dval [] = 0 := rfl
      rw [this, dec_small _ (by omega), show 0 * 10 + (c.toNat - 48) = c.toNat - 48 by omega, hback]
      rfl
    · have hp := dval_pos (a :: t) h.1 (by simp) (by simpa using h1)
      have hr := ih (a :: t) (by simpa using hl) h.1 (by simp) (by simpa using h1)
      generalize hv : dval (a :: t) = v at *
      rw [dec_step _ (by omega), show (v * 10 + (c.toNat - 48)) / 10 = v by omega, show (v * 10 + (c.toNat - 48)) % 10 = c.toNat - 48 by omega, hback, hr]
def bnd : List (Fin 5) → Nat
  | [] => 1
  | u :: _ => (unitMost u + 1) * unitSize u
def Chain : List (Fin 5) → Prop
  | [] => True
  | u :: us => bnd us = unitSize u ∧ Chain us
theorem tx_zero (us : List (Fin 5)) : tx us 0 = [] := by
  induction us with
  | nil => rfl
  | cons u t ih => rw [tx_cons, Nat.zero_div, Nat.zero_mod, ih]; rfl
theorem fold_nil (us : List (Fin 5)) (S : Nat) : us.foldl pStep (S, []) = (S, []) := by
  induction us with
  | nil => rfl
  | cons u t ih => rw [List.foldl_cons]; exact ih
theorem fold_ge (us : List (Fin 5)) : ∀ (S : Nat) (r : List UInt8), S ≤ (us.foldl pStep (S, r)).1 := by
  induction us with
  | nil => intro S r; exact Nat.le_refl _
  | cons u t ih =>
    intro S r
    rw [List.foldl_cons]
    have h : S ≤ (pStep (S, r) u).1 := by
      unfold pStep
      dsimp only
      split
      · exact Nat.le_refl _
      · split
        · exact Nat.le_refl _
        · exact Nat.le_add_right _ _
    exact Nat.le_trans h (ih _ _)
theorem canon (us : List (Fin 5)) : Chain us → ∀ (S : Nat) (rest : List UInt8), (us.foldl pStep (S, rest)).2 = [] → (us.foldl pStep (S, rest)).1 ≤ 4398046511104 → ∃ V, (us.foldl pStep (S, rest)).1 = S + V ∧ rest = tx us V ∧ V < bnd us := by
  induction us with
  | nil => intro _ S rest h _; exact ⟨0, rfl, h, Nat.one_pos⟩
  | cons u t ih =>
    intro hc S rest h hm
    obtain ⟨hb, hc⟩ := hc
    obtain ⟨z1, z2⟩ := unitSize_bd u
    have hbu : unitSize u ≤ bnd (u :: t) := by show unitSize u ≤ (unitMost u + 1) * unitSize u; rw [Nat.add_mul]; omega
    rw [List.foldl_cons] at h hm ⊢
    by_cases h0 : rest = []
    · subst h0
      have e : pStep (S, []) u = (S, []) := rfl
      rw [e, fold_nil] at *
      exact ⟨0, rfl, (tx_zero _).symm, by omega⟩
    · cases hT : takeR u rest with
      | none =>
        have e : pStep (S, rest) u = (S, rest) := by unfold pStep; dsimp only; rw [if_neg h0, hT]
        rw [e] at h hm ⊢
        obtain ⟨V, v1, v2, v3⟩ := ih hc S rest h hm
        refine ⟨V, v1, ?_, by omega⟩
        rw [tx_cons, Nat.div_eq_of_lt (by omega), Nat.mod_eq_of_lt (by omega), if_neg (by omega), List.nil_append]
        exact v2
      | some p =>
        obtain ⟨n, r⟩ := p
        have e : pStep (S, rest) u = (S + min n (4398046511104 / unitSize u + 1) * unitSize u, r) := by unfold pStep; dsimp only; rw [if_neg h0, hT]
        rw [e] at h hm ⊢
        obtain ⟨V, v1, v2, v3⟩ := ih hc _ r h hm
        unfold takeR at hT
        split at hT
        · cases hT
        · rename_i hD
          split at hT
          · rename_i hW
            cases hT
            obtain ⟨w1, w2⟩ := hW
            have hD0 : rest.takeWhile dB ≠ [] := fun h => hD (.inl h)
            have hD1 : (rest.takeWhile dB).head? ≠ some 48 := fun h => hD (.inr h)
            have hall := tw_all dB rest
            have hsplit : rest = rest.takeWhile dB ++ (unitWord u ++ (rest.dropWhile dB).dropWhile nB) := by
              conv => lhs; rw [← List.takeWhile_append_dropWhile (p := dB) (l := rest), ← List.takeWhile_append_dropWhile (p := nB) (l := rest.dropWhile dB), w1]
            have hle : min (dsat (rest.takeWhile dB)) (4398046511104 / unitSize u + 1) * unitSize u ≤ 4398046511104 := by omega
            have hcap : min (dsat (rest.takeWhile dB)) (4398046511104 / unitSize u + 1) ≤ 4398046511104 / unitSize u := (Nat.le_div_iff_mul_le (by omega)).2 hle
            have hcap2 : 4398046511104 / unitSize u ≤ 4398046511104 := Nat.div_le_self _ _
            have hn : min (dsat (rest.takeWhile dB)) (4398046511104 / unitSize u + 1) = dsat (rest.takeWhile dB) := by
              rcases Nat.le_total (dsat (rest.takeWhile dB)) (4398046511104 / unitSize u + 1) with h' | h'
              · exact Nat.min_eq_left h'
              · rw [Nat.min_eq_right h'] at hcap; omega
            rw [hn] at v1 hcap hle ⊢
            have hdv : dsat (rest.takeWhile dB) = dval (rest.takeWhile dB) := by
              unfold dsat at hcap ⊢
              split at hcap
              · rename_i h'; rw [if_pos h']
              · omega
            have hpos := dval_pos _ hall hD0 hD1
            have hdec := dec_dval _ _ rfl hall hD0 hD1
            rw [hdv] at v1 w2 ⊢
            rw [hb] at v3
            obtain ⟨d1, d2⟩ := div_part (dval (rest.takeWhile dB)) V (unitSize u) v3
            refine ⟨dval (rest.takeWhile dB) * unitSize u + V, by rw [v1, Nat.add_assoc], ?_, ?_⟩
            · rw [tx_cons, d1, d2, if_pos hpos, hdec, ← v2, List.append_assoc]
              exact hsplit
            · show _ < (unitMost u + 1) * unitSize u
              have := Nat.mul_le_mul_right (unitSize u) w2
              rw [Nat.add_mul]
              omega
          · cases hT
theorem parse_canon (l : List UInt8) (x : Int) (h : parseR l = (x, 0)) : ∃ n : Nat, x = (n : Int) ∧ n ≤ 4398046511104 ∧ textR n = l := by
  unfold parseR at h
  by_cases h1 : l = [48]
  · rw [if_pos h1] at h
    cases h
    exact ⟨0, rfl, by omega, by rw [h1]; rfl⟩
  · rw [if_neg h1] at h
    unfold parseP pRun at h
    split at h
    · cases h
    · rename_i h2
      split at h
      · cases h
      · rename_i h3
        have e1 := congrArg Prod.fst h
        dsimp only at e1
        have hr : ([0, 1, 2, 3, 4].foldl pStep (0, l)).2 = [] := Classical.byContradiction fun h' => h2 (.inr h')
        obtain ⟨V, v1, v2, v3⟩ := canon [0, 1, 2, 3, 4] (by refine ⟨rfl, rfl, rfl, rfl, rfl, trivial⟩) 0 l hr (by omega)
        rw [Nat.zero_add] at v1
        refine ⟨V, by rw [← e1, v1], by omega, ?_⟩
        rw [textR_tx]
        by_cases hV : V = 0
        · subst hV
          rw [tx_zero] at v2
          exact absurd v2 (fun h' => h2 (.inl h'))
        · rw [if_neg hV, ← v2]
end Go.Proofs.YtmiahbaadlddjaaDoor
