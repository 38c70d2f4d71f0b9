/- A time in words, and back: plain lists. -/
import Derived.Test.YtmiahbaadlddjaaDoorKnown
namespace Go.Proofs.YtmiahbaadlddjaaDoor
open Go Go.Proofs Go.RowKit
set_option maxRecDepth 100000
theorem dig_ofNat (r : Nat) (h : r < 10) : (UInt8.ofNat (48 + r)).toNat = 48 + r := by
  rw [UInt8.toNat_ofNat']; omega
theorem dec_step (n : Nat) (h : 10 ≤ n) : Lib.decDigits n = Lib.decDigits (n / 10) ++ [UInt8.ofNat (48 + n % 10)] := by
  rw [Lib.decDigits, dif_neg (by omega)]
theorem dec_small (n : Nat) (h : n < 10) : Lib.decDigits n = [UInt8.ofNat (48 + n)] := by
  rw [Lib.decDigits, dif_pos h]
theorem dval_dec : ∀ n : Nat, dval (Lib.decDigits n) = n := by
  intro n
  induction n using Nat.strongRecOn with
  | ind n ih =>
    by_cases h : n < 10
    · rw [dec_small n h]; unfold dval dstep; simp only [List.foldl_cons, List.foldl_nil, dig_ofNat n h]; omega
    · rw [dec_step n (by omega), dval_snoc, ih (n / 10) (by omega), dig_ofNat _ (Nat.mod_lt _ (by omega))]; omega
theorem dec_form : ∀ n : Nat, ∃ c t, Lib.decDigits n = c :: t ∧ (c :: t).all dB = true ∧ (c.toNat = 48 → n = 0) := by
  intro n
  induction n using Nat.strongRecOn with
  | ind n ih =>
    by_cases h : n < 10
    · refine ⟨_, [], dec_small n h, ?_, fun e => ?_⟩
      · simp only [List.all_cons, List.all_nil, Bool.and_true, dB_iff, dig_ofNat n h]; omega
      · rw [dig_ofNat n h] at e; omega
    · obtain ⟨c, t, e, a, z⟩ := ih (n / 10) (by omega)
      refine ⟨c, t ++ [UInt8.ofNat (48 + n % 10)], ?_, ?_, fun e' => ?_⟩
      · rw [dec_step n (by omega), e]; rfl
      · rw [← List.cons_append, List.all_append, a]
        simp only [List.all_cons, List.all_nil, Bool.and_true, Bool.true_and, dB_iff, dig_ofNat _ (Nat.mod_lt n (show 10 > 0 by omega))]
        omega
      · have := z e'; omega
/-- the text of what is left, by the units that are left -/
def tx : List (Fin 5) → Nat → List UInt8
  | [], _ => []
  | u :: us, d => (if 0 < d / unitSize u then Lib.decDigits (d / unitSize u) ++ unitWord u else []) ++ tx us (d % unitSize u)
theorem tx_cons (u : Fin 5) (us : List (Fin 5)) (d : Nat) : tx (u :: us) d = (if 0 < d / unitSize u then Lib.decDigits (d / unitSize u) ++ unitWord u else []) ++ tx us (d % unitSize u) := rfl
theorem tStep_is (acc : List UInt8) (d : Nat) (u : Fin 5) : tStep (acc, d) u = (if 0 < d / unitSize u then acc ++ Lib.decDigits (d / unitSize u) ++ unitWord u else acc, d % unitSize u) := rfl
theorem tRun_tx (us : List (Fin 5)) : ∀ (acc : List UInt8) (d : Nat), (us.foldl tStep (acc, d)).1 = acc ++ tx us d := by
  induction us with
  | nil => intro acc d; simp [tx]
  | cons u t ih =>
    intro acc d
    rw [List.foldl_cons, tStep_is, ih, tx_cons]
    by_cases h : 0 < d / unitSize u
    · rw [if_pos h, if_pos h, List.append_assoc, List.append_assoc, List.append_assoc]
    · rw [if_neg h, if_neg h, List.nil_append]
theorem div_part (q r z : Nat) (h : r < z) : (q * z + r) / z = q ∧ (q * z + r) % z = r :=
  ⟨by rw [Nat.add_comm, Nat.add_mul_div_right _ _ (by omega), Nat.div_eq_of_lt h, Nat.zero_add], by rw [Nat.add_comm, Nat.add_mul_mod_self_right, Nat.mod_eq_of_lt h]⟩
/-- nothing, or a digit ahead -/
def Fresh (R : List UInt8) : Prop := R = [] ∨ ∃ c t, R = c :: t ∧ dB c = true
theorem tw_app (p : UInt8 → Bool) (a b : List UInt8) (ha : a.all p = true) (hb : b = [] ∨ ∃ c t, b = c :: t ∧ p c = false) : (a ++ b).takeWhile p = a ∧ (a ++ b).dropWhile p = b := by
  induction a with
  | nil =>
    rcases hb with rfl | ⟨c, t, rfl, h⟩
    · exact ⟨rfl, rfl⟩
    · rw [List.nil_append, List.takeWhile_cons, List.dropWhile_cons, h]; exact ⟨rfl, rfl⟩
  | cons x t ih =>
    rw [List.all_cons, Bool.and_eq_true] at ha
    obtain ⟨h1, h2⟩ := ih ha.2
    rw [List.cons_append, List.takeWhile_cons, List.dropWhile_cons, if_pos ha.1, if_pos ha.1, h1, h2]
    exact ⟨rfl, rfl⟩
theorem word_form (u : Fin 5) : ∃ c t, unitWord u = c :: t ∧ (c :: t).all nB = true ∧ dB c = false := by
  match u with
  | 0 => exact ⟨_, _, rfl, by decide, by decide⟩
  | 1 => exact ⟨_, _, rfl, by decide, by decide⟩
  | 2 => exact ⟨_, _, rfl, by decide, by decide⟩
  | 3 => exact ⟨_, _, rfl, by decide, by decide⟩
  | 4 => exact ⟨_, _, rfl, by decide, by decide⟩
theorem word_inj : ∀ u v : Fin 5, unitWord u = unitWord v → u = v := by decide
theorem parts_of (q : Nat) (u : Fin 5) (R : List UInt8) (hR : Fresh R) :
    (Lib.decDigits q ++ unitWord u ++ R).takeWhile dB = Lib.decDigits q ∧ ((Lib.decDigits q ++ unitWord u ++ R).dropWhile dB).takeWhile nB = unitWord u ∧ ((Lib.decDigits q ++ unitWord u ++ R).dropWhile dB).dropWhile nB = R := by
  obtain ⟨c, t, e, a, _⟩ := dec_form q
  obtain ⟨c', t', e', a', b'⟩ := word_form u
  rw [List.append_assoc]
  obtain ⟨h1, h2⟩ := tw_app dB (Lib.decDigits q) (unitWord u ++ R) (by rw [e]; exact a) (.inr ⟨c', t' ++ R, by rw [e']; rfl, b'⟩)
  rw [h1, h2]
  obtain ⟨h3, h4⟩ := tw_app nB (unitWord u) R (by rw [e']; exact a') (by
    rcases hR with h | ⟨c, t, h, hc⟩
    · exact .inl h
    · exact .inr ⟨c, t, h, by unfold nB; rw [hc]; rfl⟩)
  exact ⟨rfl, h3, h4⟩
theorem dec_head (q : Nat) (h : 0 < q) : ¬ (Lib.decDigits q = [] ∨ (Lib.decDigits q).head? = some 48) := by
  obtain ⟨c, t, e, _, z⟩ := dec_form q
  rw [e]
  rintro (h' | h')
  · cases h'
  · simp only [List.head?_cons, Option.some.injEq] at h'
    subst h'
    have := z rfl
    omega
theorem takeR_own (u : Fin 5) (q : Nat) (R : List UInt8) (h : 0 < q) (hq : q ≤ unitMost u) (hq2 : q ≤ 18446744073709551615) (hR : Fresh R) : takeR u (Lib.decDigits q ++ unitWord u ++ R) = some (q, R) := by
  obtain ⟨h1, h2, h3⟩ := parts_of q u R hR
  unfold takeR
  rw [h1, h2, h3, if_neg (dec_head q h)]
  have : dsat (Lib.decDigits q) = q := by unfold dsat; rw [dval_dec, if_pos hq2]
  rw [this, if_pos ⟨rfl, hq⟩]
theorem takeR_other (u v : Fin 5) (q : Nat) (R : List UInt8) (h : 0 < q) (hne : v ≠ u) (hR : Fresh R) : takeR u (Lib.decDigits q ++ unitWord v ++ R) = none := by
  obtain ⟨h1, h2, h3⟩ := parts_of q v R hR
  unfold takeR
  rw [h1, h2, h3, if_neg (dec_head q h), if_neg (fun e => hne (word_inj _ _ e.1))]
theorem tx_form (us : List (Fin 5)) : ∀ d : Nat, tx us d = [] ∨ ∃ u q R, u ∈ us ∧ 0 < q ∧ tx us d = Lib.decDigits q ++ unitWord u ++ R ∧ Fresh R := by
  induction us with
  | nil => intro d; exact .inl rfl
  | cons u t ih =>
    intro d
    have hf : Fresh (tx t (d % unitSize u)) := by
      rcases ih (d % unitSize u) with h | ⟨v, q, R, _, hq, h, _⟩
      · exact .inl h
      · obtain ⟨c, t', e, a, _⟩ := dec_form q
        refine .inr ⟨c, t' ++ unitWord v ++ R, by rw [h, e]; rfl, ?_⟩
        rw [List.all_cons, Bool.and_eq_true] at a
        exact a.1
    rw [tx_cons]
    by_cases h : 0 < d / unitSize u
    · rw [if_pos h]
      exact .inr ⟨u, _, _, List.mem_cons_self, h, rfl, hf⟩
    · rw [if_neg h, List.nil_append]
      rcases ih (d % unitSize u) with h' | ⟨v, q, R, hv, hq, h', hR⟩
      · exact .inl h'
      · exact .inr ⟨v, q, R, List.mem_cons_of_mem _ hv, hq, h', hR⟩
theorem tx_fresh (us : List (Fin 5)) (d : Nat) : Fresh (tx us d) := by
  rcases tx_form us d with h | ⟨v, q, R, _, hq, h, _⟩
  · exact .inl h
  · obtain ⟨c, t', e, a, _⟩ := dec_form q
    refine .inr ⟨c, t' ++ unitWord v ++ R, by rw [h, e]; rfl, ?_⟩
    rw [List.all_cons, Bool.and_eq_true] at a
    exact a.1
/-- each count is one that its unit bears -/
def Fit : List (Fin 5) → Nat → Prop
  | [], _ => True
  | u :: us, d => d / unitSize u ≤ unitMost u ∧ d / unitSize u ≤ 4398046511104 / unitSize u ∧ d / unitSize u ≤ 18446744073709551615 ∧ Fit us (d % unitSize u)
def sumV : List (Fin 5) → Nat → Nat
  | [], _ => 0
  | u :: us, d => d / unitSize u * unitSize u + sumV us (d % unitSize u)
theorem sumV_cons (u : Fin 5) (us : List (Fin 5)) (d : Nat) : sumV (u :: us) d = d / unitSize u * unitSize u + sumV us (d % unitSize u) := rfl
theorem tx_back (us : List (Fin 5)) : us.Nodup → ∀ S d : Nat, Fit us d → us.foldl pStep (S, tx us d) = (S + sumV us d, []) := by
  induction us with
  | nil => intro _ S d _; simp [tx, sumV]
  | cons u t ih =>
    intro hn S d hf
    obtain ⟨f1, f2, f3, f4⟩ := hf
    rw [List.nodup_cons] at hn
    rw [List.foldl_cons]
    have e : pStep (S, tx (u :: t) d) u = (S + d / unitSize u * unitSize u, tx t (d % unitSize u)) := by
      rw [tx_cons]
      unfold pStep
      dsimp only
      by_cases h : 0 < d / unitSize u
      · rw [if_pos h, takeR_own u _ _ h f1 f3 (tx_fresh _ _), if_neg]
        · dsimp only
          rw [Nat.min_eq_left (Nat.le_succ_of_le f2)]
        · obtain ⟨c, t', e, _⟩ := dec_form (d / unitSize u)
          rw [e]; simp
      · rw [if_neg h, List.nil_append]
        have h0 : d / unitSize u = 0 := Nat.eq_zero_of_not_pos h
        rw [h0, Nat.zero_mul]
        rcases tx_form t (d % unitSize u) with h' | ⟨v, q, R, hv, hq, h', hR⟩
        · rw [if_pos h']; rfl
        · by_cases hn0 : tx t (d % unitSize u) = []
          · rw [if_pos hn0]; rfl
          · rw [if_neg hn0, h', takeR_other u v q R hq (fun e => hn.1 (e ▸ hv)) hR]; rfl
    rw [e, ih hn.2 _ _ f4, sumV_cons, Nat.add_assoc]
theorem fit_all (d : Nat) (h : d ≤ 4398046511104) : Fit [0, 1, 2, 3, 4] d := by
  simp only [Fit, unitSize, unitMost]
  refine ⟨by omega, by omega, by omega, by omega, by omega, by omega, by omega, by omega, by omega, by omega, by omega, by omega, by omega, by omega, by omega, trivial⟩
theorem sum_all (d : Nat) : sumV [0, 1, 2, 3, 4] d = d := by
  simp only [sumV, unitSize]
  omega
theorem textR_tx (d : Nat) : textR d = if d = 0 then [48] else tx [0, 1, 2, 3, 4] d := by
  unfold textR tRun
  rw [tRun_tx, List.nil_append]
theorem tx_pos (d : Nat) (h : 0 < d) : ∃ c t, tx [0, 1, 2, 3, 4] d = c :: t ∧ c ≠ 48 := by
  rcases tx_form [0, 1, 2, 3, 4] d with e | ⟨u, q, R, _, hq, e, _⟩
  · exfalso
    have hb : ∀ us d, tx us d = [] → sumV us d = 0 := by
      intro us
      induction us with
      | nil => intro d _; rfl
      | cons u t ih =>
        intro d h
        rw [tx_cons, List.append_eq_nil_iff] at h
        rw [sumV_cons, ih _ h.2]
        by_cases h1 : 0 < d / unitSize u
        · rw [if_pos h1] at h
          obtain ⟨c, t', e, _⟩ := dec_form (d / unitSize u)
          rw [e] at h; cases h.1
        · have : d / unitSize u = 0 := Nat.eq_zero_of_not_pos h1
          rw [this, Nat.zero_mul]
    have := hb _ _ e
    rw [sum_all] at this
    omega
  · obtain ⟨c, t, e2, _, z⟩ := dec_form q
    refine ⟨c, t ++ unitWord u ++ R, by rw [e, e2]; rfl, fun e3 => ?_⟩
    have := z (by rw [e3]; rfl)
    omega
/-- of any time in words Parse answers the time -/
theorem parse_text (d : Nat) (h : d ≤ 4398046511104) : parseR (textR d) = ((d : Int), 0) := by
  rw [textR_tx]
  by_cases h0 : d = 0
  · subst h0; rfl
  · rw [if_neg h0]
    obtain ⟨c, t, e, hc⟩ := tx_pos d (by omega)
    have hb := tx_back [0, 1, 2, 3, 4] (by decide) 0 d (fit_all d h)
    rw [sum_all, Nat.zero_add] at hb
    unfold parseR parseP pRun
    rw [hb]
    rw [if_neg (by rw [e]; intro h; injection h with h1 _; exact hc h1), if_neg (by rw [e]; simp), if_neg (by omega)]
end Go.Proofs.YtmiahbaadlddjaaDoor
