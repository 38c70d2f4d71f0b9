/- A quoted text as a pattern: it takes just itself. -/
import Derived.Test.YtcfdpbbpdnpnnaaDoorPars
import Derived.Test.YtcfdpbbpdnpnnaaDoorRQuote
namespace Go.Proofs.YtcfdpbbpdnpnnaaDoor.Rx
/-- what a quoted text is as a pattern -/
def quoteP (l : List UInt8) : Pt := l.foldl (fun acc c => .seq acc (.leaf (2 ^ c.toNat))) .eps
theorem quoteP_snoc (l : List UInt8) (c : UInt8) : quoteP (l ++ [c]) = .seq (quoteP l) (.leaf (2 ^ c.toNat)) := by unfold quoteP; rw [List.foldl_append]; rfl
theorem fold_leaves (l : List UInt8) : ∀ acc, leaves (l.foldl (fun acc c => Pt.seq acc (.leaf (2 ^ c.toNat))) acc) = leaves acc + l.length := by
  induction l with
  | nil => intro acc; rfl
  | cons c t ih => intro acc; rw [List.foldl_cons, ih, List.length_cons]; simp only [leaves]; omega
theorem fold_lang (l : List UInt8) : ∀ acc u, Lang (l.foldl (fun acc c => Pt.seq acc (.leaf (2 ^ c.toNat))) acc) u ↔ ∃ v, Lang acc v ∧ u = v ++ l := by
  induction l with
  | nil => intro acc u; exact ⟨fun h => ⟨u, h, (List.append_nil u).symm⟩, fun ⟨v, h, e⟩ => by rw [e, List.append_nil]; exact h⟩
  | cons c t ih =>
    intro acc u
    rw [List.foldl_cons, ih]
    constructor
    · rintro ⟨v, h, e⟩
      obtain ⟨a, b, e1, ha, hb⟩ := lang_seq.1 h
      obtain ⟨d, e2, hd⟩ := lang_leaf.1 hb
      rw [Nat.testBit_two_pow] at hd
      have : d = c := by apply UInt8.toNat_inj.1; simpa using (of_decide_eq_true hd).symm
      subst this
      exact ⟨a, ha, by rw [e, e1, e2]; simp⟩
    · rintro ⟨v, h, e⟩
      exact ⟨v ++ [c], lang_seq.2 ⟨v, [c], rfl, h, lang_leaf.2 ⟨c, rfl, by rw [Nat.testBit_two_pow]; simp⟩⟩, by rw [e]; simp⟩
theorem quote_match (l u : List UInt8) (hl : l.length < 256) : matchN (.alt .nil (quoteP l)) u = decide (u = l) := by
  have hlv : leaves (.alt .nil (quoteP l)) < 256 := by show 0 + leaves (quoteP l) < 256; unfold quoteP; rw [fold_leaves]; simp only [leaves]; omega
  rw [Bool.eq_iff_iff, match_lang _ hlv, lang_alt, decide_eq_true_iff]
  unfold quoteP
  rw [fold_lang]
  constructor
  · rintro (h | ⟨v, h, e⟩)
    · exact (lang_nil h).elim
    · rw [lang_eps] at h; subst h; rw [e]; rfl
  · intro h; exact Or.inr ⟨[], .eps, by rw [h]; rfl⟩
-- the reading
def okB (c : UInt8) : Prop := 32 ≤ c.toNat ∧ c.toNat ≤ 126
theorem pk_app (a b : List UInt8) (i : Nat) : pk (a ++ b) (a.length + i) = pk b i := by
  unfold pk
  rw [List.getElem?_append_right (by omega)]
  congr 3; omega
theorem pk_at (a b : List UInt8) : pk (a ++ b) a.length = pk b 0 := pk_app a b 0
/-- the first byte of a quoted text: no sign of how often, nor of an end -/
def Calm (x : Nat) : Prop := x ≠ 42 ∧ x ≠ 43 ∧ x ≠ 63 ∧ x ≠ 124 ∧ x ≠ 41
set_option maxRecDepth 100000 in
theorem quoteC_facts (c : UInt8) : (quoteC c = [92, c]) ∨ (quoteC c = [c] ∧ Calm c.toNat ∧ c.toNat ≠ 40 ∧ c.toNat ≠ 91 ∧ c.toNat ≠ 46 ∧ c.toNat ≠ 92 ∧ inS outL c.toNat = false) := by
  unfold quoteC
  split
  · exact Or.inl rfl
  · rename_i h
    refine Or.inr ⟨rfl, ?_⟩
    have key : ∀ x : Fin 256, (specialL.contains x.val.toUInt8 || x.val.toUInt8.toNat == 46) = false → ((x.val ≠ 42 ∧ x.val ≠ 43 ∧ x.val ≠ 63 ∧ x.val ≠ 124 ∧ x.val ≠ 41) ∧ x.val ≠ 40 ∧ x.val ≠ 91 ∧ x.val ≠ 46 ∧ x.val ≠ 92 ∧ inS outL x.val = false) := by decide +kernel
    have k := key ⟨c.toNat, c.toNat_lt⟩
    simp only [show c.toNat.toUInt8 = c from by simp] at k
    exact k (by simpa using h)
theorem quote_first (l : List UInt8) : Calm (pk (quoteR l) 0) := by
  cases l with
  | nil => show Calm 0; unfold Calm; omega
  | cons c t =>
    show Calm (pk (quoteC c ++ quoteR t) 0)
    rcases quoteC_facts c with h | ⟨h, hc, _⟩
    · rw [h]; show Calm 92; unfold Calm; omega
    · rw [h]; exact hc
theorem part_quote (inner : Nat → Res Pt) (a : List UInt8) (c : UInt8) (t : List UInt8) (hc : okB c) :
    partF inner (a ++ (quoteC c ++ quoteR t)) a.length = .ok (.leaf (2 ^ c.toNat)) (a ++ quoteC c).length := by
  have p0 := pk_at a (quoteC c ++ quoteR t)
  have p1 := pk_app a (quoteC c ++ quoteR t) 1
  have pn : pk (a ++ (quoteC c ++ quoteR t)) (a ++ quoteC c).length = pk (quoteR t) 0 := by rw [← List.append_assoc]; exact pk_at (a ++ quoteC c) (quoteR t)
  obtain ⟨n1, n2, n3, _, _⟩ := quote_first t
  have hat : atomF inner (a ++ (quoteC c ++ quoteR t)) a.length = .ok (.leaf (2 ^ c.toNat)) (a ++ quoteC c).length := by
    unfold okB at hc
    unfold atomF singleF
    rcases quoteC_facts c with h | ⟨h, hn, h1, h2, h3, h4, h5⟩
    · rw [h] at p0 p1 ⊢
      have q0 : pk (a ++ ([92, c] ++ quoteR t)) a.length = 92 := p0
      have q1 : pk (a ++ ([92, c] ++ quoteR t)) (a.length + 1) = c.toNat := p1
      rw [if_neg (by omega), if_neg (by omega), if_neg (by omega), if_pos q0, q1, if_neg (by omega)]
      simp
    · rw [h] at p0 p1 ⊢
      have q0 : pk (a ++ ([c] ++ quoteR t)) a.length = c.toNat := p0
      rw [if_neg (by omega), if_neg (by omega), if_neg (by omega), if_neg (by omega), q0, if_neg (by rw [h5]; intro q; rcases q with q | q | q; omega; omega; cases q)]
      simp
  unfold partF
  rw [hat]
  dsimp only
  rw [pn, if_neg n1, if_neg n2, if_neg n3]
theorem rowL_quote (inner : Nat → Res Pt) : ∀ (t : List UInt8) (a : List UInt8) (acc : Pt) (f : Nat), (∀ c ∈ t, okB c) → t.length < f →
    rowL inner (a ++ quoteR t) f a.length acc = .ok (t.foldl (fun acc c => Pt.seq acc (.leaf (2 ^ c.toNat))) acc) (a ++ quoteR t).length := by
  intro t
  induction t with
  | nil =>
    intro a acc f _ hf
    obtain ⟨f, rfl⟩ : ∃ g, f = g + 1 := ⟨f - 1, by omega⟩
    have e : a ++ quoteR [] = a := List.append_nil a
    rw [e]
    unfold rowL
    rw [if_pos (by unfold rowEnd; simp)]
    rfl
  | cons c t ih =>
    intro a acc f hok hf
    obtain ⟨f, rfl⟩ : ∃ g, f = g + 1 := ⟨f - 1, by omega⟩
    have hq : quoteR (c :: t) = quoteC c ++ quoteR t := rfl
    have p0 := pk_at a (quoteR (c :: t))
    obtain ⟨_, _, _, n4, n5⟩ := quote_first (c :: t)
    have hlen : 0 < (quoteC c).length := by unfold quoteC; split <;> simp
    have hqn : 0 < (quoteR (c :: t)).length := by rw [hq, List.length_append]; omega
    unfold rowL
    rw [if_neg (by
      unfold rowEnd
      rw [p0]
      simp only [List.length_append, Bool.or_eq_true, decide_eq_true_eq, beq_iff_eq, not_or]
      exact ⟨⟨by omega, n4⟩, n5⟩)]
    rw [hq, part_quote inner a c t (hok c List.mem_cons_self)]
    dsimp only
    have k := ih (a ++ quoteC c) (.seq acc (.leaf (2 ^ c.toNat))) f (fun d hd => hok d (List.mem_cons_of_mem _ hd)) (by rw [List.length_cons] at hf; omega)
    rw [List.append_assoc] at k
    exact k
theorem compile_quote (l : List UInt8) (h0 : l ≠ []) (h30 : l.length ≤ 30) (hok : ∀ c ∈ l, okB c) : compileF (quoteR l) = .ok (.alt .nil (quoteP l)) 0 := by
  have hlen : (quoteR l).length ≤ 60 := by have := quoteR_len l; omega
  have hle : l.length ≤ (quoteR l).length := by
    clear h0 h30 hok hlen
    induction l with
    | nil => exact Nat.le_refl _
    | cons c t ih =>
      show _ ≤ (quoteC c ++ quoteR t).length
      rw [List.length_append, List.length_cons]
      have : 0 < (quoteC c).length := by unfold quoteC; split <;> simp
      omega
  obtain ⟨c, t, rfl⟩ : ∃ c t, l = c :: t := by cases l with | nil => exact (h0 rfl).elim | cons c t => exact ⟨c, t, rfl⟩
  have hp := part_quote (innerF (quoteR (c :: t)) 9) [] c t (hok c List.mem_cons_self)
  have hp' : partF (innerF (quoteR (c :: t)) 9) (quoteR (c :: t)) 0 = .ok (.leaf (2 ^ c.toNat)) (quoteC c).length := hp
  have hr : rowF (innerF (quoteR (c :: t)) 9) (quoteR (c :: t)) 0 = .ok (quoteP (c :: t)) (quoteR (c :: t)).length := by
    unfold rowF
    rw [hp']
    exact rowL_quote _ t (quoteC c) (.seq .eps (.leaf (2 ^ c.toNat))) _ (fun d hd => hok d (List.mem_cons_of_mem _ hd)) (by rw [List.length_cons] at hle; omega)
  have hz : pk (quoteR (c :: t)) (quoteR (c :: t)).length = 0 := pk_end (Nat.le_refl _)
  unfold compileF choiceF
  rw [if_neg (by omega), hr]
  dsimp only
  unfold choiceL
  rw [if_neg (by rw [hz]; decide)]
  dsimp only
  rw [if_neg (Nat.lt_irrefl _)]
end Go.Proofs.YtcfdpbbpdnpnnaaDoor.Rx
