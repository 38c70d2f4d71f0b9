/- A set of a range as a pattern. -/
import Derived.Test.YtcfdpbbpdnpnnaaDoorPars
namespace Go.Proofs.YtcfdpbbpdnpnnaaDoor.Rx
theorem runM_bit (a : Nat) : ∀ (m i : Nat), (runM a m).testBit i = true ↔ a ≤ i ∧ i < a + m := by
  intro m
  induction m with
  | zero => intro i; simp [runM]
  | succ m ih =>
    intro i
    show (runM a m ||| 2 ^ (a + m)).testBit i = true ↔ _
    rw [or_bit, ih, Nat.testBit_two_pow]
    simp only [decide_eq_true_eq]
    omega
theorem single_letter (sp l : List UInt8) (k x : Nat) (h : pk l k = x) (h1 : 97 ≤ x) (h2 : x ≤ 122) (h3 : inS sp x = false) : singleF sp l k = .ok x (k + 1) := by
  unfold singleF
  rw [h, if_neg (by omega), if_neg (by rw [h3]; intro q; rcases q with q | q | q; omega; omega; cases q)]
set_option maxRecDepth 100000 in
theorem in_letter (x : Nat) (h1 : 97 ≤ x) (h2 : x ≤ 122) : inS inL x = false := by
  have key : ∀ y : Fin 256, 97 ≤ y.val → inS inL y.val = false := by decide
  exact key ⟨x, by omega⟩ h1
theorem range_letters (l : List UInt8) (k a b : Nat) (ha : pk l k = a) (hd : pk l (k + 1) = 45) (hb : pk l (k + 2) = b) (a1 : 97 ≤ a) (a2 : a ≤ 122) (b1 : 97 ≤ b) (b2 : b ≤ 122) :
    rangeF l k = if b < a then .bad 2 (k + 2) else .ok (a, b) (k + 3) := by
  unfold rangeF
  rw [single_letter inL l k a ha a1 a2 (in_letter a a1 a2)]
  dsimp only
  rw [if_pos hd, single_letter inL l (k + 1 + 1) b hb b1 b2 (in_letter b b1 b2)]
theorem items_letters (l : List UInt8) (k a b : Nat) (f : Nat) (ha : pk l k = a) (hd : pk l (k + 1) = 45) (hb : pk l (k + 2) = b) (he : pk l (k + 3) = 93) (a1 : 97 ≤ a) (a2 : a ≤ 122) (b1 : 97 ≤ b) (b2 : b ≤ 122) :
    itemsF l (f + 1) k [] = if b < a then .bad 2 (k + 2) else .ok [(a, b)] (k + 4) := by
  unfold itemsF
  rw [range_letters l k a b ha hd hb a1 a2 b1 b2]
  by_cases hlt : b < a
  · rw [if_pos hlt, if_pos hlt]
  · rw [if_neg hlt, if_neg hlt]
    dsimp only
    rw [if_pos he]; rfl
/-- all that stands there is one set -/
theorem compile_set (l : List UInt8) (h64 : l.length ≤ 64) (h91 : pk l 0 = 91) (r : Res Pt) (hs : setF l 0 = r) (hr : match r with | .ok p j => j = l.length | .bad _ _ => True) :
    compileF l = match r with | .ok p _ => .ok (.alt .nil (.seq .eps p)) 0 | .bad e j => .bad e j := by
  have hat : atomF (innerF l 9) l 0 = r := by unfold atomF; rw [if_neg (by omega), if_pos h91, hs]
  unfold compileF
  rw [if_neg (by omega)]
  cases r with
  | bad e j =>
    have h1 : partF (innerF l 9) l 0 = .bad e j := by unfold partF; rw [hat]
    have h2 : rowF (innerF l 9) l 0 = .bad e j := by unfold rowF; rw [h1]
    have h3 : choiceF (innerF l 9) l 0 = .bad e j := by unfold choiceF; rw [h2]
    rw [h3]
  | ok p j =>
    dsimp only at hr
    subst hr
    have hz : pk l l.length = 0 := pk_end (Nat.le_refl _)
    have h1 : partF (innerF l 9) l 0 = .ok p l.length := by unfold partF; rw [hat]; dsimp only; rw [hz]; simp
    have h2 : rowF (innerF l 9) l 0 = .ok (.seq .eps p) l.length := by
      unfold rowF; rw [h1]; dsimp only; unfold rowL
      rw [if_pos (by unfold rowEnd; simp)]
    have h3 : choiceF (innerF l 9) l 0 = .ok (.alt .nil (.seq .eps p)) l.length := by
      unfold choiceF; rw [h2]; dsimp only; unfold choiceL
      rw [if_neg (by rw [hz]; decide)]
    rw [h3]
    dsimp only
    rw [if_neg (Nat.lt_irrefl _)]
/-- what such a pattern takes -/
theorem match_leaf (m : Nat) (u : List UInt8) : matchN (.alt .nil (.seq .eps (.leaf m))) u = true ↔ ∃ c : UInt8, u = [c] ∧ m.testBit c.toNat = true := by
  rw [match_lang _ (by simp [leaves]), lang_alt, lang_seq]
  constructor
  · rintro (h | ⟨v, w, e, h1, h2⟩)
    · exact (lang_nil h).elim
    · rw [lang_eps] at h1; subst h1; rw [e]; exact lang_leaf.1 h2
  · intro h
    exact Or.inr ⟨[], u, rfl, lang_eps.2 rfl, lang_leaf.2 h⟩
/-- the two patterns of the law -/
def setP (neg : Bool) (a b : Nat) : Pt := .alt .nil (.seq .eps (.leaf (maskB neg [(a, b)])))
theorem set_plain_lt (a b : UInt8) (a1 : 97 ≤ a.toNat) (a2 : a.toNat ≤ 122) (b1 : 97 ≤ b.toNat) (b2 : b.toNat ≤ 122) (hlt : b.toNat < a.toNat) :
    compileF [91, a, 45, b, 93] = .bad 2 3 := by
  have hi := items_letters [91, a, 45, b, 93] 1 a.toNat b.toNat 5 rfl rfl rfl rfl a1 a2 b1 b2
  rw [if_pos hlt] at hi
  have hp : pk [91, a, 45, b, 93] (0 + 1) = a.toNat := rfl
  have hs : setF [91, a, 45, b, 93] 0 = .bad 2 3 := by
    unfold setF
    rw [if_neg (by rw [hp]; omega), show (pk [91, a, 45, b, 93] (0 + 1) == 94) = false from by rw [hp, beq_eq_false_iff_ne]; omega]
    show (match itemsF [91, a, 45, b, 93] (5 + 1) 1 [] with | .bad e j => Res.bad e j | .ok rs j => Res.ok (Pt.leaf (maskB false rs)) j) = _
    rw [hi]
  rw [compile_set [91, a, 45, b, 93] (by simp) rfl _ hs (by simp)]
theorem set_plain_le (a b : UInt8) (a1 : 97 ≤ a.toNat) (a2 : a.toNat ≤ 122) (b1 : 97 ≤ b.toNat) (b2 : b.toNat ≤ 122) (hlt : ¬ b.toNat < a.toNat) :
    compileF [91, a, 45, b, 93] = .ok (setP false a.toNat b.toNat) 0 := by
  have hi := items_letters [91, a, 45, b, 93] 1 a.toNat b.toNat 5 rfl rfl rfl rfl a1 a2 b1 b2
  rw [if_neg hlt] at hi
  have hp : pk [91, a, 45, b, 93] (0 + 1) = a.toNat := rfl
  have hs : setF [91, a, 45, b, 93] 0 = .ok (.leaf (maskB false [(a.toNat, b.toNat)])) 5 := by
    unfold setF
    rw [if_neg (by rw [hp]; omega), show (pk [91, a, 45, b, 93] (0 + 1) == 94) = false from by rw [hp, beq_eq_false_iff_ne]; omega]
    show (match itemsF [91, a, 45, b, 93] (5 + 1) 1 [] with | .bad e j => Res.bad e j | .ok rs j => Res.ok (Pt.leaf (maskB false rs)) j) = _
    rw [hi]
  rw [compile_set [91, a, 45, b, 93] (by simp) rfl _ hs (by simp)]
  rfl
theorem set_turned_lt (a b : UInt8) (a1 : 97 ≤ a.toNat) (a2 : a.toNat ≤ 122) (b1 : 97 ≤ b.toNat) (b2 : b.toNat ≤ 122) (hlt : b.toNat < a.toNat) :
    compileF [91, 94, a, 45, b, 93] = .bad 2 4 := by
  have hi := items_letters [91, 94, a, 45, b, 93] 2 a.toNat b.toNat 6 rfl rfl rfl rfl a1 a2 b1 b2
  rw [if_pos hlt] at hi
  have hs : setF [91, 94, a, 45, b, 93] 0 = .bad 2 4 := by
    show (match itemsF [91, 94, a, 45, b, 93] (6 + 1) 2 [] with | .bad e j => Res.bad e j | .ok rs j => Res.ok (Pt.leaf (maskB true rs)) j) = _
    rw [hi]
  rw [compile_set [91, 94, a, 45, b, 93] (by simp) rfl _ hs (by simp)]
theorem set_turned_le (a b : UInt8) (a1 : 97 ≤ a.toNat) (a2 : a.toNat ≤ 122) (b1 : 97 ≤ b.toNat) (b2 : b.toNat ≤ 122) (hlt : ¬ b.toNat < a.toNat) :
    compileF [91, 94, a, 45, b, 93] = .ok (setP true a.toNat b.toNat) 0 := by
  have hi := items_letters [91, 94, a, 45, b, 93] 2 a.toNat b.toNat 6 rfl rfl rfl rfl a1 a2 b1 b2
  rw [if_neg hlt] at hi
  have hs : setF [91, 94, a, 45, b, 93] 0 = .ok (.leaf (maskB true [(a.toNat, b.toNat)])) 6 := by
    show (match itemsF [91, 94, a, 45, b, 93] (6 + 1) 2 [] with | .bad e j => Res.bad e j | .ok rs j => Res.ok (Pt.leaf (maskB true rs)) j) = _
    rw [hi]
  rw [compile_set [91, 94, a, 45, b, 93] (by simp) rfl _ hs (by simp)]
  rfl
def inR (a b c : Nat) : Bool := decide (a ≤ c) && decide (c ≤ b)
theorem mask_bit (a b c : Nat) (h : a ≤ b) : (maskB false [(a, b)]).testBit c = inR a b c := by
  have e : maskB false [(a, b)] = 0 ||| runM a (b + 1 - a) := rfl
  rw [e, Nat.zero_or, Bool.eq_iff_iff, runM_bit]
  unfold inR
  simp
  omega
theorem mask_not (a b c : Nat) (h : a ≤ b) (hb : b ≤ 122) (hc : c < 256) : (maskB true [(a, b)]).testBit c = !(inR a b c) := by
  have e : maskB true [(a, b)] = 2 ^ 256 - (maskB false [(a, b)] + 1) := by
    show fullM - maskR [(a, b)] = 2 ^ 256 - (maskR [(a, b)] + 1)
    unfold fullM; omega
  have hlt : maskB false [(a, b)] < 2 ^ 256 := by
    apply Nat.lt_pow_two_of_testBit
    intro i hi
    have := mask_bit a b i h
    rw [this]; unfold inR
    simp; omega
  rw [e, Nat.testBit_two_pow_sub_succ hlt, mask_bit a b c h, decide_eq_true hc, Bool.true_and]
theorem set_takes (neg : Bool) (a b c : Nat) (hc : c < 256) (h : a ≤ b) (hb : b ≤ 122) : matchN (setP neg a b) [c.toUInt8] = (inR a b c != neg) := by
  have key := match_leaf (maskB neg [(a, b)]) [c.toUInt8]
  have e : c.toUInt8.toNat = c := by simp; omega
  rw [Bool.eq_iff_iff]
  show matchN (.alt .nil (.seq .eps (.leaf (maskB neg [(a, b)])))) [c.toUInt8] = true ↔ _
  rw [key]
  constructor
  · rintro ⟨d, hd, hm⟩
    cases hd
    rw [e] at hm
    cases neg
    · rw [mask_bit a b c h] at hm; rw [hm]; rfl
    · rw [mask_not a b c h hb hc] at hm; revert hm; cases inR a b c <;> simp
  · intro hm
    refine ⟨_, rfl, ?_⟩
    rw [e]
    cases neg
    · rw [mask_bit a b c h]; revert hm; cases inR a b c <;> simp
    · rw [mask_not a b c h hb hc]; revert hm; cases inR a b c <;> simp
theorem set_else (neg : Bool) (a b : Nat) (u : List UInt8) (hu : u.length ≠ 1) : matchN (setP neg a b) u = false := by
  have key := match_leaf (maskB neg [(a, b)]) u
  cases h : matchN (setP neg a b) u with
  | false => rfl
  | true =>
    obtain ⟨c, e, _⟩ := key.1 h
    rw [e] at hu; exact (hu rfl).elim
end Go.Proofs.YtcfdpbbpdnpnnaaDoor.Rx
