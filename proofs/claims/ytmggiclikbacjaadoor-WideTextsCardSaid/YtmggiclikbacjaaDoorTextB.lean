/- The law on texts, walked. -/
import Derived.Test.YtmggiclikbacjaaDoorLawTwo
import Derived.Test.YtmggiclikbacjaaDoorRefL
namespace Go.Proofs.YtmggiclikbacjaaDoor
open Go Go.Proofs Go.RowKit
set_option maxRecDepth 100000
attribute [local go_sem] cell_set
theorem isDec_init (t : List UInt8) (c : UInt8) (hne : t ≠ []) (h : isDec (t ++ [c]) = true) : isDec t = true ∧ isDig c = true ∧ 1 ≤ valD t := by
  obtain ⟨a, u, rfl⟩ := List.exists_cons_of_ne_nil hne
  rw [List.cons_append, isDec_cons, ← List.cons_append, List.all_append] at h
  simp only [Bool.and_eq_true, Bool.or_eq_true, decide_eq_true_eq, List.all_cons, List.all_nil, and_true] at h
  obtain ⟨⟨⟨h1, h2⟩, h3⟩, h4⟩ := h
  have h5 : a.toNat ≠ 48 := by
    rcases h4 with h4 | h4
    · exact h4
    · simp at h4
  refine ⟨?_, h3, ?_⟩
  · rw [isDec_cons]; simp [h1, h2, h5]
  · have m := valD_mono (a :: u) 1
    unfold isDig at h1
    simp only [Bool.and_eq_true, decide_eq_true_eq] at h1
    have e : valD ((a :: u).take 1) = a.toNat - 48 := by simp [valD]
    omega
theorem dec_back : ∀ (n : Nat) (d : List UInt8), d.length = n → isDec d = true → Lib.decDigits (valD d) = d := by
  intro n
  induction n with
  | zero => intro d hl h; have : d = [] := List.eq_nil_of_length_eq_zero hl; subst this; cases h
  | succ n ih =>
    intro d hl h
    have hne : d ≠ [] := by intro e; subst e; cases hl
    obtain ⟨t, c, rfl⟩ : ∃ t c, d = t ++ [c] := ⟨d.dropLast, d.getLast hne, (List.dropLast_concat_getLast hne).symm⟩
    have dc := isDec_digits h c (by simp)
    have oc : UInt8.ofNat (48 + (c.toNat - 48)) = c := by rw [show 48 + (c.toNat - 48) = c.toNat by omega]; exact UInt8.ofNat_toNat
    rcases t with _ | ⟨a, u⟩
    · rw [show valD ([] ++ [c]) = c.toNat - 48 by simp [valD], decDigits_small _ (by omega), oc]; rfl
    · obtain ⟨i1, i2, i3⟩ := isDec_init (a :: u) c (by simp) h
      rw [valD_snoc, decDigits_step _ (by omega), show (valD (a :: u) * 10 + (c.toNat - 48)) / 10 = valD (a :: u) by omega, show (valD (a :: u) * 10 + (c.toNat - 48)) % 10 = c.toNat - 48 by omega, oc,
        ih (a :: u) (by simp at hl ⊢; exact hl) i1]
theorem itoa_signed (b : Bool) (d : List UInt8) (h : isDec d = true) (hz : ¬ (b = true ∧ d = [48])) : Lib.itoa (signed b d) = if b then 45 :: d else d := by
  have hb := dec_back _ d rfl h
  unfold signed Lib.itoa
  cases b
  · simp [hb]
  · have hp : 0 < valD d := by
      rcases Nat.eq_zero_or_pos (valD d) with e | e
      · exfalso; apply hz; refine ⟨rfl, ?_⟩; rw [← hb, e, dec_nought]
      · exact e
    have h1 : (if true = true then (-1 : Int) else 1) * (valD d : Int) = -(valD d : Int) := by simp
    rw [h1, if_pos (by omega), show (-(valD d : Int)).natAbs = valD d by omega, hb]
    rfl
theorem prefix_parts (l : List UInt8) : (Lib.hasPrefix l [45] = true ∧ l = 45 :: Lib.trimPrefix l [45]) ∨ (Lib.hasPrefix l [45] = false ∧ Lib.trimPrefix l [45] = l ∧ ∀ c t, l = c :: t → c ≠ 45) := by
  unfold Lib.trimPrefix Lib.hasPrefix
  rcases l with _ | ⟨c, t⟩
  · right; exact ⟨rfl, rfl, by intro _ _ h; cases h⟩
  · by_cases hc : c = 45
    · subst hc; left; simp [List.isPrefixOf]
    · right
      have : (45 == c) = false := by rw [beq_eq_false_iff_ne]; intro e; exact hc e.symm
      refine ⟨by simp [List.isPrefixOf, this], by simp [List.isPrefixOf, this], ?_⟩
      intro c' t' h; cases h; exact hc
theorem ba_eq (s : ByteArray) (l : List UInt8) (h : s.data.toList = l) : s = ⟨l.toArray⟩ := by
  subst h; rfl
/-- what the two answer alike -/
theorem parse_both (s : ByteArray) (hs : s.size ≤ 200) : ∃ h l e0 : Int,
    Hid (∀ W, Calls Tryd.prog 18 #[.string s] W fun e w' => e = .returned (.tuple #[.agg #[.int .i64 h, .int .u64 l], .int .i64 e0]) ∧ Below W.heap.size W w') ∧
    Hid (∀ W, Calls Tryd.prog 23 #[.string s] W fun e w' => e = .returned (.tuple #[.agg #[.int .i64 h, .int .u64 l], .int .i64 e0]) ∧ Below W.heap.size W w') ∧
    ((e0 = 0 ∧ InI h l ∧ (⟨(Lib.itoa (val h l)).toArray⟩ : ByteArray) = s) ∨ e0 = 2 ∨ e0 = 7) := by
  have hs9 : s.size ≤ 9223372036854775807 := by omega
  have hsl := ba_size s _ rfl
  obtain ⟨d, hd⟩ : ∃ d, Lib.trimPrefix s.data.toList [45] = d := ⟨_, rfl⟩
  obtain ⟨b, hb⟩ : ∃ b, Lib.hasPrefix s.data.toList [45] = b := ⟨_, rfl⟩
  have pp := prefix_parts s.data.toList
  rw [hd, hb] at pp
  have main : ∀ (no : (isDec d && !(b && (d == [48]))) = false → ∀ W, Calls Tryd.prog 23 #[.string s] W fun e w' => e = .returned (.tuple #[.agg #[.int .i64 0, .int .u64 0], .int .i64 2]) ∧ Below W.heap.size W w')
      (lg : (isDec d && !(b && (d == [48]))) = true → 39 < d.length → ∀ W, Calls Tryd.prog 23 #[.string s] W fun e w' => e = .returned (.tuple #[.agg #[.int .i64 0, .int .u64 0], .int .i64 7]) ∧ Below W.heap.size W w')
      (ys : (isDec d && !(b && (d == [48]))) = true → d.length ≤ 39 → ∀ h l e0, Says b d h l e0 → ∀ W, Calls Tryd.prog 23 #[.string s] W fun e w' => e = .returned (.tuple #[.agg #[.int .i64 h, .int .u64 l], .int .i64 e0]) ∧ Below W.heap.size W w'), ∃ h l e0 : Int,
    Hid (∀ W, Calls Tryd.prog 18 #[.string s] W fun e w' => e = .returned (.tuple #[.agg #[.int .i64 h, .int .u64 l], .int .i64 e0]) ∧ Below W.heap.size W w') ∧
    Hid (∀ W, Calls Tryd.prog 23 #[.string s] W fun e w' => e = .returned (.tuple #[.agg #[.int .i64 h, .int .u64 l], .int .i64 e0]) ∧ Below W.heap.size W w') ∧
    ((e0 = 0 ∧ InI h l ∧ (⟨(Lib.itoa (val h l)).toArray⟩ : ByteArray) = s) ∨ e0 = 2 ∨ e0 = 7) := by
    intro no lg ys
    by_cases hq : (isDec d && !(b && (d == [48]))) = true
    · have hq2 := hq
      rw [Bool.and_eq_true] at hq2
      obtain ⟨h1, h2⟩ := hq2
      have hz : ¬ (b = true ∧ d = [48]) := by rintro ⟨rfl, rfl⟩; simp at h2
      by_cases h39 : d.length ≤ 39
      · obtain ⟨h, l, e0, sy⟩ := says_ex b d
        refine ⟨h, l, e0, ?_, ys hq h39 h l e0 sy, ?_⟩
        · rcases sy with ⟨f, i, v, rfl⟩ | ⟨f, rfl, rfl, rfl⟩
          · exact fun W => Parse_ok s hs9 d b hd hb h1 h39 hz h l i v W
          · exact fun W => Parse_over s hs9 d b hd hb h1 h39 hz f W
        · rcases sy with ⟨f, i, v, rfl⟩ | ⟨f, rfl, rfl, rfl⟩
          · refine .inl ⟨rfl, i, ?_⟩
            rw [v, itoa_signed b d h1 hz]
            refine (ba_eq s _ ?_).symm
            rcases pp with ⟨rfl, e⟩ | ⟨rfl, e, _⟩
            · exact e
            · exact e.symm
          · exact .inr (.inr rfl)
      · exact ⟨0, 0, 7, fun W => Parse_long s hs9 d b hd hb h1 (by omega) W, lg hq (by omega), .inr (.inr rfl)⟩
    · have hqf : (isDec d && !(b && (d == [48]))) = false := by simpa using hq
      refine ⟨0, 0, 2, fun W => Parse_no s hs9 ?_ W, no hqf, .inr (.inl rfl)⟩
      rw [hd, hb]
      rcases Bool.and_eq_false_iff.1 hqf with h | h
      · exact .inl h
      · right; cases b <;> simp at h; exact ⟨rfl, h⟩
  rcases pp with ⟨hb1, e⟩ | ⟨hb1, e, hn⟩
  · subst hb1
    have hsz : s.size = d.length + 1 := by rw [hsl, e]; simp
    have hpos : 0 < s.size := by omega
    have h0 : s[0] = 45 := by rw [ba_get s _ e 0 hpos (by simp)]; rfl
    have hu : (s.extract 1 s.size).data.toList = d := by
      rw [ByteArray.data_extract, hsz]
      have e2 : s.data = (45 :: d).toArray := by rw [← e]
      rw [e2]; simp
    exact main (fun h W => wparse_neg_no s _ d (by omega) hpos h0 rfl hu h W) (fun h g W => wparse_neg_long s _ d (by omega) hpos h0 rfl hu h g W) (fun h g a c e1 sy W => wparse_neg_yes s _ d (by omega) hpos h0 rfl hu h g a c e1 sy W)
  · subst hb1
    have hn2 : ∀ (h : 0 < s.size), s[0] ≠ 45 := by
      intro h
      rcases hl : s.data.toList with _ | ⟨c, t⟩
      · rw [hsl, hl] at h; simp at h
      · rw [ba_get s _ hl 0 h (by simp)]; exact hn c t hl
    have hdl : d.length ≤ 1000 := by rw [e, ← hsl]; omega
    exact main (fun h W => wparse_pos_no s d hdl e.symm hn2 h W) (fun h g W => wparse_pos_long s d hdl e.symm hn2 h g W) (fun h g a c e1 sy W => wparse_pos_yes s d hdl e.symm hn2 h g a c e1 sy W)
end Go.Proofs.YtmggiclikbacjaaDoor
