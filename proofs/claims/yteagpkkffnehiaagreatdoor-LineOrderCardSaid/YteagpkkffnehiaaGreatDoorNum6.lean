/- Decimal numbers as texts, and back; parseNumber at every text. -/
import Derived.Test.YteagpkkffnehiaaGreatDoorAppG
import Derived.Lib.ParseIntBCases
import Derived.Lib.ItoaNum
import Derived.Lib.ItoaLen
import Derived.Shelf.Strconv.ErrVarParseInt
import Derived.Shelf.Strconv.Itoa4
namespace Go.Proofs.YteagpkkffnehiaaGreatDoor
open Go Go.Proofs Go.RowKit Go.Shelf
set_option maxRecDepth 100000
def digs : List UInt8 := [48, 49, 50, 51, 52, 53, 54, 55, 56, 57]
def dB (c : UInt8) : Bool := digs.contains c
theorem dB_iff (c : UInt8) : dB c = true ↔ 48 ≤ c.toNat ∧ c.toNat ≤ 57 := by
  have h : ∀ n : Nat, n < 256 → (dB (UInt8.ofNat n) = true ↔ 48 ≤ n ∧ n ≤ 57) := by decide
  have := h c.toNat (by have := c.toNat_lt; omega)
  rwa [UInt8.ofNat_toNat] at this
def dstep (a : Nat) (c : UInt8) : Nat := a * 10 + (c.toNat - 48)
def dval (l : List UInt8) : Nat := l.foldl dstep 0
theorem dfold_ge : ∀ (l : List UInt8) (a : Nat), a ≤ l.foldl dstep a := by
  intro l
  induction l with
  | nil => intro a; exact Nat.le_refl _
  | cons c t ih => intro a; rw [List.foldl_cons]; exact Nat.le_trans (by unfold dstep; omega) (ih _)
theorem uintM : ∀ (l : List UInt8) (a : Nat), l.all dB = true → a ≤ 18446744073709551615 →
    Lib.parseUintM (2 ^ 64 - 1) a l = if l.foldl dstep a ≤ 18446744073709551615 then .ok (l.foldl dstep a) else .range := by
  intro l
  induction l with
  | nil => intro a _ h; rw [List.foldl_nil, if_pos h]; rfl
  | cons c t ih =>
    intro a hall h
    rw [List.all_cons, Bool.and_eq_true] at hall
    have hc := (dB_iff c).1 hall.1
    rw [List.foldl_cons]
    unfold Lib.parseUintM
    rw [if_pos hc]
    have hge := dfold_ge t (dstep a c)
    have hst : dstep a c = a * 10 + (c.toNat - 48) := rfl
    have e64 : 2 ^ 64 - 1 = 18446744073709551615 := by decide
    rw [e64] at ih ⊢
    by_cases h1 : 1844674407370955162 ≤ a
    · rw [if_pos h1, if_neg (by omega)]
    · rw [if_neg h1]
      by_cases h2 : 18446744073709551615 < a * 10 + (c.toNat - 48)
      · rw [if_pos h2, if_neg (by omega)]
      · rw [if_neg h2, ← hst]
        exact ih _ hall.2 (by omega)
theorem uintB (l : List UInt8) (h : l.all dB = true) (h0 : l ≠ []) : Lib.parseUintB 64 l = if dval l ≤ 18446744073709551615 then .ok (dval l) else .range := by
  unfold Lib.parseUintB
  rw [if_neg h0]
  exact uintM l 0 h (by omega)
theorem dval_snoc (l : List UInt8) (c : UInt8) : dval (l ++ [c]) = dval l * 10 + (c.toNat - 48) := by unfold dval; rw [List.foldl_append]; rfl
theorem dig_ofNat (r : Nat) (h : r < 10) : (UInt8.ofNat (48 + r)).toNat = 48 + r := by
  rw [UInt8.toNat_ofNat']; omega
theorem dec_step (n : Nat) (h : 10 ≤ n) : Lib.decDigits n = Lib.decDigits (n / 10) ++ [UInt8.ofNat (48 + n % 10)] := by
  rw [Lib.decDigits, dif_neg (by omega)]
theorem dec_small (n : Nat) (h : n < 10) : Lib.decDigits n = [UInt8.ofNat (48 + n)] := by
  rw [Lib.decDigits, dif_pos h]
theorem dval_dec : ∀ n : Nat, dval (Lib.decDigits n) = n := by
  intro n
  induction n using Nat.strongRecOn with
  | ind n ih =>
    by_cases h : n < 10
    · rw [dec_small n h]; unfold dval dstep; simp only [List.foldl_cons, List.foldl_nil, dig_ofNat n h]; omega
    · rw [dec_step n (by omega), dval_snoc, ih (n / 10) (by omega), dig_ofNat _ (Nat.mod_lt _ (by omega))]; omega
theorem dec_form : ∀ n : Nat, ∃ c t, Lib.decDigits n = c :: t ∧ (c :: t).all dB = true ∧ (c.toNat = 48 → n = 0) := by
  intro n
  induction n using Nat.strongRecOn with
  | ind n ih =>
    by_cases h : n < 10
    · refine ⟨_, [], dec_small n h, ?_, fun e => ?_⟩
      · simp only [List.all_cons, List.all_nil, Bool.and_true, dB_iff, dig_ofNat n h]; omega
      · rw [dig_ofNat n h] at e; omega
    · obtain ⟨c, t, e, a, z⟩ := ih (n / 10) (by omega)
      refine ⟨c, t ++ [UInt8.ofNat (48 + n % 10)], ?_, ?_, fun e' => ?_⟩
      · rw [dec_step n (by omega), e]; rfl
      · rw [← List.cons_append, List.all_append, a]
        simp only [List.all_cons, List.all_nil, Bool.and_true, Bool.true_and, dB_iff, dig_ofNat _ (Nat.mod_lt n (show 10 > 0 by omega))]
        omega
      · have := z e'; omega
theorem dec_uint (n : Nat) (h : n ≤ 18446744073709551615) : Lib.parseUintB 64 (Lib.decDigits n) = .ok n := by
  obtain ⟨c, t, e, a, _⟩ := dec_form n
  rw [uintB _ (by rw [e]; exact a) (by rw [e]; simp), dval_dec, if_pos h]
theorem int_back (x : Int) (h0 : -9223372036854775808 ≤ x) (h1 : x ≤ 9223372036854775807) : Lib.parseIntB 64 (Lib.itoa x) = .ok x := by
  have p63 : 2 ^ (64 - 1) = 9223372036854775808 := by decide
  unfold Lib.itoa
  by_cases hx : x < 0
  · rw [if_pos hx, Lib.parseIntB_minus, dec_uint _ (by omega)]
    unfold Lib.signedC
    simp only [p63]
    rw [if_neg (by omega)]
    congr 1
    omega
  · rw [if_neg hx]
    obtain ⟨c, t, e, a, _⟩ := dec_form x.toNat
    rw [List.all_cons, Bool.and_eq_true] at a
    have hc := (dB_iff c).1 a.1
    have hd := dec_uint x.toNat (by omega)
    rw [e] at hd ⊢
    rw [Lib.parseIntB_plain 64 c t (by omega) (by omega), hd]
    unfold Lib.signlessC
    simp only [p63]
    rw [if_neg (by omega)]
    congr 1
    omega
/-- the number that the library reads, whatever the text -/
def numOf (l : List UInt8) : Int := match Lib.parseIntB 64 l with
  | .ok v => v
  | .range => Lib.intSat 64 l
  | _ => 0
theorem sat_ok (l : List UInt8) : -9223372036854775808 ≤ Lib.intSat 64 l ∧ Lib.intSat 64 l ≤ 9223372036854775807 := by
  unfold Lib.intSat
  split
  · exact ⟨by decide, by decide⟩
  · exact ⟨by decide, by decide⟩
theorem numOf_itoa (x : Int) (h0 : -9223372036854775808 ≤ x) (h1 : x ≤ 9223372036854775807) : numOf (Lib.itoa x) = x := by
  unfold numOf; rw [int_back x h0 h1]
theorem numOf_ok (l : List UInt8) : -9223372036854775808 ≤ numOf l ∧ numOf l ≤ 9223372036854775807 := by
  have p63 : 2 ^ (64 - 1) = 9223372036854775808 := by decide
  unfold numOf
  rcases h : Lib.parseIntB 64 l with v | _ | _
  · show -9223372036854775808 ≤ v ∧ v ≤ 9223372036854775807
    unfold Lib.parseIntB at h
    split at h
    · cases h
    · simp only [p63] at h
      split at h
      · cases h
      · cases h
      · split at h
        · cases h
        · split at h
          · cases h
          · injection h with h
            subst h
            split <;> omega
  · show (-9223372036854775808 : Int) ≤ 0 ∧ (0 : Int) ≤ 9223372036854775807; omega
  · exact sat_ok l
/-- the library's two errors of numbers are laid -/
def ErrsOk (w : World) : Prop := (∃ tp p, w.var? Tryz.prog "strconv.ErrSyntax" = some #[.iface tp p]) ∧ ∃ tp p, w.var? Tryz.prog "strconv.ErrRange" = some #[.iface tp p]
theorem var_below {w w' : World} {nm : String} {cs : Array Value} (h : w.var? Tryz.prog nm = some cs) (hb : Below w.heap.size w w') : w'.var? Tryz.prog nm = some cs := by
  unfold World.var? at *
  cases hg : Tryz.prog.globalNamed nm with
  | none => simp [hg] at h
  | some g =>
    simp only [hg, Option.bind_some] at h ⊢
    have hlt : g < w.heap.size := by
      rcases Nat.lt_or_ge g w.heap.size with h' | h'
      · exact h'
      · rw [Array.getElem?_eq_none h'] at h; simp at h
    rw [hb.block g hlt]
    exact h
theorem ErrsOk.below {w w' : World} (h : ErrsOk w) (hb : Below w.heap.size w w') : ErrsOk w' := by
  obtain ⟨⟨a, b, h1⟩, c, d, h2⟩ := h
  exact ⟨⟨a, b, var_below h1 hb⟩, c, d, var_below h2 hb⟩
theorem parseInt_any (l : List UInt8) (hl : l.length ≤ 100000) (w : World) (he : ErrsOk w) :
    Calls Tryz.prog 63 #[.string ⟨l.toArray⟩, .int .i64 10, .int .i64 64] w fun e w' => (∃ E, e = .returned (.tuple #[.int .i64 (numOf l), E])) ∧ Below w.heap.size w w' := by
  obtain ⟨⟨a, b, h1⟩, c, d, h2⟩ := he
  have hs : (⟨l.toArray⟩ : ByteArray).size = l.length := rfl
  unfold numOf
  rcases h : Lib.parseIntB 64 l with v | _ | _
  · refine (Tryz.strconv_ParseInt_10_at64_ok ⟨l.toArray⟩ (by rw [hs]; omega) v h w).mono ?_
    rintro e w' ⟨rfl, rfl | ⟨t, rfl⟩⟩
    · exact ⟨⟨_, rfl⟩, Below.refl _ _⟩
    · exact ⟨⟨_, rfl⟩, Lib.bytesWorld_below _ _ _⟩
  · refine (Any.strconv_ParseInt_10_at64_syntax_var Tryz.laysC174 ⟨l.toArray⟩ (by rw [hs]; omega) h a b w h1).mono ?_
    rintro e w' ⟨N, rfl, -, -, h3⟩
    exact ⟨⟨_, rfl⟩, h3⟩
  · refine (Tryz.strconv_ParseInt_10_at64_range_var ⟨l.toArray⟩ (by rw [hs]; omega) h c d w h2).mono ?_
    rintro e w' ⟨N, rfl, -, -, h3⟩
    exact ⟨⟨_, rfl⟩, h3⟩
theorem formatInt_any (n : Int) (h0 : -9223372036854775808 ≤ n) (h1 : n ≤ 9223372036854775807) (w : World) (ht : Tab w) :
    Calls Tryz.prog 64 #[.int .i64 n, .int .i64 10] w fun e w' => e = .returned (.string ⟨(Lib.itoa n).toArray⟩) ∧ Below w.heap.size w w' :=
  (Any.strconv_FormatInt_10 Tryz.laysM173 n h0 h1 w ht).mono fun e w' ⟨h, k, os, h2⟩ => ⟨h, by rw [h2]; exact Lib.below_grow _ _ (Nat.le_refl _) _ _⟩
theorem parseNumber_any (l : List UInt8) (hl : l.length ≤ 100000) (w : World) (ht : Tab w) (he : ErrsOk w) :
    Calls Tryz.prog 45 #[.string ⟨l.toArray⟩] w fun e w' => e = .returned (.tuple #[.int .i64 (numOf l), .bool (Lib.itoa (numOf l) == l)]) ∧ Below w.heap.size w w' := by
  have hn := numOf_ok l
  have PI := Lib.hid (fun W (hW : Below w.heap.size w W) => parseInt_any l hl W (he.below hW))
  generalize numOf l = N at *
  have FI := Lib.hid (fun W (hW : Below w.heap.size w W) => formatInt_any N hn.1 hn.2 W (ht.below hW))
  have hq : ((⟨(Lib.itoa N).toArray⟩ : ByteArray).toList == (⟨l.toArray⟩ : ByteArray).toList) = (Lib.itoa N == l) := by
    rw [ByteArray.toList_eq, ByteArray.toList_eq]
  go_enter Tryz.func45, Tryz.ntmps45
  go_wp2_with (first
    | (go_at_call 63; refine (PI.out _ (by first | exact Below.refl _ _ | assumption)).mono ?_; rintro e w1 ⟨⟨E, rfl⟩, hb1⟩)
    | (go_at_call 64; refine (FI.out _ (by assumption)).mono ?_; rintro e w2 ⟨rfl, hb2⟩))
  go_wp2
  go_ret2
  exact ⟨rfl, hb1.trans (hb2.mono hb1.size)⟩
end Go.Proofs.YteagpkkffnehiaaGreatDoor
