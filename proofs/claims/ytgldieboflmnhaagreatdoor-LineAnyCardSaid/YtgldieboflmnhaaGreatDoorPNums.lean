/- Decimal numbers as texts, and back; parseNumber at every text. -/
import Derived.Test.YtgldieboflmnhaaGreatDoorAppG
import Derived.Test.YtgldieboflmnhaaGreatDoorTakeE
import Derived.Shelf.Strings.SlTrimAscii
import Derived.Lib.ParseIntBCases
import Derived.Lib.ItoaNum
import Derived.Lib.ItoaLen
import Derived.Shelf.Strconv.ErrVarParseInt
import Derived.Shelf.Strconv.Itoa4
import Derived.Test.YtgldieboflmnhaaGreatDoorTextL
namespace Go.Proofs.YtgldieboflmnhaaGreatDoor
open Go Go.Proofs Go.RowKit Go.Shelf
set_option maxRecDepth 100000
def digs : List UInt8 := [48, 49, 50, 51, 52, 53, 54, 55, 56, 57]
def dB (c : UInt8) : Bool := digs.contains c
theorem dB_iff (c : UInt8) : dB c = true ↔ 48 ≤ c.toNat ∧ c.toNat ≤ 57 := by
  have h : ∀ n : Nat, n < 256 → (dB (UInt8.ofNat n) = true ↔ 48 ≤ n ∧ n ≤ 57) := by decide
  have := h c.toNat (by have := c.toNat_lt; omega)
  rwa [UInt8.ofNat_toNat] at this
def dstep (a : Nat) (c : UInt8) : Nat := a * 10 + (c.toNat - 48)
def dval (l : List UInt8) : Nat := l.foldl dstep 0
theorem dfold_ge : ∀ (l : List UInt8) (a : Nat), a ≤ l.foldl dstep a := by
  intro l
  induction l with
  | nil => intro a; exact Nat.le_refl _
  | cons c t ih => intro a; rw [List.foldl_cons]; exact Nat.le_trans (by unfold dstep; omega) (ih _)
theorem uintM : ∀ (l : List UInt8) (a : Nat), l.all dB = true → a ≤ 18446744073709551615 →
    Lib.parseUintM (2 ^ 64 - 1) a l = if l.foldl dstep a ≤ 18446744073709551615 then .ok (l.foldl dstep a) else .range := by
  intro l
  induction l with
  | nil => intro a _ h; rw [List.foldl_nil, if_pos h]; rfl
  | cons c t ih =>
    intro a hall h
    rw [List.all_cons, Bool.and_eq_true] at hall
    have hc := (dB_iff c).1 hall.1
    rw [List.foldl_cons]
    unfold Lib.parseUintM
    rw [if_pos hc]
    have hge := dfold_ge t (dstep a c)
    have hst : dstep a c = a * 10 + (c.toNat - 48) := rfl
    have e64 : 2 ^ 64 - 1 = 18446744073709551615 := by decide
    rw [e64] at ih ⊢
    by_cases h1 : 1844674407370955162 ≤ a
    · rw [if_pos h1, if_neg (by omega)]
    · rw [if_neg h1]
      by_cases h2 : 18446744073709551615 < a * 10 + (c.toNat - 48)
      · rw [if_pos h2, if_neg (by omega)]
      · rw [if_neg h2, ← hst]
        exact ih _ hall.2 (by omega)
theorem uintB (l : List UInt8) (h : l.all dB = true) (h0 : l ≠ []) : Lib.parseUintB 64 l = if dval l ≤ 18446744073709551615 then .ok (dval l) else .range := by
  unfold Lib.parseUintB
  rw [if_neg h0]
  exact uintM l 0 h (by omega)
theorem dval_snoc (l : List UInt8) (c : UInt8) : dval (l ++ [c]) = dval l * 10 + (c.toNat - 48) := by unfold dval; rw [List.foldl_append]; rfl
theorem dig_ofNat (r : Nat) (h : r < 10) : (UInt8.ofNat (48 + r)).toNat = 48 + r := by
  rw [UInt8.toNat_ofNat']; omega
theorem dec_step (n : Nat) (h : 10 ≤ n) : Lib.decDigits n = Lib.decDigits (n / 10) ++ [UInt8.ofNat (48 + n % 10)] := by
  rw [Lib.decDigits, dif_neg (by omega)]
theorem dec_small (n : Nat) (h : n < 10) : Lib.decDigits n = [UInt8.ofNat (48 + n)] := by
  rw [Lib.decDigits, dif_pos h]
theorem dval_dec : ∀ n : Nat, dval (Lib.decDigits n) = n := by
  intro n
  induction n using Nat.strongRecOn with
  | ind n ih =>
    by_cases h : n < 10
    · rw [dec_small n h]; unfold dval dstep; simp only [List.foldl_cons, List.foldl_nil, dig_ofNat n h]; omega
    · rw [dec_step n (by omega), dval_snoc, ih (n / 10) (by omega), dig_ofNat _ (Nat.mod_lt _ (by omega))]; omega
theorem dec_form : ∀ n : Nat, ∃ c t, Lib.decDigits n = c :: t ∧ (c :: t).all dB = true ∧ (c.toNat = 48 → n = 0) := by
  intro n
  induction n using Nat.strongRecOn with
  | ind n ih =>
    by_cases h : n < 10
    · refine ⟨_, [], dec_small n h, ?_, fun e => ?_⟩
      · simp only [List.all_cons, List.all_nil, Bool.and_true, dB_iff, dig_ofNat n h]; omega
      · rw [dig_ofNat n h] at e; omega
    · obtain ⟨c, t, e, a, z⟩ := ih (n / 10) (by omega)
      refine ⟨c, t ++ [UInt8.ofNat (48 + n % 10)], ?_, ?_, fun e' => ?_⟩
      · rw [dec_step n (by omega), e]; rfl
      · rw [← List.cons_append, List.all_append, a]
        simp only [List.all_cons, List.all_nil, Bool.and_true, Bool.true_and, dB_iff, dig_ofNat _ (Nat.mod_lt n (show 10 > 0 by omega))]
        omega
      · have := z e'; omega
theorem dec_uint (n : Nat) (h : n ≤ 18446744073709551615) : Lib.parseUintB 64 (Lib.decDigits n) = .ok n := by
  obtain ⟨c, t, e, a, _⟩ := dec_form n
  rw [uintB _ (by rw [e]; exact a) (by rw [e]; simp), dval_dec, if_pos h]
theorem int_back (x : Int) (h0 : -9223372036854775808 ≤ x) (h1 : x ≤ 9223372036854775807) : Lib.parseIntB 64 (Lib.itoa x) = .ok x := by
  have p63 : 2 ^ (64 - 1) = 9223372036854775808 := by decide
  unfold Lib.itoa
  by_cases hx : x < 0
  · rw [if_pos hx, Lib.parseIntB_minus, dec_uint _ (by omega)]
    unfold Lib.signedC
    simp only [p63]
    rw [if_neg (by omega)]
    congr 1
    omega
  · rw [if_neg hx]
    obtain ⟨c, t, e, a, _⟩ := dec_form x.toNat
    rw [List.all_cons, Bool.and_eq_true] at a
    have hc := (dB_iff c).1 a.1
    have hd := dec_uint x.toNat (by omega)
    rw [e] at hd ⊢
    rw [Lib.parseIntB_plain 64 c t (by omega) (by omega), hd]
    unfold Lib.signlessC
    simp only [p63]
    rw [if_neg (by omega)]
    congr 1
    omega
/-- the number that the library reads, whatever the text -/
def numOf (l : List UInt8) : Int := match Lib.parseIntB 64 l with
  | .ok v => v
  | .range => Lib.intSat 64 l
  | _ => 0
theorem sat_ok (l : List UInt8) : -9223372036854775808 ≤ Lib.intSat 64 l ∧ Lib.intSat 64 l ≤ 9223372036854775807 := by
  unfold Lib.intSat
  split
  · exact ⟨by decide, by decide⟩
  · exact ⟨by decide, by decide⟩
theorem numOf_itoa (x : Int) (h0 : -9223372036854775808 ≤ x) (h1 : x ≤ 9223372036854775807) : numOf (Lib.itoa x) = x := by
  unfold numOf; rw [int_back x h0 h1]
theorem numOf_ok (l : List UInt8) : -9223372036854775808 ≤ numOf l ∧ numOf l ≤ 9223372036854775807 := by
  have p63 : 2 ^ (64 - 1) = 9223372036854775808 := by decide
  unfold numOf
  rcases h : Lib.parseIntB 64 l with v | _ | _
  · show -9223372036854775808 ≤ v ∧ v ≤ 9223372036854775807
    unfold Lib.parseIntB at h
    split at h
    · cases h
    · simp only [p63] at h
      split at h
      · cases h
      · cases h
      · split at h
        · cases h
        · split at h
          · cases h
          · injection h with h
            subst h
            split <;> omega
  · show (-9223372036854775808 : Int) ≤ 0 ∧ (0 : Int) ≤ 9223372036854775807; omega
  · exact sat_ok l
/-- the library's two errors of numbers are laid -/
def ErrsOk (w : World) : Prop := (∃ tp p, w.var? Tryz.prog "strconv.ErrSyntax" = some #[.iface tp p]) ∧ ∃ tp p, w.var? Tryz.prog "strconv.ErrRange" = some #[.iface tp p]
theorem var_below {w w' : World} {nm : String} {cs : Array Value} (h : w.var? Tryz.prog nm = some cs) (hb : Below w.heap.size w w') : w'.var? Tryz.prog nm = some cs := by
  unfold World.var? at *
  cases hg : Tryz.prog.globalNamed nm with
  | none => simp [hg] at h
  | some g =>
    simp only [hg, Option.bind_some] at h ⊢
    have hlt : g < w.heap.size := by
      rcases Nat.lt_or_ge g w.heap.size with h' | h'
      · exact h'
      · rw [Array.getElem?_eq_none h'] at h; simp at h
    rw [hb.block g hlt]
    exact h
theorem ErrsOk.below {w w' : World} (h : ErrsOk w) (hb : Below w.heap.size w w') : ErrsOk w' := by
  obtain ⟨⟨a, b, h1⟩, c, d, h2⟩ := h
  exact ⟨⟨a, b, var_below h1 hb⟩, c, d, var_below h2 hb⟩
theorem parseInt_any (l : List UInt8) (hl : l.length ≤ 100000) (w : World) (he : ErrsOk w) :
    Calls Tryz.prog 59 #[.string ⟨l.toArray⟩, .int .i64 10, .int .i64 64] w fun e w' => (∃ E, e = .returned (.tuple #[.int .i64 (numOf l), E])) ∧ Below w.heap.size w w' := by
  obtain ⟨⟨a, b, h1⟩, c, d, h2⟩ := he
  have hs : (⟨l.toArray⟩ : ByteArray).size = l.length := rfl
  unfold numOf
  rcases h : Lib.parseIntB 64 l with v | _ | _
  · refine (Tryz.strconv_ParseInt_10_at64_ok ⟨l.toArray⟩ (by rw [hs]; omega) v h w).mono ?_
    rintro e w' ⟨rfl, rfl | ⟨t, rfl⟩⟩
    · exact ⟨⟨_, rfl⟩, Below.refl _ _⟩
    · exact ⟨⟨_, rfl⟩, Lib.bytesWorld_below _ _ _⟩
  · refine (Any.strconv_ParseInt_10_at64_syntax_var Tryz.laysC174 ⟨l.toArray⟩ (by rw [hs]; omega) h a b w h1).mono ?_
    rintro e w' ⟨N, rfl, -, -, h3⟩
    exact ⟨⟨_, rfl⟩, h3⟩
  · refine (Tryz.strconv_ParseInt_10_at64_range_var ⟨l.toArray⟩ (by rw [hs]; omega) h c d w h2).mono ?_
    rintro e w' ⟨N, rfl, -, -, h3⟩
    exact ⟨⟨_, rfl⟩, h3⟩
theorem formatInt_any (n : Int) (h0 : -9223372036854775808 ≤ n) (h1 : n ≤ 9223372036854775807) (w : World) (ht : Tab w) :
    Calls Tryz.prog 60 #[.int .i64 n, .int .i64 10] w fun e w' => e = .returned (.string ⟨(Lib.itoa n).toArray⟩) ∧ Below w.heap.size w w' :=
  (Any.strconv_FormatInt_10 Tryz.laysM173 n h0 h1 w ht).mono fun e w' ⟨h, k, os, h2⟩ => ⟨h, by rw [h2]; exact Lib.below_grow _ _ (Nat.le_refl _) _ _⟩
/-- the bytes that numbers are written with -/
def digS : List UInt8 := [45, 48, 49, 50, 51, 52, 53, 54, 55, 56, 57]
theorem trimL_len (s D : List UInt8) : (Lib.trimLeftS s D).length ≤ s.length := by
  unfold Lib.trimLeftS
  have h := congrArg List.length (List.takeWhile_append_dropWhile (p := fun c => D.contains c) (l := s))
  rw [List.length_append] at h
  omega
theorem bytes_pre (s : ByteArray) (k : Nat) : s.extract 0 k = ⟨(s.data.toList.take k).toArray⟩ :=
  bytes_mk _ _ (by rw [Lib.extract_data]; simp)
theorem sub_pre (a b : List UInt8) : (⟨a.toArray⟩ : ByteArray).extract 0 ((⟨a.toArray⟩ : ByteArray).size - (⟨b.toArray⟩ : ByteArray).size) = ⟨(a.take (a.length - b.length)).toArray⟩ := by
  rw [bytes_pre]; rfl
theorem trimD_any (s : List UInt8) (w : World) :
    Calls Tryz.prog 58 #[.string ⟨s.toArray⟩, .string ⟨#[45, 48, 49, 50, 51, 52, 53, 54, 55, 56, 57]⟩] w fun e w' => e = .returned (.string ⟨(Lib.trimLeftS s digS).toArray⟩) ∧ Below w.heap.size w w' :=
  Any.strings_TrimLeft_laid Tryz.lays161 (by kernel_rfl) ⟨s.toArray⟩ ⟨#[45, 48, 49, 50, 51, 52, 53, 54, 55, 56, 57]⟩ w (by decide) (fun j b h => by
    have : ∀ x ∈ digS, x.toNat < 128 := by decide
    exact this b (List.mem_of_getElem? h))
def restN (l : List UInt8) : List UInt8 := Lib.trimLeftS l digS
def numN (l : List UInt8) : List UInt8 := l.take (l.length - (restN l).length)
def okN (l : List UInt8) : Bool := Lib.itoa (numOf (numN l)) == numN l
theorem takeNumber_any (l : List UInt8) (hl : l.length ≤ 100000) (w : World) (ht : Tab w) (he : ErrsOk w) :
    Calls Tryz.prog 44 #[.string ⟨l.toArray⟩] w fun e w' => e = .returned (.tuple #[.int .i64 (bif okN l then numOf (numN l) else 0), .string ⟨(bif okN l then restN l else []).toArray⟩, .bool (okN l)]) ∧ Below w.heap.size w w' := by
  have hrl : (restN l).length ≤ l.length := trimL_len _ _
  have hnl : (numN l).length ≤ 100000 := by unfold numN; rw [List.length_take]; omega
  have hn := numOf_ok (numN l)
  have TL := Lib.hid (fun W => trimD_any l W)
  have hsub := sub_pre l (restN l)
  have hsz1 : (⟨l.toArray⟩ : ByteArray).size = l.length := rfl
  have hsz2 : (⟨(restN l).toArray⟩ : ByteArray).size = (restN l).length := rfl
  rw [hsz1, hsz2] at hsub
  have PI := Lib.hid (fun W (hW : Below w.heap.size w W) => parseInt_any (numN l) hnl W (he.below hW))
  unfold okN
  change (⟨l.toArray⟩ : ByteArray).extract 0 (l.length - (restN l).length) = ⟨(numN l).toArray⟩ at hsub
  unfold restN at TL hsub hrl hsz2 ⊢
  generalize Lib.trimLeftS l digS = RS at *
  generalize numN l = NL at *
  generalize numOf NL = N at *
  have FI := Lib.hid (fun W (hW : Below w.heap.size w W) => formatInt_any N hn.1 hn.2 W (ht.below hW))
  go_enter Tryz.func44, Tryz.ntmps44
  go_wp2_with fail
  refine (TL.out _).mono ?_
  rintro e w1 ⟨rfl, hb1⟩
  go_wp2_with fail
  refine (PI.out _ hb1).mono ?_
  rintro e w2 ⟨⟨E, rfl⟩, hb2⟩
  have hb2 := hb1.trans (hb2.mono hb1.size)
  go_wp2_with fail
  refine (FI.out _ hb2).mono ?_
  rintro e w3 ⟨rfl, hb3⟩
  have hb3 := hb2.trans (hb3.mono hb2.size)
  by_cases hk : Lib.itoa N = NL
  · have h1 : (Lib.itoa N == NL) = true := beq_iff_eq.2 hk
    have h2 : (@BEq.beq _ instBEqOfDecidableEq (Lib.itoa N) NL) = true := @beq_iff_eq _ instBEqOfDecidableEq _ _ _ |>.2 hk
    have h3 : (!Lib.itoa N == NL) = false := by rw [h1]; rfl
    simp only [h1, h2, cond_true]
    clear hk
    go_wp2
    go_ret3
    refine ⟨?_, hb3⟩
    simp [h1, h2]
  · have h1 : (Lib.itoa N == NL) = false := beq_eq_false_iff_ne.2 hk
    have h2 : (@BEq.beq _ instBEqOfDecidableEq (Lib.itoa N) NL) = false := @beq_eq_false_iff_ne _ instBEqOfDecidableEq _ _ _ |>.2 hk
    have h3 : (!Lib.itoa N == NL) = true := by rw [h1]; rfl
    simp only [h1, h2, cond_false]
    clear hk
    go_wp2
    go_ret3
    refine ⟨?_, hb3⟩
    simp [h1, h2]
end Go.Proofs.YtgldieboflmnhaaGreatDoor
/- parseNumbers at every text: the numbers behind the labels, read word by word. -/
namespace Go.Proofs.YtgldieboflmnhaaGreatDoor
open Go Go.Proofs Go.RowKit Go.Shelf
set_option maxRecDepth 100000
attribute [local go_sem] Oper.semAt_some
def behindR (k : Fin 4) (s : List UInt8) : List UInt8 := Lib.trimPrefix s (markL k)
def restR (k : Fin 4) (s : List UInt8) : List UInt8 := Lib.trimLeftS (behindR k s) digS
def numR (k : Fin 4) (s : List UInt8) : List UInt8 := (behindR k s).take ((behindR k s).length - (restR k s).length)
def okR (k : Fin 4) (s : List UInt8) : Bool := Lib.hasPrefix s (markL k) && (Lib.itoa (numOf (numR k s)) == numR k s)
def setN (f : Fin 4 → Int) (k : Fin 4) (x : Int) : Fin 4 → Int := fun j => if j = k then x else f j
def pStep (q : (Fin 4 → Int) × List UInt8) (k : Fin 4) : (Fin 4 → Int) × List UInt8 := (setN q.1 k (numOf (numR k q.2)), restR k q.2)
def pRun (s : List UInt8) (pre : List (Fin 4)) : (Fin 4 → Int) × List UInt8 := pre.foldl pStep (fun _ => 0, s)
def allRa (q : (Fin 4 → Int) × List UInt8) : List (Fin 4) → Bool
  | [] => true
  | k :: t => okR k q.2 && allRa (pStep q k) t
def allR (s : List UInt8) (pre : List (Fin 4)) : Bool := allRa (fun _ => 0, s) pre
theorem allRa_app (a b : List (Fin 4)) : ∀ q, allRa q (a ++ b) = (allRa q a && allRa (a.foldl pStep q) b) := by
  induction a with
  | nil => intro q; simp [allRa]
  | cons k t ih => intro q; rw [List.cons_append, allRa, allRa, ih, List.foldl_cons, Bool.and_assoc]
theorem allR_app (s : List UInt8) (a b : List (Fin 4)) : allR s (a ++ b) = (allR s a && allRa (pRun s a) b) := allRa_app a b _
theorem allR_snoc (s : List UInt8) (a : List (Fin 4)) (k : Fin 4) : allR s (a ++ [k]) = (allR s a && okR k (pRun s a).2) := by
  rw [allR_app]; simp [allRa]
theorem pRun_snoc (s : List UInt8) (a : List (Fin 4)) (k : Fin 4) : pRun s (a ++ [k]) = pStep (pRun s a) k := by
  unfold pRun; rw [List.foldl_append]; rfl
def cellsN (f : Fin 4 → Int) : Array Value := #[.int .i64 (f 0), .int .i64 (f 1), .int .i64 (f 2), .int .i64 (f 3)]
theorem cellsN_set (f : Fin 4 → Int) (x : Int) : ∀ k : Fin 4, (cellsN f).setIfInBounds k.val (.int .i64 x) = cellsN (setN f k x)
  | 0 => rfl
  | 1 => rfl
  | 2 => rfl
  | 3 => rfl
def numsR (s : List UInt8) : Fin 4 → Int := if allR s [0, 1, 2, 3] = true then (pRun s [0, 1, 2, 3]).1 else fun _ => 0
def numsOk (s : List UInt8) : Bool := allR s [0, 1, 2, 3] && (pRun s [0, 1, 2, 3]).2.isEmpty
theorem trimPre_len (s M : List UInt8) : (Lib.trimPrefix s M).length ≤ s.length := by
  unfold Lib.trimPrefix; split
  · rw [List.length_drop]; omega
  · exact Nat.le_refl _
theorem behind_len (k : Fin 4) (s : List UInt8) : (behindR k s).length ≤ s.length := trimPre_len _ _
theorem rest_len (k : Fin 4) (s : List UInt8) : (restR k s).length ≤ (behindR k s).length := trimL_len _ _
theorem pRun_len (s : List UInt8) (pre : List (Fin 4)) : (pRun s pre).2.length ≤ s.length := by
  suffices H : ∀ q : (Fin 4 → Int) × List UInt8, (pre.foldl pStep q).2.length ≤ q.2.length from H _
  induction pre with
  | nil => intro q; exact Nat.le_refl _
  | cons k t ih => intro q; rw [List.foldl_cons]; exact Nat.le_trans (ih _) (Nat.le_trans (rest_len k q.2) (behind_len k q.2))
theorem bytes_suf (s : ByteArray) (k : Nat) : s.extract k s.size = ⟨(s.data.toList.drop k).toArray⟩ :=
  bytes_mk _ _ (Lib.extract_to_end s k)
theorem cutPre_any (s M : List UInt8) (w : World) :
    Calls Tryz.prog 43 #[.string ⟨s.toArray⟩, .string ⟨M.toArray⟩] w fun e w' => e = .returned (.tuple #[.string ⟨(Lib.trimPrefix s M).toArray⟩, .bool (Lib.hasPrefix s M)]) ∧ w' = w :=
  Tryz.strings_CutPrefix ⟨s.toArray⟩ ⟨M.toArray⟩ w
/-- what the loop keeps -/
def PI (w : World) (l : List UInt8) (pre : List (Fin 4)) (W : World) : Prop :=
  allR l pre = true ∧ Blk W w.heap.size #[.string ⟨(pRun l pre).2.toArray⟩] 9 ∧ Blk W (w.heap.size + 1) (cellsN fun _ => 0) 51 ∧ Blk W (w.heap.size + 1 + 1) #[.bool false] 4 ∧ Blk W (w.heap.size + 1 + 1 + 1) (cellsN (pRun l pre).1) 51 ∧ Below w.heap.size w W
/-- how the loop is left -/
def PX (w : World) (l : List UInt8) (c : Code) (pre : List (Fin 4)) (W : World) : Prop :=
  (c = .ret ∧ allR l pre = false) ∧ Blk W (w.heap.size + 1) (cellsN fun _ => 0) 51 ∧ Blk W (w.heap.size + 1 + 1) #[.bool false] 4 ∧ Below w.heap.size w W
theorem blkf_own {β : Type} (b : Nat) (f : β → Array Value) (T : TypeId) (B : Nat) : OwnFrom B (fun (x : β) W => Blk W b (f x) T) := fun x A C row h hg hr => (hg.block b (Array.getElem?_eq_some_iff.1 h).1 (fun e => by
    obtain ⟨_, o, ho, hc⟩ := hr b e.symm
    unfold Blk at h
    rw [h] at ho; cases ho; cases hc)).trans h
theorem PI.own (w : World) (l : List UInt8) {B : Nat} (hB : w.heap.size ≤ B) : OwnFrom B (PI w l) :=
  OwnFrom.and (ownFrom_pure _ _) (OwnFrom.and (blkf_own _ (fun pre => #[.string ⟨(pRun l pre).2.toArray⟩]) _ _) (OwnFrom.and (blkf_own _ (fun _ => cellsN fun _ => 0) _ _) (OwnFrom.and (blkf_own _ (fun _ => #[.bool false]) _ _) (OwnFrom.and (blkf_own _ (fun pre => cellsN (pRun l pre).1) _ _) (ownFrom_below (Nat.le_refl _) hB)))))
theorem PX.own (w : World) (l : List UInt8) (c : Code) {B : Nat} (hB : w.heap.size ≤ B) : OwnFrom B (PX w l c) :=
  OwnFrom.and (ownFrom_pure _ _) (OwnFrom.and (blkf_own _ (fun _ => cellsN fun _ => 0) _ _) (OwnFrom.and (blkf_own _ (fun _ => #[.bool false]) _ _) (ownFrom_below (Nat.le_refl _) hB)))
theorem blk_ne' {W : World} {D b : Nat} {cs : Array Value} {T : TypeId} {o : Obj} (h : W.heap[D]? = some o) (k : Blk W b cs T) (hc : o.isCells = false := by rfl) : b ≠ D := by
  rintro rfl
  unfold Blk at k
  rw [h] at k
  cases k
  cases hc
theorem numc_cell {W : World} {b : Nat} {f : Fin 4 → Int} {T : TypeId} (h : Blk W b (cellsN f) T) : ∀ k : Fin 4, W.cell? ⟨b, k.val, none⟩ = some (.int .i64 (f k))
  | 0 => (blk_at h).cell 0 _ rfl
  | 1 => (blk_at h).cell 1 _ rfl
  | 2 => (blk_at h).cell 2 _ rfl
  | 3 => (blk_at h).cell 3 _ rfl
theorem numc_free {W : World} {b : Nat} {f : Fin 4 → Int} {T : TypeId} (h : Blk W b (cellsN f) T) : ∀ k : Fin 4, W.frozen? ⟨b, k.val, none⟩ = false
  | 0 => (blk_at h).free 0 _ rfl
  | 1 => (blk_at h).free 1 _ rfl
  | 2 => (blk_at h).free 2 _ rfl
  | 3 => (blk_at h).free 3 _ rfl
set_option maxHeartbeats 4000000 in
theorem parseNumbers_any (l : List UInt8) (hl : l.length ≤ 100000) (w : World) (ht : Tab w) (he : ErrsOk w) :
    Calls Tryz.prog 28 #[.string ⟨l.toArray⟩] w fun e w' => e = .returned (.tuple #[.agg (cellsN (numsR l)), .bool (numsOk l)]) ∧ Below w.heap.size w w' := by
  refine (callsIn_wide (n := 9)).1 ?_
  refine callsIn_of_wp_marks Tryz.func28 rfl trivial ?_ rfl
  simp only [Tryz.ntmps28, List.size_toArray, List.length_cons, List.length_nil, Nat.reduceAdd, Nat.reduceSub, Array.replicate_succ, Array.replicate_zero, List.push_toArray, List.append_toArray, List.nil_append, List.cons_append]
  gi_wp2
  obtain ⟨W0, hW0⟩ : ∃ W0, ((((w).alloc (.cells #[.string ⟨l.toArray⟩] 9)).alloc (.cells (cellsN fun _ => 0) 51)).alloc (.cells #[.bool false] 4)).alloc (.cells (cellsN fun _ => 0) 51) = W0 := ⟨_, rfl⟩
  have hlp : Below w.heap.size w W0 := by rw [← hW0]; go_grown
  have hsz : W0.heap.size = w.heap.size + 4 := by rw [← hW0]; simp
  have b0 : Blk W0 w.heap.size #[.string ⟨l.toArray⟩] 9 := by
    rw [← hW0]
    exact blk_on (blk_on (blk_on (blk_new w _ _) (below_cells _)) (below_cells _)) (below_cells _)
  have b1 : Blk W0 (w.heap.size + 1) (cellsN fun _ => 0) 51 := by
    rw [← hW0]
    have h := blk_new ((w).alloc (.cells #[.string ⟨l.toArray⟩] 9)) (cellsN fun _ => 0) 51
    rw [World.size_alloc] at h
    exact blk_on (blk_on h (below_cells _)) (below_cells _)
  have b2 : Blk W0 (w.heap.size + 1 + 1) #[.bool false] 4 := by
    rw [← hW0]
    have h := blk_new (((w).alloc (.cells #[.string ⟨l.toArray⟩] 9)).alloc (.cells (cellsN fun _ => 0) 51)) #[.bool false] 4
    rw [World.size_alloc, World.size_alloc] at h
    exact blk_on h (below_cells _)
  have b3 : Blk W0 (w.heap.size + 1 + 1 + 1) (cellsN fun _ => 0) 51 := by
    rw [← hW0]
    have h := blk_new ((((w).alloc (.cells #[.string ⟨l.toArray⟩] 9)).alloc (.cells (cellsN fun _ => 0) 51)).alloc (.cells #[.bool false] 4)) (cellsN fun _ => 0) 51
    rw [World.size_alloc, World.size_alloc, World.size_alloc] at h
    exact h
  have hW0' := hW0
  unfold cellsN at hW0'
  rw [hW0']
  clear hW0' hW0
  have hsz' : w.heap.size ≤ W0.heap.size := hlp.size
  have hseq := words_stops 5 8 (w.heap.size + 1 + 1 + 1) w.heap.size W0 (by omega)
  refine rangeM 5 (F := Fence.wide) (n := 9) rfl (by omega) (gf := 25) (fst := #[.pointer (some ⟨w.heap.size + 1 + 1 + 1, 0, none⟩)]) (lb := #[]) rfl trivial (enters_of Tryz.func25 (by kernel_rfl) rfl) (n₀ := w.heap.size) hseq hsz' (Below.refl _ _) (fun _ => rfl)
    (PI w l) (PX w l) (PI.own w l hsz') (fun c => PX.own w l c hsz')
    ⟨rfl, b0, b1, b2, b3, hlp⟩
    (fun x a' W => ∃ Bx, Blk W Bx #[.string ⟨(markL x).toArray⟩, .pointer (some ⟨w.heap.size + 1 + 1 + 1, x.val, none⟩)] 61 ∧ a' = { tmps := #[.string ⟨l.toArray⟩, .pointer (some ⟨w.heap.size, 0, none⟩), .pointer (some ⟨w.heap.size + 1, 0, none⟩), .pointer (some ⟨w.heap.size + 1 + 1, 0, none⟩), .pointer (some ⟨w.heap.size + 1 + 1 + 1, 0, none⟩), .pointer (some ⟨Bx, 0, none⟩), undef, undef, undef, undef, undef, .func (.func 25) #[.pointer (some ⟨w.heap.size + 1 + 1 + 1, 0, none⟩)] #[], .agg #[.string ⟨(markL x).toArray⟩, .pointer (some ⟨w.heap.size + 1 + 1 + 1, x.val, none⟩)], undef, undef, undef, undef, undef, undef, undef, undef, undef, undef, undef, undef, undef, undef, undef, undef, undef, undef, undef, undef, undef, undef, undef, undef, undef, undef, undef, undef], defers := [] })
    (fun x a' => ?ax) ?assign ?body ?done ?stop
  case ax => exact fun s X Y row ⟨Bx, q2, q3⟩ hg hr => ⟨Bx, (blk_own (β := Unit) Bx _ _).from _ () X Y row q2 hg hr, q3⟩
  case assign =>
    rintro lp pre x W K hi hK
    simp only [wordV]
    have hWs : w.heap.size ≤ W.heap.size := hi.2.2.2.2.2.size
    have hl2 := PI.own w l (Nat.le_refl _) pre W (W.alloc (.cells #[.string ⟨(markL x).toArray⟩, .pointer (some ⟨w.heap.size + 1 + 1 + 1, x.val, none⟩)] 61)) none hi (World.grownBy_alloc _ _ _) (fun r e => by cases e)
    gi_wp2
    exact hK _ _ (KeepsT.alloc _ _ _ _) ((Below.refl _ W).alloc hWs _) hl2 ⟨W.heap.size, blk_new W _ _, rfl⟩
  case body =>
    rintro lp pre x a' W hlp' ⟨r, hr⟩ ⟨hall, d0, d1, d2, d3, hB⟩ ⟨Bx, bX, rfl⟩ hlen
    have hA := allR_snoc l pre x
    rw [hall, Bool.true_and] at hA
    have hP := pRun_snoc l pre x
    have hlen0 := pRun_len l pre
    have hl1 := behind_len x (pRun l pre).2
    have hl2 := rest_len x (pRun l pre).2
    have hCS := cellsN_set (pRun l pre).1 (numOf (numR x (pRun l pre).2)) x
    unfold pStep at hP
    have hok : okR x (pRun l pre).2 = (Lib.hasPrefix (pRun l pre).2 (markL x) && (Lib.itoa (numOf (numR x (pRun l pre).2)) == numR x (pRun l pre).2)) := rfl
    have hNL : numR x (pRun l pre).2 = (behindR x (pRun l pre).2).take ((behindR x (pRun l pre).2).length - (restR x (pRun l pre).2).length) := rfl
    have hRR : restR x (pRun l pre).2 = Lib.trimLeftS (behindR x (pRun l pre).2) digS := rfl
    have hBR : behindR x (pRun l pre).2 = Lib.trimPrefix (pRun l pre).2 (markL x) := rfl
    generalize (pRun l pre).2 = S at *
    generalize (pRun l pre).1 = f at *
    generalize markL x = M at *
    have CP := Lib.hid (fun W' => cutPre_any S M W')
    rw [← hBR] at CP
    generalize behindR x S = BH at *
    have hbl : BH.length ≤ 100000 := by omega
    have TN := Lib.hid (fun W' (hW' : Below w.heap.size w W') => takeNumber_any BH hbl W' (ht.below hW') (he.below hW'))
    unfold okN restN numN restN at TN
    rw [← hRR, ← hNL] at TN
    generalize restR x S = RS at *
    generalize numR x S = NL at *
    generalize Lib.hasPrefix S M = hp at *
    generalize numOf NL = N at *
    generalize (Lib.itoa N == NL) = nok at *
    obtain ⟨kx, hkx⟩ : ∃ kx, x.val = kx := ⟨_, rfl⟩
    rw [hkx] at bX hCS
    rw [hkx]
    clear hBR hRR hNL
    have c0 := (blk_at d0).cell 0 _ rfl
    have f0 := (blk_at d0).free 0 _ rfl
    have e0 := (blk_at bX).cell 0 _ rfl
    have e1 := (blk_at bX).cell 1 _ rfl
    gi_wp2
    refine ⟨trivial, ?_⟩
    gi_at_call 43
    refine (CallsIn.inRound lp (callsIn_wide.2 (CP.out _))).mono ?_
    rintro e w1 ⟨rfl, rfl⟩
    gi_wp2
    refine ⟨trivial, ?_⟩
    gi_at_call 44
    refine (CallsIn.inRound lp (callsIn_wide.2 (TN.out _ hB))).mono ?_
    rintro e w4 ⟨rfl, hb4⟩
    have z0 := blk_on d0 hb4
    have z1 := blk_on d1 hb4
    have z2 := blk_on d2 hb4
    have z3 := blk_on d3 hb4
    have zX := blk_on bX hb4
    have hB4 := hB.trans (hb4.mono hB.size)
    have kt4 := KeepsT.below (T := 5) (B := W0.heap.size) hb4
    have bw4 := hb4.mono hB.size
    clear c0 f0 e0 e1 d0 d1 d2 d3 bX
    have q1 := (blk_at zX).cell 1 _ rfl
    by_cases hgo : (hp && nok) = true
    · rw [Bool.and_eq_true] at hgo
      obtain ⟨rfl, rfl⟩ := hgo
      have zN := (blk_at z3)
      have n0 := numc_cell z3 x
      have n1 := numc_free z3 x
      rw [hkx] at n0 n1
      have n2 := zN.lt
      have c0 := (blk_at z0).cell 0 _ rfl
      have f0 := (blk_at z0).free 0 _ rfl
      have l0 := (blk_at z0).lt
      gi_wp2
      have hb5 : Blk (w4.setCell ⟨w.heap.size + 1 + 1 + 1, kx, none⟩ (.int .i64 N)) (w.heap.size + 1 + 1 + 1) (cellsN (setN f x N)) 51 := by rw [← hCS]; exact blk_set z3 _
      refine ⟨(kt4.trans (KeepsT.setCell _ (by omega))).trans (KeepsT.setCell _ (by omega)), (bw4.setCell (by simp; omega) _).setCell (by simp) _, ?_⟩
      unfold PI
      rw [hP, hA, hok]
      exact ⟨rfl, blk_set (j := 0) (blk_far z0 (by omega) _) _, blk_far (blk_far z1 (by omega) _) (by omega) _, blk_far (blk_far z2 (by omega) _) (by omega) _, blk_far hb5 (by omega) _, (hB4.setCell (by simp; omega) _).setCell (by simp) _⟩
    · have hno : allR l (pre ++ [x]) = false := by rw [hA, hok]; simpa using hgo
      have g0 := (blk_at z1).cell 0 _ rfl
      have g1 := (blk_at z1).cell 1 _ rfl
      have g2 := (blk_at z1).cell 2 _ rfl
      have g3 := (blk_at z1).cell 3 _ rfl
      have v0 := (blk_at z1).free 0 _ rfl
      have v1 := (blk_at z1).free 1 _ rfl
      have v2 := (blk_at z1).free 2 _ rfl
      have v3 := (blk_at z1).free 3 _ rfl
      have g4 := (blk_at z1).lt
      have u0 := (blk_at z2).cell 0 _ rfl
      have u1 := (blk_at z2).free 0 _ rfl
      have u2 := (blk_at z2).lt
      have fin : ∀ W', W' = (((((w4.setCell ⟨w.heap.size + 1, 0, none⟩ (.int .i64 0)).setCell ⟨w.heap.size + 1, 1, none⟩ (.int .i64 0)).setCell ⟨w.heap.size + 1, 2, none⟩ (.int .i64 0)).setCell ⟨w.heap.size + 1, 3, none⟩ (.int .i64 0)).setCell ⟨w.heap.size + 1 + 1, 0, none⟩ (.bool false)) → KeepsT 5 W0.heap.size w1 W' ∧ PX w l .ret (pre ++ [x]) W' := by
        rintro W' rfl
        refine ⟨((((kt4.trans (KeepsT.setCell _ (by omega))).trans (KeepsT.setCell _ (by omega))).trans (KeepsT.setCell _ (by omega))).trans (KeepsT.setCell _ (by omega))).trans (KeepsT.setCell _ (by omega)), ⟨rfl, hno⟩, ?_, ?_, ?_⟩
        · exact blk_far (blk_set (j := 3) (blk_set (j := 2) (blk_set (j := 1) (blk_set (j := 0) z1 (.int .i64 0)) (.int .i64 0)) (.int .i64 0)) (.int .i64 0)) (by omega) _
        · exact blk_set (j := 0) (blk_far (blk_far (blk_far (blk_far z2 (by omega) _) (by omega) _) (by omega) _) (by omega) _) (.bool false)
        · exact ((((hB4.setCell (by simp) _).setCell (by simp) _).setCell (by simp) _).setCell (by simp) _).setCell (by simp; omega) _
      have FIN := Lib.hid fin
      clear fin z0 z1 z2 z3 zX hno kt4 bw4
      cases hp
      · gi_wp2
        exact FIN.out _ rfl
      · cases nok
        · gi_wp2
          exact FIN.out _ rfl
        · exact absurd rfl hgo
  case done =>
    rintro D ys W hD rfl ⟨hall, d0, d1, d2, d3, hB⟩ hK
    have hNR : cellsN (numsR l) = cellsN (pRun l [0, 1, 2, 3]).1 := by unfold numsR; rw [if_pos hall]
    have hNK : numsOk l = (pRun l [0, 1, 2, 3]).2.isEmpty := by unfold numsOk; rw [hall, Bool.true_and]
    generalize (pRun l [0, 1, 2, 3]).2 = S at *
    generalize (pRun l [0, 1, 2, 3]).1 = f at *
    have NR := Lib.hid hNR
    have NK := Lib.hid hNK
    have hemp : ((⟨S.toArray⟩ : ByteArray).toList == ([] : List UInt8)) = S.isEmpty := by rw [ByteArray.toList_eq]; cases S <;> rfl
    have c0 := (blk_at d0).cell 0 _ rfl
    have k0 := (blk_at d3).cell 0 _ rfl
    have k1 := (blk_at d3).cell 1 _ rfl
    have k2 := (blk_at d3).cell 2 _ rfl
    have k3 := (blk_at d3).cell 3 _ rfl
    have g0 := (blk_at d1).cell 0 _ rfl
    have g1 := (blk_at d1).cell 1 _ rfl
    have g2 := (blk_at d1).cell 2 _ rfl
    have g3 := (blk_at d1).cell 3 _ rfl
    have v0 := (blk_at d1).free 0 _ rfl
    have v1 := (blk_at d1).free 1 _ rfl
    have v2 := (blk_at d1).free 2 _ rfl
    have v3 := (blk_at d1).free 3 _ rfl
    have g4 := (blk_at d1).lt
    have u0 := (blk_at d2).cell 0 _ rfl
    have u1 := (blk_at d2).free 0 _ rfl
    have u2 := (blk_at d2).lt
    clear hNR hNK
    have HK := Lib.hid hK
    have HD1 := Lib.hid d1
    have HD2 := Lib.hid d2
    have HB := Lib.hid hB
    clear hK d0 d1 d2 d3 hB hall
    gi_wp2
    gi_region
    gi_wp2
    obtain ⟨W2, hW2⟩ : ∃ W2, ((((W.setCell ⟨w.heap.size + 1, 0, none⟩ (.int .i64 (f 0))).setCell ⟨w.heap.size + 1, 1, none⟩ (.int .i64 (f 1))).setCell ⟨w.heap.size + 1, 2, none⟩ (.int .i64 (f 2))).setCell ⟨w.heap.size + 1, 3, none⟩ (.int .i64 (f 3))) = W2 := ⟨_, rfl⟩
    have z1 : Blk ((W2.setCell ⟨w.heap.size + 1 + 1, 0, none⟩ (.bool S.isEmpty)).drew) (w.heap.size + 1) (cellsN f) 51 := by
      rw [← hW2]
      exact blk_far (blk_set (j := 3) (blk_set (j := 2) (blk_set (j := 1) (blk_set (j := 0) HD1.out (.int .i64 (f 0))) (.int .i64 (f 1))) (.int .i64 (f 2))) (.int .i64 (f 3))) (by omega) _
    have z2 : Blk ((W2.setCell ⟨w.heap.size + 1 + 1, 0, none⟩ (.bool S.isEmpty)).drew) (w.heap.size + 1 + 1) #[.bool S.isEmpty] 4 := by
      rw [← hW2]
      exact blk_set (j := 0) (blk_far (blk_far (blk_far (blk_far HD2.out (by omega) _) (by omega) _) (by omega) _) (by omega) _) (.bool S.isEmpty)
    have lt1 : D ≠ w.heap.size + 1 := fun e => (blk_ne' HK.out HD1.out) e.symm
    have lt2 : D ≠ w.heap.size + 1 + 1 := fun e => (blk_ne' HK.out HD2.out) e.symm
    have KE : ((W2.setCell ⟨w.heap.size + 1 + 1, 0, none⟩ (.bool S.isEmpty)).drew).heap[D]? = some (.deferred (some [])) := by
      rw [← hW2]
      exact (Below.heap_setCell _ ⟨w.heap.size + 1 + 1, 0, none⟩ _ D lt2).trans ((Below.heap_setCell _ ⟨w.heap.size + 1, 3, none⟩ _ D lt1).trans ((Below.heap_setCell _ ⟨w.heap.size + 1, 2, none⟩ _ D lt1).trans ((Below.heap_setCell _ ⟨w.heap.size + 1, 1, none⟩ _ D lt1).trans ((Below.heap_setCell _ ⟨w.heap.size + 1, 0, none⟩ _ D lt1).trans HK.out))))
    have BE : Below w.heap.size w ((W2.setCell ⟨w.heap.size + 1 + 1, 0, none⟩ (.bool S.isEmpty)).drew) := by
      rw [← hW2]
      exact (((((HB.out.setCell (by simp) _).setCell (by simp) _).setCell (by simp) _).setCell (by simp) _).setCell (by simp; omega) _).drew
    have e1 : Blk ((W2.setCell ⟨w.heap.size + 1 + 1, 0, none⟩ (.bool S.isEmpty)).drew.putObj D (.deferred none)) (w.heap.size + 1) (cellsN f) 51 := (World.putObj_heap_other (Ne.symm lt1)).trans z1
    have e2 : Blk ((W2.setCell ⟨w.heap.size + 1 + 1, 0, none⟩ (.bool S.isEmpty)).drew.putObj D (.deferred none)) (w.heap.size + 1 + 1) #[.bool S.isEmpty] 4 := (World.putObj_heap_other (Ne.symm lt2)).trans z2
    have g0 := (blk_at e1).cell 0 _ rfl
    have g1 := (blk_at e1).cell 1 _ rfl
    have g2 := (blk_at e1).cell 2 _ rfl
    have g3 := (blk_at e1).cell 3 _ rfl
    have u0 := (blk_at e2).cell 0 _ rfl
    rw [hW2]
    refine ⟨by simp, .inl ⟨_, _, rfl, run_takeDeferred KE, ?_⟩⟩
    exact ⟨_, by simp [results, Tryz.f28, go_sem, g0, g1, g2, g3, u0]; rfl, by rw [NR.out, NK.out]; rfl, BE.trans (belowK_b (w := w) (Nat.le_refl _) _ D _ _ (by rw [hsz] at hD; omega) KE rfl rfl)⟩
  case stop =>
    rintro D c pre W hD hpre ⟨⟨rfl, hno⟩, d1, d2, hB⟩ hK
    have hno' : allR l [0, 1, 2, 3] = false := by
      obtain ⟨t, ht'⟩ := hpre
      rw [← ht', allR_app, hno, Bool.false_and]
    have hNR : cellsN (numsR l) = cellsN (fun _ => 0) := by unfold numsR; rw [hno', if_neg (by decide)]
    have hNK : numsOk l = false := by unfold numsOk; rw [hno', Bool.false_and]
    have NR := Lib.hid hNR
    have NK := Lib.hid hNK
    clear hNR hNK hno hno' hpre
    gi_wp2
    have KD := Lib.hid hK
    have lt1 := blk_ne' hK d1
    have lt2 := blk_ne' hK d2
    have e1 : Blk (W.putObj D (.deferred none)) (w.heap.size + 1) (cellsN fun _ => 0) 51 := (World.putObj_heap_other lt1).trans d1
    have e2 : Blk (W.putObj D (.deferred none)) (w.heap.size + 1 + 1) #[.bool false] 4 := (World.putObj_heap_other lt2).trans d2
    have g0 := (blk_at e1).cell 0 _ rfl
    have g1 := (blk_at e1).cell 1 _ rfl
    have g2 := (blk_at e1).cell 2 _ rfl
    have g3 := (blk_at e1).cell 3 _ rfl
    have u0 := (blk_at e2).cell 0 _ rfl
    refine ⟨by simp, .inl ⟨_, _, rfl, run_takeDeferred KD.out, ?_⟩⟩
    exact ⟨_, by simp [results, Tryz.f28, go_sem, g0, g1, g2, g3, u0]; rfl, by rw [NR.out, NK.out]; rfl, hB.trans (belowK_b (w := w) (Nat.le_refl _) W D _ _ (by rw [hsz] at hD; omega) KD.out rfl rfl)⟩
end Go.Proofs.YtgldieboflmnhaaGreatDoor
