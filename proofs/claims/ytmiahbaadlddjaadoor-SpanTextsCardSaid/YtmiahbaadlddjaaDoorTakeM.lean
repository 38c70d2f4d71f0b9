/- take at every text: what it answers as a plain function of lists. -/
import Derived.Test.YtmiahbaadlddjaaDoorTake
import Derived.Lib.ParseIntBCases
import Derived.Lib.SlTrimSet
import Derived.Lib.IndexAny
import Derived.Lib.IndexBytes
import Derived.Lib.ItoaNum
namespace Go.Proofs.YtmiahbaadlddjaaDoor
open Go Go.Proofs Go.RowKit Go.Shelf
set_option maxRecDepth 100000
def digs : List UInt8 := [48, 49, 50, 51, 52, 53, 54, 55, 56, 57]
def dB (c : UInt8) : Bool := digs.contains c
theorem dB_iff (c : UInt8) : dB c = true ↔ 48 ≤ c.toNat ∧ c.toNat ≤ 57 := by
  have h : ∀ n : Nat, n < 256 → (dB (UInt8.ofNat n) = true ↔ 48 ≤ n ∧ n ≤ 57) := by decide
  have := h c.toNat (by have := c.toNat_lt; omega)
  rwa [UInt8.ofNat_toNat] at this
def dstep (a : Nat) (c : UInt8) : Nat := a * 10 + (c.toNat - 48)
def dval (l : List UInt8) : Nat := l.foldl dstep 0
theorem dfold_ge : ∀ (l : List UInt8) (a : Nat), a ≤ l.foldl dstep a := by
  intro l
  induction l with
  | nil => intro a; exact Nat.le_refl _
  | cons c t ih => intro a; rw [List.foldl_cons]; exact Nat.le_trans (by unfold dstep; omega) (ih _)
theorem uintM : ∀ (l : List UInt8) (a : Nat), l.all dB = true → a ≤ 18446744073709551615 →
    Lib.parseUintM (2 ^ 64 - 1) a l = if l.foldl dstep a ≤ 18446744073709551615 then .ok (l.foldl dstep a) else .range := by
  intro l
  induction l with
  | nil => intro a _ h; rw [List.foldl_nil, if_pos h]; rfl
  | cons c t ih =>
    intro a hall h
    rw [List.all_cons, Bool.and_eq_true] at hall
    have hc := (dB_iff c).1 hall.1
    rw [List.foldl_cons]
    unfold Lib.parseUintM
    rw [if_pos hc]
    have hge := dfold_ge t (dstep a c)
    have hst : dstep a c = a * 10 + (c.toNat - 48) := rfl
    have e64 : 2 ^ 64 - 1 = 18446744073709551615 := by decide
    rw [e64] at ih ⊢
    by_cases h1 : 1844674407370955162 ≤ a
    · rw [if_pos h1, if_neg (by omega)]
    · rw [if_neg h1]
      by_cases h2 : 18446744073709551615 < a * 10 + (c.toNat - 48)
      · rw [if_pos h2, if_neg (by omega)]
      · rw [if_neg h2, ← hst]
        exact ih _ hall.2 (by omega)
theorem uintB (l : List UInt8) (h : l.all dB = true) (h0 : l ≠ []) : Lib.parseUintB 64 l = if dval l ≤ 18446744073709551615 then .ok (dval l) else .range := by
  unfold Lib.parseUintB
  rw [if_neg h0]
  exact uintM l 0 h (by omega)
def nB (c : UInt8) : Bool := !dB c
theorem idx_take : ∀ l : List UInt8, (Lib.indexAny l digs = -1 ∧ l.takeWhile nB = l ∧ l.dropWhile nB = []) ∨ (∃ i : Nat, Lib.indexAny l digs = (i : Int) ∧ i ≤ l.length ∧ l.take i = l.takeWhile nB ∧ l.drop i = l.dropWhile nB) := by
  intro l
  induction l with
  | nil => left; exact ⟨rfl, rfl, rfl⟩
  | cons c t ih =>
    unfold Lib.indexAny
    by_cases hc : digs.contains c = true
    · rw [if_pos hc]
      have hn : nB c = false := by unfold nB dB; rw [hc]; rfl
      refine .inr ⟨0, rfl, Nat.zero_le _, ?_, ?_⟩
      · rw [List.takeWhile_cons, hn]; rfl
      · rw [List.dropWhile_cons, hn]; rfl
    · have hn : nB c = true := by unfold nB dB; simp only [Bool.not_eq_true] at hc; rw [hc]; rfl
      rw [if_neg hc]
      rcases ih with ⟨h1, h2, h3⟩ | ⟨i, h1, h2, h3, h4⟩
      · left
        rw [h1]
        refine ⟨rfl, ?_, ?_⟩
        · rw [List.takeWhile_cons, if_pos hn, h2]
        · rw [List.dropWhile_cons, if_pos hn, h3]
      · right
        refine ⟨i + 1, ?_, by simp; omega, ?_, ?_⟩
        · rw [h1, if_neg (by rw [beq_iff_eq]; omega)]; rfl
        · rw [List.takeWhile_cons, if_pos hn, List.take_succ_cons, h3]
        · rw [List.dropWhile_cons, if_pos hn, List.drop_succ_cons, h4]
theorem bytes_mk (s : ByteArray) (l : List UInt8) (h : s.data.toList = l) : s = ⟨l.toArray⟩ := by
  cases s with
  | mk d => simp at h; subst h; rfl
theorem bytes_pre (s : ByteArray) (k : Nat) : s.extract 0 k = ⟨(s.data.toList.take k).toArray⟩ :=
  bytes_mk _ _ (by rw [Lib.extract_data]; simp)
theorem bytes_suf (s : ByteArray) (k : Nat) : s.extract k s.size = ⟨(s.data.toList.drop k).toArray⟩ :=
  bytes_mk _ _ (Lib.extract_to_end s k)
theorem take_tw (p : UInt8 → Bool) (l : List UInt8) : l.take (l.length - (l.dropWhile p).length) = l.takeWhile p := by
  have h := congrArg List.length (List.takeWhile_append_dropWhile (p := p) (l := l))
  rw [List.length_append] at h
  have e : l.length - (l.dropWhile p).length = (l.takeWhile p).length := by omega
  rw [e]
  conv => lhs; arg 2; rw [← List.takeWhile_append_dropWhile (p := p) (l := l)]
  rw [List.take_left]
theorem drop_le (p : UInt8 → Bool) (l : List UInt8) : (l.dropWhile p).length ≤ l.length := by
  have h := congrArg List.length (List.takeWhile_append_dropWhile (p := p) (l := l))
  rw [List.length_append] at h
  omega
theorem tw_le (p : UInt8 → Bool) (l : List UInt8) : (l.takeWhile p).length ≤ l.length := by
  have h := congrArg List.length (List.takeWhile_append_dropWhile (p := p) (l := l))
  rw [List.length_append] at h
  omega
theorem tw_all (p : UInt8 → Bool) : ∀ l : List UInt8, (l.takeWhile p).all p = true := by
  intro l
  induction l with
  | nil => rfl
  | cons c t ih =>
    rw [List.takeWhile_cons]
    by_cases h : p c = true
    · rw [if_pos h, List.all_cons, h, ih]; rfl
    · rw [if_neg h]; rfl
/-- the digits, as far as 64 bits hold them -/
def dsat (D : List UInt8) : Nat := if dval D ≤ 18446744073709551615 then dval D else 18446744073709551615
def takeR (u : Fin 5) (l : List UInt8) : Option (Nat × List UInt8) :=
  if l.takeWhile dB = [] ∨ (l.takeWhile dB).head? = some 48 then none
  else if (l.dropWhile dB).takeWhile nB = unitWord u ∧ dsat (l.takeWhile dB) ≤ unitMost u then some (dsat (l.takeWhile dB), (l.dropWhile dB).dropWhile nB) else none
def takeV : Option (Nat × List UInt8) → Value
  | none => .tuple #[.int .u64 0, .string ⟨#[]⟩, .bool false]
  | some (n, r) => .tuple #[.int .u64 (n : Int), .string ⟨r.toArray⟩, .bool true]
def IxOk (l : List UInt8) : Prop := ∀ W, Calls Tryd.prog 36 #[.string ⟨(l.dropWhile dB).toArray⟩, .string ⟨#[48, 49, 50, 51, 52, 53, 54, 55, 56, 57]⟩] W fun e w' => e = .returned (.int .i64 (Lib.indexAny (l.dropWhile dB) digs)) ∧ Below W.heap.size W w'
def PuOk (w : World) (l : List UInt8) : Prop := l.takeWhile dB ≠ [] → ∀ W, Below w.heap.size w W → Calls Tryd.prog 37 #[.string ⟨(l.takeWhile dB).toArray⟩, .int .i64 10, .int .i64 64] W fun e w' => (∃ E, e = .returned (.tuple #[.int .u64 (dsat (l.takeWhile dB) : Int), E])) ∧ Below W.heap.size W w'
theorem ascii_of_all {l : List UInt8} (h : l.all (fun b => decide (b.toNat < 128)) = true) (j : Nat) (b : UInt8) (hj : l[j]? = some b) : b.toNat < 128 := by
  have := List.all_eq_true.1 h b (List.mem_of_getElem? hj)
  simpa using this
theorem trimL_any (s : ByteArray) (w : World) :
    Calls Tryd.prog 35 #[.string s, .string ⟨#[48, 49, 50, 51, 52, 53, 54, 55, 56, 57]⟩] w fun e w' => e = .returned (.string ⟨(s.data.toList.dropWhile dB).toArray⟩) ∧ Below w.heap.size w w' :=
  Any.strings_TrimLeft_laid Tryd.lays161 (by kernel_rfl) s ⟨#[48, 49, 50, 51, 52, 53, 54, 55, 56, 57]⟩ w (by decide) (ascii_of_all (by decide))
theorem all_drop (p q : UInt8 → Bool) (l : List UInt8) (h : l.all p = true) : (l.dropWhile q).all p = true := by
  rw [List.all_eq_true] at h ⊢
  intro x hx
  exact h x (by
    have := List.takeWhile_append_dropWhile (p := q) (l := l)
    rw [← this]; exact List.mem_append_right _ hx)
theorem ix_ascii (l : List UInt8) (hl : l.length ≤ 1000) (h : l.all (fun b => decide (b.toNat < 128)) = true) : IxOk l := fun W =>
  Tryd.strings_IndexAny_laid ⟨(l.dropWhile dB).toArray⟩ ⟨#[48, 49, 50, 51, 52, 53, 54, 55, 56, 57]⟩ W (by have := drop_le dB l; show (l.dropWhile dB).length < _; omega) (by decide) (ascii_of_all (all_drop _ _ l h)) (ascii_of_all (by decide))
theorem info_set : (Tryd.prog.info? (Tryd.lays153_ren.t 116)).map (fun i => (i.zero, i.size)) = some (some (.agg (Array.replicate 256 (.bool false))), 256) := by kernel_rfl
theorem ix_long (l : List UInt8) (hl : l.length ≤ 1000) (h : 8 < (l.dropWhile dB).length) : IxOk l := fun W =>
  (Any.strings_IndexAny_long Tryd.lays153 (zero_of_info info_set).1 (zero_of_info info_set).2 ⟨(l.dropWhile dB).toArray⟩ ⟨#[48, 49, 50, 51, 52, 53, 54, 55, 56, 57]⟩ W (by decide) h (by have := drop_le dB l; show (l.dropWhile dB).length < _; omega) (by decide) (ascii_of_all (by decide))).mono fun e w' ⟨h1, h2⟩ => ⟨h1, by rw [h2]; exact ((Below.refl _ _).alloc (Nat.le_refl _) _).alloc (by simp) _⟩
theorem pu_ok (w : World) (l : List UInt8) (hl : l.length ≤ 1000) (h : dval (l.takeWhile dB) ≤ 18446744073709551615) : PuOk w l := fun h0 W _ => by
  unfold dsat
  rw [if_pos h]
  refine (Tryd.strconv_ParseUint_10_at64_ok ⟨(l.takeWhile dB).toArray⟩ (by have := tw_le dB l; show (l.takeWhile dB).length ≤ _; omega) (dval (l.takeWhile dB)) ?_ W).mono ?_
  · show Lib.parseUintB 64 (l.takeWhile dB) = _
    rw [uintB _ (tw_all dB l) h0, if_pos h]
  · rintro e w' ⟨rfl, rfl | rfl⟩
    · exact ⟨⟨_, rfl⟩, Below.refl _ _⟩
    · exact ⟨⟨_, rfl⟩, Lib.bytesWorld_below _ _ _⟩
theorem beq_words (a b : List UInt8) : ((⟨a.toArray⟩ : ByteArray).toList == (⟨b.toArray⟩ : ByteArray).toList) = decide (a = b) := by
  rw [ByteArray.toList_eq, ByteArray.toList_eq]
  by_cases h : a = b
  · subst h; simp
  · rw [decide_eq_false h]; simpa using h
theorem take_any (u : Fin 5) (l : List UInt8) (hl : l.length ≤ 1000) (w : World) (hix : IxOk l) (hpu : PuOk w l) :
    Calls Tryd.prog 29 #[unitV u, .string ⟨l.toArray⟩] w fun e w' => e = .returned (takeV (takeR u l)) ∧ Below w.heap.size w w' := by
  have T := Lib.hid (fun W => trimL_any ⟨l.toArray⟩ W)
  unfold IxOk at hix
  have IX := Lib.hid hix
  have hs : (⟨l.toArray⟩ : ByteArray).size ≤ 1000 := hl
  have hts : (⟨(l.dropWhile dB).toArray⟩ : ByteArray).size ≤ (⟨l.toArray⟩ : ByteArray).size := drop_le dB l
  have e2 : (⟨l.toArray⟩ : ByteArray).extract 0 ((⟨l.toArray⟩ : ByteArray).size - (⟨(l.dropWhile dB).toArray⟩ : ByteArray).size) = ⟨(l.takeWhile dB).toArray⟩ := by
    rw [bytes_pre]
    show ByteArray.mk (l.take (l.length - (l.dropWhile dB).length)).toArray = _
    rw [take_tw]
  unfold takeR
  unfold PuOk at hpu
  clear hix
  generalize l.takeWhile dB = D at *
  generalize hT : l.dropWhile dB = tl at *
  have htl : tl.length ≤ l.length := hts
  rcases D with _ | ⟨c, t⟩
  · rw [if_pos (.inl rfl)]
    exact take_none u _ _ _ hs hts e2 (by rw [ByteArray.toList_eq]; rfl) T w
  · have e3 : (⟨(c :: t).toArray⟩ : ByteArray).toList.isEmpty = false := by rw [ByteArray.toList_eq]; rfl
    have hpos : 0 < (⟨(c :: t).toArray⟩ : ByteArray).size := by show 0 < (c :: t).length; simp
    have h0 : (⟨(c :: t).toArray⟩ : ByteArray)[0] = c := rfl
    by_cases hc : c = 48
    · subst hc
      rw [if_pos (.inr rfl)]
      exact take_zero u _ _ _ hs hts e2 hpos rfl e3 T w
    · have hc' : (⟨(c :: t).toArray⟩ : ByteArray)[0].toNat ≠ 48 := by
        rw [h0]; intro e; exact hc (UInt8.toNat_inj.1 e)
      have PU := Lib.hid (hpu (by simp))
      rw [if_neg (by rintro (h | h) <;> simp at h; exact hc h)]
      generalize dsat (c :: t) = n at *
      rcases idx_take tl with ⟨h1, h2, h3⟩ | ⟨i, h1, h2, h3, h4⟩
      · rw [h1] at IX
        rw [h2, h3]
        by_cases hw : tl = unitWord u
        · by_cases hn : n ≤ unitMost u
          · rw [if_pos ⟨hw, hn⟩]
            exact take_last_yes u _ _ _ hs hts e2 n hpos hc' e3 (by rw [beq_words]; exact decide_eq_true hw) hn T IX w PU
          · rw [if_neg (fun h => hn h.2)]
            exact take_last_many u _ _ _ hs hts e2 n hpos hc' e3 (by rw [beq_words]; exact decide_eq_true hw) (by omega) T IX w PU
        · rw [if_neg (fun h => hw h.1)]
          exact take_last_no u _ _ _ hs hts e2 n hpos hc' e3 (by rw [beq_words]; exact decide_eq_false hw) T IX w PU
      · rw [h1] at IX
        rw [← h3, ← h4]
        have k1 : i ≤ (⟨tl.toArray⟩ : ByteArray).size := h2
        have k2 : (⟨tl.toArray⟩ : ByteArray).extract 0 i = ⟨(tl.take i).toArray⟩ := bytes_pre _ _
        have k3 : (⟨(tl.take i).toArray⟩ : ByteArray).size = i := by show (tl.take i).length = i; rw [List.length_take]; omega
        have k4 : (⟨tl.toArray⟩ : ByteArray).extract i (⟨tl.toArray⟩ : ByteArray).size = ⟨(tl.drop i).toArray⟩ := bytes_suf _ _
        by_cases hw : tl.take i = unitWord u
        · by_cases hn : n ≤ unitMost u
          · rw [if_pos ⟨hw, hn⟩]
            exact take_rest_yes u _ _ _ hs hts e2 n hpos hc' e3 i _ _ k1 k2 k3 k4 (by rw [beq_words]; exact decide_eq_true hw) hn T IX w PU
          · rw [if_neg (fun h => hn h.2)]
            exact take_rest_many u _ _ _ hs hts e2 n hpos hc' e3 i _ _ k1 k2 k3 k4 (by rw [beq_words]; exact decide_eq_true hw) (by omega) T IX w PU
        · rw [if_neg (fun h => hw h.1)]
          exact take_rest_no u _ _ _ hs hts e2 n hpos hc' e3 i _ _ k1 k2 k3 k4 (by rw [beq_words]; exact decide_eq_false hw) T IX w PU
end Go.Proofs.YtmiahbaadlddjaaDoor
