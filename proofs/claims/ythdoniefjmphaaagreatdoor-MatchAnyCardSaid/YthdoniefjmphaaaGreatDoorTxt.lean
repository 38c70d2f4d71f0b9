/- label.Name: what may be a name. -/
import Derived.Test.YthdoniefjmphaaaGreatDoorProg
import Derived.Test.YthdoniefjmphaaaGreatDoorAt
import Derived.Test.YthdoniefjmphaaaGreatDoorShelf
import Derived.Shelf.Strings.SlTrimAscii
import Derived.Lib.ConvBytes
import Derived.Tactics
import Derived.Tactics2
import Derived.WalkKit
import Derived.Outline
import Derived.Handy
import Derived.Deep.RegionHeld3
import Derived.Deep.DeepCutAuto
import Derived.Deep.QuietTactic
import Derived.BigQuiet
import Derived.KernelRfl
import Derived.WalkSpells
import Derived.WalkLawsBesides
import Derived.Laws.StructEq
import Derived.Lib.Hide
import Derived.LoopTactic
import Derived.Laws.RangeAny
import Derived.Laws.RangeString
import Derived.RangeFuncNested
import Derived.RangeFuncBound
import Derived.RangeFuncCalls
import Derived.RangeFuncLeaves
import Derived.RangeFuncBox
import Derived.Shelf.Abstract
import Derived.Shelf.RegionOpen
import Derived.OwnWalkIn
import Derived.TacticsInMore
import Derived.LoopNIn
import Derived.LoopIn
import Derived.Lib.AppendStr
import Derived.Laws.IdiomStrings
import Derived.Lib.OthersKept
import Derived.Lib.UnsafeStr
import Derived.Laws.AppendOwn
import Derived.Maps.AppendAt
import Derived.Test.YthdoniefjmphaaaGreatDoorOps
import Derived.OneCell
namespace Go.Proofs.YthdoniefjmphaaaGreatDoor
open Go Go.Proofs Go.RowKit Go.Shelf
set_option maxRecDepth 100000
def lettersL : List UInt8 := [97, 98, 99, 100, 101, 102, 103, 104, 105, 106, 107, 108, 109, 110, 111, 112, 113, 114, 115, 116, 117, 118, 119, 120, 121, 122, 95]
def wordL : List UInt8 := lettersL ++ [48, 49, 50, 51, 52, 53, 54, 55, 56, 57]
def isLet (c : UInt8) : Bool := (decide (97 ≤ c.toNat) && decide (c.toNat ≤ 122)) || decide (c.toNat = 95)
def isWord (c : UInt8) : Bool := isLet c || (decide (48 ≤ c.toNat) && decide (c.toNat ≤ 57))
theorem let_iff (c : UInt8) : lettersL.contains c = isLet c := by
 have h : ∀ n : Fin 256, lettersL.contains (UInt8.ofNat n.val) = isLet (UInt8.ofNat n.val) := by decide +kernel
 have := h ⟨c.toNat, c.toNat_lt⟩
 rwa [UInt8.ofNat_toNat] at this
theorem word_iff (c : UInt8) : wordL.contains c = isWord c := by
 have h : ∀ n : Fin 256, wordL.contains (UInt8.ofNat n.val) = isWord (UInt8.ofNat n.val) := by decide +kernel
 have := h ⟨c.toNat, c.toNat_lt⟩
 rwa [UInt8.ofNat_toNat] at this
def nameR : List UInt8 → Bool
 | [] => false
 | c :: t => decide ((c :: t).length ≤ 16) && isLet c && (c :: t).all isWord
theorem dw_nil (p : UInt8 → Bool) (l : List UInt8) : l.dropWhile p = [] ↔ l.all p = true := by
 induction l with
 | nil => simp
 | cons a t ih =>
  rw [List.dropWhile_cons, List.all_cons];by_cases h : p a = true
  ·
   rw [if_pos h, ih, h, Bool.true_and]
  ·
   rw [if_neg h];simp only [Bool.not_eq_true] at h;rw [h];simp
theorem trim_nil (l cs : List UInt8) : Lib.trimS l cs = [] ↔ l.all (cs.contains ·) = true := by
 unfold Lib.trimS Lib.trimLeftS Lib.trimRightS;rw [dw_nil];constructor
 ·
  intro h;by_cases h0 : l.reverse.dropWhile (cs.contains ·) = []
  ·
   rw [dw_nil] at h0;simpa using h0
  ·
   exfalso;obtain ⟨a, t, e⟩ : ∃ a t, l.reverse.dropWhile (cs.contains ·) = a :: t := by
    cases h1 : l.reverse.dropWhile (cs.contains ·) with
    | nil => exact absurd h1 h0
    | cons a t => exact ⟨a, t, rfl⟩
   have hn : cs.contains a = false := by
    have := List.head_dropWhile_not (p := (cs.contains ·)) (l := l.reverse) h0;simp only [e, List.head_cons] at this;simpa using this
   rw [e, List.all_eq_true] at h;have := h a (by simp);rw [hn] at this;cases this
 ·
  intro h;rw [List.all_eq_true] at h ⊢;intro x hx;have hx1 := (List.dropWhile_sublist (p := (cs.contains ·)) (l := l.reverse)).subset (List.mem_reverse.1 hx);exact h x (List.mem_reverse.1 hx1)
theorem all_let (l : List UInt8) : l.all (lettersL.contains ·) = l.all isLet := by congr 1; funext c; exact let_iff c
theorem all_word (l : List UInt8) : l.all (wordL.contains ·) = l.all isWord := by congr 1; funext c; exact word_iff c
theorem ascii_of_all {l : List UInt8} (h : l.all (fun b => decide (b.toNat < 128)) = true) (j : Nat) (b : UInt8) (hj : l[j]? = some b) : b.toNat < 128 := by
 have := List.all_eq_true.1 h b (List.mem_of_getElem? hj);simpa using this
theorem trimL (s : ByteArray) (w : World) (hs : s.size ≤ 9223372036854775807) :
  Calls Tryz.prog 51 #[.string s, .string ⟨#[97, 98, 99, 100, 101, 102, 103, 104, 105, 106, 107, 108, 109, 110, 111, 112, 113, 114, 115, 116, 117, 118, 119, 120, 121, 122, 95]⟩] w fun e w' => e = .returned (.string ⟨(Lib.trimS s.data.toList lettersL).toArray⟩) ∧ Below w.heap.size w w' :=
 Any.strings_Trim_laid Tryz.lays160 (by kernel_rfl) s ⟨#[97, 98, 99, 100, 101, 102, 103, 104, 105, 106, 107, 108, 109, 110, 111, 112, 113, 114, 115, 116, 117, 118, 119, 120, 121, 122, 95]⟩ w hs (by decide) (ascii_of_all (by decide))
theorem trimW (s : ByteArray) (w : World) (hs : s.size ≤ 9223372036854775807) :
  Calls Tryz.prog 51 #[.string s, .string ⟨#[97, 98, 99, 100, 101, 102, 103, 104, 105, 106, 107, 108, 109, 110, 111, 112, 113, 114, 115, 116, 117, 118, 119, 120, 121, 122, 95, 48, 49, 50, 51, 52, 53, 54, 55, 56, 57]⟩] w fun e w' => e = .returned (.string ⟨(Lib.trimS s.data.toList wordL).toArray⟩) ∧ Below w.heap.size w w' :=
 Any.strings_Trim_laid Tryz.lays160 (by kernel_rfl) s ⟨#[97, 98, 99, 100, 101, 102, 103, 104, 105, 106, 107, 108, 109, 110, 111, 112, 113, 114, 115, 116, 117, 118, 119, 120, 121, 122, 95, 48, 49, 50, 51, 52, 53, 54, 55, 56, 57]⟩ w hs (by decide) (ascii_of_all (by decide))
set_option maxHeartbeats 1000000 in
theorem name_any (l : List UInt8) (w : World) :
  Calls Tryz.prog 40 #[.string ⟨l.toArray⟩] w fun e w' => e = .returned (.bool (nameR l)) ∧ Below w.heap.size w w' := by
 have hL : (⟨l.toArray⟩ : ByteArray).toList = l := by rw [ByteArray.toList_eq]
 have hsz : (⟨l.toArray⟩ : ByteArray).size = l.length := rfl;rcases l with _ | ⟨c, t⟩
 ·
  go_enter Tryz.func40, Tryz.ntmps40
  go_wp2
  go_ret
  exact ⟨rfl, Below.refl _ _⟩
 ·
  have h0 : (c :: t).isEmpty = false := rfl;by_cases h16 : 16 < (c :: t).length
  ·
   have hz : (16 : Int) < ((c :: t).length : Int) := by omega
   have R : Hid (nameR (c :: t) = false) := by show (decide ((c :: t).length ≤ 16) && isLet c && (c :: t).all isWord) = false; rw [decide_eq_false (by omega)]; rfl
   generalize c :: t = l at *;go_enter Tryz.func40, Tryz.ntmps40
   go_wp2
   go_ret
   exact ⟨by rw [R.out]; rfl, Below.refl _ _⟩
  ·
   have hz : ¬ (16 : Int) < ((c :: t).length : Int) := by omega
   have h1 : 1 ≤ (c :: t).length := by simp
   have T1 := Lib.hid (fun W => trimL ((⟨(c :: t).toArray⟩ : ByteArray).extract 0 1) W (by rw [Lib.size_eq, Lib.extract_data]; simp));have T2 := Lib.hid (fun W => trimW (⟨(c :: t).toArray⟩ : ByteArray) W (by rw [hsz]; omega));have e1 : ((⟨(c :: t).toArray⟩ : ByteArray).extract 0 1).data.toList = [c] := by rw [Lib.extract_data]; simp
   rw [e1] at T1;have a1 := trim_nil [c] lettersL;have a2 := trim_nil (c :: t) wordL;rw [all_let] at a1;rw [all_word] at a2;have R : Hid (nameR (c :: t) = (isLet c && (c :: t).all isWord)) := by show (decide ((c :: t).length ≤ 16) && isLet c && (c :: t).all isWord) = _; rw [decide_eq_true (by omega)]; rfl
   obtain ⟨u1, hu1⟩ : ∃ u1, Lib.trimS [c] lettersL = u1 := ⟨_, rfl⟩;obtain ⟨u2, hu2⟩ : ∃ u2, Lib.trimS (c :: t) wordL = u2 := ⟨_, rfl⟩;rw [hu1] at T1 a1;rw [show Lib.trimS (⟨(c :: t).toArray⟩ : ByteArray).data.toList wordL = u2 from hu2] at T2;rw [hu2] at a2;have g1 : (⟨u1.toArray⟩ : ByteArray).toList = u1 := by rw [ByteArray.toList_eq]
   have g2 : (⟨u2.toArray⟩ : ByteArray).toList = u2 := by rw [ByteArray.toList_eq]
   clear hu1 hu2 e1 h16;rw [List.all_cons, List.all_nil, Bool.and_true] at a1;generalize (c :: t).all isWord = b2 at *;generalize isLet c = b1 at *;generalize c :: t = l at *;have A1 := Lib.hid a1;have A2 := Lib.hid a2;clear a1 a2;cases b1
   ·
    have k1 : u1.isEmpty = false := by
     cases u1 with
     | nil => have := A1.out.1 rfl; cases this
     | cons _ _ => rfl
    go_enter Tryz.func40, Tryz.ntmps40
    go_wp2_with fail
    refine (T1.out _).mono ?_;rintro e w1 ⟨rfl, hb1⟩;go_wp2
    go_ret
    exact ⟨by rw [R.out]; rfl, hb1⟩
   ·
    obtain rfl : u1 = [] := A1.out.2 rfl;go_enter Tryz.func40, Tryz.ntmps40
    go_wp2_with fail
    refine (T1.out _).mono ?_;rintro e w1 ⟨rfl, hb1⟩;go_wp2_with fail
    refine (T2.out _).mono ?_;rintro e w2 ⟨rfl, hb2⟩;have hB := hb1.trans (hb2.mono hb1.size);cases b2
    ·
     have k2 : u2.isEmpty = false := by
      cases u2 with
      | nil => have := A2.out.1 rfl; cases this
      | cons _ _ => rfl
     go_wp2
     go_ret
     exact ⟨by rw [R.out]; rfl, hB⟩
    ·
     obtain rfl : u2 = [] := A2.out.2 rfl;go_wp2
     go_ret
     exact ⟨by rw [R.out]; rfl, hB⟩
end Go.Proofs.YthdoniefjmphaaaGreatDoor
/- label.Value: what may be a value. -/
namespace Go.Proofs.YthdoniefjmphaaaGreatDoor
open Go Go.Proofs Go.RowKit Go.Shelf
set_option maxRecDepth 100000
def badB (c : UInt8) : Bool := decide (c.toNat < 32) || decide (126 < c.toNat)
def badR (r : Nat) : Bool := decide (r < 32) || decide (126 < r)
def valueR (l : List UInt8) : Bool := !l.isEmpty && decide (l.length ≤ 64) && !l.any badB
theorem idx_bad (s : ByteArray) : ∀ (f pos : Nat), s.size ≤ pos + f → decide (0 ≤ Lib.idxFuncFrom badR true s f pos) = (s.data.toList.drop pos).any badB := by
 intro f;induction f with
 | zero =>
  intro pos h;rw [List.drop_eq_nil_of_le (by rw [← Lib.size_eq]; omega)];rfl
 | succ f ih =>
  intro pos h;unfold Lib.idxFuncFrom;by_cases hp : pos < s.size
  ·
   rw [if_pos hp];have hd : s.data.toList[pos]? = some (s[pos]'hp) := Lib.data_getElem? s pos hp;obtain ⟨hn, he⟩ := List.getElem?_eq_some_iff.1 hd;rw [List.drop_eq_getElem_cons hn, List.any_cons, he];by_cases ha : (s[pos]'hp).toNat < 128
   ·
    rw [decode_ascii s pos hp ha];dsimp only;have e : badR (s[pos]'hp).toNat = badB (s[pos]'hp) := rfl;rw [e];cases hb : badB (s[pos]'hp)
    ·
     simp only [Bool.false_eq_true, if_false, Bool.false_or];exact ih (pos + 1) (by omega)
    ·
     simp
   ·
    have hr := decode_high s pos hp (by omega);have e : badR (Utf8.decode s pos).1 = true := by
     unfold badR;rw [decide_eq_true (show 126 < (Utf8.decode s pos).1 by omega), Bool.or_true]
    have e2 : badB (s[pos]'hp) = true := by
     unfold badB;rw [decide_eq_true (show 126 < (s[pos]'hp).toNat by omega), Bool.or_true]
    rw [if_pos e, e2];simp
  ·
   rw [if_neg hp, List.drop_eq_nil_of_le (by rw [← Lib.size_eq]; omega)];rfl
theorem value_pred (w : World) : PredAt Tryz.prog 53 #[] encR badR w := fun W r _ => by
 unfold FnGives;by_cases h1 : r < 32
 ·
  have e : badR r = true := by unfold badR; rw [decide_eq_true h1]; rfl
  have h1' : (r : Int) < 32 := by omega
  rw [e];go_enter Tryz.func53, Tryz.ntmps53
  go_wp2
  go_ret
  exact ⟨rfl, 0, rfl⟩
 ·
  have h1' : ¬ (r : Int) < 32 := by omega
  by_cases h2 : 126 < r
  ·
   have e : badR r = true := by unfold badR; rw [decide_eq_true h2, Bool.or_true]
   have h2' : (126 : Int) < (r : Int) := by omega
   rw [e];go_enter Tryz.func53, Tryz.ntmps53
   go_wp2
   go_ret
   exact ⟨rfl, 0, rfl⟩
  ·
   have e : badR r = false := by unfold badR; rw [decide_eq_false h1, decide_eq_false h2]; rfl
   have h2' : ¬ (126 : Int) < (r : Int) := by omega
   rw [e];go_enter Tryz.func53, Tryz.ntmps53
   go_wp2
   go_ret
   exact ⟨rfl, 0, rfl⟩
theorem contains_bad (l : List UInt8) (w : World) :
  Calls Tryz.prog 52 #[.string ⟨l.toArray⟩, .func (.func 53) #[] #[]] w fun e w' => e = .returned (.bool (l.any badB)) ∧ Below w.heap.size w w' := by
 have h := Tryz.strings_ContainsFunc 53 #[] (enters_of Tryz.func53 (by kernel_rfl) rfl) badR ⟨l.toArray⟩ w (value_pred w);unfold Lib.idxFunc at h;rw [idx_bad _ _ 0 (by omega)] at h;exact h
theorem value_any (l : List UInt8) (w : World) :
  Calls Tryz.prog 41 #[.string ⟨l.toArray⟩] w fun e w' => e = .returned (.bool (valueR l)) ∧ Below w.heap.size w w' := by
 have hsz : (⟨l.toArray⟩ : ByteArray).size = l.length := rfl;have C := Lib.hid (fun W => contains_bad l W);have R : Hid (valueR l = (!l.isEmpty && decide (l.length ≤ 64) && !l.any badB)) := rfl;cases h0 : l.isEmpty
 ·
  by_cases h64 : 64 < l.length
  ·
   have hz : (64 : Int) < (l.length : Int) := by omega
   have R2 : Hid (valueR l = false) := by unfold Hid valueR; rw [decide_eq_false (show ¬ l.length ≤ 64 by omega)]; simp
   go_enter Tryz.func41, Tryz.ntmps41
   go_wp2
   go_ret
   exact ⟨by rw [R2.out]; rfl, Below.refl _ _⟩
  ·
   have hz : ¬ (64 : Int) < (l.length : Int) := by omega
   have R2 : Hid (valueR l = !l.any badB) := by unfold Hid valueR; rw [decide_eq_true (show l.length ≤ 64 by omega), h0]; simp
   clear R;generalize l.any badB = b at *;go_enter Tryz.func41, Tryz.ntmps41
   go_wp2_with fail
   refine (C.out _).mono ?_;rintro e w1 ⟨rfl, hb1⟩;go_wp2
   go_ret
   exact ⟨by rw [R2.out]; rfl, hb1⟩
 ·
  obtain rfl : l = [] := by simpa using h0
  go_enter Tryz.func41, Tryz.ntmps41
  go_wp2
  go_ret
  exact ⟨rfl, Below.refl _ _⟩
end Go.Proofs.YthdoniefjmphaaaGreatDoor
/- slices.Values of a set of labels: the iterator's contract. -/
namespace Go.Proofs.YthdoniefjmphaaaGreatDoor
open Go Go.Proofs Go.RowKit Go.Shelf
set_option maxRecDepth 100000
attribute [local go_sem] Oper.semAt_some
abbrev Lab := List UInt8 × List UInt8
def Short (x : Lab) : Prop := x.1.length ≤ 200 ∧ x.2.length ≤ 200
abbrev SLab := { x : Lab // Short x }
def labV (x : Lab) : Value := .agg #[.string ⟨x.1.toArray⟩, .string ⟨x.2.toArray⟩]
def Labs (n₀ : Nat) (W : World) (sv : Value) (zs : List SLab) : Prop :=
 ((∃ a c, sv = .slice a 0 c) ∧ zs = []) ∨ ∃ b off cap, sv = .slice (some ⟨b, off, none⟩) zs.length cap ∧ b < n₀ ∧ ∀ j x, zs[j]? = some x →
  W.cell? ⟨b, off + j * 2, none⟩ = some (.string ⟨x.1.1.toArray⟩) ∧ W.cell? ⟨b, off + j * 2 + 1, none⟩ = some (.string ⟨x.1.2.toArray⟩)
theorem Labs.below {n₀ : Nat} {A B : World} (h : Below n₀ A B) {sv : Value} {zs : List SLab} : Labs n₀ A sv zs → Labs n₀ B sv zs
 | .inl e => .inl e
 | .inr ⟨b, off, cap, e, hb, hc⟩ => .inr ⟨b, off, cap, e, hb, fun j x hj => ⟨(h.cell (p := ⟨b, off + j * 2, none⟩) hb).trans (hc j x hj).1, (h.cell (p := ⟨b, off + j * 2 + 1, none⟩) hb).trans (hc j x hj).2⟩⟩
set_option maxHeartbeats 4000000 in
theorem values1_in (F : Fence) (n : Nat) (hf : F.fn 61) (hro : F.round = none) (hn : 1 ≤ n) (l Bs n₀ b off cap : Nat) (zs : List SLab) (hreach : zs.length ≤ 1000000) (hb : b < n₀) (J Jx : List SLab → World → Prop)
  (hJa : ∀ pre W o, J pre W → J pre (W.alloc o))
  (hY : ∀ pre x W, J pre W → pre.length < zs.length → YieldAt F (n - 1) Tryz.prog l #[labV x.1] W fun e W' =>
   (e = .returned (.bool true) ∧ J (pre ++ [x]) W' ∧ Below n₀ W W') ∨ (e = .returned (.bool false) ∧ Jx (pre ++ [x]) W'))
  (W : World) (hn0 : n₀ ≤ W.heap.size) (hBs : W.cell? ⟨Bs, 0, none⟩ = some (.slice (some ⟨b, off, none⟩) zs.length cap))
  (hc : ∀ j x, zs[j]? = some x → W.cell? ⟨b, off + j * 2, none⟩ = some (.string ⟨x.1.1.toArray⟩) ∧ W.cell? ⟨b, off + j * 2 + 1, none⟩ = some (.string ⟨x.1.2.toArray⟩)) (h0 : J [] W) :
  CallsIn F n Tryz.prog 61 #[.func (.yield l) #[] #[], .pointer (some ⟨Bs, 0, none⟩)] W fun e W' => (∃ v, e = .returned v) ∧
   ((∃ ys, ys = zs ∧ J ys W') ∨ (∃ pre, pre <+: zs ∧ Jx pre W')) := by
 refine callsIn_of_wp Tryz.func61 rfl hf ?_ hro;simp only [Tryz.ntmps61, List.size_toArray, List.length_cons, List.length_nil, Nat.reduceAdd, Nat.reduceSub, Array.replicate_succ, Array.replicate_zero, List.push_toArray, List.append_toArray, List.nil_append, List.cons_append]
 gi_wp2
 gi_loopw [7] (fun i wr => ∃ k : Nat, k ≤ zs.length ∧ i = .int .i64 (k : Int) ∧ J (zs.take k) wr ∧ Below n₀ W wr ∧ n₀ ≤ wr.heap.size)
  (fun i _ => zs.length - (intOf i).toNat)
 case atStart => exact ⟨0, Nat.zero_le _, rfl, h0, Below.refl _ _, hn0⟩
 case round =>
  obtain ⟨k, hk, rfl, hJs, hnx, hge⟩ := hrel;by_cases hlt : k < zs.length
  ·
   obtain ⟨x, hx⟩ : ∃ x, zs[k]? = some x := ⟨_, List.getElem?_eq_getElem hlt⟩;obtain ⟨hn1, he1⟩ := List.getElem?_eq_some_iff.1 hx;have htk : zs.take (k + 1) = zs.take k ++ [x] := by rw [List.take_succ_eq_append_getElem hn1, he1]
   obtain ⟨c0, c1⟩ := hc k x hx;have c0 := (hnx.cell (p := ⟨b, off + k * 2, none⟩) hb).trans c0;have c1 := (hnx.cell (p := ⟨b, off + k * 2 + 1, none⟩) hb).trans c1;have hJa' := hJa _ _ (.cells #[.string ⟨x.1.1.toArray⟩, .string ⟨x.1.2.toArray⟩] 48) hJs;obtain ⟨fn, tmps, assign, body, hy, hR⟩ := hY _ x _ hJa' (by rw [List.length_take]; omega);unfold labV at hy;have h1 : (0 : Int) ≤ (k : Int) := by omega
   have h2 : (k : Int) < (zs.length : Int) := by omega
   have TK := Lib.hid htk;clear htk hx he1
   gi_wp2
   refine hR.mono ?_;rintro e W3 (⟨rfl, hJ3, hk3⟩ | ⟨rfl, hJx3⟩)
   ·
    gi_wp2
    go_roundw
    case rel => exact ⟨k + 1, by omega, by simp, by rw [TK.out]; exact hJ3, hnx.trans (((Below.refl _ _).alloc hge _).trans hk3), Nat.le_trans (Nat.le_trans hge (by simp)) hk3.size⟩
    case measure => simp [intOf]; omega
   ·
    gi_wp2
    refine bodyPost_ret (results_none rfl _ _ _) rfl ?_;exact ⟨⟨_, rfl⟩, .inr ⟨_, by rw [← TK.out]; exact List.take_prefix _ _, hJx3⟩⟩
  ·
   obtain rfl : k = zs.length := by omega
   gi_wp2
   go_end0
   rw [List.take_length] at hJs;exact ⟨⟨_, rfl⟩, .inl ⟨_, rfl, hJs⟩⟩
theorem values1_nil_in (F : Fence) (n : Nat) (hf : F.fn 61) (hro : F.round = none) (l Bs : Nat) (J : List SLab → World → Prop) (a : Option Addr) (c : Nat) (W : World) (hBs : W.cell? ⟨Bs, 0, none⟩ = some (.slice a 0 c)) (h0 : J [] W) :
  CallsIn F n Tryz.prog 61 #[.func (.yield l) #[] #[], .pointer (some ⟨Bs, 0, none⟩)] W fun e W' => (∃ v, e = .returned v) ∧ J [] W' := by
 refine callsIn_of_wp Tryz.func61 rfl hf ?_ hro;simp only [Tryz.ntmps61, List.size_toArray, List.length_cons, List.length_nil, Nat.reduceAdd, Nat.reduceSub, Array.replicate_succ, Array.replicate_zero, List.push_toArray, List.append_toArray, List.nil_append, List.cons_append]
 gi_wp2
 gi_loopw [7] (fun i wr => i = .int .i64 0 ∧ J [] wr) (fun _ _ => 0)
 case atStart => exact ⟨rfl, h0⟩
 case round =>
  obtain ⟨rfl, hJs⟩ := hrel
  gi_wp2
  go_end0
  exact ⟨⟨_, rfl⟩, hJs⟩
theorem values_in (F : Fence) (n : Nat) (hf : F.fn 48) (hro : F.round = none) (a : Option Addr) (len cap : Nat) (w : World) :
  CallsIn F n Tryz.prog 48 #[.slice a len cap] w fun e w' => e = .returned (.func (.func 61) #[] #[.pointer (some ⟨w.heap.size, 0, none⟩)]) ∧ w' = w.alloc (.cells #[.slice a len cap] 24) := by
 refine callsIn_of_wp Tryz.func48 rfl hf ?_ hro;simp only [Tryz.ntmps48, List.size_toArray, List.length_cons, List.length_nil, Nat.reduceAdd, Nat.reduceSub, Array.replicate_succ, Array.replicate_zero, List.push_toArray, List.append_toArray, List.nil_append, List.cons_append]
 gi_wp2
 go_ret
 exact ⟨rfl, rfl⟩
theorem values_stops (F : Fence) (n : Nat) (hf : F.fn 61) (hro : F.round = none) (hn : 1 ≤ n) (Bs n₀ : Nat) (sv : Value) (zs : List SLab) (hreach : zs.length ≤ 1000000) (w : World) (hBs : Bs < w.heap.size) (hn₀ : n₀ ≤ w.heap.size)
  (hc : w.cell? ⟨Bs, 0, none⟩ = some sv) (hI : Labs n₀ w sv zs) :
  SeqStopsK F n Tryz.prog 61 #[.pointer (some ⟨Bs, 0, none⟩)] (fun x : SLab => #[labV x.1]) (Below n₀) (fun ys => ys = zs) (fun pre => pre <+: zs) zs.length w := fun l J Jx W hW hJ _ hY h0 => by
 have hc' := (hW.cell (p := ⟨Bs, 0, none⟩) hBs).trans hc;rcases hI.below (hW.mono hn₀) with ⟨⟨a0, k0, rfl⟩, rfl⟩ | ⟨b, off, cap, rfl, hb, hcs⟩
 ·
  exact (values1_nil_in F n hf hro l Bs J a0 k0 W hc' h0).mono fun e W' ⟨he, hj⟩ => ⟨he, .inl ⟨_, rfl, hj⟩⟩
 ·
  exact (values1_in F n hf hro hn l Bs n₀ b off cap zs hreach hb J Jx (fun pre W1 o h => hJ pre W1 (W1.alloc o) none h (World.grownBy_alloc _ _ none) (fun r e => by cases e)) hY W (Nat.le_trans hn₀ hW.size) hc' hcs h0).mono fun e W' h => h
end Go.Proofs.YthdoniefjmphaaaGreatDoor
/- A text escaped; a row of bytes that a call owns. -/
namespace Go.Proofs.YthdoniefjmphaaaGreatDoor
open Go Go.Proofs Go.RowKit Go.Shelf Go.Lib
set_option maxRecDepth 100000
theorem info_u8 : (Tryz.prog.info? 5).map (fun i => (i.zero, i.size, i.bytes)) = some (some (.int .u8 0), 1, 1) := by kernel_rfl
def escC (c : UInt8) : List UInt8 := if c.toNat = 34 ∨ c.toNat = 92 then [92, c] else [c]
def escR (l : List UInt8) : List UInt8 := l.flatMap escC
theorem escR_snoc (l : List UInt8) (c : UInt8) : escR (l ++ [c]) = escR l ++ escC c := by unfold escR; simp
theorem escC_len (c : UInt8) : (escC c).length ≤ 2 := by unfold escC; split <;> simp
theorem escR_len (l : List UInt8) : (escR l).length ≤ 2 * l.length := by
 induction l with
 | nil => simp [escR]
 | cons c t ih =>
  have := escC_len c;unfold escR at *;rw [List.flatMap_cons, List.length_append, List.length_cons];omega
structure EW (w : World) (base : Nat) (v : Value) (S : List UInt8) (W : World) : Prop where
 own : W.ownsRow base 5 1 v S.length (byteCells S)
 bel : Below base w W
 oth : OthersKept 5 none w W
 ge : base ≤ W.heap.size
theorem EW.app {w W W' : World} {base : Nat} {v v' : Value} {S X : List UInt8} (h : EW w base v S W) (o : Obj) (own : W'.ownsRow base 5 1 v' (S.length + X.length) (byteCells S ++ byteCells X)) (g : (W.alloc o).grownBy W' v.ownBlock) : EW w base v' (S ++ X) W' := by
 have hk : ∀ i, v.ownBlock = some i → base ≤ i ∧ ∃ c fz, (W.alloc o).heap[i]? = some (.cells c 5 fz) := by
  intro i e;rcases h.own.2 with ⟨rfl, _⟩ | ⟨gg, cap, cur, rfl, hb, hgb, _⟩
  ·
   simp [Value.ownBlock] at e
  ·
   obtain rfl : gg = i := by simpa [Value.ownBlock] using e
   exact ⟨hb, _, _, (Below.heap_alloc W o gg (Array.getElem?_eq_some_iff.1 hgb).1).trans hgb⟩
 refine ⟨?_, (h.bel.alloc h.ge o).grown g (by have := h.ge; simp; omega) (fun i e => (hk i e).1), (h.oth.alloc o).grown g (fun i e => (hk i e).2), ?_⟩
 ·
  rw [List.length_append, show byteCells (S ++ X) = byteCells S ++ byteCells X by simp [byteCells]]; exact own
 ·
  have := g.size; have := h.ge; simp at *; omega
end Go.Proofs.YthdoniefjmphaaaGreatDoor
/- label.Text. -/
namespace Go.Proofs.YthdoniefjmphaaaGreatDoor
open Go Go.Proofs Go.RowKit Go.Shelf
set_option maxRecDepth 100000
attribute [local go_sem] Oper.semAt_some
def Blk (W : World) (B : Nat) (cs : Array Value) (T : TypeId) : Prop := W.heap[B]? = some (.cells cs T (0, 0))
theorem blk_own {β : Type} (B : Nat) (T : TypeId) (cs : Array Value) : Own (fun (_ : β) W => Blk W B cs T) := fun s X Y row hs hg hrow =>
 (hg.block B (Array.getElem?_eq_some_iff.1 hs).1 (fun e' => by obtain ⟨o, ho, hc⟩ := hrow B e'.symm; rw [show X.heap[B]? = _ from hs] at ho; cases ho; cases hc)).trans hs
structure PS (w W0 W : World) (vb v : Value) (S ah : List UInt8) (Bx : Nat) (cs : Array Value) : Prop where
 bt : Boxed W (w.heap.size + 1) 86 vb
 ba : Boxed W (w.heap.size + 1 + 1) 9 (.string ⟨ah.toArray⟩)
 bx : Blk W Bx cs 48
 own : W.ownsRow w.heap.size 5 1 v S.length (Lib.byteCells S)
 bel : Below w.heap.size w W
 bel0 : Below w.heap.size W0 W
 ko : KeepsOthers W0 W
theorem PS.grow {w W0 W W1 : World} {vb v v' : Value} {S S' ah : List UInt8} {Bx n' : Nat} {cs : Array Value} (h : PS w W0 W vb v S ah Bx cs) (g : W.grownBy W1 v.ownBlock) (own : W1.ownsRow w.heap.size 5 1 v' n' (Lib.byteCells S')) (hn : n' = S'.length) : PS w W0 W1 vb v' S' ah Bx cs := by
 subst hn;have hk : ∀ i, v.ownBlock = some i → w.heap.size ≤ i := by
  intro i e;rcases h.own.2 with ⟨rfl, _⟩ | ⟨gg, cap, cur, rfl, hb, hgb, _⟩
  ·
   simp [Value.ownBlock] at e
  ·
   obtain rfl : gg = i := by simpa [Value.ownBlock] using e
   exact hb
 refine ⟨h.bt.kept g (h.bt.not_row (by decide) h.own), h.ba.kept g (h.ba.not_row (by decide) h.own), heap_grow h.own g (by decide) h.bx, own, h.bel.grown g h.bel.size hk, h.bel0.grown g (by have := h.bt.lt; omega) hk, h.ko.trans (KeepsOthers.of_grownBy g fun j o ej hj => ?_)⟩;rcases h.own.2 with ⟨rfl, _⟩ | ⟨gg, cap, cur, rfl, _, hgb, _⟩
 ·
  simp [Value.ownBlock] at ej
 ·
  obtain rfl : gg = j := by simpa [Value.ownBlock] using ej
  rw [hgb] at hj; cases hj; rfl
theorem PS.alloc {w W0 W : World} {vb v : Value} {S ah : List UInt8} {Bx : Nat} {cs : Array Value} (h : PS w W0 W vb v S ah Bx cs) (o : Obj) : PS w W0 (W.alloc o) vb v S ah Bx cs :=
 ⟨h.bt.alloc o, h.ba.alloc o, (Below.heap_alloc W o Bx (Array.getElem?_eq_some_iff.1 h.bx).1).trans h.bx, h.own.alloc o, h.bel.alloc h.bel.size o, h.bel0.alloc (by have := h.bt.lt; omega) o, h.ko.trans (KeepsOthers.alloc _ _)⟩
theorem PS.ew {w W0 W : World} {vb v : Value} {S ah : List UInt8} {Bx : Nat} {cs : Array Value} (h : PS w W0 W vb v S ah Bx cs) : EW W w.heap.size v S W :=
 ⟨h.own, Below.refl _ _, Lib.OthersKept.refl _ _ _, by have := h.bt.lt; omega⟩
theorem PS.store {w W0 W : World} {vb v : Value} {S ah : List UInt8} {Bx : Nat} {cs : Array Value} (h : PS w W0 W vb v S ah Bx cs) (hB : w.heap.size + 1 + 1 < Bx) : PS w W0 (W.setCell ⟨w.heap.size + 1, 0, none⟩ v) v v S ah Bx cs :=
 ⟨h.bt.set v, h.ba.other (by omega) _, by rw [Blk, Below.heap_setCell _ _ _ _ (by show Bx ≠ w.heap.size + 1; omega)]; exact h.bx, ownsRow_setCell_other h.own (h.bt.not_row (by decide) h.own).symm _, h.bel.setCell (by simp) _, h.bel0.setCell (by simp) _, h.ko.trans (KeepsOthers.setCell _ _ _)⟩
theorem bapp (a b : List UInt8) : ((⟨a.toArray⟩ : ByteArray) ++ ⟨b.toArray⟩) = ⟨(a ++ b).toArray⟩ := by
 apply ByteArray.ext; simp
theorem row_at {w : World} {base e n : Nat} {v : Value} {xs : List Value} (h : w.ownsRow base e 1 v n xs) : ∀ i, v.ownBlock = some i → base ≤ i ∧ ∃ c fz, w.heap[i]? = some (.cells c e fz) := by
 intro i e';rcases h.2 with ⟨rfl, _⟩ | ⟨gg, cap, cur, rfl, hb, hgb, _⟩
 ·
  simp [Value.ownBlock] at e'
 ·
  obtain rfl : gg = i := by simpa [Value.ownBlock] using e'
  exact ⟨hb, _, _, hgb⟩
theorem bcells_app (a b : List UInt8) : Lib.byteCells (a ++ b) = Lib.byteCells a ++ Lib.byteCells b := by simp [Lib.byteCells]
end Go.Proofs.YthdoniefjmphaaaGreatDoor
