/- label.Name: what may be a name. -/
import Derived.Test.YtmcmgmpgmbljiaaDoorProg
import Derived.Test.YtmcmgmpgmbljiaaDoorAt
import Derived.Test.YtmcmgmpgmbljiaaDoorShelf
import Derived.Shelf.Strings.SlTrimAscii
import Derived.Lib.ConvBytes
import Derived.Tactics
import Derived.Tactics2
import Derived.WalkKit
import Derived.Outline
import Derived.Handy
import Derived.Deep.RegionHeld3
import Derived.Deep.DeepCutAuto
import Derived.Deep.QuietTactic
import Derived.BigQuiet
import Derived.KernelRfl
import Derived.WalkSpells
import Derived.WalkLawsBesides
import Derived.Laws.StructEq
import Derived.Lib.Hide
import Derived.LoopTactic
namespace Go.Proofs.YtmcmgmpgmbljiaaDoor
open Go Go.Proofs Go.RowKit Go.Shelf
set_option maxRecDepth 100000
def lettersL : List UInt8 := [97, 98, 99, 100, 101, 102, 103, 104, 105, 106, 107, 108, 109, 110, 111, 112, 113, 114, 115, 116, 117, 118, 119, 120, 121, 122, 95]
def wordL : List UInt8 := lettersL ++ [48, 49, 50, 51, 52, 53, 54, 55, 56, 57]
/-- may it stand first in a name; may it stand in a name -/
def isLet (c : UInt8) : Bool := (decide (97 ≤ c.toNat) && decide (c.toNat ≤ 122)) || decide (c.toNat = 95)
def isWord (c : UInt8) : Bool := isLet c || (decide (48 ≤ c.toNat) && decide (c.toNat ≤ 57))
theorem let_iff (c : UInt8) : lettersL.contains c = isLet c := by
  have h : ∀ n : Fin 256, lettersL.contains (UInt8.ofNat n.val) = isLet (UInt8.ofNat n.val) := by decide +kernel
  have := h ⟨c.toNat, c.toNat_lt⟩
  rwa [UInt8.ofNat_toNat] at this
theorem word_iff (c : UInt8) : wordL.contains c = isWord c := by
  have h : ∀ n : Fin 256, wordL.contains (UInt8.ofNat n.val) = isWord (UInt8.ofNat n.val) := by decide +kernel
  have := h ⟨c.toNat, c.toNat_lt⟩
  rwa [UInt8.ofNat_toNat] at this
def nameR : List UInt8 → Bool
  | [] => false
  | c :: t => decide ((c :: t).length ≤ 16) && isLet c && (c :: t).all isWord
theorem dw_nil (p : UInt8 → Bool) (l : List UInt8) : l.dropWhile p = [] ↔ l.all p = true := by
  induction l with
  | nil => simp
  | cons a t ih =>
    rw [List.dropWhile_cons, List.all_cons]
    by_cases h : p a = true
    · rw [if_pos h, ih, h, Bool.true_and]
    · rw [if_neg h]
      simp only [Bool.not_eq_true] at h
      rw [h]
      simp
theorem trim_nil (l cs : List UInt8) : Lib.trimS l cs = [] ↔ l.all (cs.contains ·) = true := by
  unfold Lib.trimS Lib.trimLeftS Lib.trimRightS
  rw [dw_nil]
  constructor
  · intro h
    by_cases h0 : l.reverse.dropWhile (cs.contains ·) = []
    · rw [dw_nil] at h0
      simpa using h0
    · exfalso
      obtain ⟨a, t, e⟩ : ∃ a t, l.reverse.dropWhile (cs.contains ·) = a :: t := by
        cases h1 : l.reverse.dropWhile (cs.contains ·) with
        | nil => exact absurd h1 h0
        | cons a t => exact ⟨a, t, rfl⟩
      have hn : cs.contains a = false := by
        have := List.head_dropWhile_not (p := (cs.contains ·)) (l := l.reverse) h0
        simp only [e, List.head_cons] at this
        simpa using this
      rw [e, List.all_eq_true] at h
      have := h a (by simp)
      rw [hn] at this
      cases this
  · intro h
    rw [List.all_eq_true] at h ⊢
    intro x hx
    have hx1 := (List.dropWhile_sublist (p := (cs.contains ·)) (l := l.reverse)).subset (List.mem_reverse.1 hx)
    exact h x (List.mem_reverse.1 hx1)
theorem all_let (l : List UInt8) : l.all (lettersL.contains ·) = l.all isLet := by congr 1; funext c; exact let_iff c
theorem all_word (l : List UInt8) : l.all (wordL.contains ·) = l.all isWord := by congr 1; funext c; exact word_iff c
theorem ascii_of_all {l : List UInt8} (h : l.all (fun b => decide (b.toNat < 128)) = true) (j : Nat) (b : UInt8) (hj : l[j]? = some b) : b.toNat < 128 := by
  have := List.all_eq_true.1 h b (List.mem_of_getElem? hj)
  simpa using this
theorem trimL (s : ByteArray) (w : World) (hs : s.size ≤ 9223372036854775807) :
    Calls Tryd.prog 51 #[.string s, .string ⟨#[97, 98, 99, 100, 101, 102, 103, 104, 105, 106, 107, 108, 109, 110, 111, 112, 113, 114, 115, 116, 117, 118, 119, 120, 121, 122, 95]⟩] w fun e w' => e = .returned (.string ⟨(Lib.trimS s.data.toList lettersL).toArray⟩) ∧ Below w.heap.size w w' :=
  Any.strings_Trim_laid Tryd.lays160 (by kernel_rfl) s ⟨#[97, 98, 99, 100, 101, 102, 103, 104, 105, 106, 107, 108, 109, 110, 111, 112, 113, 114, 115, 116, 117, 118, 119, 120, 121, 122, 95]⟩ w hs (by decide) (ascii_of_all (by decide))
theorem trimW (s : ByteArray) (w : World) (hs : s.size ≤ 9223372036854775807) :
    Calls Tryd.prog 51 #[.string s, .string ⟨#[97, 98, 99, 100, 101, 102, 103, 104, 105, 106, 107, 108, 109, 110, 111, 112, 113, 114, 115, 116, 117, 118, 119, 120, 121, 122, 95, 48, 49, 50, 51, 52, 53, 54, 55, 56, 57]⟩] w fun e w' => e = .returned (.string ⟨(Lib.trimS s.data.toList wordL).toArray⟩) ∧ Below w.heap.size w w' :=
  Any.strings_Trim_laid Tryd.lays160 (by kernel_rfl) s ⟨#[97, 98, 99, 100, 101, 102, 103, 104, 105, 106, 107, 108, 109, 110, 111, 112, 113, 114, 115, 116, 117, 118, 119, 120, 121, 122, 95, 48, 49, 50, 51, 52, 53, 54, 55, 56, 57]⟩ w hs (by decide) (ascii_of_all (by decide))
set_option maxHeartbeats 1000000 in
theorem name_any (l : List UInt8) (w : World) :
    Calls Tryd.prog 35 #[.string ⟨l.toArray⟩] w fun e w' => e = .returned (.bool (nameR l)) ∧ Below w.heap.size w w' := by
  have hL : (⟨l.toArray⟩ : ByteArray).toList = l := by rw [ByteArray.toList_eq]
  have hsz : (⟨l.toArray⟩ : ByteArray).size = l.length := rfl
  rcases l with _ | ⟨c, t⟩
  · go_enter Tryd.func35, Tryd.ntmps35
    go_wp2
    go_ret
    exact ⟨rfl, Below.refl _ _⟩
  · have h0 : (c :: t).isEmpty = false := rfl
    by_cases h16 : 16 < (c :: t).length
    · have hz : (16 : Int) < ((c :: t).length : Int) := by omega
      have R : Hid (nameR (c :: t) = false) := by show (decide ((c :: t).length ≤ 16) && isLet c && (c :: t).all isWord) = false; rw [decide_eq_false (by omega)]; rfl
      generalize c :: t = l at *
      go_enter Tryd.func35, Tryd.ntmps35
      go_wp2
      go_ret
      exact ⟨by rw [R.out]; rfl, Below.refl _ _⟩
    · have hz : ¬ (16 : Int) < ((c :: t).length : Int) := by omega
      have h1 : 1 ≤ (c :: t).length := by simp
      have T1 := Lib.hid (fun W => trimL ((⟨(c :: t).toArray⟩ : ByteArray).extract 0 1) W (by rw [Lib.size_eq, Lib.extract_data]; simp))
      have T2 := Lib.hid (fun W => trimW (⟨(c :: t).toArray⟩ : ByteArray) W (by rw [hsz]; omega))
      have e1 : ((⟨(c :: t).toArray⟩ : ByteArray).extract 0 1).data.toList = [c] := by rw [Lib.extract_data]; simp
      rw [e1] at T1
      have a1 := trim_nil [c] lettersL
      have a2 := trim_nil (c :: t) wordL
      rw [all_let] at a1
      rw [all_word] at a2
      have R : Hid (nameR (c :: t) = (isLet c && (c :: t).all isWord)) := by show (decide ((c :: t).length ≤ 16) && isLet c && (c :: t).all isWord) = _; rw [decide_eq_true (by omega)]; rfl
      obtain ⟨u1, hu1⟩ : ∃ u1, Lib.trimS [c] lettersL = u1 := ⟨_, rfl⟩
      obtain ⟨u2, hu2⟩ : ∃ u2, Lib.trimS (c :: t) wordL = u2 := ⟨_, rfl⟩
      rw [hu1] at T1 a1
      rw [show Lib.trimS (⟨(c :: t).toArray⟩ : ByteArray).data.toList wordL = u2 from hu2] at T2
      rw [hu2] at a2
      have g1 : (⟨u1.toArray⟩ : ByteArray).toList = u1 := by rw [ByteArray.toList_eq]
      have g2 : (⟨u2.toArray⟩ : ByteArray).toList = u2 := by rw [ByteArray.toList_eq]
      clear hu1 hu2 e1 h16
      rw [List.all_cons, List.all_nil, Bool.and_true] at a1
      generalize (c :: t).all isWord = b2 at *
      generalize isLet c = b1 at *
      generalize c :: t = l at *
      have A1 := Lib.hid a1
      have A2 := Lib.hid a2
      clear a1 a2
      cases b1
      · have k1 : u1.isEmpty = false := by
          cases u1 with
          | nil => have := A1.out.1 rfl; cases this
          | cons _ _ => rfl
        go_enter Tryd.func35, Tryd.ntmps35
        go_wp2_with fail
        refine (T1.out _).mono ?_
        rintro e w1 ⟨rfl, hb1⟩
        go_wp2
        go_ret
        exact ⟨by rw [R.out]; rfl, hb1⟩
      · obtain rfl : u1 = [] := A1.out.2 rfl
        go_enter Tryd.func35, Tryd.ntmps35
        go_wp2_with fail
        refine (T1.out _).mono ?_
        rintro e w1 ⟨rfl, hb1⟩
        go_wp2_with fail
        refine (T2.out _).mono ?_
        rintro e w2 ⟨rfl, hb2⟩
        have hB := hb1.trans (hb2.mono hb1.size)
        cases b2
        · have k2 : u2.isEmpty = false := by
            cases u2 with
            | nil => have := A2.out.1 rfl; cases this
            | cons _ _ => rfl
          go_wp2
          go_ret
          exact ⟨by rw [R.out]; rfl, hB⟩
        · obtain rfl : u2 = [] := A2.out.2 rfl
          go_wp2
          go_ret
          exact ⟨by rw [R.out]; rfl, hB⟩
end Go.Proofs.YtmcmgmpgmbljiaaDoor
