/- decimal: is a text digits alone, without a leading nought. -/
import Derived.Test.YtmggiclikbacjaaDoorWalkG
import Derived.Shelf.Strings.SlTrimAscii
import Derived.Lib.Strings
namespace Go.Proofs.YtmggiclikbacjaaDoor
open Go Go.Proofs Go.RowKit
set_option maxRecDepth 100000
theorem trim_any (s : ByteArray) (w : World) (hs : s.size ≤ 9223372036854775807) :
    Calls Tryd.prog 64 #[.string s, .string ⟨#[48, 49, 50, 51, 52, 53, 54, 55, 56, 57]⟩] w fun e w' => e = .returned (.string ⟨(Lib.trimS s.data.toList [48, 49, 50, 51, 52, 53, 54, 55, 56, 57]).toArray⟩) ∧ Below w.heap.size w w' :=
  Any.strings_Trim_laid Tryd.lays160 (by kernel_rfl) s ⟨#[48, 49, 50, 51, 52, 53, 54, 55, 56, 57]⟩ w hs (by decide) (ascii_of_all (by decide))

def isDig (c : UInt8) : Bool := decide (48 ≤ c.toNat) && decide (c.toNat ≤ 57)
/-- digits alone, at least one, without a leading nought -/
def isDec : List UInt8 → Bool
  | [] => false
  | c :: t => (c :: t).all isDig && (decide (c.toNat ≠ 48) || t.isEmpty)

theorem isDec_cons (c : UInt8) (t : List UInt8) : isDec (c :: t) = ((c :: t).all isDig && (decide (c.toNat ≠ 48) || t.isEmpty)) := rfl
theorem digs_contains (c : UInt8) : ([48, 49, 50, 51, 52, 53, 54, 55, 56, 57] : List UInt8).contains c = isDig c := by
  have h : ∀ n : Fin 256, ([48, 49, 50, 51, 52, 53, 54, 55, 56, 57] : List UInt8).contains (UInt8.ofNat n.val) = isDig (UInt8.ofNat n.val) := by decide +kernel
  have := h ⟨c.toNat, c.toNat_lt⟩
  simpa using this
theorem dropWhile_nil {α : Type} (p : α → Bool) (l : List α) : l.dropWhile p = [] ↔ l.all p = true := by
  induction l with
  | nil => simp
  | cons a t ih =>
    rw [List.dropWhile_cons]
    split
    · rename_i h; rw [ih]; simp [h]
    · rename_i h; simp [h]
theorem trimS_nil (l : List UInt8) : Lib.trimS l [48, 49, 50, 51, 52, 53, 54, 55, 56, 57] = [] ↔ l.all isDig = true := by
  unfold Lib.trimS Lib.trimLeftS Lib.trimRightS
  rw [dropWhile_nil]
  have e : (fun x => ([48, 49, 50, 51, 52, 53, 54, 55, 56, 57] : List UInt8).contains x) = isDig := funext digs_contains
  rw [e]
  constructor
  · intro h
    rw [List.all_reverse] at h
    rcases hd : l.reverse.dropWhile isDig with _ | ⟨a, t⟩
    · have := (dropWhile_nil isDig l.reverse).1 hd
      rwa [List.all_reverse] at this
    · rw [hd] at h
      have ha : isDig a = true := by simp at h; exact h.1
      have hn := List.head_dropWhile_not (p := isDig) (l := l.reverse) (by rw [hd]; simp)
      simp [hd] at hn
      rw [ha] at hn; cases hn
  · intro h
    have h2 : l.reverse.all isDig = true := by rw [List.all_reverse]; exact h
    rw [(dropWhile_nil isDig l.reverse).2 h2]; rfl

theorem decimal_any (s : ByteArray) (w : World) (hs : s.size ≤ 9223372036854775807) :
    Calls Tryd.prog 36 #[.string s] w fun e w' => e = .returned (.bool (isDec s.data.toList)) ∧ Below w.heap.size w w' := by
  have T := Lib.hid (fun W => trim_any s W hs)
  have hL : s.toList = s.data.toList := ByteArray.toList_eq s
  by_cases h0 : s.toList = []
  · have R : Hid (isDec s.data.toList = false) := by unfold Hid; rw [← hL, h0]; rfl
    clear hL
    go_enter Tryd.func36, Tryd.ntmps36
    go_wp2_with (go_at_call 64; refine (T.out _).mono ?_; rintro e w1 ⟨rfl, hb⟩)
    go_ret
    exact ⟨by rw [R.out]; rfl, Below.refl _ _⟩
  · have h0' : s.toList.isEmpty = false := by simpa using h0
    have hpos : 0 < s.size := by
      rcases Nat.eq_zero_or_pos s.size with h | h
      · exfalso; apply h0; rw [hL]; apply List.eq_nil_of_length_eq_zero; simpa using h
      · exact h
    by_cases ht : Lib.trimS s.data.toList [48, 49, 50, 51, 52, 53, 54, 55, 56, 57] = []
    · by_cases h48 : s.toList = [48]
      · have R : Hid (isDec s.data.toList = true) := by unfold Hid; rw [← hL, h48]; rfl
        rw [ht] at T
        clear hL h0 ht
        go_enter Tryd.func36, Tryd.ntmps36
        go_wp2_with (go_at_call 64; refine (T.out _).mono ?_; rintro e w1 ⟨rfl, hb⟩)
        go_ret
        exact ⟨by rw [R.out]; rfl, hb⟩
      · have R : Hid (isDec s.data.toList = !(((s[0].toNat : Int)) == 48)) := by
          unfold Hid
          have ha := (trimS_nil _).1 ht
          rcases hl : s.data.toList with _ | ⟨c, t⟩
          · rw [hL, hl] at h0; exact absurd rfl h0
          · have hc : s[0] = c := by
              have : s.data.toList[0]? = some c := by rw [hl]; rfl
              have h2 : s.data[0]? = some c := by simpa using this
              exact (Array.getElem?_eq_some_iff.1 h2).2
            rw [hl] at ha
            rw [hc]
            rw [isDec_cons, ha]
            rw [hL, hl] at h48
            by_cases hcn : c.toNat = 48
            · have hc8 : c = 48 := UInt8.toNat_inj.1 (by simpa using hcn)
              subst hc8
              have ht' : t ≠ [] := fun h => h48 (by rw [h])
              simp [ht']
            · have : ((c.toNat : Int) == 48) = false := by rw [beq_eq_false_iff_ne]; omega
              simp [hcn, this]
        rw [ht] at T
        clear hL h0 ht
        go_enter Tryd.func36, Tryd.ntmps36
        go_wp2_with (go_at_call 64; refine (T.out _).mono ?_; rintro e w1 ⟨rfl, hb⟩)
        go_ret
        refine ⟨congrArg (fun b => Ending.returned (.bool b)) ?_, hb⟩
        rw [R.out]
        have h48' : (s.toList == [48]) = false := by simpa using h48
        simp [h48']
        rfl
    · have R : Hid (isDec s.data.toList = false) := by
        unfold Hid
        have ha : ¬ s.data.toList.all isDig = true := fun h => ht ((trimS_nil _).2 h)
        rcases hl : s.data.toList with _ | ⟨c, t⟩
        · rfl
        · rw [hl] at ha; simp only [Bool.not_eq_true] at ha; rw [isDec_cons, ha]; rfl
      clear hL h0
      generalize Lib.trimS s.data.toList [48, 49, 50, 51, 52, 53, 54, 55, 56, 57] = t at *
      go_enter Tryd.func36, Tryd.ntmps36
      go_wp2_with (go_at_call 64; refine (T.out _).mono ?_; rintro e w1 ⟨rfl, hb⟩)
      go_ret
      exact ⟨by rw [R.out]; rfl, hb⟩
end Go.Proofs.YtmggiclikbacjaaDoor
