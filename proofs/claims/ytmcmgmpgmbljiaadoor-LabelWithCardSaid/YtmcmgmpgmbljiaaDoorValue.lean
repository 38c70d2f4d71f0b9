/- label.Value: what may be a value. -/
import Derived.Test.YtmcmgmpgmbljiaaDoorName
import Derived.Laws.RangeAny
import Derived.Laws.RangeString
namespace Go.Proofs.YtmcmgmpgmbljiaaDoor
open Go Go.Proofs Go.RowKit Go.Shelf
set_option maxRecDepth 100000
def badB (c : UInt8) : Bool := decide (c.toNat < 32) || decide (126 < c.toNat)
def badR (r : Nat) : Bool := decide (r < 32) || decide (126 < r)
def valueR (l : List UInt8) : Bool := !l.isEmpty && decide (l.length ≤ 64) && !l.any badB
theorem idx_bad (s : ByteArray) : ∀ (f pos : Nat), s.size ≤ pos + f → decide (0 ≤ Lib.idxFuncFrom badR true s f pos) = (s.data.toList.drop pos).any badB := by
  intro f
  induction f with
  | zero =>
    intro pos h
    rw [List.drop_eq_nil_of_le (by rw [← Lib.size_eq]; omega)]
    rfl
  | succ f ih =>
    intro pos h
    unfold Lib.idxFuncFrom
    by_cases hp : pos < s.size
    · rw [if_pos hp]
      have hd : s.data.toList[pos]? = some (s[pos]'hp) := Lib.data_getElem? s pos hp
      obtain ⟨hn, he⟩ := List.getElem?_eq_some_iff.1 hd
      rw [List.drop_eq_getElem_cons hn, List.any_cons, he]
      by_cases ha : (s[pos]'hp).toNat < 128
      · rw [decode_ascii s pos hp ha]
        dsimp only
        have e : badR (s[pos]'hp).toNat = badB (s[pos]'hp) := rfl
        rw [e]
        cases hb : badB (s[pos]'hp)
        · simp only [Bool.false_eq_true, if_false, Bool.false_or]
          exact ih (pos + 1) (by omega)
        · simp
      · have hr := decode_high s pos hp (by omega)
        have e : badR (Utf8.decode s pos).1 = true := by
          unfold badR
          rw [decide_eq_true (show 126 < (Utf8.decode s pos).1 by omega), Bool.or_true]
        have e2 : badB (s[pos]'hp) = true := by
          unfold badB
          rw [decide_eq_true (show 126 < (s[pos]'hp).toNat by omega), Bool.or_true]
        rw [if_pos e, e2]
        simp
    · rw [if_neg hp, List.drop_eq_nil_of_le (by rw [← Lib.size_eq]; omega)]
      rfl
theorem value_pred (w : World) : PredAt Tryd.prog 53 #[] encR badR w := fun W r _ => by
  unfold FnGives
  by_cases h1 : r < 32
  · have e : badR r = true := by unfold badR; rw [decide_eq_true h1]; rfl
    have h1' : (r : Int) < 32 := by omega
    rw [e]
    go_enter Tryd.func53, Tryd.ntmps53
    go_wp2
    go_ret
    exact ⟨rfl, 0, rfl⟩
  · have h1' : ¬ (r : Int) < 32 := by omega
    by_cases h2 : 126 < r
    · have e : badR r = true := by unfold badR; rw [decide_eq_true h2, Bool.or_true]
      have h2' : (126 : Int) < (r : Int) := by omega
      rw [e]
      go_enter Tryd.func53, Tryd.ntmps53
      go_wp2
      go_ret
      exact ⟨rfl, 0, rfl⟩
    · have e : badR r = false := by unfold badR; rw [decide_eq_false h1, decide_eq_false h2]; rfl
      have h2' : ¬ (126 : Int) < (r : Int) := by omega
      rw [e]
      go_enter Tryd.func53, Tryd.ntmps53
      go_wp2
      go_ret
      exact ⟨rfl, 0, rfl⟩
theorem contains_bad (l : List UInt8) (w : World) :
    Calls Tryd.prog 52 #[.string ⟨l.toArray⟩, .func (.func 53) #[] #[]] w fun e w' => e = .returned (.bool (l.any badB)) ∧ Below w.heap.size w w' := by
  have h := Tryd.strings_ContainsFunc 53 #[] (enters_of Tryd.func53 (by kernel_rfl) rfl) badR ⟨l.toArray⟩ w (value_pred w)
  unfold Lib.idxFunc at h
  rw [idx_bad _ _ 0 (by omega)] at h
  exact h
theorem value_any (l : List UInt8) (w : World) :
    Calls Tryd.prog 36 #[.string ⟨l.toArray⟩] w fun e w' => e = .returned (.bool (valueR l)) ∧ Below w.heap.size w w' := by
  have hsz : (⟨l.toArray⟩ : ByteArray).size = l.length := rfl
  have C := Lib.hid (fun W => contains_bad l W)
  have R : Hid (valueR l = (!l.isEmpty && decide (l.length ≤ 64) && !l.any badB)) := rfl
  cases h0 : l.isEmpty
  · by_cases h64 : 64 < l.length
    · have hz : (64 : Int) < (l.length : Int) := by omega
      have R2 : Hid (valueR l = false) := by unfold Hid valueR; rw [decide_eq_false (show ¬ l.length ≤ 64 by omega)]; simp
      go_enter Tryd.func36, Tryd.ntmps36
      go_wp2
      go_ret
      exact ⟨by rw [R2.out]; rfl, Below.refl _ _⟩
    · have hz : ¬ (64 : Int) < (l.length : Int) := by omega
      have R2 : Hid (valueR l = !l.any badB) := by unfold Hid valueR; rw [decide_eq_true (show l.length ≤ 64 by omega), h0]; simp
      clear R
      generalize l.any badB = b at *
      go_enter Tryd.func36, Tryd.ntmps36
      go_wp2_with fail
      refine (C.out _).mono ?_
      rintro e w1 ⟨rfl, hb1⟩
      go_wp2
      go_ret
      exact ⟨by rw [R2.out]; rfl, hb1⟩
  · obtain rfl : l = [] := by simpa using h0
    go_enter Tryd.func36, Tryd.ntmps36
    go_wp2
    go_ret
    exact ⟨rfl, Below.refl _ _⟩
end Go.Proofs.YtmcmgmpgmbljiaaDoor
