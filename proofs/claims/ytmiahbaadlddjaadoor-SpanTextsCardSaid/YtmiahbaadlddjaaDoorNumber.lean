/- The reference's Number at digits. -/
import Derived.Test.YtmiahbaadlddjaaDoorNum
namespace Go.Proofs.YtmiahbaadlddjaaDoor
open Go Go.Proofs Go.RowKit
set_option maxRecDepth 100000
attribute [local go_sem] cell_set
theorem valD_cons_le (t : List UInt8) : ∀ a : Nat, a * 10 ^ t.length ≤ t.foldl (fun a c => a * 10 + (c.toNat - 48)) a := by
  induction t with
  | nil => intro a; simp
  | cons c t ih =>
    intro a
    rw [List.foldl_cons, List.length_cons, Nat.pow_succ]
    have h1 := ih (a * 10 + (c.toNat - 48))
    have h2 : a * 10 * 10 ^ t.length ≤ (a * 10 + (c.toNat - 48)) * 10 ^ t.length := Nat.mul_le_mul_right _ (by omega)
    have h3 : a * (10 ^ t.length * 10) = a * 10 * 10 ^ t.length := by rw [Nat.mul_assoc, Nat.mul_comm 10]
    omega
theorem valD_long (d : List UInt8) (hd : isDec d = true) (hl : 39 < d.length) : 9223372036854775808 ≤ valD d := by
  rcases d with _ | ⟨c, t⟩
  · cases hd
  · rw [isDec_cons, Bool.and_eq_true, List.all_cons, Bool.and_eq_true] at hd
    have hc := hd.1.1
    unfold isDig at hc
    rw [Bool.and_eq_true, decide_eq_true_eq, decide_eq_true_eq] at hc
    have ht : t.isEmpty = false := by cases t with | nil => simp at hl | cons _ _ => rfl
    have h48 : c.toNat ≠ 48 := by
      have := hd.2
      rw [ht, Bool.or_false, decide_eq_true_eq] at this
      exact this
    have h1 := valD_cons_le t (0 * 10 + (c.toNat - 48))
    have h2 : 1 * 10 ^ t.length ≤ (0 * 10 + (c.toNat - 48)) * 10 ^ t.length := Nat.mul_le_mul_right _ (by omega)
    have h3 : 10 ^ 39 ≤ 10 ^ t.length := Nat.pow_le_pow_right (by omega) (by simp at hl; omega)
    have h4 : (10 : Nat) ^ 39 = 1000000000000000000000000000000000000000 := by decide
    have h5 : valD (c :: t) = t.foldl (fun a c => a * 10 + (c.toNat - 48)) (0 * 10 + (c.toNat - 48)) := rfl
    omega
def numR (d : List UInt8) : Value := if valD d < 9223372036854775808 then .tuple #[.int .i64 (valD d : Int), .bool true] else .tuple #[.int .i64 0, .bool false]
theorem number_no (s : ByteArray) (h l : Int) (e0 : Int) (he : e0 ≠ 0) (W : World) (C : ∀ W, Calls Tryd.prog 38 #[.string s] W fun e w' => e = .returned (.tuple #[.agg #[.int .i64 h, .int .u64 l], .int .i64 e0]) ∧ Below W.heap.size W w') :
    Calls Tryd.prog 30 #[.string s] W fun e w' => e = .returned (.tuple #[.int .i64 0, .bool false]) ∧ Below W.heap.size W w' := by
  have P := Lib.hid C
  have e1 : (e0 == 0) = false := by rw [beq_eq_false_iff_ne]; exact he
  clear C
  go_enter Tryd.func30, Tryd.ntmps30
  go_wp2_with fail
  refine (P.out _).mono ?_
  rintro e w1 ⟨rfl, hb1⟩
  have lt := hb1.size
  go_wp2
  go_ret2
  exact ⟨rfl, by go_grown⟩
theorem number_great (s : ByteArray) (h l : Int) (h0 : 0 < h) (hx : h < 9223372036854775808) (W : World) (C : ∀ W, Calls Tryd.prog 38 #[.string s] W fun e w' => e = .returned (.tuple #[.agg #[.int .i64 h, .int .u64 l], .int .i64 0]) ∧ Below W.heap.size W w') :
    Calls Tryd.prog 30 #[.string s] W fun e w' => e = .returned (.tuple #[.int .i64 0, .bool false]) ∧ Below W.heap.size W w' := by
  have P := Lib.hid C
  have e1 : (h == 0) = false := by rw [beq_eq_false_iff_ne]; omega
  have e2 : (h == -1) = false := by rw [beq_eq_false_iff_ne]; omega
  clear C
  go_enter Tryd.func30, Tryd.ntmps30
  go_wp2_with fail
  refine (P.out _).mono ?_
  rintro e w1 ⟨rfl, hb1⟩
  have lt := hb1.size
  go_wp2
  go_ret2
  exact ⟨rfl, by go_grown⟩
theorem number_half (s : ByteArray) (l : Int) (h0 : 9223372036854775808 ≤ l) (hx : l < 18446744073709551616) (W : World) (C : ∀ W, Calls Tryd.prog 38 #[.string s] W fun e w' => e = .returned (.tuple #[.agg #[.int .i64 0, .int .u64 l], .int .i64 0]) ∧ Below W.heap.size W w') :
    Calls Tryd.prog 30 #[.string s] W fun e w' => e = .returned (.tuple #[.int .i64 0, .bool false]) ∧ Below W.heap.size W w' := by
  have P := Lib.hid C
  have e1 : IntKind.i64.wrap l = l - 18446744073709551616 := by rw [IntKind.wrap_i64]; omega
  have e2 : l - 18446744073709551616 < 0 := by omega
  clear C
  go_enter Tryd.func30, Tryd.ntmps30
  go_wp2_with fail
  refine (P.out _).mono ?_
  rintro e w1 ⟨rfl, hb1⟩
  have lt := hb1.size
  go_wp2
  go_ret2
  exact ⟨rfl, by go_grown⟩
theorem number_yes (s : ByteArray) (l : Int) (h0 : 0 ≤ l) (hx : l < 9223372036854775808) (W : World) (C : ∀ W, Calls Tryd.prog 38 #[.string s] W fun e w' => e = .returned (.tuple #[.agg #[.int .i64 0, .int .u64 l], .int .i64 0]) ∧ Below W.heap.size W w') :
    Calls Tryd.prog 30 #[.string s] W fun e w' => e = .returned (.tuple #[.int .i64 l, .bool true]) ∧ Below W.heap.size W w' := by
  have P := Lib.hid C
  have e1 : IntKind.i64.wrap l = l := by rw [IntKind.wrap_i64]; omega
  have e2 : ¬ l < 0 := by omega
  clear C
  go_enter Tryd.func30, Tryd.ntmps30
  go_wp2_with fail
  refine (P.out _).mono ?_
  rintro e w1 ⟨rfl, hb1⟩
  have lt := hb1.size
  go_wp2
  go_ret2
  exact ⟨rfl, by go_grown⟩
theorem number_dig (d : List UInt8) (hl : d.length ≤ 1000) (hd : isDec d = true) (W : World) :
    Calls Tryd.prog 30 #[.string ⟨d.toArray⟩] W fun e w' => e = .returned (numR d) ∧ Below W.heap.size W w' := by
  have hud : (⟨d.toArray⟩ : ByteArray).data.toList = d := rfl
  have hn : ∀ h : 0 < (⟨d.toArray⟩ : ByteArray).size, (⟨d.toArray⟩ : ByteArray)[0] ≠ 45 := by
    intro h e
    rcases d with _ | ⟨c, t⟩
    · cases hd
    · have h0 : (⟨(c :: t).toArray⟩ : ByteArray)[0] = c := rfl
      rw [h0] at e
      have := isDec_digits hd c List.mem_cons_self
      rw [e] at this
      simp at this
  have hq : (isDec d && !(false && (d == [48]))) = true := by rw [hd]; rfl
  unfold numR
  by_cases h39 : 39 < d.length
  · rw [if_neg (by have := valD_long d hd h39; omega)]
    exact number_no _ 0 0 7 (by omega) W (fun W => wparse_pos_long _ d hl hud hn hq h39 W)
  · obtain ⟨h, l, e0, sy⟩ := says_ex false d
    have C := fun W => wparse_pos_yes ⟨d.toArray⟩ d hl hud hn hq (by omega) h l e0 sy W
    have hs : signed false d = (valD d : Int) := by unfold signed; simp
    rcases sy with ⟨f, i, v, rfl⟩ | ⟨f, rfl, rfl, rfl⟩
    · rw [hs] at v
      obtain ⟨p1, p2, p3, p4⟩ := i
      unfold val at v
      by_cases hv : valD d < 9223372036854775808
      · rw [if_pos hv]
        obtain rfl : h = 0 := by omega
        obtain rfl : l = (valD d : Int) := by omega
        exact number_yes _ _ (by omega) (by omega) W C
      · rw [if_neg hv]
        by_cases h0 : h = 0
        · subst h0
          exact number_half _ l (by omega) (by omega) W C
        · exact number_great _ h l (by omega) (by omega) W C
    · rw [hs] at f
      unfold Fits at f
      rw [if_neg (by omega)]
      exact number_no _ 0 0 7 (by omega) W C
end Go.Proofs.YtmiahbaadlddjaaDoor
