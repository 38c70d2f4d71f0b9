/- The reference's WideParse. -/
import Derived.Test.YtmggiclikbacjaaDoorRefJ
namespace Go.Proofs.YtmggiclikbacjaaDoor
open Go Go.Proofs Go.RowKit
set_option maxRecDepth 100000
attribute [local go_sem] cell_set
/-- one digit more: where the two limbs run over, or what they are -/
theorem pstep (hi lo dg V : Nat) (h1 : hi < 18446744073709551616) (h2 : lo < 18446744073709551616) (hd : dg ≤ 9) (hV : V = (hi * 18446744073709551616 + lo) * 10 + dg) :
    ∃ h l g m : Nat, lo * 10 / 18446744073709551616 = h ∧ lo * 10 % 18446744073709551616 = l ∧ hi * 10 / 18446744073709551616 = g ∧ hi * 10 % 18446744073709551616 = m ∧
    ((decide (0 < g) = true ∧ 340282366920938463463374607431768211456 ≤ V) ∨
     (decide (0 < g) = false ∧ ∃ up : Nat, IntKind.u64.wrap ((m : Int) + (h : Int)) = (up : Int) ∧
      ((decide (up < m) = true ∧ 340282366920938463463374607431768211456 ≤ V) ∨
       (decide (up < m) = false ∧ ∃ lo' : Nat, IntKind.u64.wrap ((l : Int) + (dg : Int)) = (lo' : Int) ∧
        ((decide (lo' < l) = false ∧ up * 18446744073709551616 + lo' = V ∧ up < 18446744073709551616 ∧ lo' < 18446744073709551616) ∨
         (decide (lo' < l) = true ∧ ∃ up' : Nat, IntKind.u64.wrap ((up : Int) + 1) = (up' : Int) ∧
          (((up' == 0) = true ∧ 340282366920938463463374607431768211456 ≤ V) ∨ ((up' == 0) = false ∧ up' * 18446744073709551616 + lo' = V ∧ up' < 18446744073709551616 ∧ lo' < 18446744073709551616)))))))) := by
  refine ⟨_, _, _, _, rfl, rfl, rfl, rfl, ?_⟩
  have f1 : lo * 10 = lo * 10 / 18446744073709551616 * 18446744073709551616 + lo * 10 % 18446744073709551616 := (Nat.div_add_mod' _ _).symm
  have f2 : hi * 10 = hi * 10 / 18446744073709551616 * 18446744073709551616 + hi * 10 % 18446744073709551616 := (Nat.div_add_mod' _ _).symm
  have f3 : lo * 10 % 18446744073709551616 < 18446744073709551616 := Nat.mod_lt _ (by omega)
  have f4 : hi * 10 % 18446744073709551616 < 18446744073709551616 := Nat.mod_lt _ (by omega)
  have hV' : V = hi * 10 * 18446744073709551616 + lo * 10 + dg := by omega
  have k1 : hi * 10 < 18446744073709551616 * 10 := by omega
  have k2 : lo * 10 < 18446744073709551616 * 10 := by omega
  clear hV h1 h2
  generalize lo * 10 / 18446744073709551616 = h at *
  generalize lo * 10 % 18446744073709551616 = l at *
  generalize hi * 10 / 18446744073709551616 = g at *
  generalize hi * 10 % 18446744073709551616 = m at *
  generalize lo * 10 = L at *
  generalize hi * 10 = H at *
  subst f1 f2
  by_cases c1 : 0 < g
  · exact .inl ⟨decide_eq_true c1, by omega⟩
  · obtain rfl : g = 0 := by omega
    by_cases c2 : m + h < 18446744073709551616
    · refine .inr ⟨decide_eq_false c1, m + h, by rw [IntKind.wrap_u64]; omega, .inr ⟨decide_eq_false (by omega), ?_⟩⟩
      by_cases c3 : l + dg < 18446744073709551616
      · exact ⟨l + dg, by rw [IntKind.wrap_u64]; omega, .inl ⟨decide_eq_false (by omega), by omega, by omega, by omega⟩⟩
      · refine ⟨l + dg - 18446744073709551616, by rw [IntKind.wrap_u64]; omega, .inr ⟨decide_eq_true (by omega), ?_⟩⟩
        by_cases c4 : m + h + 1 < 18446744073709551616
        · exact ⟨m + h + 1, by rw [IntKind.wrap_u64]; omega, .inr ⟨by rw [beq_eq_false_iff_ne]; omega, by omega, by omega, by omega⟩⟩
        · exact ⟨0, by rw [IntKind.wrap_u64]; omega, .inl ⟨by rw [beq_iff_eq], by omega⟩⟩
    · exact .inr ⟨decide_eq_false c1, m + h - 18446744073709551616, by rw [IntKind.wrap_u64]; omega, .inl ⟨decide_eq_true (by omega), by omega⟩⟩
theorem valD_mono (d : List UInt8) (k : Nat) : valD (d.take k) ≤ valD d := by
  have h : ∀ (t : List UInt8) (a : Nat), a ≤ t.foldl (fun a c => a * 10 + (c.toNat - 48)) a := by
    intro t
    induction t with
    | nil => intro a; exact Nat.le_refl _
    | cons c t ih => intro a; rw [List.foldl_cons]; have := ih (a * 10 + (c.toNat - 48)); omega
  have e : valD d = (d.drop k).foldl (fun a c => a * 10 + (c.toNat - 48)) (valD (d.take k)) := by
    unfold valD
    rw [← List.foldl_append, List.take_append_drop]
  rw [e]; exact h _ _
/-- what WideParse answers of a decimal -/
def Says (b : Bool) (d : List UInt8) (h l e0 : Int) : Prop := (Fits (signed b d) ∧ InI h l ∧ val h l = signed b d ∧ e0 = 0) ∨ (¬ Fits (signed b d) ∧ h = 0 ∧ l = 0 ∧ e0 = 7)
theorem says_ex (b : Bool) (d : List UInt8) : ∃ h l e0, Says b d h l e0 := by
  by_cases hf : Fits (signed b d)
  · obtain ⟨h, l, i, v⟩ := fits_ex hf
    exact ⟨h, l, 0, .inl ⟨hf, i, v, rfl⟩⟩
  · exact ⟨0, 0, 7, .inr ⟨hf, rfl, rfl, rfl⟩⟩
theorem Says.over {b : Bool} {d : List UInt8} {h l e0 : Int} (s : Says b d h l e0) (hv : 340282366920938463463374607431768211456 ≤ valD d) : h = 0 ∧ l = 0 ∧ e0 = 7 := by
  rcases s with ⟨f, _⟩ | ⟨_, a⟩
  · exfalso; unfold Fits signed at f; cases b <;> simp at f <;> omega
  · exact a
/-- the end, above 0 -/
theorem Says.pos {d : List UInt8} {h l e0 : Int} (s : Says false d h l e0) {hi lo : Nat} (h1 : hi < 18446744073709551616) (h2 : lo < 18446744073709551616) (hv : hi * 18446744073709551616 + lo = valD d) :
    (decide (9223372036854775808 ≤ (hi : Int)) = true ∧ h = 0 ∧ l = 0 ∧ e0 = 7) ∨ (decide (9223372036854775808 ≤ (hi : Int)) = false ∧ IntKind.i64.wrap (hi : Int) = (hi : Int) ∧ h = (hi : Int) ∧ l = (lo : Int) ∧ e0 = 0) := by
  have hs : signed false d = (valD d : Int) := by unfold signed; simp
  rcases s with ⟨f, i, v, e⟩ | ⟨f, a⟩
  · rw [hs] at f v
    unfold Fits at f
    obtain ⟨p, q⟩ := val_inj (c := (hi : Int)) (d := (lo : Int)) i ⟨by omega, by omega, by omega, by omega⟩ (by rw [v]; unfold val; omega)
    exact .inr ⟨decide_eq_false (by omega), by rw [IntKind.wrap_i64]; omega, p, q, e⟩
  · rw [hs] at f
    unfold Fits at f
    exact .inl ⟨decide_eq_true (by omega), a⟩
/-- the end, below 0 -/
theorem Says.neg {d : List UInt8} {h l e0 : Int} (s : Says true d h l e0) {hi lo : Nat} (h1 : hi < 18446744073709551616) (h2 : lo < 18446744073709551616) (hv : hi * 18446744073709551616 + lo = valD d) :
    (((decide (9223372036854775808 < (hi : Int)) = true ∨ (decide (9223372036854775808 < (hi : Int)) = false ∧ ((hi : Int) == 9223372036854775808) = true ∧ decide (0 < lo) = true)) ∧ h = 0 ∧ l = 0 ∧ e0 = 7)) ∨
    (decide (9223372036854775808 < (hi : Int)) = false ∧ (((hi : Int) == 9223372036854775808) = false ∨ (((hi : Int) == 9223372036854775808) = true ∧ decide (0 < lo) = false)) ∧ e0 = 0 ∧
      ∃ x : Int, IntKind.i64.wrap (hi : Int) = x ∧ ∀ W, Calls Tryd.prog 32 #[.agg #[.int .i64 x, .int .u64 lo]] W fun e w' => e = .returned (.agg #[.int .i64 h, .int .u64 l]) ∧ Below W.heap.size W w') := by
  have hs : signed true d = -(valD d : Int) := by unfold signed; simp
  rcases s with ⟨f, i, v, e⟩ | ⟨f, a⟩
  · rw [hs] at f v
    unfold Fits at f
    refine .inr ⟨decide_eq_false (by omega), ?_, e, _, rfl, fun W => ?_⟩
    · by_cases c : (hi : Int) = 9223372036854775808
      · exact .inr ⟨by rw [beq_iff_eq]; exact c, decide_eq_false (by omega)⟩
      · exact .inl (by rw [beq_eq_false_iff_ne]; exact c)
    · by_cases c : (hi : Int) = 9223372036854775808
      · refine ref_minus (IntKind.i64.wrap (hi : Int)) lo h l (-1) ⟨?_, ?_, by omega, by omega⟩ i ?_ W
        · rw [IntKind.wrap_i64]; omega
        · rw [IntKind.wrap_i64]; omega
        · rw [v, IntKind.wrap_i64]; unfold val; omega
      · refine ref_minus (IntKind.i64.wrap (hi : Int)) lo h l 0 ⟨?_, ?_, by omega, by omega⟩ i ?_ W
        · rw [IntKind.wrap_i64]; omega
        · rw [IntKind.wrap_i64]; omega
        · rw [v, IntKind.wrap_i64]; unfold val; omega
  · rw [hs] at f
    unfold Fits at f
    refine .inl ⟨?_, a⟩
    by_cases c : (9223372036854775808 : Int) < (hi : Int)
    · exact .inl (decide_eq_true c)
    · exact .inr ⟨decide_eq_false c, by rw [beq_iff_eq]; omega, decide_eq_true (by omega)⟩
end Go.Proofs.YtmggiclikbacjaaDoor
