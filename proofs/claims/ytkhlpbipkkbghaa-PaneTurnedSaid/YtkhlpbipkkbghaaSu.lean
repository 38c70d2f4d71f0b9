/- Parts of a slice of samples. -/
import Derived.Test.YtkhlpbipkkbghaaKp
import Derived.Test.YtkhlpbipkkbghaaSm
namespace Go.Proofs.Ytkhlpbipkkbghaa
open Go Go.Proofs Go.RowKit Go.Shelf
set_option maxRecDepth 100000
attribute [local go_sem] cell_set Oper.semAt_some
/-- where a part begins -/
def subA (a : Option Addr) (m l : Nat) : Option Addr := if m = l then a else a.map (·.add (l * 5))
theorem subA_0 (a : Option Addr) (m : Nat) : subA a m 0 = a := by
  unfold subA
  split
  · rfl
  · cases a with
    | none => rfl
    | some a => simp [Addr.add]
theorem Smps.sub {W : World} {a : Option Addr} {n c : Nat} {L : List Smp} (h : Smps W (.slice a n c) L) (l g m : Nat) (hlg : l ≤ g) (hg : g ≤ n) (hm : n ≤ m) : Smps W (.slice (subA a m l) (g - l) (m - l)) ((L.take g).drop l) := by
  have hn := h.len
  have hlen : ((L.take g).drop l).length = g - l := by rw [List.length_drop, List.length_take]; omega
  by_cases h0 : g - l = 0
  · exact .inl ⟨List.eq_nil_of_length_eq_zero (by omega), _, _, by rw [h0]⟩
  · rcases h with ⟨rfl, _⟩ | ⟨b, off, cap, e, hl, hc⟩
    · simp at hn; omega
    · injection e with e1
      subst e1
      refine .inr ⟨b, off + l * 5, m - l, ?_, hl, fun j s hj i v hv => ?_⟩
      · rw [hlen]
        unfold subA
        rw [if_neg (by omega)]
        simp [Addr.add_lit]
      · rw [List.getElem?_drop, List.getElem?_take] at hj
        split at hj
        · have := hc (l + j) s hj i v hv
          rw [show off + l * 5 + j * 5 + i = off + (l + j) * 5 + i by omega]
          exact this
        · cases hj
theorem pof_n (a : Option Addr) (n cap : Nat) (L : List Smp) (hl : L.length ≤ 10000) (hx : ∀ x ∈ nums L, I64 x.v) (w : World) (hL : Smps w (.slice a n cap) L) :
    Calls Try.prog 9 #[.slice a n cap] w fun e w' => e = .returned ((ofR (nums L)).V) ∧ Below w.heap.size w w' := by
  obtain rfl := hL.len
  exact pof_any a cap L hl hx w hL
theorem nums_sub {L : List Smp} (hx : ∀ x ∈ nums L, I64 x.v) (l g : Nat) : ∀ x ∈ nums ((L.take g).drop l), I64 x.v := fun x h => by
  rw [nums_drop, nums_take] at h
  exact hx x (List.mem_of_mem_take (List.mem_of_mem_drop h))
end Go.Proofs.Ytkhlpbipkkbghaa
