/- The reference: set: what a round comes to. -/
import Derived.Test.YtcfdpbbpdnpnnaaDoorRKids
namespace Go.Proofs.YtcfdpbbpdnpnnaaDoor
open Go Go.Proofs Go.RowKit Go.Shelf
set_option maxRecDepth 100000
def SetSt (l : List UInt8) (T : Rx.Res (List (Nat × Nat))) (k : Nat) (bad pos : Int) (rs : List (Nat × Nat)) : Prop :=
  (bad = 0 ∧ pos = 0 ∧ (∀ r ∈ rs, r.2 ≤ 126) ∧ rs.length ≤ k ∧ ∃ f, Rx.itemsF l f k rs = T ∧ l.length - k < f) ∨ (∃ er j, T = .bad er j ∧ bad = (er : Int) ∧ pos = (j : Int) ∧ er ≠ 0)
theorem set_bad {l : List UInt8} {T : Rx.Res (List (Nat × Nat))} {f k : Nat} {rs : List (Nat × Nat)} (h : Rx.itemsF l f k rs = T) (hf : l.length - k < f) {er j : Nat} (hr : Rx.rangeF l k = .bad er j) : T = .bad er j := by
  obtain ⟨f, rfl⟩ : ∃ g, f = g + 1 := ⟨f - 1, by omega⟩
  rw [← h]; unfold Rx.itemsF; rw [hr]
theorem set_end {l : List UInt8} {T : Rx.Res (List (Nat × Nat))} {f k : Nat} {rs : List (Nat × Nat)} (h : Rx.itemsF l f k rs = T) (hf : l.length - k < f) {r : Nat × Nat} {j : Nat} (hr : Rx.rangeF l k = .ok r j) (h93 : Rx.pk l j = 93) : T = .ok (rs ++ [r]) (j + 1) := by
  obtain ⟨f, rfl⟩ : ∃ g, f = g + 1 := ⟨f - 1, by omega⟩
  rw [← h]; unfold Rx.itemsF; rw [hr]; dsimp only; rw [if_pos h93]
theorem set_more {l : List UInt8} {T : Rx.Res (List (Nat × Nat))} {f k : Nat} {rs : List (Nat × Nat)} (h : Rx.itemsF l f k rs = T) (hf : l.length - k < f) (hk : k ≤ l.length) {r : Nat × Nat} {j : Nat} (hr : Rx.rangeF l k = .ok r j) (h93 : Rx.pk l j ≠ 93) (h126 : ∀ r ∈ rs, r.2 ≤ 126) (hl : rs.length ≤ k) : SetSt l T j 0 0 (rs ++ [r]) := by
  obtain ⟨f, rfl⟩ : ∃ g, f = g + 1 := ⟨f - 1, by omega⟩
  have g := Rx.range_goes hk
  rw [hr] at g
  obtain ⟨g1, g2, g3, g4, g5⟩ := g
  refine Or.inl ⟨rfl, rfl, fun q hq => ?_, by rw [List.length_append]; simp; omega, f, ?_, by omega⟩
  · rcases List.mem_append.1 hq with h | h
    · exact h126 q h
    · rw [List.mem_singleton.1 h]; exact g5
  · rw [← h]; conv => rhs; unfold Rx.itemsF
    rw [hr]; dsimp only; rw [if_neg h93]
theorem range_one {l : List UInt8} {k a j : Nat} (h : Rx.singleF Rx.inL l k = .ok a j) (h45 : Rx.pk l j ≠ 45) : Rx.rangeF l k = .ok (a, a) j := by unfold Rx.rangeF; rw [h]; dsimp only; rw [if_neg h45]
theorem range_bad {l : List UInt8} {k er j : Nat} (h : Rx.singleF Rx.inL l k = .bad er j) : Rx.rangeF l k = .bad er j := by unfold Rx.rangeF; rw [h]
theorem range_bad2 {l : List UInt8} {k a j er i : Nat} (h : Rx.singleF Rx.inL l k = .ok a j) (h45 : Rx.pk l j = 45) (h2 : Rx.singleF Rx.inL l (j + 1) = .bad er i) : Rx.rangeF l k = .bad er i := by unfold Rx.rangeF; rw [h]; dsimp only; rw [if_pos h45, h2]
theorem range_fall {l : List UInt8} {k a j b i : Nat} (h : Rx.singleF Rx.inL l k = .ok a j) (h45 : Rx.pk l j = 45) (h2 : Rx.singleF Rx.inL l (j + 1) = .ok b i) (hb : b < a) : Rx.rangeF l k = .bad 2 (j + 1) := by unfold Rx.rangeF; rw [h]; dsimp only; rw [if_pos h45, h2]; dsimp only; rw [if_pos hb]
theorem range_two {l : List UInt8} {k a j b i : Nat} (h : Rx.singleF Rx.inL l k = .ok a j) (h45 : Rx.pk l j = 45) (h2 : Rx.singleF Rx.inL l (j + 1) = .ok b i) (hb : ¬ b < a) : Rx.rangeF l k = .ok (a, b) i := by unfold Rx.rangeF; rw [h]; dsimp only; rw [if_pos h45, h2]; dsimp only; rw [if_neg hb]
def setRes (neg : Bool) (T : Rx.Res (List (Nat × Nat))) : Rx.Res Rx.Pt := match T with | .bad e j => .bad e j | .ok rs j => .ok (.leaf (Rx.maskB neg rs)) j
theorem info_two : (Tryd.prog.info? 85).map (fun i => (i.zero, i.size, i.bytes)) = some (some (.agg #[.int .u8 0, .int .u8 0]), 2, 2) := by kernel_rfl
end Go.Proofs.YtcfdpbbpdnpnnaaDoor
