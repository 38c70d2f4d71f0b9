/- What a cut leaves of a log: records put, how many are safe; a slice of bools among the arguments. -/
import Derived.Test.YteddlpcnefogpaaJlS
namespace Go.Proofs.Yteddlpcnefogpaa
open Go Go.Proofs Go.RowKit Go.Shelf
set_option maxRecDepth 100000
def JD (put : List Rec) (s : Nat) (d : Dk) : Prop := s ≤ put.length ∧ (∃ m, d.row = (flatE put).take m) ∧ endR (put.take s) ≤ d.kept
theorem Dk.left_ge {d : Dk} (h : d.kept ≤ d.row.length) (keep : Int) : d.kept ≤ d.left keep := by unfold Dk.left; omega
theorem JD.cut {put : List Rec} {s : Nat} {d : Dk} (h : JD put s d) (keep : Int) : JD put s (d.cut keep) := by
  obtain ⟨h1, ⟨m, hm⟩, h3⟩ := h
  refine ⟨h1, ⟨min (d.left keep) m, ?_⟩, Nat.le_trans h3 (by show d.kept ≤ d.left keep; unfold Dk.left; omega)⟩
  show d.row.take _ = _
  rw [hm, List.take_take]
theorem JD.fin {put : List Rec} {s : Nat} {d : Dk} (h : JD put s d) (hoff : d.off = false) :
    JD put s d.fin.2 ∧ d.fin.2.ops ≤ d.ops + 1 ∧ (d.fin.1 = 0 → d.fin.2.off = false ∧ d.fin.2.row = d.row) ∧ (d.fin.1 ≠ 0 → d.fin.2.off = true) := by
  unfold Dk.fin
  rw [if_neg (by simp [hoff])]
  split
  · exact ⟨h.cut _, by show d.ops ≤ d.ops + 1; omega, (fun e => by cases e), fun _ => rfl⟩
  · exact ⟨h, Int.le_refl _, fun _ => ⟨hoff, rfl⟩, fun e => absurd rfl e⟩
theorem JD.add {put : List Rec} {s : Nat} {d : Dk} (h : JD put s d) (hoff : d.off = false) (hrow : d.row = flatE put) (r : Rec) :
    JD (put ++ [r]) s (d.append (encR r)).2 ∧ (d.append (encR r)).2.ops ≤ d.ops + 1 ∧ ((d.append (encR r)).1 = 0 → (d.append (encR r)).2.off = false ∧ (d.append (encR r)).2.row = flatE (put ++ [r])) := by
  have hz : ({ d with row := d.row ++ encR r } : Dk).row = flatE (put ++ [r]) := by show d.row ++ encR r = _; rw [hrow, flatE_snoc]
  have h1 : JD (put ++ [r]) s ({ d with row := d.row ++ encR r } : Dk) := by
    refine ⟨by rw [List.length_append]; have := h.1; omega, ⟨(flatE (put ++ [r])).length, by rw [hz, List.take_length]⟩, ?_⟩
    rw [List.take_append_of_le_length h.1]
    exact h.2.2
  obtain ⟨p1, p2, p3, _⟩ := h1.fin hoff
  unfold Dk.append
  rw [if_neg (by simp [hoff])]
  exact ⟨p1, p2, fun e => ⟨(p3 e).1, (p3 e).2.trans hz⟩⟩
theorem JD.sync {put : List Rec} {s : Nat} {d : Dk} (h : JD put s d) (hoff : d.off = false) (hrow : d.row = flatE put) :
    d.sync.2.ops ≤ d.ops + 1 ∧ ((d.sync.1 = 0 ∧ JD put put.length d.sync.2 ∧ d.sync.2.off = false ∧ d.sync.2.row = flatE put) ∨ (d.sync.1 = 13 ∧ JD put s d.sync.2 ∧ d.sync.2.off = true)) := by
  obtain ⟨p1, p2, p3, p4⟩ := h.fin hoff
  unfold Dk.sync
  dsimp only
  rcases d.fin_01 with h0 | h0
  · rw [if_pos h0]
    obtain ⟨q1, q2⟩ := p3 h0
    refine ⟨p2, .inl ⟨rfl, ⟨Nat.le_refl _, ⟨(flatE put).length, ?_⟩, ?_⟩, q1, q2.trans hrow⟩⟩
    · show d.fin.2.row = _
      rw [List.take_length, q2, hrow]
    · show endR _ ≤ d.fin.2.row.length
      rw [List.take_length, q2, hrow, flatE_len]
      exact Nat.le_refl _
  · rw [if_neg (by rw [h0]; decide)]
    exact ⟨p2, .inr ⟨h0, p1, p4 (by rw [h0]; decide)⟩⟩
theorem JD.scan {put : List Rec} {s : Nat} {d : Dk} (h : JD put s d) (hk : d.kept ≤ d.row.length) (hf : ∀ r ∈ put, Fit r) : ∃ n, s ≤ n ∧ n ≤ put.length ∧ scanR d.row = put.take n := by
  obtain ⟨h1, ⟨m, hm⟩, h3⟩ := h
  obtain ⟨n, hn, hs, _, hx⟩ := scan_cut (fun r hr => (hf r hr).ok) m
  refine ⟨n, ?_, hn, by rw [hm]; exact hs⟩
  refine Decidable.byContradiction fun hlt => ?_
  have q := hx (by omega)
  have q2 := endR_mono (rs := put) (show n + 1 ≤ s by omega)
  have q3 : d.row.length ≤ m := by rw [hm, List.length_take]; omega
  omega
/-- bools in memory -/
def Bls (W : World) (v : Value) (l : List Bool) : Prop :=
  ((∃ a c, v = .slice a 0 c) ∧ l = []) ∨ ∃ g off cap, v = .slice (some ⟨g, off, none⟩) l.length cap ∧ g < W.heap.size ∧ ∀ j x, l[j]? = some x → W.cell? ⟨g, off + j, none⟩ = some (.bool x)
section
open Go.ChangeShapes Go.WideShapes Go.Deep
variable {H : Type} {enc : TypeId × Value → H} {W : World} {base : Nat} {spare : Nat → Bool} {held : Bool}
theorem bls_of_trod {fuel : Nat} {sa : Option Addr} {sl sc : Nat} {x : DataW H × List MemPlace} (h : DataW.trod enc Try.prog W base spare held fuel 50 [.slice sa sl sc] = some x) :
    ∃ l : List Bool, l.length = sl ∧ l.length ≤ 9223372036854775807 ∧ Bls W (.slice sa sl sc) l := by
  rcases open_slice Try.underlying50 h with ⟨hcs, _⟩ | ⟨a, len, cap, m, n, D, Pl, hcs, hb, hl, hm, hmm, hx, hi⟩
  · have e : Value.slice sa sl sc = .slice none 0 0 := by simpa using hcs
    injection e with e1 e2 e3
    subst e1 e2 e3
    exact ⟨[], rfl, by simp, .inl ⟨⟨_, _, rfl⟩, rfl⟩⟩
  · have e : Value.slice sa sl sc = .slice (some a) len cap := by simpa using hcs
    injection e with e1 e2 e3
    subst e1 e2 e3
    have hlm : sl ≤ m := by rw [hmm]; split <;> omega
    have hx : ∀ j : Fin sl, ∃ b : Bool, W.cell? (a.add j.1) = some (.bool b) := fun j => by
      obtain ⟨cs', hc, ht'⟩ := hi j.1 (by omega)
      rw [show Try.prog.cellsOf 4 = 1 by kernel_rfl, Nat.mul_one] at hc
      obtain ⟨b, hb, _⟩ := DataW.trod_bool Try.underlying4 ht'
      obtain ⟨_, hcl, hat⟩ := World.cells?_some hc
      have := hat 0 (by omega)
      subst hb
      refine ⟨b, ?_⟩
      rw [show (a.add j.1).add 0 = a.add j.1 by simp [Addr.add]] at this
      exact this
    unfold maxLen at hm
    have hz : ∀ j r, (List.ofFn fun j => Classical.choose (hx j))[j]? = some r → ∃ h : j < sl, r = Classical.choose (hx ⟨j, h⟩) := fun j x hj => by
      rw [List.getElem?_ofFn] at hj
      split at hj
      · rename_i hl
        exact ⟨hl, (Option.some.inj hj).symm⟩
      · cases hj
    refine ⟨List.ofFn fun j => Classical.choose (hx j), List.length_ofFn, by rw [List.length_ofFn]; omega, ?_⟩
    by_cases h0 : sl = 0
    · subst h0
      exact .inl ⟨⟨_, _, rfl⟩, List.eq_nil_of_length_eq_zero List.length_ofFn⟩
    · obtain ⟨_, hs0⟩ := hx ⟨0, by omega⟩
      dsimp only at hs0
      rw [show a.add 0 = a from by simp [Addr.add]] at hs0
      have hsp := World.cell?_spot hs0
      have hlt := World.block_lt_of_cell? W a hs0
      obtain ⟨b, off, spot⟩ := a
      dsimp only at hsp hlt
      subst hsp
      refine .inr ⟨b, off, sc, by rw [List.length_ofFn], hlt, fun j y hj => ?_⟩
      obtain ⟨hjl, rfl⟩ := hz j y hj
      have := Classical.choose_spec (hx ⟨j, hjl⟩)
      generalize Classical.choose (hx ⟨j, hjl⟩) = bb at this ⊢
      rw [Addr.add_lit] at this
      exact this
end
end Go.Proofs.Yteddlpcnefogpaa
