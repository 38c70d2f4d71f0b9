/- Arguments opened: labels, samples. -/
import Derived.Test.YtedcdhngiofpjaaGreatDoorSm
import Derived.Lib.SmallJoins
import Derived.SliceStrings
import Derived.Deep.Slices
import Derived.Deep.Fields
import Derived.ChangeSame
namespace Go.Proofs.YtedcdhngiofpjaaGreatDoor
open Go Go.Proofs Go.RowKit Go.Shelf Go.ChangeShapes Go.WideShapes Go.Deep
set_option maxRecDepth 100000
section
variable {H : Type} {enc : TypeId × Value → H} {P : Program} {w : World} {base : Nat} {spare : Nat → Bool} {held : Bool}
theorem open_slice_fields {t e : TypeId} {fs : Array Field} {fuel : Nat} {cs : List Value} {x : DataW H × List MemPlace} (ht : P.underlying t = some (.slice e)) (he : P.underlying e = some (.struct fs))
    (hone : oneCellFields P fs = true) (hC : P.cellsOf e = fs.size) (h : DataW.trod enc P w base spare held fuel t cs = some x) :
    (cs = [.slice none 0 0] ∧ x = (.nil, [])) ∨
    ∃ (a : Addr) (len cap m : Nat), cs = [.slice (some a) len cap] ∧ base ≤ a.block ∧ len ≤ cap ∧ cap ≤ maxLen ∧ m = (if spare a.block then cap else len) ∧
      ∀ i, i < m → ∃ (n : Nat), ∀ (j : Nat) (f : Field), fs[j]? = some f → ∃ (v : Value) (y : DataW H × List MemPlace), w.cell? (a.add (i * fs.size + j)) = some v ∧ DataW.trod enc P w base spare held n f.type [v] = some y := by
  rcases open_slice ht h with h0 | ⟨a, len, cap, m, n, D, Pl, hcs, hb, hl, hm, hmm, hx, hi⟩
  · exact .inl h0
  · refine .inr ⟨a, len, cap, m, hcs, hb, hl, hm, hmm, fun i him => ?_⟩
    obtain ⟨cs', hc, ht'⟩ := hi i him
    rw [hC] at hc
    obtain ⟨ys, n', hn', hy, hlen, hyl, hf⟩ := DataW.trod_struct he ht'
    obtain ⟨_, hcl, hat⟩ := World.cells?_some hc
    refine ⟨n', fun j f hj => ?_⟩
    obtain ⟨ho, hk⟩ := hone_of hone j f hj
    have hjl : j < fs.size := (Array.getElem?_eq_some_iff.1 hj).1
    have hcell := hat j hjl
    have hv : cs'[j]? = some (cs'[j]'(by omega)) := List.getElem?_eq_getElem (by omega)
    have h1 := hf j f hj
    rw [ho, hk] at h1
    have hone' : (cs'.drop j).take 1 = [cs'[j]'(by omega)] := by
      rw [List.drop_eq_getElem_cons (by omega)]
      rfl
    rw [hone'] at h1
    have hys : ys[j]? = some (ys[j]'(by omega)) := List.getElem?_eq_getElem (by omega)
    refine ⟨_, _, ?_, h1.trans hys⟩
    rw [← Go.Deep.add_add, hcell, hv]
end
/-- what lies behind an address as a text -/
def strAt (W : World) (a : Addr) : List UInt8 := match W.cell? a with | some (.string s) => s.data.toList | _ => []
theorem bytes_eta (s : ByteArray) : s = ⟨s.data.toList.toArray⟩ := rfl
theorem str_le {s : ByteArray} (h : s.size ≤ maxLen) : s.data.toList.length ≤ 9223372036854775807 := by unfold maxLen at h; rw [← Lib.size_eq]; omega
theorem labsG_of_trod {H : Type} {enc : TypeId × Value → H} {W : World} {base : Nat} {spare : Nat → Bool} {held : Bool} {fuel : Nat} {x : DataW H × List MemPlace} {sa : Option Addr} {sl sc : Nat}
    (h : DataW.trod enc Tryz.prog W base spare held fuel 24 [.slice sa sl sc] = some x) :
    ∃ zs : List Lab, zs.length ≤ 9223372036854775807 ∧ (∀ x ∈ zs, x.1.length ≤ 9223372036854775807 ∧ x.2.length ≤ 9223372036854775807) ∧ LabsG W.heap.size W (.slice sa sl sc) zs := by
  rcases open_slice_fields Tryz.underlying24 Tryz.underlying78 (by kernel_rfl) (by kernel_rfl) h with ⟨hcs, _⟩ | ⟨a, len, cap, m, hcs, _, hl, hm, hmm, hi⟩
  · refine ⟨[], by simp, fun x hx => absurd hx (by simp), .inl ⟨?_, rfl⟩⟩
    have e : Value.slice sa sl sc = .slice none 0 0 := by simpa using hcs
    exact ⟨_, _, e⟩
  · have e : Value.slice sa sl sc = .slice (some a) len cap := by simpa using hcs
    have hlm : len ≤ m := by rw [hmm]; split <;> omega
    have hstr : ∀ i, i < len → ∃ s0 s1 : ByteArray, W.cell? (a.add (i * 2)) = some (.string s0) ∧ W.cell? (a.add (i * 2 + 1)) = some (.string s1) ∧ s0.size ≤ maxLen ∧ s1.size ≤ maxLen := by
      intro i hil
      obtain ⟨n, hf⟩ := hi i (by omega)
      obtain ⟨v0, y0, hc0, ht0⟩ := hf 0 _ rfl
      obtain ⟨v1, y1, hc1, ht1⟩ := hf 1 _ rfl
      obtain ⟨s0, e0, _, b0⟩ := DataW.trod_string Tryz.underlying9 ht0
      obtain ⟨s1, e1, _, b1⟩ := DataW.trod_string Tryz.underlying9 ht1
      simp at e0 e1
      subst e0 e1
      exact ⟨s0, s1, hc0, hc1, b0, b1⟩
    by_cases h0 : len = 0
    · exact ⟨[], by simp, fun x hx => absurd hx (by simp), .inl ⟨⟨_, _, by rw [e, h0]⟩, rfl⟩⟩
    · obtain ⟨s0, _, hs0, _⟩ := hstr 0 (by omega)
      rw [Nat.zero_mul, show a.add 0 = a from by simp [Addr.add]] at hs0
      have hsp := World.cell?_spot hs0
      have hlt := World.block_lt_of_cell? W a hs0
      obtain ⟨b, off, spot⟩ := a
      dsimp only at hsp hlt
      subst hsp
      refine ⟨(List.range len).map fun i => (strAt W ⟨b, off + i * 2, none⟩, strAt W ⟨b, off + i * 2 + 1, none⟩), ?_, ?_, .inr ⟨b, off, cap, ?_, hlt, ?_⟩⟩
      · rw [List.length_map, List.length_range]; unfold maxLen at hm; omega
      · intro x hx
        obtain ⟨i, hir, rfl⟩ := List.mem_map.1 hx
        obtain ⟨s0, s1, c0, c1, b0, b1⟩ := hstr i (List.mem_range.1 hir)
        rw [Addr.add_lit] at c0 c1
        rw [← Nat.add_assoc] at c1
        unfold maxLen at b0 b1
        simp only [strAt, c0, c1]
        rw [← Lib.size_eq, ← Lib.size_eq]
        omega
      · rw [List.length_map, List.length_range]; exact e
      · intro j x hj
        rw [List.getElem?_map] at hj
        cases hr : (List.range len)[j]? with
        | none => rw [hr] at hj; cases hj
        | some i =>
          rw [hr] at hj
          obtain ⟨hjl, hji⟩ := List.getElem?_eq_some_iff.1 hr
          rw [List.getElem_range] at hji
          subst hji
          cases hj
          obtain ⟨s0, s1, c0, c1, _, _⟩ := hstr j (by simpa using hjl)
          rw [Addr.add_lit] at c0 c1
          rw [← Nat.add_assoc] at c1
          simp only [strAt, c0, c1]
          constructor <;> first | rfl | trivial
theorem i64_wf {n : Int} (h : (Lit.int .i64 n).wf = true) : I64 n := by
  unfold I64
  simpa [Lit.wf, IntKind.min, IntKind.max, IntKind.signed, IntKind.bits] using h
theorem smps_of_trod {H : Type} {enc : TypeId × Value → H} {W : World} {base : Nat} {spare : Nat → Bool} {held : Bool} {fuel : Nat} {x : DataW H × List MemPlace} {sa : Option Addr} {sl sc : Nat}
    (h : DataW.trod enc Tryz.prog W base spare held fuel 72 [.slice sa sl sc] = some x) :
    ∃ L : List Smp, L.length = sl ∧ L.length ≤ 9223372036854775807 ∧ (∀ x ∈ nums L, I64 x.v) ∧ Smps W (.slice sa sl sc) L ∧ (∀ s ∈ L, LabOK W s) ∧ sl ≤ sc := by
  rcases open_slice_fields Tryz.underlying72 Tryz.underlying33 (by kernel_rfl) (by kernel_rfl) h with ⟨hcs, _⟩ | ⟨a, len, cap, m, hcs, _, hl, hm, hmm, hi⟩
  · have e : Value.slice sa sl sc = .slice none 0 0 := by simpa using hcs
    injection e with e1 e2 e3
    subst e1 e2 e3
    exact ⟨[], rfl, by simp, by simp [nums], .inl ⟨rfl, _, _, rfl⟩, by simp, Nat.le_refl _⟩
  · have e : Value.slice sa sl sc = .slice (some a) len cap := by simpa using hcs
    injection e with e1 e2 e3
    subst e1 e2 e3
    have hlm : sl ≤ m := by rw [hmm]; split <;> omega
    have hx : ∀ j : Fin sl, ∃ s : Smp, (∀ i v, s.C[i]? = some v → W.cell? (a.add (j.1 * 5 + i)) = some v) ∧ I64 s.x.v ∧ LabOK W s := fun j => by
      obtain ⟨n, hf⟩ := hi j.1 (by omega)
      obtain ⟨v0, y0, hc0, ht0⟩ := hf 0 _ rfl
      obtain ⟨v1, y1, hc1, ht1⟩ := hf 1 _ rfl
      obtain ⟨v2, y2, hc2, ht2⟩ := hf 2 _ rfl
      obtain ⟨v3, y3, hc3, ht3⟩ := hf 3 _ rfl
      obtain ⟨v4, y4, hc4, ht4⟩ := hf 4 _ rfl
      obtain ⟨i1, e1, _, w1⟩ := DataW.trod_int Tryz.underlying2 ht1
      obtain ⟨i2, e2, _, w2⟩ := DataW.trod_int Tryz.underlying2 ht2
      obtain ⟨i3, e3, _, w3⟩ := DataW.trod_int Tryz.underlying3 ht3
      obtain ⟨i4, e4, _, w4⟩ := DataW.trod_int Tryz.underlying2 ht4
      simp only [List.cons.injEq, and_true] at e1 e2 e3 e4
      subst e1 e2 e3 e4
      have key : ∃ (la : Option Addr) (ln lc : Nat), v0 = .slice la ln lc := by
        rcases open_slice Tryz.underlying24 ht0 with ⟨e, _⟩ | ⟨a, len, cap, _, _, _, _, e, _⟩
        · simp only [List.cons.injEq, and_true] at e
          exact ⟨_, _, _, e⟩
        · simp only [List.cons.injEq, and_true] at e
          exact ⟨_, _, _, e⟩
      obtain ⟨la, ln, lc, rfl⟩ := key
      obtain ⟨zs, hz1, hz2, hz3⟩ := labsG_of_trod ht0
      refine ⟨⟨la, ln, lc, zs, ⟨i1, i2, i3, i4⟩⟩, fun i v hv => ?_, i64_wf w1, ⟨hz3, hz1, hz2⟩⟩
      rcases i with _ | _ | _ | _ | _ | i <;> simp [Smp.C] at hv
      · subst hv; exact hc0
      · subst hv; exact hc1
      · subst hv; exact hc2
      · subst hv; exact hc3
      · subst hv; exact hc4
    unfold maxLen at hm
    have hz : ∀ j s, (List.ofFn fun j => Classical.choose (hx j))[j]? = some s → ∃ h : j < sl, s = Classical.choose (hx ⟨j, h⟩) := fun j x hj => by
      rw [List.getElem?_ofFn] at hj
      split at hj
      · rename_i hl
        exact ⟨hl, (Option.some.inj hj).symm⟩
      · cases hj
    refine ⟨List.ofFn fun j => Classical.choose (hx j), List.length_ofFn, by rw [List.length_ofFn]; omega, fun y hy => ?_, ?_, fun s hs => ?_, hl⟩
    · obtain ⟨s, hs, rfl⟩ := List.mem_map.1 hy
      obtain ⟨j, hj⟩ := List.mem_iff_getElem?.1 hs
      obtain ⟨hjl, rfl⟩ := hz j s hj
      exact (Classical.choose_spec (hx ⟨j, hjl⟩)).2.1
    · by_cases h0 : sl = 0
      · subst h0
        exact .inl ⟨List.eq_nil_of_length_eq_zero List.length_ofFn, _, _, rfl⟩
      · obtain ⟨s0, hs00, _⟩ := hx ⟨0, by omega⟩
        have hs0 := hs00 0 _ rfl
        dsimp only at hs0
        rw [Nat.zero_mul, Nat.zero_add, show a.add 0 = a from by simp [Addr.add]] at hs0
        have hsp := World.cell?_spot hs0
        have hlt := World.block_lt_of_cell? W a hs0
        obtain ⟨b, off, spot⟩ := a
        dsimp only at hsp hlt
        subst hsp
        refine .inr ⟨b, off, sc, by rw [List.length_ofFn], hlt, fun j s hj i v hv => ?_⟩
        obtain ⟨hjl, rfl⟩ := hz j s hj
        have h1 := (Classical.choose_spec (hx ⟨j, hjl⟩)).1 i v hv
        rw [Addr.add_lit, ← Nat.add_assoc] at h1
        exact h1
    · obtain ⟨j, hj⟩ := List.mem_iff_getElem?.1 hs
      obtain ⟨hjl, rfl⟩ := hz j s hj
      exact (Classical.choose_spec (hx ⟨j, hjl⟩)).2.2
end Go.Proofs.YtedcdhngiofpjaaGreatDoor
