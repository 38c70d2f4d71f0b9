/- Arguments opened: bytes, records, bools. -/
import Derived.Test.YteddlpcnefogpaaJkN
import Derived.Deep.Matrix
import Derived.SliceStrings
import Derived.Deep.Slices
import Derived.Deep.Fields
import Derived.ChangeSlices
import Derived.ChangeShapes
namespace Go.Proofs.Yteddlpcnefogpaa
open Go Go.Proofs Go.RowKit Go.Shelf Go.ChangeShapes Go.WideShapes Go.Deep
set_option maxRecDepth 100000
section
variable {H : Type} {enc : TypeId × Value → H} {P : Program} {w : World} {base : Nat} {spare : Nat → Bool} {held : Bool}
theorem open_slice_fields {t e : TypeId} {fs : Array Field} {fuel : Nat} {cs : List Value} {x : DataW H × List MemPlace} (ht : P.underlying t = some (.slice e)) (he : P.underlying e = some (.struct fs))
    (hone : oneCellFields P fs = true) (hC : P.cellsOf e = fs.size) (h : DataW.trod enc P w base spare held fuel t cs = some x) :
    (cs = [.slice none 0 0] ∧ x = (.nil, [])) ∨
    ∃ (a : Addr) (len cap m : Nat), cs = [.slice (some a) len cap] ∧ base ≤ a.block ∧ len ≤ cap ∧ cap ≤ maxLen ∧ m = (if spare a.block then cap else len) ∧
      ∀ i, i < m → ∃ (n : Nat), ∀ (j : Nat) (f : Field), fs[j]? = some f → ∃ (v : Value) (y : DataW H × List MemPlace), w.cell? (a.add (i * fs.size + j)) = some v ∧ DataW.trod enc P w base spare held n f.type [v] = some y := by
  rcases open_slice ht h with h0 | ⟨a, len, cap, m, n, D, Pl, hcs, hb, hl, hm, hmm, hx, hi⟩
  · exact .inl h0
  · refine .inr ⟨a, len, cap, m, hcs, hb, hl, hm, hmm, fun i him => ?_⟩
    obtain ⟨cs', hc, ht'⟩ := hi i him
    rw [hC] at hc
    obtain ⟨ys, n', hn', hy, hlen, hyl, hf⟩ := DataW.trod_struct he ht'
    obtain ⟨_, hcl, hat⟩ := World.cells?_some hc
    refine ⟨n', fun j f hj => ?_⟩
    obtain ⟨ho, hk⟩ := hone_of hone j f hj
    have hjl : j < fs.size := (Array.getElem?_eq_some_iff.1 hj).1
    have hcell := hat j hjl
    have hv : cs'[j]? = some (cs'[j]'(by omega)) := List.getElem?_eq_getElem (by omega)
    have h1 := hf j f hj
    rw [ho, hk] at h1
    have hone' : (cs'.drop j).take 1 = [cs'[j]'(by omega)] := by
      rw [List.drop_eq_getElem_cons (by omega)]
      rfl
    rw [hone'] at h1
    have hys : ys[j]? = some (ys[j]'(by omega)) := List.getElem?_eq_getElem (by omega)
    refine ⟨_, _, ?_, h1.trans hys⟩
    rw [← Go.Deep.add_add, hcell, hv]
end
def byL (Z : List Int) (n : Nat) : List UInt8 := (Z.take n).map fun x => UInt8.ofNat x.toNat
theorem byL_len {Z : List Int} {n : Nat} (h : n ≤ Z.length) : (byL Z n).length = n := by unfold byL; rw [List.length_map, List.length_take]; omega
theorem byV_of {x : Int} (h : (Lit.int .u8 x).wf = true) : byV (UInt8.ofNat x.toNat) = .int .u8 x := by
  have hx : 0 ≤ x ∧ x ≤ 255 := by simpa [Lit.wf, IntKind.min, IntKind.max, IntKind.signed, IntKind.bits] using h
  obtain ⟨k, rfl⟩ : ∃ k : Nat, x = (k : Int) := ⟨x.toNat, by omega⟩
  show Value.int .u8 (((UInt8.ofNat (k : Int).toNat).toNat : Nat) : Int) = _
  rw [Int.toNat_natCast, UInt8.toNat_ofNat', Nat.mod_eq_of_lt (by omega)]
theorem bys_ints {w : World} {a : Option Addr} {len cap : Nat} {Z : List Int} (hl : len ≤ Z.length) (hn : a = none → len = 0) (hc : ∀ a', a = some a' → ∀ c, c < len → w.cell? (a'.add c) = some (.int .u8 (Z.getD c 0))) (hw : ∀ n ∈ Z, (Lit.int .u8 n).wf = true) : Bys w (.slice a len cap) (byL Z len) := by
  by_cases h0 : len = 0
  · subst h0
    exact .inl ⟨⟨_, _, rfl⟩, by simp [byL]⟩
  · cases a with
    | none => exact absurd (hn rfl) h0
    | some a' =>
      have hs0 := hc a' rfl 0 (by omega)
      rw [show a'.add 0 = a' from by simp [Addr.add]] at hs0
      have hsp := World.cell?_spot hs0
      have hlt := World.block_lt_of_cell? w a' hs0
      obtain ⟨b, off, spot⟩ := a'
      dsimp only at hsp hlt
      subst hsp
      refine .inr ⟨b, off, cap, by rw [byL_len hl], hlt, fun j x hj => ?_⟩
      have hjl : j < len := by
        have := (List.getElem?_eq_some_iff.1 hj).1
        rwa [byL_len hl] at this
      have hcj := hc _ rfl j hjl
      rw [Addr.add_lit] at hcj
      rw [hcj]
      unfold byL at hj
      rw [List.getElem?_map, List.getElem?_take, if_pos hjl] at hj
      have hz : Z[j]? = some (Z[j]'(by omega)) := List.getElem?_eq_getElem (by omega)
      rw [hz] at hj
      have hx : UInt8.ofNat (Z[j]'(by omega)).toNat = x := by simpa using hj
      rw [← hx, byV_of (hw _ (List.getElem_mem _))]
      simp [List.getD, hz]
section
variable {H : Type} {enc : TypeId × Value → H} {W : World} {base : Nat} {spare : Nat → Bool} {held : Bool}
theorem bysC_of_trod {fuel : Nat} {v : Value} {x : DataW H × List MemPlace} (h : DataW.trod enc Try.prog W base spare held fuel 22 [v] = some x) :
    ∃ (a : Option Addr) (c : Nat) (l : List UInt8), v = .slice a l.length c ∧ l.length ≤ 9223372036854775807 ∧ BysC W a l.length c l := by
  rcases open_ints Try.underlying22 Try.underlying5 (show Try.prog.cellsOf 5 = 1 by kernel_rfl) h with ⟨hcs, _⟩ | ⟨a, len, cap, zs, hcs, _, hl, hm, hz, _, hc, hw⟩
  · have e : v = .slice none 0 0 := by simpa using hcs
    exact ⟨none, 0, [], e, by simp, ⟨.inl ⟨⟨_, _, rfl⟩, rfl⟩, Nat.le_refl _, fun _ => rfl⟩⟩
  · have e : v = .slice (some a) len cap := by simpa using hcs
    have hle : len ≤ zs.length := by rw [hz]; split <;> omega
    have hb := byL_len hle
    unfold maxLen at hm
    refine ⟨some a, cap, byL zs len, by rw [hb]; exact e, by rw [hb]; omega, ⟨?_, by rw [hb]; exact hl, fun q => by cases q⟩⟩
    rw [hb]
    exact bys_ints hle (fun q => by cases q) (fun a' q c hcl => by cases q; exact hc c (by omega)) hw
theorem rcs_of_trod {fuel : Nat} {sa : Option Addr} {sl sc : Nat} {x : DataW H × List MemPlace} (h : DataW.trod enc Try.prog W base spare held fuel 24 [.slice sa sl sc] = some x) :
    ∃ rs : List Rec, rs.length = sl ∧ rs.length ≤ 9223372036854775807 ∧ (∀ r ∈ rs, r.2.length ≤ 9223372036854775807) ∧ Rcs W (.slice sa sl sc) rs ∧ sl ≤ sc := by
  rcases open_slice_fields Try.underlying24 Try.underlying42 (by kernel_rfl) (by kernel_rfl) h with ⟨hcs, _⟩ | ⟨a, len, cap, m, hcs, _, hl, hm, hmm, hi⟩
  · have e : Value.slice sa sl sc = .slice none 0 0 := by simpa using hcs
    injection e with e1 e2 e3
    subst e1 e2 e3
    exact ⟨[], rfl, by simp, by simp, .inl ⟨⟨_, _, rfl⟩, rfl⟩, Nat.le_refl _⟩
  · have e : Value.slice sa sl sc = .slice (some a) len cap := by simpa using hcs
    injection e with e1 e2 e3
    subst e1 e2 e3
    have hlm : sl ≤ m := by rw [hmm]; split <;> omega
    have hx : ∀ j : Fin sl, ∃ (r : Rec) (ra : Option Addr) (rc : Nat), W.cell? (a.add (j.1 * 2)) = some (byV r.1) ∧ W.cell? (a.add (j.1 * 2 + 1)) = some (.slice ra r.2.length rc) ∧ BysC W ra r.2.length rc r.2 ∧ r.2.length ≤ 9223372036854775807 := fun j => by
      obtain ⟨n, hf⟩ := hi j.1 (by omega)
      obtain ⟨v0, y0, hc0, ht0⟩ := hf 0 _ rfl
      obtain ⟨v1, y1, hc1, ht1⟩ := hf 1 _ rfl
      obtain ⟨i0, e0, _, w0⟩ := DataW.trod_int Try.underlying5 ht0
      obtain ⟨ra, rc, l, e1, hl1, hb1⟩ := bysC_of_trod ht1
      simp only [List.cons.injEq, and_true] at e0
      subst e0 e1
      refine ⟨(UInt8.ofNat i0.toNat, l), ra, rc, ?_, hc1, hb1, hl1⟩
      rw [byV_of w0]
      exact hc0
    unfold maxLen at hm
    have hz : ∀ j r, (List.ofFn fun j => Classical.choose (hx j))[j]? = some r → ∃ h : j < sl, r = Classical.choose (hx ⟨j, h⟩) := fun j x hj => by
      rw [List.getElem?_ofFn] at hj
      split at hj
      · rename_i hl
        exact ⟨hl, (Option.some.inj hj).symm⟩
      · cases hj
    refine ⟨List.ofFn fun j => Classical.choose (hx j), List.length_ofFn, by rw [List.length_ofFn]; omega, fun r hr => ?_, ?_, hl⟩
    · obtain ⟨j, hj⟩ := List.mem_iff_getElem?.1 hr
      obtain ⟨hjl, rfl⟩ := hz j r hj
      obtain ⟨_, _, _, _, _, h4⟩ := Classical.choose_spec (hx ⟨j, hjl⟩)
      exact h4
    · by_cases h0 : sl = 0
      · subst h0
        exact .inl ⟨⟨_, _, rfl⟩, List.eq_nil_of_length_eq_zero List.length_ofFn⟩
      · obtain ⟨_, _, _, hs0, _⟩ := hx ⟨0, by omega⟩
        dsimp only at hs0
        rw [Nat.zero_mul, show a.add 0 = a from by simp [Addr.add]] at hs0
        have hsp := World.cell?_spot hs0
        have hlt := World.block_lt_of_cell? W a hs0
        obtain ⟨b, off, spot⟩ := a
        dsimp only at hsp hlt
        subst hsp
        refine .inr ⟨b, off, sc, by rw [List.length_ofFn], hlt, fun j r hj => ?_⟩
        obtain ⟨hjl, rfl⟩ := hz j r hj
        obtain ⟨ra, rc, h1, h2, h3, _⟩ := Classical.choose_spec (hx ⟨j, hjl⟩)
        generalize Classical.choose (hx ⟨j, hjl⟩) = r at h1 h2 h3 ⊢
        dsimp only at h1 h2
        rw [Addr.add_lit] at h1 h2
        rw [← Nat.add_assoc] at h2
        exact ⟨ra, rc, h1, h2, h3⟩
end
end Go.Proofs.Yteddlpcnefogpaa
