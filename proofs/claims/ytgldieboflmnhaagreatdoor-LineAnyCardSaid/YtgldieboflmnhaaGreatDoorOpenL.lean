/- An argument that is a sample, opened to its cells. -/
import Derived.Test.YtgldieboflmnhaaGreatDoorTextL
import Derived.SliceStrings
import Derived.Deep.Slices
import Derived.Deep.Fields
import Derived.ChangeSame
import Derived.Lib.SmallJoins
import Derived.Test.YtgldieboflmnhaaGreatDoorRefC
namespace Go.Proofs.YtgldieboflmnhaaGreatDoor
open Go Go.Proofs Go.RowKit Go.Shelf Go.ChangeShapes Go.WideShapes Go.Deep
set_option maxRecDepth 100000
theorem array5 {α : Type} {cs : Array α} (h : cs.size = 5) : ∃ c0 c1 c2 c3 c4, cs = #[c0, c1, c2, c3, c4] := by
  obtain ⟨l⟩ := cs
  simp only [List.size_toArray] at h
  rcases l with _ | ⟨a, _ | ⟨b, _ | ⟨c, _ | ⟨d, _ | ⟨e, _ | ⟨f, t⟩⟩⟩⟩⟩⟩ <;> simp at h
  exact ⟨a, b, c, d, e, rfl⟩
theorem i64_wf {n : Int} (h : (Lit.int .i64 n).wf = true) : I64 n := by
  unfold I64
  simpa [Lit.wf, IntKind.min, IntKind.max, IntKind.signed, IntKind.bits] using h
set_option maxHeartbeats 1000000 in
theorem samp_open {H : Type} {enc : TypeId × Value → H} {W : World} {base b0 : Nat} {r : Reach} {spare : Nat → Bool} {held : Bool} {v : Value} {d : DataW H} {p : List MemPlace}
    (hv : Value.okWide Tryz.prog W r b0 25 v) (h : DataW.Trod enc Tryz.prog W base spare held 25 v d p) :
    ∃ sa sl sc a1 a2 a3 a4, v = sampV (.slice sa sl sc) a1 a2 a3 a4 ∧ I64 a1 ∧ I64 a2 ∧ I64 a3 ∧ I64 a4 ∧ ∃ (n : Nat) (y : DataW H × List MemPlace), DataW.trod enc Tryz.prog W base spare held n 23 [.slice sa sl sc] = some y := by
  obtain ⟨cs, rfl, hsz⟩ := okWide_struct Tryz.underlying25 hv
  obtain ⟨c0, c1, c2, c3, c4, rfl⟩ := array5 (hsz.trans (show Tryz.prog.cellsOf 25 = 5 by kernel_rfl))
  obtain ⟨fuel, hf⟩ := h
  obtain ⟨ys, n, _, _, _, hlen, hi⟩ := DataW.trod_struct Tryz.underlying25 hf
  have k1 : Tryz.prog.cellsOf 23 = 1 := by kernel_rfl
  have k2 : Tryz.prog.cellsOf 2 = 1 := by kernel_rfl
  have k3 : Tryz.prog.cellsOf 3 = 1 := by kernel_rfl
  have hys : ys.length = 5 := hlen
  obtain ⟨y0, hy0⟩ : ∃ y, ys[0]? = some y := ⟨_, List.getElem?_eq_getElem (by omega)⟩
  obtain ⟨y1, hy1⟩ : ∃ y, ys[1]? = some y := ⟨_, List.getElem?_eq_getElem (by omega)⟩
  obtain ⟨y2, hy2⟩ : ∃ y, ys[2]? = some y := ⟨_, List.getElem?_eq_getElem (by omega)⟩
  obtain ⟨y3, hy3⟩ : ∃ y, ys[3]? = some y := ⟨_, List.getElem?_eq_getElem (by omega)⟩
  obtain ⟨y4, hy4⟩ : ∃ y, ys[4]? = some y := ⟨_, List.getElem?_eq_getElem (by omega)⟩
  have g0 : DataW.trod enc Tryz.prog W base spare held n 23 [c0] = some y0 := by
    have := hi 0 _ rfl
    rw [hy0] at this
    simpa [Value.cells, k1, k2, k3] using this
  have g1 : DataW.trod enc Tryz.prog W base spare held n 2 [c1] = some y1 := by
    have := hi 1 _ rfl
    rw [hy1] at this
    simpa [Value.cells, k1, k2, k3] using this
  have g2 : DataW.trod enc Tryz.prog W base spare held n 2 [c2] = some y2 := by
    have := hi 2 _ rfl
    rw [hy2] at this
    simpa [Value.cells, k1, k2, k3] using this
  have g3 : DataW.trod enc Tryz.prog W base spare held n 3 [c3] = some y3 := by
    have := hi 3 _ rfl
    rw [hy3] at this
    simpa [Value.cells, k1, k2, k3] using this
  have g4 : DataW.trod enc Tryz.prog W base spare held n 2 [c4] = some y4 := by
    have := hi 4 _ rfl
    rw [hy4] at this
    simpa [Value.cells, k1, k2, k3] using this
  obtain ⟨i1, e1, _, w1⟩ := DataW.trod_int Tryz.underlying2 g1
  obtain ⟨i2, e2, _, w2⟩ := DataW.trod_int Tryz.underlying2 g2
  obtain ⟨i3, e3, _, w3⟩ := DataW.trod_int Tryz.underlying3 g3
  obtain ⟨i4, e4, _, w4⟩ := DataW.trod_int Tryz.underlying2 g4
  simp only [List.cons.injEq, and_true] at e1 e2 e3 e4
  subst e1 e2 e3 e4
  have gs := g0
  rcases open_slice Tryz.underlying23 g0 with ⟨e, _⟩ | ⟨a, len, cap, _, _, _, _, e, _⟩
  · simp only [List.cons.injEq, and_true] at e
    subst e
    exact ⟨_, _, _, _, _, _, _, rfl, i64_wf w1, i64_wf w2, i64_wf w3, i64_wf w4, _, _, gs⟩
  · simp only [List.cons.injEq, and_true] at e
    subst e
    exact ⟨_, _, _, _, _, _, _, rfl, i64_wf w1, i64_wf w2, i64_wf w3, i64_wf w4, _, _, gs⟩
end Go.Proofs.YtgldieboflmnhaaGreatDoor
/- An argument that is a set of labels, opened to its cells. -/
namespace Go.Proofs.YtgldieboflmnhaaGreatDoor
open Go Go.Proofs Go.RowKit Go.Shelf Go.ChangeShapes Go.WideShapes Go.Deep
set_option maxRecDepth 100000
section
variable {H : Type} {enc : TypeId × Value → H} {P : Program} {w : World} {base : Nat} {spare : Nat → Bool} {held : Bool}
theorem open_slice_fields {t e : TypeId} {fs : Array Field} {fuel : Nat} {cs : List Value} {x : DataW H × List MemPlace} (ht : P.underlying t = some (.slice e)) (he : P.underlying e = some (.struct fs))
    (hone : oneCellFields P fs = true) (hC : P.cellsOf e = fs.size) (h : DataW.trod enc P w base spare held fuel t cs = some x) :
    (cs = [.slice none 0 0] ∧ x = (.nil, [])) ∨
    ∃ (a : Addr) (len cap m : Nat), cs = [.slice (some a) len cap] ∧ base ≤ a.block ∧ len ≤ cap ∧ cap ≤ maxLen ∧ m = (if spare a.block then cap else len) ∧
      ∀ i, i < m → ∃ (n : Nat), ∀ (j : Nat) (f : Field), fs[j]? = some f → ∃ (v : Value) (y : DataW H × List MemPlace), w.cell? (a.add (i * fs.size + j)) = some v ∧ DataW.trod enc P w base spare held n f.type [v] = some y := by
  rcases open_slice ht h with h0 | ⟨a, len, cap, m, n, D, Pl, hcs, hb, hl, hm, hmm, hx, hi⟩
  · exact .inl h0
  · refine .inr ⟨a, len, cap, m, hcs, hb, hl, hm, hmm, fun i him => ?_⟩
    obtain ⟨cs', hc, ht'⟩ := hi i him
    rw [hC] at hc
    obtain ⟨ys, n', hn', hy, hlen, hyl, hf⟩ := DataW.trod_struct he ht'
    obtain ⟨_, hcl, hat⟩ := World.cells?_some hc
    refine ⟨n', fun j f hj => ?_⟩
    obtain ⟨ho, hk⟩ := hone_of hone j f hj
    have hjl : j < fs.size := (Array.getElem?_eq_some_iff.1 hj).1
    have hcell := hat j hjl
    have hv : cs'[j]? = some (cs'[j]'(by omega)) := List.getElem?_eq_getElem (by omega)
    have h1 := hf j f hj
    rw [ho, hk] at h1
    have hone' : (cs'.drop j).take 1 = [cs'[j]'(by omega)] := by
      rw [List.drop_eq_getElem_cons (by omega)]
      rfl
    rw [hone'] at h1
    have hys : ys[j]? = some (ys[j]'(by omega)) := List.getElem?_eq_getElem (by omega)
    refine ⟨_, _, ?_, h1.trans hys⟩
    rw [← Go.Deep.add_add, hcell, hv]
end
/-- what lies behind an address as a text -/
def strAt (W : World) (a : Addr) : List UInt8 := match W.cell? a with | some (.string s) => s.data.toList | _ => []
theorem bytes_eta (s : ByteArray) : s = ⟨s.data.toList.toArray⟩ := rfl
theorem str_le {s : ByteArray} (h : s.size ≤ maxLen) : s.data.toList.length ≤ 9223372036854775807 := by unfold maxLen at h; rw [← Lib.size_eq]; omega
theorem labsG_of_trod {H : Type} {enc : TypeId × Value → H} {W : World} {base : Nat} {spare : Nat → Bool} {held : Bool} {fuel : Nat} {x : DataW H × List MemPlace} {sa : Option Addr} {sl sc : Nat}
    (h : DataW.trod enc Tryz.prog W base spare held fuel 23 [.slice sa sl sc] = some x) :
    ∃ zs : List Lab, zs.length ≤ 9223372036854775807 ∧ (∀ x ∈ zs, x.1.length ≤ 9223372036854775807 ∧ x.2.length ≤ 9223372036854775807) ∧ LabsG W.heap.size W (.slice sa sl sc) zs := by
  rcases open_slice_fields Tryz.underlying23 Tryz.underlying45 (by kernel_rfl) (by kernel_rfl) h with ⟨hcs, _⟩ | ⟨a, len, cap, m, hcs, _, hl, hm, hmm, hi⟩
  · refine ⟨[], by simp, fun x hx => absurd hx (by simp), .inl ⟨?_, rfl⟩⟩
    have e : Value.slice sa sl sc = .slice none 0 0 := by simpa using hcs
    exact ⟨_, _, e⟩
  · have e : Value.slice sa sl sc = .slice (some a) len cap := by simpa using hcs
    have hlm : len ≤ m := by rw [hmm]; split <;> omega
    have hstr : ∀ i, i < len → ∃ s0 s1 : ByteArray, W.cell? (a.add (i * 2)) = some (.string s0) ∧ W.cell? (a.add (i * 2 + 1)) = some (.string s1) ∧ s0.size ≤ maxLen ∧ s1.size ≤ maxLen := by
      intro i hil
      obtain ⟨n, hf⟩ := hi i (by omega)
      obtain ⟨v0, y0, hc0, ht0⟩ := hf 0 _ rfl
      obtain ⟨v1, y1, hc1, ht1⟩ := hf 1 _ rfl
      obtain ⟨s0, e0, _, b0⟩ := DataW.trod_string Tryz.underlying9 ht0
      obtain ⟨s1, e1, _, b1⟩ := DataW.trod_string Tryz.underlying9 ht1
      simp at e0 e1
      subst e0 e1
      exact ⟨s0, s1, hc0, hc1, b0, b1⟩
    by_cases h0 : len = 0
    · exact ⟨[], by simp, fun x hx => absurd hx (by simp), .inl ⟨⟨_, _, by rw [e, h0]⟩, rfl⟩⟩
    · obtain ⟨s0, _, hs0, _⟩ := hstr 0 (by omega)
      rw [Nat.zero_mul, show a.add 0 = a from by simp [Addr.add]] at hs0
      have hsp := World.cell?_spot hs0
      have hlt := World.block_lt_of_cell? W a hs0
      obtain ⟨b, off, spot⟩ := a
      dsimp only at hsp hlt
      subst hsp
      refine ⟨(List.range len).map fun i => (strAt W ⟨b, off + i * 2, none⟩, strAt W ⟨b, off + i * 2 + 1, none⟩), ?_, ?_, .inr ⟨b, off, cap, ?_, hlt, ?_⟩⟩
      · rw [List.length_map, List.length_range]; unfold maxLen at hm; omega
      · intro x hx
        obtain ⟨i, hir, rfl⟩ := List.mem_map.1 hx
        obtain ⟨s0, s1, c0, c1, b0, b1⟩ := hstr i (List.mem_range.1 hir)
        rw [Addr.add_lit] at c0 c1
        rw [← Nat.add_assoc] at c1
        unfold maxLen at b0 b1
        simp only [strAt, c0, c1]
        rw [← Lib.size_eq, ← Lib.size_eq]
        omega
      · rw [List.length_map, List.length_range]; exact e
      · intro j x hj
        rw [List.getElem?_map] at hj
        cases hr : (List.range len)[j]? with
        | none => rw [hr] at hj; cases hj
        | some i =>
          rw [hr] at hj
          obtain ⟨hjl, hji⟩ := List.getElem?_eq_some_iff.1 hr
          rw [List.getElem_range] at hji
          subst hji
          cases hj
          obtain ⟨s0, s1, c0, c1, _, _⟩ := hstr j (by simpa using hjl)
          rw [Addr.add_lit] at c0 c1
          rw [← Nat.add_assoc] at c1
          simp only [strAt, c0, c1]
          constructor <;> first | rfl | trivial
end Go.Proofs.YtgldieboflmnhaaGreatDoor
