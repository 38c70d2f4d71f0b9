/- Arguments opened: labels, acts. -/
import Derived.Test.YtoodcaonlfeleaaDoorKo
import Derived.Lib.SmallJoins
import Derived.SliceStrings
import Derived.Deep.Slices
import Derived.Deep.Fields
import Derived.ChangeSame
namespace Go.Proofs.YtoodcaonlfeleaaDoor
open Go Go.Proofs Go.RowKit Go.Shelf Go.ChangeShapes Go.WideShapes Go.Deep
set_option maxRecDepth 100000
attribute [local go_sem] cell_set
section
variable {H : Type} {enc : TypeId × Value → H} {P : Program} {w : World} {base : Nat} {spare : Nat → Bool} {held : Bool}
theorem open_slice_fields {t e : TypeId} {fs : Array Field} {fuel : Nat} {cs : List Value} {x : DataW H × List MemPlace} (ht : P.underlying t = some (.slice e)) (he : P.underlying e = some (.struct fs))
    (hone : oneCellFields P fs = true) (hC : P.cellsOf e = fs.size) (h : DataW.trod enc P w base spare held fuel t cs = some x) :
    (cs = [.slice none 0 0] ∧ x = (.nil, [])) ∨
    ∃ (a : Addr) (len cap m : Nat), cs = [.slice (some a) len cap] ∧ base ≤ a.block ∧ len ≤ cap ∧ cap ≤ maxLen ∧ m = (if spare a.block then cap else len) ∧
      ∀ i, i < m → ∃ (n : Nat), ∀ (j : Nat) (f : Field), fs[j]? = some f → ∃ (v : Value) (y : DataW H × List MemPlace), w.cell? (a.add (i * fs.size + j)) = some v ∧ DataW.trod enc P w base spare held n f.type [v] = some y := by
  rcases open_slice ht h with h0 | ⟨a, len, cap, m, n, D, Pl, hcs, hb, hl, hm, hmm, hx, hi⟩
  · exact .inl h0
  · refine .inr ⟨a, len, cap, m, hcs, hb, hl, hm, hmm, fun i him => ?_⟩
    obtain ⟨cs', hc, ht'⟩ := hi i him
    rw [hC] at hc
    obtain ⟨ys, n', hn', hy, hlen, hyl, hf⟩ := DataW.trod_struct he ht'
    obtain ⟨_, hcl, hat⟩ := World.cells?_some hc
    refine ⟨n', fun j f hj => ?_⟩
    obtain ⟨ho, hk⟩ := hone_of hone j f hj
    have hjl : j < fs.size := (Array.getElem?_eq_some_iff.1 hj).1
    have hcell := hat j hjl
    have hv : cs'[j]? = some (cs'[j]'(by omega)) := List.getElem?_eq_getElem (by omega)
    have h1 := hf j f hj
    rw [ho, hk] at h1
    have hone' : (cs'.drop j).take 1 = [cs'[j]'(by omega)] := by
      rw [List.drop_eq_getElem_cons (by omega)]
      rfl
    rw [hone'] at h1
    have hys : ys[j]? = some (ys[j]'(by omega)) := List.getElem?_eq_getElem (by omega)
    refine ⟨_, _, ?_, h1.trans hys⟩
    rw [← Go.Deep.add_add, hcell, hv]
end
/-- what lies behind an address as a text -/
def strAt (W : World) (a : Addr) : List UInt8 := match W.cell? a with | some (.string s) => s.data.toList | _ => []
theorem labsG_of_trod {H : Type} {enc : TypeId × Value → H} {W : World} {base : Nat} {spare : Nat → Bool} {held : Bool} {fuel : Nat} {x : DataW H × List MemPlace} {sa : Option Addr} {sl sc : Nat}
    (h : DataW.trod enc Tryd.prog W base spare held fuel 34 [.slice sa sl sc] = some x) :
    ∃ zs : List Lab, zs.length ≤ 9223372036854775807 ∧ (∀ x ∈ zs, x.1.length ≤ 9223372036854775807 ∧ x.2.length ≤ 9223372036854775807) ∧ LabsG W.heap.size W (.slice sa sl sc) zs := by
  rcases open_slice_fields Tryd.underlying34 Tryd.underlying69 (by kernel_rfl) (by kernel_rfl) h with ⟨hcs, _⟩ | ⟨a, len, cap, m, hcs, _, hl, hm, hmm, hi⟩
  · refine ⟨[], by simp, fun x hx => absurd hx (by simp), .inl ⟨?_, rfl⟩⟩
    have e : Value.slice sa sl sc = .slice none 0 0 := by simpa using hcs
    exact ⟨_, _, e⟩
  · have e : Value.slice sa sl sc = .slice (some a) len cap := by simpa using hcs
    have hlm : len ≤ m := by rw [hmm]; split <;> omega
    have hstr : ∀ i, i < len → ∃ s0 s1 : ByteArray, W.cell? (a.add (i * 2)) = some (.string s0) ∧ W.cell? (a.add (i * 2 + 1)) = some (.string s1) ∧ s0.size ≤ maxLen ∧ s1.size ≤ maxLen := by
      intro i hil
      obtain ⟨n, hf⟩ := hi i (by omega)
      obtain ⟨v0, y0, hc0, ht0⟩ := hf 0 _ rfl
      obtain ⟨v1, y1, hc1, ht1⟩ := hf 1 _ rfl
      obtain ⟨s0, e0, _, b0⟩ := DataW.trod_string Tryd.underlying9 ht0
      obtain ⟨s1, e1, _, b1⟩ := DataW.trod_string Tryd.underlying9 ht1
      simp at e0 e1
      subst e0 e1
      exact ⟨s0, s1, hc0, hc1, b0, b1⟩
    by_cases h0 : len = 0
    · exact ⟨[], by simp, fun x hx => absurd hx (by simp), .inl ⟨⟨_, _, by rw [e, h0]⟩, rfl⟩⟩
    · obtain ⟨s0, _, hs0, _⟩ := hstr 0 (by omega)
      rw [Nat.zero_mul, show a.add 0 = a from by simp [Addr.add]] at hs0
      have hsp := World.cell?_spot hs0
      have hlt := World.block_lt_of_cell? W a hs0
      obtain ⟨b, off, spot⟩ := a
      dsimp only at hsp hlt
      subst hsp
      refine ⟨(List.range len).map fun i => (strAt W ⟨b, off + i * 2, none⟩, strAt W ⟨b, off + i * 2 + 1, none⟩), ?_, ?_, .inr ⟨b, off, cap, ?_, hlt, ?_⟩⟩
      · rw [List.length_map, List.length_range]; unfold maxLen at hm; omega
      · intro x hx
        obtain ⟨i, hir, rfl⟩ := List.mem_map.1 hx
        obtain ⟨s0, s1, c0, c1, b0, b1⟩ := hstr i (List.mem_range.1 hir)
        rw [Addr.add_lit] at c0 c1
        rw [← Nat.add_assoc] at c1
        unfold maxLen at b0 b1
        simp only [strAt, c0, c1]
        rw [← Lib.size_eq, ← Lib.size_eq]
        omega
      · rw [List.length_map, List.length_range]; exact e
      · intro j x hj
        rw [List.getElem?_map] at hj
        cases hr : (List.range len)[j]? with
        | none => rw [hr] at hj; cases hj
        | some i =>
          rw [hr] at hj
          obtain ⟨hjl, hji⟩ := List.getElem?_eq_some_iff.1 hr
          rw [List.getElem_range] at hji
          subst hji
          cases hj
          obtain ⟨s0, s1, c0, c1, _, _⟩ := hstr j (by simpa using hjl)
          rw [Addr.add_lit] at c0 c1
          rw [← Nat.add_assoc] at c1
          simp only [strAt, c0, c1]
          constructor <;> first | rfl | trivial
theorem i64_wf {n : Int} (h : (Lit.int .i64 n).wf = true) : I64 n := by
  unfold I64
  simpa [Lit.wf, IntKind.min, IntKind.max, IntKind.signed, IntKind.bits] using h
/-- an act as it lies in memory -/
structure Ac where
  op : Int
  sa : Option Addr
  sn : Nat
  sc : Nat
  zs : List Lab
  v : Int
  t : Int
  s : Int
  q : Int
  f : Int
def Ac.C (x : Ac) : List Value := [.int .i64 x.op, .slice x.sa x.sn x.sc, .int .i64 x.v, .int .i64 x.t, .int .i64 x.s, .int .i64 x.q, .int .i64 x.f]
def Acs (W : World) (sv : Value) (L : List Ac) : Prop :=
  (L = [] ∧ ∃ a c, sv = .slice a 0 c) ∨ ∃ b off cap, sv = .slice (some ⟨b, off, none⟩) L.length cap ∧ b < W.heap.size ∧ ∀ j s, L[j]? = some s → ∀ i v, s.C[i]? = some v → W.cell? ⟨b, off + j * 7 + i, none⟩ = some v
theorem Acs.below {W W' : World} {sv : Value} {L : List Ac} (h : Acs W sv L) (hb : Below W.heap.size W W') : Acs W' sv L := by
  rcases h with h | ⟨b, off, cap, e, hl, hc⟩
  · exact .inl h
  · exact .inr ⟨b, off, cap, e, Nat.lt_of_lt_of_le hl hb.size, fun j s hj i v hi => (hb.cell (p := ⟨b, off + j * 7 + i, none⟩) hl).trans (hc j s hj i v hi)⟩
theorem Acs.len {W : World} {a : Option Addr} {n c : Nat} {L : List Ac} (h : Acs W (.slice a n c) L) : n = L.length := by
  rcases h with ⟨rfl, _, _, e⟩ | ⟨b, off, cap, e, _⟩
  · injection e
  · injection e
theorem Acs.at {W : World} {a : Option Addr} {n c k : Nat} {L : List Ac} (h : Acs W (.slice a n c) L) {s : Ac} (hk : L[k]? = some s) :
    ∃ b off, a = some ⟨b, off, none⟩ ∧ b < W.heap.size ∧ W.cell? ⟨b, off + k * 7, none⟩ = some (.int .i64 s.op) ∧ W.cell? ⟨b, off + k * 7 + 1, none⟩ = some (.slice s.sa s.sn s.sc) ∧ W.cell? ⟨b, off + k * 7 + 2, none⟩ = some (.int .i64 s.v) ∧ W.cell? ⟨b, off + k * 7 + 3, none⟩ = some (.int .i64 s.t) ∧ W.cell? ⟨b, off + k * 7 + 4, none⟩ = some (.int .i64 s.s) ∧ W.cell? ⟨b, off + k * 7 + 5, none⟩ = some (.int .i64 s.q) ∧ W.cell? ⟨b, off + k * 7 + 6, none⟩ = some (.int .i64 s.f) := by
  rcases h with ⟨rfl, _⟩ | ⟨b, off, cap, e, hl, hc⟩
  · simp at hk
  · injection e with e1
    exact ⟨b, off, e1, hl, hc k s hk 0 _ rfl, hc k s hk 1 _ rfl, hc k s hk 2 _ rfl, hc k s hk 3 _ rfl, hc k s hk 4 _ rfl, hc k s hk 5 _ rfl, hc k s hk 6 _ rfl⟩
/-- an act's labels lie in memory -/
structure AcOK (W : World) (s : Ac) : Prop where
  g : LabsG W.heap.size W (.slice s.sa s.sn s.sc) s.zs
  n : s.zs.length ≤ 9223372036854775807
  b : ∀ x ∈ s.zs, x.1.length ≤ 9223372036854775807 ∧ x.2.length ≤ 9223372036854775807
  f : I64 s.f
theorem AcOK.below {W W' : World} {s : Ac} (h : AcOK W s) (hb : Below W.heap.size W W') : AcOK W' s := by
  refine ⟨?_, h.n, h.b, h.f⟩
  rcases h.g.below hb with e | ⟨b, off, cap, e, h1, h2⟩
  · exact .inl e
  · exact .inr ⟨b, off, cap, e, Nat.lt_of_lt_of_le h1 hb.size, h2⟩
theorem AcOK.short {W : World} {s : Ac} (h : AcOK W s) (hf : fewR s.zs = true) : ∃ ss : List SLab, ss.length ≤ 100 ∧ Labs W.heap.size W (.slice s.sa s.sn s.sc) ss := by
  obtain ⟨ss, e, hl⟩ := few_short hf
  exact ⟨ss, by omega, LabsG.toS (by rw [e]; exact h.g)⟩
theorem take1 {α : Type} {cs : List α} {n : Nat} (h : cs.length = n) {j : Nat} (hj : j < n) : ∃ v, cs[j]? = some v ∧ (cs.drop j).take 1 = [v] := by
  have hj' : j < cs.length := by omega
  refine ⟨cs[j], List.getElem?_eq_getElem hj', ?_⟩
  rw [List.drop_eq_getElem_cons hj']; rfl
set_option maxHeartbeats 2000000 in
theorem act_cells {H : Type} {enc : TypeId × Value → H} {W : World} {base : Nat} {spare : Nat → Bool} {held : Bool} {fuel : Nat} {cs : List Value} {x : DataW H × List MemPlace}
    (h : DataW.trod enc Tryd.prog W base spare held fuel 38 cs = some x) : ∃ s : Ac, cs = s.C ∧ AcOK W s := by
  obtain ⟨ys, n, _, _, hl, hyl, hf⟩ := DataW.trod_struct Tryd.underlying38 h
  have e7 : Tryd.prog.cellsOf 38 = 7 := by kernel_rfl
  have e5 : Tryd.prog.cellsOf 36 = 5 := by kernel_rfl
  have k1 : Tryd.prog.cellsOf 34 = 1 := by kernel_rfl
  have k2 : Tryd.prog.cellsOf 2 = 1 := by kernel_rfl
  have k3 : Tryd.prog.cellsOf 3 = 1 := by kernel_rfl
  rw [e7] at hl
  have hys : ys.length = 3 := hyl
  obtain ⟨c0, c1, c2, c3, c4, c5, c6, rfl⟩ : ∃ c0 c1 c2 c3 c4 c5 c6, cs = [c0, c1, c2, c3, c4, c5, c6] := by
    rcases cs with _ | ⟨a, _ | ⟨b, _ | ⟨c, _ | ⟨d, _ | ⟨e, _ | ⟨f, _ | ⟨g, _ | ⟨i, t⟩⟩⟩⟩⟩⟩⟩⟩ <;> simp at hl
    exact ⟨a, b, c, d, e, f, g, rfl⟩
  obtain ⟨y0, hy0⟩ : ∃ y, ys[0]? = some y := ⟨_, List.getElem?_eq_getElem (by omega)⟩
  obtain ⟨y1, hy1⟩ : ∃ y, ys[1]? = some y := ⟨_, List.getElem?_eq_getElem (by omega)⟩
  obtain ⟨y2, hy2⟩ : ∃ y, ys[2]? = some y := ⟨_, List.getElem?_eq_getElem (by omega)⟩
  have g0 : DataW.trod enc Tryd.prog W base spare held n 3 [c0] = some y0 := by
    have := hf 0 _ rfl
    rw [hy0] at this
    simpa [k3] using this
  have g1 : DataW.trod enc Tryd.prog W base spare held n 36 [c1, c2, c3, c4, c5] = some y1 := by
    have := hf 1 _ rfl
    rw [hy1] at this
    simpa [e5] using this
  have g2 : DataW.trod enc Tryd.prog W base spare held n 2 [c6] = some y2 := by
    have := hf 2 _ rfl
    rw [hy2] at this
    simpa [k2] using this
  obtain ⟨zs, m, _, _, _, hzl, hi⟩ := DataW.trod_struct Tryd.underlying36 g1
  have hzs : zs.length = 5 := hzl
  obtain ⟨z0, hz0⟩ : ∃ y, zs[0]? = some y := ⟨_, List.getElem?_eq_getElem (by omega)⟩
  obtain ⟨z1, hz1⟩ : ∃ y, zs[1]? = some y := ⟨_, List.getElem?_eq_getElem (by omega)⟩
  obtain ⟨z2, hz2⟩ : ∃ y, zs[2]? = some y := ⟨_, List.getElem?_eq_getElem (by omega)⟩
  obtain ⟨z3, hz3⟩ : ∃ y, zs[3]? = some y := ⟨_, List.getElem?_eq_getElem (by omega)⟩
  obtain ⟨z4, hz4⟩ : ∃ y, zs[4]? = some y := ⟨_, List.getElem?_eq_getElem (by omega)⟩
  have s0 : DataW.trod enc Tryd.prog W base spare held m 34 [c1] = some z0 := by
    have := hi 0 _ rfl
    rw [hz0] at this
    simpa [k1] using this
  have s1 : DataW.trod enc Tryd.prog W base spare held m 2 [c2] = some z1 := by
    have := hi 1 _ rfl
    rw [hz1] at this
    simpa [k2] using this
  have s2 : DataW.trod enc Tryd.prog W base spare held m 2 [c3] = some z2 := by
    have := hi 2 _ rfl
    rw [hz2] at this
    simpa [k2] using this
  have s3 : DataW.trod enc Tryd.prog W base spare held m 3 [c4] = some z3 := by
    have := hi 3 _ rfl
    rw [hz3] at this
    simpa [k3] using this
  have s4 : DataW.trod enc Tryd.prog W base spare held m 2 [c5] = some z4 := by
    have := hi 4 _ rfl
    rw [hz4] at this
    simpa [k2] using this
  obtain ⟨i0, e0, _, w0⟩ := DataW.trod_int Tryd.underlying3 g0
  obtain ⟨i6, e6, _, w6⟩ := DataW.trod_int Tryd.underlying2 g2
  obtain ⟨i1, e1, _, w1⟩ := DataW.trod_int Tryd.underlying2 s1
  obtain ⟨i2, e2, _, w2⟩ := DataW.trod_int Tryd.underlying2 s2
  obtain ⟨i3, e3, _, w3⟩ := DataW.trod_int Tryd.underlying3 s3
  obtain ⟨i4, e4, _, w4⟩ := DataW.trod_int Tryd.underlying2 s4
  simp only [List.cons.injEq, and_true] at e0 e1 e2 e3 e4 e6
  subst e0 e1 e2 e3 e4 e6
  have key : ∃ (la : Option Addr) (ln lc : Nat), c1 = .slice la ln lc := by
    rcases open_slice Tryd.underlying34 s0 with ⟨e, _⟩ | ⟨a, len, cap, _, _, _, _, e, _⟩
    · simp only [List.cons.injEq, and_true] at e
      exact ⟨_, _, _, e⟩
    · simp only [List.cons.injEq, and_true] at e
      exact ⟨_, _, _, e⟩
  obtain ⟨la, ln, lc, rfl⟩ := key
  obtain ⟨ls, hl1, hl2, hl3⟩ := labsG_of_trod s0
  exact ⟨⟨i0, la, ln, lc, ls, i1, i2, i3, i4, i6⟩, rfl, ⟨hl3, hl1, hl2, i64_wf w6⟩⟩
theorem acs_of_trod {H : Type} {enc : TypeId × Value → H} {W : World} {base : Nat} {spare : Nat → Bool} {held : Bool} {fuel : Nat} {x : DataW H × List MemPlace} {sa : Option Addr} {sl sc : Nat}
    (h : DataW.trod enc Tryd.prog W base spare held fuel 22 [.slice sa sl sc] = some x) :
    ∃ L : List Ac, L.length = sl ∧ L.length ≤ 9223372036854775807 ∧ Acs W (.slice sa sl sc) L ∧ (∀ s ∈ L, AcOK W s) := by
  rcases open_slice Tryd.underlying22 h with ⟨hcs, _⟩ | ⟨a, len, cap, m, n, D, Pl, hcs, hb, hl, hm, hmm, hx, hi⟩
  · have e : Value.slice sa sl sc = .slice none 0 0 := by simpa using hcs
    injection e with e1 e2 e3
    subst e1 e2 e3
    exact ⟨[], rfl, by simp, .inl ⟨rfl, _, _, rfl⟩, by simp⟩
  · have e : Value.slice sa sl sc = .slice (some a) len cap := by simpa using hcs
    injection e with e1 e2 e3
    subst e1 e2 e3
    have hlm : sl ≤ m := by rw [hmm]; split <;> omega
    have e7 : Tryd.prog.cellsOf 38 = 7 := by kernel_rfl
    have hx : ∀ j : Fin sl, ∃ s : Ac, (∀ i v, s.C[i]? = some v → W.cell? ((a.add (j.1 * 7)).add i) = some v) ∧ AcOK W s := fun j => by
      obtain ⟨cs', hc, ht⟩ := hi j.1 (by omega)
      rw [e7] at hc
      obtain ⟨s, rfl, hok⟩ := act_cells ht
      obtain ⟨_, hcl, hat⟩ := World.cells?_some hc
      refine ⟨s, fun i v hv => ?_, hok⟩
      have hi7 : i < 7 := by have := (List.getElem?_eq_some_iff.1 hv).1; exact this
      rw [hat i hi7, hv]
    unfold maxLen at hm
    have hz : ∀ j s, (List.ofFn fun j => Classical.choose (hx j))[j]? = some s → ∃ h : j < sl, s = Classical.choose (hx ⟨j, h⟩) := fun j x hj => by
      rw [List.getElem?_ofFn] at hj
      split at hj
      · rename_i hl
        exact ⟨hl, (Option.some.inj hj).symm⟩
      · cases hj
    refine ⟨List.ofFn fun j => Classical.choose (hx j), List.length_ofFn, by rw [List.length_ofFn]; omega, ?_, fun s hs => ?_⟩
    · by_cases h0 : sl = 0
      · subst h0
        exact .inl ⟨List.eq_nil_of_length_eq_zero List.length_ofFn, _, _, rfl⟩
      · obtain ⟨s0, hs00, _⟩ := hx ⟨0, by omega⟩
        have hs0 := hs00 0 _ rfl
        dsimp only at hs0
        rw [Nat.zero_mul, show (a.add 0).add 0 = a from by simp [Addr.add]] at hs0
        have hsp := World.cell?_spot hs0
        have hlt := World.block_lt_of_cell? W a hs0
        obtain ⟨b, off, spot⟩ := a
        dsimp only at hsp hlt
        subst hsp
        refine .inr ⟨b, off, sc, by rw [List.length_ofFn], hlt, fun j s hj i v hv => ?_⟩
        obtain ⟨hjl, rfl⟩ := hz j s hj
        have h1 := (Classical.choose_spec (hx ⟨j, hjl⟩)).1 i v hv
        rw [Addr.add_lit, Addr.add_lit] at h1
        exact h1
    · obtain ⟨j, hj⟩ := List.mem_iff_getElem?.1 hs
      obtain ⟨hjl, rfl⟩ := hz j s hj
      exact (Classical.choose_spec (hx ⟨j, hjl⟩)).2
end Go.Proofs.YtoodcaonlfeleaaDoor
