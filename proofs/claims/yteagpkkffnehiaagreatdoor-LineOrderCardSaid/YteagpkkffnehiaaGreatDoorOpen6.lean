/- An argument that is a sample, opened to its cells. -/
import Derived.Test.YteagpkkffnehiaaGreatDoorTextL
import Derived.SliceStrings
import Derived.Deep.Slices
import Derived.Deep.Fields
import Derived.ChangeSame
import Derived.Lib.SmallJoins
namespace Go.Proofs.YteagpkkffnehiaaGreatDoor
open Go Go.Proofs Go.RowKit Go.Shelf Go.ChangeShapes Go.WideShapes Go.Deep
set_option maxRecDepth 100000
theorem array5 {α : Type} {cs : Array α} (h : cs.size = 5) : ∃ c0 c1 c2 c3 c4, cs = #[c0, c1, c2, c3, c4] := by
  obtain ⟨l⟩ := cs
  simp only [List.size_toArray] at h
  rcases l with _ | ⟨a, _ | ⟨b, _ | ⟨c, _ | ⟨d, _ | ⟨e, _ | ⟨f, t⟩⟩⟩⟩⟩⟩ <;> simp at h
  exact ⟨a, b, c, d, e, rfl⟩
theorem i64_wf {n : Int} (h : (Lit.int .i64 n).wf = true) : I64 n := by
  unfold I64
  simpa [Lit.wf, IntKind.min, IntKind.max, IntKind.signed, IntKind.bits] using h
set_option maxHeartbeats 1000000 in
theorem samp_open {H : Type} {enc : TypeId × Value → H} {W : World} {base b0 : Nat} {r : Reach} {spare : Nat → Bool} {held : Bool} {v : Value} {d : DataW H} {p : List MemPlace}
    (hv : Value.okWide Tryz.prog W r b0 25 v) (h : DataW.Trod enc Tryz.prog W base spare held 25 v d p) :
    ∃ sa sl sc a1 a2 a3 a4, v = sampV (.slice sa sl sc) a1 a2 a3 a4 ∧ I64 a1 ∧ I64 a2 ∧ I64 a3 ∧ I64 a4 ∧ ∃ (n : Nat) (y : DataW H × List MemPlace), DataW.trod enc Tryz.prog W base spare held n 23 [.slice sa sl sc] = some y := by
  obtain ⟨cs, rfl, hsz⟩ := okWide_struct Tryz.underlying25 hv
  obtain ⟨c0, c1, c2, c3, c4, rfl⟩ := array5 (hsz.trans (show Tryz.prog.cellsOf 25 = 5 by kernel_rfl))
  obtain ⟨fuel, hf⟩ := h
  obtain ⟨ys, n, _, _, _, hlen, hi⟩ := DataW.trod_struct Tryz.underlying25 hf
  have k1 : Tryz.prog.cellsOf 23 = 1 := by kernel_rfl
  have k2 : Tryz.prog.cellsOf 2 = 1 := by kernel_rfl
  have k3 : Tryz.prog.cellsOf 3 = 1 := by kernel_rfl
  have hys : ys.length = 5 := hlen
  obtain ⟨y0, hy0⟩ : ∃ y, ys[0]? = some y := ⟨_, List.getElem?_eq_getElem (by omega)⟩
  obtain ⟨y1, hy1⟩ : ∃ y, ys[1]? = some y := ⟨_, List.getElem?_eq_getElem (by omega)⟩
  obtain ⟨y2, hy2⟩ : ∃ y, ys[2]? = some y := ⟨_, List.getElem?_eq_getElem (by omega)⟩
  obtain ⟨y3, hy3⟩ : ∃ y, ys[3]? = some y := ⟨_, List.getElem?_eq_getElem (by omega)⟩
  obtain ⟨y4, hy4⟩ : ∃ y, ys[4]? = some y := ⟨_, List.getElem?_eq_getElem (by omega)⟩
  have g0 : DataW.trod enc Tryz.prog W base spare held n 23 [c0] = some y0 := by
    have := hi 0 _ rfl
    rw [hy0] at this
    simpa [Value.cells, k1, k2, k3] using this
  have g1 : DataW.trod enc Tryz.prog W base spare held n 2 [c1] = some y1 := by
    have := hi 1 _ rfl
    rw [hy1] at this
    simpa [Value.cells, k1, k2, k3] using this
  have g2 : DataW.trod enc Tryz.prog W base spare held n 2 [c2] = some y2 := by
    have := hi 2 _ rfl
    rw [hy2] at this
    simpa [Value.cells, k1, k2, k3] using this
  have g3 : DataW.trod enc Tryz.prog W base spare held n 3 [c3] = some y3 := by
    have := hi 3 _ rfl
    rw [hy3] at this
    simpa [Value.cells, k1, k2, k3] using this
  have g4 : DataW.trod enc Tryz.prog W base spare held n 2 [c4] = some y4 := by
    have := hi 4 _ rfl
    rw [hy4] at this
    simpa [Value.cells, k1, k2, k3] using this
  obtain ⟨i1, e1, _, w1⟩ := DataW.trod_int Tryz.underlying2 g1
  obtain ⟨i2, e2, _, w2⟩ := DataW.trod_int Tryz.underlying2 g2
  obtain ⟨i3, e3, _, w3⟩ := DataW.trod_int Tryz.underlying3 g3
  obtain ⟨i4, e4, _, w4⟩ := DataW.trod_int Tryz.underlying2 g4
  simp only [List.cons.injEq, and_true] at e1 e2 e3 e4
  subst e1 e2 e3 e4
  have gs := g0
  rcases open_slice Tryz.underlying23 g0 with ⟨e, _⟩ | ⟨a, len, cap, _, _, _, _, e, _⟩
  · simp only [List.cons.injEq, and_true] at e
    subst e
    exact ⟨_, _, _, _, _, _, _, rfl, i64_wf w1, i64_wf w2, i64_wf w3, i64_wf w4, _, _, gs⟩
  · simp only [List.cons.injEq, and_true] at e
    subst e
    exact ⟨_, _, _, _, _, _, _, rfl, i64_wf w1, i64_wf w2, i64_wf w3, i64_wf w4, _, _, gs⟩
end Go.Proofs.YteagpkkffnehiaaGreatDoor
