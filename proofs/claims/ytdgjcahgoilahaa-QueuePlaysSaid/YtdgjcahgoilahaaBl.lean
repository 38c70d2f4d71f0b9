/- A slice of bools among the arguments; a row of the call's own to which one is appended. -/
import Derived.ProofKit
import Derived.OpenShut
import Derived.ChangeSlices
import Derived.ChangeShapes
import Derived.ChangeSame
import Derived.Lib.SmallJoins
import Derived.SliceStrings
import Derived.Deep.Slices
import Derived.Deep.Fields
import Derived.Deep.Matrix
import Derived.Carry
import Derived.Test.YtdgjcahgoilahaaQs
import Derived.Test.YtdgjcahgoilahaaProg
namespace Go.Proofs.Ytdgjcahgoilahaa
open Go Go.Proofs Go.RowKit Go.Shelf
set_option maxRecDepth 100000
section
open Go.ChangeShapes Go.WideShapes Go.Deep
variable {H : Type} {enc : TypeId × Value → H} {P : Program} {w : World} {base : Nat} {spare : Nat → Bool} {held : Bool}
theorem open_slice_fields {t e : TypeId} {fs : Array Field} {fuel : Nat} {cs : List Value} {x : DataW H × List MemPlace} (ht : P.underlying t = some (.slice e)) (he : P.underlying e = some (.struct fs))
    (hone : oneCellFields P fs = true) (hC : P.cellsOf e = fs.size) (h : DataW.trod enc P w base spare held fuel t cs = some x) :
    (cs = [.slice none 0 0] ∧ x = (.nil, [])) ∨
    ∃ (a : Addr) (len cap m : Nat), cs = [.slice (some a) len cap] ∧ base ≤ a.block ∧ len ≤ cap ∧ cap ≤ maxLen ∧ m = (if spare a.block then cap else len) ∧
      ∀ i, i < m → ∃ (n : Nat), ∀ (j : Nat) (f : Field), fs[j]? = some f → ∃ (v : Value) (y : DataW H × List MemPlace), w.cell? (a.add (i * fs.size + j)) = some v ∧ DataW.trod enc P w base spare held n f.type [v] = some y := by
  rcases open_slice ht h with h0 | ⟨a, len, cap, m, n, D, Pl, hcs, hb, hl, hm, hmm, hx, hi⟩
  · exact .inl h0
  · refine .inr ⟨a, len, cap, m, hcs, hb, hl, hm, hmm, fun i him => ?_⟩
    obtain ⟨cs', hc, ht'⟩ := hi i him
    rw [hC] at hc
    obtain ⟨ys, n', hn', hy, hlen, hyl, hf⟩ := DataW.trod_struct he ht'
    obtain ⟨_, hcl, hat⟩ := World.cells?_some hc
    refine ⟨n', fun j f hj => ?_⟩
    obtain ⟨ho, hk⟩ := hone_of hone j f hj
    have hjl : j < fs.size := (Array.getElem?_eq_some_iff.1 hj).1
    have hcell := hat j hjl
    have hv : cs'[j]? = some (cs'[j]'(by omega)) := List.getElem?_eq_getElem (by omega)
    have h1 := hf j f hj
    rw [ho, hk] at h1
    have hone' : (cs'.drop j).take 1 = [cs'[j]'(by omega)] := by
      rw [List.drop_eq_getElem_cons (by omega)]
      rfl
    rw [hone'] at h1
    have hys : ys[j]? = some (ys[j]'(by omega)) := List.getElem?_eq_getElem (by omega)
    refine ⟨_, _, ?_, h1.trans hys⟩
    rw [← Go.Deep.add_add, hcell, hv]
end
/-- what lies behind an address as a text, as a number -/
def strAt (W : World) (a : Addr) : List UInt8 := match W.cell? a with | some (.string s) => s.data.toList | _ => []
def intAt (W : World) (a : Addr) : Int := match W.cell? a with | some (.int _ n) => n | _ => 0
/-- acts in memory: what is done, a text -/
def Aqs (W : World) (v : Value) (L : List (Int × List UInt8)) : Prop :=
  ((∃ a c, v = .slice a 0 c) ∧ L = []) ∨ ∃ b off cap, v = .slice (some ⟨b, off, none⟩) L.length cap ∧ b < W.heap.size ∧ ∀ (j : Nat) (x : Int × List UInt8), L[j]? = some x → W.cell? ⟨b, off + j * 2, none⟩ = some (.int .i64 x.1) ∧ W.cell? ⟨b, off + j * 2 + 1, none⟩ = some (.string ⟨x.2.toArray⟩)
section
open Go.ChangeShapes Go.WideShapes Go.Deep
theorem aqs_of_trod {H : Type} {enc : TypeId × Value → H} {W : World} {base : Nat} {spare : Nat → Bool} {held : Bool} {fuel : Nat} {x : DataW H × List MemPlace} {sa : Option Addr} {sl sc : Nat}
    (h : DataW.trod enc Try.prog W base spare held fuel 22 [.slice sa sl sc] = some x) :
    ∃ L : List (Int × List UInt8), L.length = sl ∧ L.length ≤ 9223372036854775807 ∧ (∀ x ∈ L, x.2.length ≤ 9223372036854775807) ∧ Aqs W (.slice sa sl sc) L := by
  rcases open_slice_fields Try.underlying22 Try.underlying30 (by kernel_rfl) (by kernel_rfl) h with ⟨hcs, _⟩ | ⟨a, len, cap, m, hcs, _, hl, hm, hmm, hi⟩
  · have e : Value.slice sa sl sc = .slice none 0 0 := by simpa using hcs
    injection e with e1 e2 e3
    subst e1 e2 e3
    exact ⟨[], rfl, by simp, fun x hx => absurd hx (by simp), .inl ⟨⟨_, _, rfl⟩, rfl⟩⟩
  · have e : Value.slice sa sl sc = .slice (some a) len cap := by simpa using hcs
    injection e with e1 e2 e3
    subst e1 e2 e3
    have hlm : sl ≤ m := by rw [hmm]; split <;> omega
    have hstr : ∀ i, i < sl → ∃ (n : Int) (s : ByteArray), W.cell? (a.add (i * 2)) = some (.int .i64 n) ∧ W.cell? (a.add (i * 2 + 1)) = some (.string s) ∧ s.size ≤ maxLen := by
      intro i hil
      obtain ⟨n, hf⟩ := hi i (by omega)
      obtain ⟨v0, y0, hc0, ht0⟩ := hf 0 _ rfl
      obtain ⟨v1, y1, hc1, ht1⟩ := hf 1 _ rfl
      obtain ⟨z, e0, _⟩ := DataW.trod_int Try.underlying3 ht0
      obtain ⟨s1, e1, _, b1⟩ := DataW.trod_string Try.underlying9 ht1
      simp at e0 e1
      subst e0 e1
      exact ⟨z, s1, hc0, hc1, b1⟩
    by_cases h0 : sl = 0
    · subst h0
      exact ⟨[], rfl, by simp, fun x hx => absurd hx (by simp), .inl ⟨⟨_, _, rfl⟩, rfl⟩⟩
    · obtain ⟨z0, _, hs0, _⟩ := hstr 0 (by omega)
      rw [Nat.zero_mul, show a.add 0 = a from by simp [Addr.add]] at hs0
      have hsp := World.cell?_spot hs0
      have hlt := World.block_lt_of_cell? W a hs0
      obtain ⟨b, off, spot⟩ := a
      dsimp only at hsp hlt
      subst hsp
      refine ⟨(List.range sl).map fun i => (intAt W ⟨b, off + i * 2, none⟩, strAt W ⟨b, off + i * 2 + 1, none⟩), ?_, ?_, ?_, .inr ⟨b, off, sc, ?_, hlt, ?_⟩⟩
      · rw [List.length_map, List.length_range]
      · rw [List.length_map, List.length_range]; unfold maxLen at hm; omega
      · intro x hx
        obtain ⟨i, hir, rfl⟩ := List.mem_map.1 hx
        obtain ⟨z, s1, c0, c1, b1⟩ := hstr i (List.mem_range.1 hir)
        rw [Addr.add_lit] at c0 c1
        rw [← Nat.add_assoc] at c1
        unfold maxLen at b1
        simp only [strAt, c1]
        rw [← Lib.size_eq]
        omega
      · rw [List.length_map, List.length_range]
      · intro j x hx
        rw [List.getElem?_map] at hx
        obtain ⟨i, hi1, rfl⟩ := Option.map_eq_some_iff.1 hx
        have hil : i < sl ∧ i = j := by
          have h1 := (List.getElem?_eq_some_iff.1 hi1).1
          rw [List.length_range] at h1
          rw [List.getElem?_range h1] at hi1
          injection hi1 with hi1
          omega
        obtain ⟨hil, rfl⟩ := hil
        obtain ⟨z, s1, c0, c1, b1⟩ := hstr i hil
        rw [Addr.add_lit] at c0 c1
        rw [← Nat.add_assoc] at c1
        simp only [strAt, intAt, c0, c1]
        exact ⟨trivial, by simp⟩
end
theorem Aqs.at {W : World} {a : Option Addr} {n c : Nat} {L : List (Int × List UInt8)} (h : Aqs W (.slice a n c) L) {k : Nat} {x : Int × List UInt8} (hx : L[k]? = some x) :
    ∃ b off, a = some ⟨b, off, none⟩ ∧ b < W.heap.size ∧ ∀ W', Below W.heap.size W W' → W'.cell? ⟨b, off + k * 2, none⟩ = some (.int .i64 x.1) ∧ W'.cell? ⟨b, off + k * 2 + 1, none⟩ = some (.string ⟨x.2.toArray⟩) := by
  rcases h with ⟨_, rfl⟩ | ⟨b, off, cap, e, hb, hc⟩
  · cases hx
  · injection e with e1 _ _
    obtain ⟨c0, c1⟩ := hc k x hx
    exact ⟨b, off, e1, hb, fun W' hW => ⟨(hW.cell (p := ⟨b, _, none⟩) hb).trans c0, (hW.cell (p := ⟨b, _, none⟩) hb).trans c1⟩⟩
def Bls (W : World) (v : Value) (l : List Bool) : Prop :=
  ((∃ a c, v = .slice a 0 c) ∧ l = []) ∨ ∃ g off cap, v = .slice (some ⟨g, off, none⟩) l.length cap ∧ g < W.heap.size ∧ ∀ j x, l[j]? = some x → W.cell? ⟨g, off + j, none⟩ = some (.bool x)
section
open Go.ChangeShapes Go.WideShapes Go.Deep
variable {H : Type} {enc : TypeId × Value → H} {W : World} {base : Nat} {spare : Nat → Bool} {held : Bool}
theorem bls_of_trod {fuel : Nat} {sa : Option Addr} {sl sc : Nat} {x : DataW H × List MemPlace} (h : DataW.trod enc Try.prog W base spare held fuel 38 [.slice sa sl sc] = some x) :
    ∃ l : List Bool, l.length = sl ∧ l.length ≤ 9223372036854775807 ∧ Bls W (.slice sa sl sc) l := by
  rcases open_slice Try.underlying38 h with ⟨hcs, _⟩ | ⟨a, len, cap, m, n, D, Pl, hcs, hb, hl, hm, hmm, hx, hi⟩
  · have e : Value.slice sa sl sc = .slice none 0 0 := by simpa using hcs
    injection e with e1 e2 e3
    subst e1 e2 e3
    exact ⟨[], rfl, by simp, .inl ⟨⟨_, _, rfl⟩, rfl⟩⟩
  · have e : Value.slice sa sl sc = .slice (some a) len cap := by simpa using hcs
    injection e with e1 e2 e3
    subst e1 e2 e3
    have hlm : sl ≤ m := by rw [hmm]; split <;> omega
    have hx : ∀ j : Fin sl, ∃ b : Bool, W.cell? (a.add j.1) = some (.bool b) := fun j => by
      obtain ⟨cs', hc, ht'⟩ := hi j.1 (by omega)
      rw [show Try.prog.cellsOf 4 = 1 by kernel_rfl, Nat.mul_one] at hc
      obtain ⟨b, hb, _⟩ := DataW.trod_bool Try.underlying4 ht'
      obtain ⟨_, hcl, hat⟩ := World.cells?_some hc
      have := hat 0 (by omega)
      subst hb
      refine ⟨b, ?_⟩
      rw [show (a.add j.1).add 0 = a.add j.1 by simp [Addr.add]] at this
      exact this
    unfold maxLen at hm
    have hz : ∀ j r, (List.ofFn fun j => Classical.choose (hx j))[j]? = some r → ∃ h : j < sl, r = Classical.choose (hx ⟨j, h⟩) := fun j x hj => by
      rw [List.getElem?_ofFn] at hj
      split at hj
      · rename_i hl
        exact ⟨hl, (Option.some.inj hj).symm⟩
      · cases hj
    refine ⟨List.ofFn fun j => Classical.choose (hx j), List.length_ofFn, by rw [List.length_ofFn]; omega, ?_⟩
    by_cases h0 : sl = 0
    · subst h0
      exact .inl ⟨⟨_, _, rfl⟩, List.eq_nil_of_length_eq_zero List.length_ofFn⟩
    · obtain ⟨_, hs0⟩ := hx ⟨0, by omega⟩
      dsimp only at hs0
      rw [show a.add 0 = a from by simp [Addr.add]] at hs0
      have hsp := World.cell?_spot hs0
      have hlt := World.block_lt_of_cell? W a hs0
      obtain ⟨b, off, spot⟩ := a
      dsimp only at hsp hlt
      subst hsp
      refine .inr ⟨b, off, sc, by rw [List.length_ofFn], hlt, fun j y hj => ?_⟩
      obtain ⟨hjl, rfl⟩ := hz j y hj
      have := Classical.choose_spec (hx ⟨j, hjl⟩)
      generalize Classical.choose (hx ⟨j, hjl⟩) = bb at this ⊢
      rw [Addr.add_lit] at this
      exact this
end
theorem Bls.at {W : World} {a : Option Addr} {n c : Nat} {L : List Bool} (h : Bls W (.slice a n c) L) {k : Nat} {x : Bool} (hx : L[k]? = some x) :
    ∃ b off, a = some ⟨b, off, none⟩ ∧ b < W.heap.size ∧ ∀ W', Below W.heap.size W W' → W'.cell? ⟨b, off + k, none⟩ = some (.bool x) := by
  rcases h with ⟨_, rfl⟩ | ⟨b, off, cap, e, hb, hc⟩
  · cases hx
  · injection e with e1 _ _
    exact ⟨b, off, e1, hb, fun W' hW => (hW.cell (p := ⟨b, _, none⟩) hb).trans (hc k x hx)⟩
section
variable {E : TypeId} {B n : Nat} {w w' : World} {v : Value} {X : List Value}
theorem own_keep (h : w.ownsRow B E 1 v n X) (e : ∀ g, v.ownBlock = some g → w'.heap[g]? = w.heap[g]?) : w'.ownsRow B E 1 v n X := by
  refine ⟨h.1, h.2.imp id ?_⟩
  rintro ⟨g, cap, cur, rfl, hb, hg, q⟩
  exact ⟨g, cap, cur, rfl, hb, (e g rfl).trans hg, q⟩
theorem own_foot (h : w.ownsRow B E 1 v n X) : ∀ k ∈ v.ownBlock.toList, B ≤ k ∧ k < w.heap.size := by
  intro k hk
  have e : v.ownBlock = some k := by
    cases q : v.ownBlock <;> rw [q] at hk <;> simp at hk ⊢; exact hk.symm
  exact World.ownsRow.lt h k e
theorem own_below' (h : w.ownsRow B E 1 v n X) (hb : Below w.heap.size w w') : w'.ownsRow B E 1 v n X := own_keep h (fun g e => hb.block g (World.ownsRow.lt h g e).2)
theorem own_append {P : Program} {i : TypeInfo} {z : Value} {bytes : Nat} {t : TypeId} (h : w.ownsRow B E 1 v n X) (ht : P.underlying t = some (.slice E)) (hi : P.info? E = some i) (hz : i.zero = some z) (hsize : i.size = 1) (hby : i.bytes = bytes) (hzs : z.cells.size = 1) (hby2 : bytes ≤ 16)
    {m : Nat} {news : List Value} (hl : news.length = m) (hx1 : ∀ u ∈ news, u.oneCell' = true) {a : Addr} {c : Nat} (hx : ∀ j u, news[j]? = some u → w.cell? (a.add j) = some u) (hn : n + m ≤ 1099511627776) (hB : B ≤ w.heap.size) :
    ∃ v' w', (∀ ty, (Builtin.append_ #[t, t] ty #[v, .slice (some a) m c]).run P w = .ok v' w') ∧ w'.ownsRow B E 1 v' (n + m) (X ++ news) ∧ To v.ownBlock.toList v'.ownBlock.toList w w' := by
  have hby3 : (n + m) * bytes ≤ 140737488355328 := Nat.le_trans (Nat.mul_le_mul hn hby2) (by omega)
  have key := fun ty => run_append_own_at (P := P) w B t ty E i z 1 bytes ht hi hz hsize hby hzs (by omega) v n X h a m c news (by rw [Nat.mul_one]; exact hl) hx hx1 (by unfold maxLen; omega) hby3 hB
  obtain ⟨v', w', hr, h2, h3, _, h5⟩ := key 0
  have hr' : ∀ ty, (Builtin.append_ #[t, t] ty #[v, .slice (some a) m c]).run P w = .ok v' w' := fun ty => hr
  refine ⟨v', w', hr', h2, ⟨h3.os, h3.tape, h3.output, h3.size, fun k hk hn => h3.block k hk (fun e => hn (by rw [← e]; simp)), fun k hk => ?_⟩⟩
  rcases h5 with q | q
  · rw [q] at hk; exact .inl hk
  · rw [q] at hk
    simp at hk
    exact .inr (by omega)
end
end Go.Proofs.Ytdgjcahgoilahaa
