/- Arguments opened: bytes, rows of bytes. -/
import Derived.Test.YtadffmfhojomnaaDkL
import Derived.Deep.Matrix
import Derived.ChangeSlices
import Derived.ChangeShapes
namespace Go.Proofs.Ytadffmfhojomnaa
open Go Go.Proofs Go.RowKit Go.Shelf Go.ChangeShapes Go.WideShapes Go.Deep
set_option maxRecDepth 100000
def byL (Z : List Int) (n : Nat) : List UInt8 := (Z.take n).map fun x => UInt8.ofNat x.toNat
theorem byL_len {Z : List Int} {n : Nat} (h : n ≤ Z.length) : (byL Z n).length = n := by unfold byL; rw [List.length_map, List.length_take]; omega
theorem byV_of {x : Int} (h : (Lit.int .u8 x).wf = true) : byV (UInt8.ofNat x.toNat) = .int .u8 x := by
  have hx : 0 ≤ x ∧ x ≤ 255 := by simpa [Lit.wf, IntKind.min, IntKind.max, IntKind.signed, IntKind.bits] using h
  obtain ⟨k, rfl⟩ : ∃ k : Nat, x = (k : Int) := ⟨x.toNat, by omega⟩
  show Value.int .u8 (((UInt8.ofNat (k : Int).toNat).toNat : Nat) : Int) = _
  rw [Int.toNat_natCast, UInt8.toNat_ofNat', Nat.mod_eq_of_lt (by omega)]
theorem bys_ints {w : World} {a : Option Addr} {len cap : Nat} {Z : List Int} (hl : len ≤ Z.length) (hn : a = none → len = 0) (hc : ∀ a', a = some a' → ∀ c, c < len → w.cell? (a'.add c) = some (.int .u8 (Z.getD c 0))) (hw : ∀ n ∈ Z, (Lit.int .u8 n).wf = true) : Bys w (.slice a len cap) (byL Z len) := by
  by_cases h0 : len = 0
  · subst h0
    exact .inl ⟨⟨_, _, rfl⟩, by simp [byL]⟩
  · cases a with
    | none => exact absurd (hn rfl) h0
    | some a' =>
      have hs0 := hc a' rfl 0 (by omega)
      rw [show a'.add 0 = a' from by simp [Addr.add]] at hs0
      have hsp := World.cell?_spot hs0
      have hlt := World.block_lt_of_cell? w a' hs0
      obtain ⟨b, off, spot⟩ := a'
      dsimp only at hsp hlt
      subst hsp
      refine .inr ⟨b, off, cap, by rw [byL_len hl], hlt, fun j x hj => ?_⟩
      have hjl : j < len := by
        have := (List.getElem?_eq_some_iff.1 hj).1
        rwa [byL_len hl] at this
      have hcj := hc _ rfl j hjl
      rw [Addr.add_lit] at hcj
      rw [hcj]
      unfold byL at hj
      rw [List.getElem?_map, List.getElem?_take, if_pos hjl] at hj
      have hz : Z[j]? = some (Z[j]'(by omega)) := List.getElem?_eq_getElem (by omega)
      rw [hz] at hj
      have hx : UInt8.ofNat (Z[j]'(by omega)).toNat = x := by simpa using hj
      rw [← hx, byV_of (hw _ (List.getElem_mem _))]
      simp [List.getD, hz]
section
variable {H : Type} {enc : TypeId × Value → H} {W : World} {base : Nat} {held : Bool}
theorem bys_of_trod {fuel : Nat} {sa : Option Addr} {sl sc : Nat} {x : DataW H × List MemPlace} (h : DataW.trod enc Try.prog W base (fun _ => true) held fuel 22 [.slice sa sl sc] = some x) :
    ∃ l : List UInt8, l.length = sl ∧ l.length ≤ 9223372036854775807 ∧ Bys W (.slice sa sl sc) l := by
  rcases open_ints Try.underlying22 Try.underlying5 (show Try.prog.cellsOf 5 = 1 by kernel_rfl) h with ⟨hcs, _⟩ | ⟨a, len, cap, zs, hcs, _, hl, hm, hz, _, hc, hw⟩
  · have e : Value.slice sa sl sc = .slice none 0 0 := by simpa using hcs
    injection e with e1 e2 e3
    subst e1 e2 e3
    exact ⟨[], rfl, by simp, .inl ⟨⟨_, _, rfl⟩, rfl⟩⟩
  · have e : Value.slice sa sl sc = .slice (some a) len cap := by simpa using hcs
    injection e with e1 e2 e3
    subst e1 e2 e3
    simp only [if_true] at hz
    have hle : sl ≤ zs.length := by omega
    unfold maxLen at hm
    exact ⟨byL zs sl, byL_len hle, by rw [byL_len hle]; omega, bys_ints hle (fun q => by cases q) (fun a' q c hcl => by cases q; exact hc c (by omega)) hw⟩
theorem rws_of_trod {fuel : Nat} {sa : Option Addr} {sl sc : Nat} {x : DataW H × List MemPlace} (h : DataW.trod enc Try.prog W base (fun _ => true) held fuel 23 [.slice sa sl sc] = some x) :
    ∃ R : List (Value × List UInt8), R.length = sl ∧ R.length ≤ 9223372036854775807 ∧ (∀ x ∈ R, x.2.length ≤ 9223372036854775807) ∧ Rws W (.slice sa sl sc) R := by
  rcases open_int_rows Try.underlying23 Try.underlying22 Try.underlying5 (show Try.prog.cellsOf 22 = 1 by kernel_rfl) (show Try.prog.cellsOf 5 = 1 by kernel_rfl) h with ⟨hcs, _⟩ | ⟨a, len, cap, A, L, C, Z, hcs, _, hl, hm, _, hr⟩
  · have e : Value.slice sa sl sc = .slice none 0 0 := by simpa using hcs
    injection e with e1 e2 e3
    subst e1 e2 e3
    exact ⟨[], rfl, by simp, by simp, .inl ⟨⟨_, _, rfl⟩, rfl⟩⟩
  · have e : Value.slice sa sl sc = .slice (some a) len cap := by simpa using hcs
    injection e with e1 e2 e3
    subst e1 e2 e3
    unfold maxLen at hm
    obtain ⟨R, hR⟩ : ∃ R : List (Value × List UInt8), R = (List.range sl).map fun r => (.slice (A r) (L r) (C r), byL (Z r) (L r)) := ⟨_, rfl⟩
    have hRl : R.length = sl := by rw [hR, List.length_map, List.length_range]
    have hel : ∀ j x, R[j]? = some x → j < sl ∧ x = (.slice (A j) (L j) (C j), byL (Z j) (L j)) := fun j x hj => by
      have hjl : j < sl := by have := (List.getElem?_eq_some_iff.1 hj).1; omega
      rw [hR, List.getElem?_map, List.getElem?_range hjl] at hj
      exact ⟨hjl, by simpa using hj.symm⟩
    have hby : ∀ r, r < sl → Bys W (.slice (A r) (L r) (C r)) (byL (Z r) (L r)) := fun r hrl => by
      obtain ⟨_, h1, _, h3, h4, h5, h6⟩ := hr r (by omega)
      exact bys_ints (by omega) (fun q => by have := h5 q; omega) (fun a' q c hc => (h6 a' q).2 c (by omega)) h4
    refine ⟨R, hRl, by omega, fun x hx => ?_, ?_⟩
    · obtain ⟨j, hj⟩ := List.mem_iff_getElem?.1 hx
      obtain ⟨hjl, rfl⟩ := hel j x hj
      obtain ⟨_, h1, h2, h3, _⟩ := hr j (by omega)
      unfold maxLen at h2
      rw [byL_len (by omega)]
      omega
    · by_cases h0 : sl = 0
      · exact .inl ⟨⟨_, _, by rw [h0]⟩, List.eq_nil_of_length_eq_zero (by omega)⟩
      · have hs0 := (hr 0 (by omega)).1
        rw [show a.add 0 = a from by simp [Addr.add]] at hs0
        have hsp := World.cell?_spot hs0
        obtain ⟨b, off, spot⟩ := a
        dsimp only at hsp
        subst hsp
        refine .inr ⟨b, off, sc, by rw [hRl], fun j x hj => ?_, fun x hx => ?_⟩
        · obtain ⟨hjl, rfl⟩ := hel j x hj
          have := (hr j (by omega)).1
          rwa [Addr.add_lit] at this
        · obtain ⟨j, hj⟩ := List.mem_iff_getElem?.1 hx
          obtain ⟨hjl, rfl⟩ := hel j x hj
          exact hby j hjl
end
end Go.Proofs.Ytadffmfhojomnaa
