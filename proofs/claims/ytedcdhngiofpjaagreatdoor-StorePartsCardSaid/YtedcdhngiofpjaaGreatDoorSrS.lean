/- store: a sorted map in memory; none, place, get, next. -/
import Derived.Test.YtedcdhngiofpjaaGreatDoorSdS
namespace Go.Proofs.YtedcdhngiofpjaaGreatDoor
open Go Go.Proofs Go.RowKit Go.Shelf
set_option maxRecDepth 100000
/-- a sorted map: what its rows are; its own two blocks, of at most one row -/
def MapS (w : World) (v : Value) (es : List EnS) (O : List Nat) : Prop :=
  (es = [] ∧ O = [] ∧ ∃ a c, v = .slice a 0 c) ∨
  (es ≠ [] ∧ ∃ R E cap, O = [R, E] ∧ v = .slice (some ⟨R, 0, none⟩) 1 1 ∧ w.heap[R]? = some (.cells #[.slice (some ⟨E, 0, none⟩) es.length cap] TLS (0, 0)) ∧ RwS w E cap es)
theorem MapS.keep {w w' : World} {v : Value} {es : List EnS} {O : List Nat} (h : MapS w v es O) (k : ∀ b ∈ O, w'.heap[b]? = w.heap[b]?) : MapS w' v es O := by
  rcases h with h | ⟨h1, R, E, cap, rfl, h2, h3, h4⟩
  · exact .inl h
  · exact .inr ⟨h1, R, E, cap, rfl, h2, (k R (by simp)).trans h3, h4.keep (k E (by simp))⟩
theorem MapS.lt {w : World} {v : Value} {es : List EnS} {O : List Nat} (h : MapS w v es O) : ∀ b ∈ O, b < w.heap.size := by
  rcases h with ⟨_, rfl, _⟩ | ⟨h1, R, E, cap, rfl, h2, h3, h4⟩
  · intro b hb; cases hb
  · intro b hb
    simp only [List.mem_cons, List.not_mem_nil, or_false] at hb
    rcases hb with rfl | rfl
    · exact (Array.getElem?_eq_some_iff.1 h3).1
    · exact h4.lt
theorem MapS.below {w w' : World} {v : Value} {es : List EnS} {O : List Nat} (h : MapS w v es O) (hb : Below w.heap.size w w') : MapS w' v es O := h.keep (fun b hm => hb.block b (h.lt b hm))
theorem MapS.turn {w w' : World} {v : Value} {es : List EnS} {O O' : List Nat} (h : MapS w v es O) (t : Turn O' w w') (hd : ∀ b ∈ O, b ∉ O') : MapS w' v es O := h.keep (fun b hm => t.block b (h.lt b hm) (hd b hm))
theorem noneS_nil (sb off : Nat) (a : Option Addr) (c : Nat) (w : World) (hc : w.cell? ⟨sb, off, none⟩ = some (.slice a 0 c)) :
    Calls Tryz.prog 102 #[.pointer (some ⟨sb, off, none⟩)] w fun e w' => e = .returned (.bool true) ∧ w = w' := by
  go_enter Tryz.func102, Tryz.ntmps102
  go_wp2
  go_ret
  exact ⟨rfl, rfl⟩
theorem noneS_row (sb off R : Nat) (w : World) (hc : w.cell? ⟨sb, off, none⟩ = some (.slice (some ⟨R, 0, none⟩) 1 1)) :
    Calls Tryz.prog 102 #[.pointer (some ⟨sb, off, none⟩)] w fun e w' => e = .returned (.bool false) ∧ w = w' := by
  go_enter Tryz.func102, Tryz.ntmps102
  go_wp2
  go_ret
  exact ⟨rfl, rfl⟩
theorem noneS_any (sb off : Nat) (v : Value) (es : List EnS) (O : List Nat) (w : World) (hc : w.cell? ⟨sb, off, none⟩ = some v) (hM : MapS w v es O) :
    Calls Tryz.prog 102 #[.pointer (some ⟨sb, off, none⟩)] w fun e w' => e = .returned (.bool es.isEmpty) ∧ w = w' := by
  rcases hM with ⟨rfl, _, a, c, rfl⟩ | ⟨h1, R, E, cap, _, rfl, _⟩
  · exact noneS_nil sb off a c w hc
  · refine (noneS_row sb off R w hc).mono ?_
    rintro e w' ⟨rfl, rfl⟩
    cases es with
    | nil => exact absurd rfl h1
    | cons _ _ => exact ⟨rfl, rfl⟩
def BoSPost (w : World) (e : Ending) (w' : World) : Prop := ∃ (p : Nat) (b : Bool), p ≤ 1 ∧ e = .returned (.tuple #[.int .i64 (p : Int), .bool b]) ∧ Below w.heap.size w w'
set_option maxHeartbeats 4000000 in
theorem bsoutS_any (R E cap n : Nat) (zs : List EnS) (hreach : zs.length ≤ 1000) (hn : zs.length = n + 1) (t : (List UInt8)) (w : World) (hR : w.cell? ⟨R, 0, none⟩ = some (.slice (some ⟨E, 0, none⟩) (n + 1) cap)) (hI : RwS w E cap zs) :
    Calls Tryz.prog 103 #[.slice (some ⟨R, 0, none⟩) 1 1, .string ⟨List.toArray t⟩, .func (.func 104) #[] #[]] w (BoSPost w) := by
  obtain ⟨x, hx⟩ : ∃ x, zs[n]? = some x := ⟨_, List.getElem?_eq_getElem (by omega)⟩
  have HI := Lib.hid hI
  have HX := Lib.hid hx
  have HR := Lib.hid hR
  have HRl : R < w.heap.size := World.block_lt_of_cell? w ⟨R, 0, none⟩ hR
  have HN := Lib.hid hn
  have HP0 := Lib.hid (show ∀ e w', (∃ (p : Nat) (b : Bool), p ≤ 1 ∧ e = Ending.returned (.tuple #[.int .i64 (p : Int), .bool b]) ∧ Below w.heap.size w w') → BoSPost w e w' from fun _ _ h => h)
  clear hI hx hR hn
  go_enter Tryz.func103, Tryz.ntmps103
  go_wp2
  go_loopw [9, 10] (fun i9 j10 wr => ∃ i j : Nat, i9 = .int .i64 (i : Int) ∧ j10 = .int .i64 (j : Int) ∧ i ≤ j ∧ j ≤ 1 ∧ Below w.heap.size w wr) (fun i9 j10 _ => (intOf j10).toNat - (intOf i9).toNat)
  case atStart => exact ⟨0, 1, rfl, rfl, by omega, by omega, Below.refl _ _⟩
  case round =>
    obtain ⟨i, j, rfl, rfl, h2, h3, hB⟩ := hrel
    have hRr : wr.cell? ⟨R, 0, none⟩ = some (.slice (some ⟨E, 0, none⟩) (n + 1) cap) := (hB.cell (p := ⟨R, 0, none⟩) HRl).trans HR.out
    have W1 := Lib.hid (place1S_any E n cap zs x t wr (HI.out.below hB) HN.out (by have := HN.out; omega) HX.out)
    by_cases hlt : i < j
    · obtain rfl : i = 0 := by omega
      obtain rfl : j = 1 := by omega
      go_wp2_with fail
      refine (W1.out).mono ?_
      rintro e w1 ⟨rfl, hb1⟩
      have hB1 := hB.trans (hb1.mono hB.size)
      by_cases hbl : cmpR x.1 t < 0
      · go_wp2
        exact ⟨⟨1, 1, rfl, rfl, by omega, by omega, hB1⟩, by simp only [intOf]; omega⟩
      · go_wp2
        exact ⟨⟨0, 0, rfl, rfl, by omega, by omega, hB1⟩, by simp only [intOf]; omega⟩
    · obtain rfl : i = j := by omega
      by_cases hj : i = 0
      · subst hj
        go_wp2_with fail
        refine (W1.out).mono ?_
        rintro e w1 ⟨rfl, hb1⟩
        have hB1 := hB.trans (hb1.mono hB.size)
        go_wp2
        go_ret2
        exact HP0.out _ _ ⟨0, _, by omega, rfl, hB1⟩
      · obtain rfl : i = 1 := by omega
        go_wp2
        go_ret2
        exact HP0.out _ _ ⟨1, _, by omega, rfl, hB⟩
def PlSPost (p : Nat) (b : Bool) (w : World) (e : Ending) (w' : World) : Prop := e = .returned (.tuple #[.int .i64 0, .int .i64 (p : Int), .bool b]) ∧ Below w.heap.size w w'
theorem placeS_nil (sb off : Nat) (a : Option Addr) (c : Nat) (t : (List UInt8)) (w : World) (hc : w.cell? ⟨sb, off, none⟩ = some (.slice a 0 c)) :
    Calls Tryz.prog 68 #[.pointer (some ⟨sb, off, none⟩), .string ⟨List.toArray t⟩] w (PlSPost 0 false w) := by
  have HN := Lib.hid (noneS_nil sb off a c w hc)
  have HP := Lib.hid (show PlSPost 0 false w (.returned (.tuple #[.int .i64 0, .int .i64 0, .bool false])) w from ⟨rfl, Below.refl _ _⟩)
  go_enter Tryz.func68, Tryz.ntmps68
  go_wp2_with fail
  refine HN.out.mono ?_
  rintro e w1 ⟨rfl, rfl⟩
  go_wp2
  refine bodyPost_ret (by simp [results, Tryz.results68, go_sem]; try rfl) rfl ?_
  exact HP.out
set_option maxHeartbeats 4000000 in
theorem placeS_row (sb off R E cap n : Nat) (zs : List EnS) (hreach : zs.length ≤ 1000) (hn : zs.length = n + 1) (t : (List UInt8)) (p : Nat) (hp : p ≤ zs.length) (hP : ∀ k x, zs[k]? = some x → (ltS x.1 t = true ↔ k < p)) (w : World)
    (hc : w.cell? ⟨sb, off, none⟩ = some (.slice (some ⟨R, 0, none⟩) 1 1)) (hR : w.cell? ⟨R, 0, none⟩ = some (.slice (some ⟨E, 0, none⟩) (n + 1) cap)) (hI : RwS w E cap zs) :
    Calls Tryz.prog 68 #[.pointer (some ⟨sb, off, none⟩), .string ⟨List.toArray t⟩] w (PlSPost p (hereS zs p t) w) := by
  have HN := Lib.hid (noneS_row sb off R w hc)
  have HO := Lib.hid (bsoutS_any R E cap n zs hreach hn t w hR hI)
  have HI := Lib.hid (fun W (h : Below w.heap.size w W) => bsinS_any E cap zs hreach t p hp hP W (hI.below h))
  rw [hn] at HI
  have hl1 := World.block_lt_of_cell? w ⟨sb, off, none⟩ hc
  have hl2 := World.block_lt_of_cell? w ⟨R, 0, none⟩ hR
  have HC := Lib.hid (show ∀ W, Below w.heap.size w W → W.cell? ⟨sb, off, none⟩ = some (.slice (some ⟨R, 0, none⟩) 1 1) ∧ W.cell? ⟨R, 0, none⟩ = some (.slice (some ⟨E, 0, none⟩) (n + 1) cap) from fun W h => ⟨(h.cell (p := ⟨sb, off, none⟩) hl1).trans hc, (h.cell (p := ⟨R, 0, none⟩) hl2).trans hR⟩)
  have HP := Lib.hid (show ∀ W, Below w.heap.size w W → PlSPost p (hereS zs p t) w (.returned (.tuple #[.int .i64 0, .int .i64 (p : Int), .bool (hereS zs p t)])) W from fun W h => ⟨rfl, h⟩)
  clear hreach hn hp hP hI hl1 hl2
  go_enter Tryz.func68, Tryz.ntmps68
  go_wp2_with fail
  refine HN.out.mono ?_
  rintro e w1 ⟨rfl, rfl⟩
  go_wp2_with fail
  refine HO.out.mono ?_
  rintro e w1 ⟨q, b, hq, rfl, hb1⟩
  obtain ⟨c1, c2⟩ := HC.out w1 hb1
  have hmin : min (q : Int) (wrap64 (1 - 1)) = 0 := by rw [show wrap64 (1 - 1) = 0 from by rw [wrap64]; omega]; omega
  have hmin2 : min (q : Int) 0 = 0 := by omega
  have hmin3 : min (q : Int) (IntKind.i64.wrap (1 - 1)) = 0 := by rw [IntKind.wrap_i64]; omega
  have hq0 : (0 : Int) ≤ (q : Int) := by omega
  clear hc hR
  go_wp2_with fail
  refine (HI.out w1 hb1).mono ?_
  rintro e w2 ⟨rfl, hb2⟩
  have hB2 := below_then hb1 hb2
  go_wp2
  refine bodyPost_ret (by simp [results, Tryz.results68, go_sem]; try rfl) rfl ?_
  exact HP.out _ hB2
end Go.Proofs.YtedcdhngiofpjaaGreatDoor
/- store: a sorted map's get, next, insert, at, drop. -/
namespace Go.Proofs.YtedcdhngiofpjaaGreatDoor
open Go Go.Proofs Go.RowKit Go.Shelf
set_option maxRecDepth 100000
/-- what next tells -/
def nxVS : Option EnS → Value
  | none => .tuple #[.agg #[.string ⟨#[]⟩, .pointer none], .bool false]
  | some x => .tuple #[.agg #[.string ⟨List.toArray x.1⟩, .pointer (some ⟨x.2, 0, none⟩)], .bool true]
def NxSPost (o : Option EnS) (w : World) (e : Ending) (w' : World) : Prop := e = .returned (nxVS o) ∧ Below w.heap.size w w'
theorem nextS_nil (sb off : Nat) (a : Option Addr) (c : Nat) (t : (List UInt8)) (w : World) (hc : w.cell? ⟨sb, off, none⟩ = some (.slice a 0 c)) :
    Calls Tryz.prog 79 #[.pointer (some ⟨sb, off, none⟩), .string ⟨List.toArray t⟩] w (NxSPost none w) := by
  have hl := World.block_lt_of_cell? w ⟨sb, off, none⟩ hc
  have hne : ¬ w.heap.size = sb := by have : sb < w.heap.size := hl; omega
  have hA : (w.alloc (.cells #[.string ⟨#[]⟩, .pointer none] TES)).cell? ⟨sb, off, none⟩ = some (.slice a 0 c) := ((below_cells (w := w) (.cells #[.string ⟨#[]⟩, .pointer none] TES)).cell (p := ⟨sb, off, none⟩) hl).trans hc
  have HN := Lib.hid (fun W h => placeS_nil sb off a c t W h)
  have HP := Lib.hid (show ∀ W, Below w.heap.size w W → NxSPost none w (.returned (.tuple #[.agg #[.string ⟨#[]⟩, .pointer none], .bool false])) W from fun W h => ⟨rfl, h⟩)
  have HA := Lib.hid hA
  clear hA hl
  go_enter Tryz.func79, Tryz.ntmps79
  go_wp2_with fail
  refine (HN.out _ HA.out).mono ?_
  rintro e w1 ⟨rfl, hb1⟩
  have hB : Below w.heap.size w w1 := below_then (below_new (Below.refl _ _) _) hb1
  have A1 := ((At.new w #[.string ⟨#[]⟩, .pointer none] TES).below hb1).f2
  have c1 : w1.cell? ⟨sb, off, none⟩ = some (.slice a 0 c) := (hb1.cell (p := ⟨sb, off, none⟩) (World.block_lt_of_cell? _ _ HA.out)).trans HA.out
  clear hb1 hc
  go_wp2
  refine bodyPost_ret (by simp [results, Tryz.results79, go_sem, cell_set, A1]; try rfl) rfl ?_
  refine HP.out _ ?_
  exact (hB.setCell (by dsimp only; omega) _).setCell (by dsimp only; omega) _
set_option maxHeartbeats 4000000 in
theorem nextS_core (sb off R E cap n : Nat) (zs : List EnS) (hreach : n ≤ 1000) (hn : zs.length = n + 1) (t : (List UInt8)) (p q : Nat) (B : Bool) (hq0 : (if B then p + 1 else p) = q) (hql : q ≤ n + 1) (w : World)
    (hl1 : sb < w.heap.size) (hl2 : R < w.heap.size)
    (HN : Hid (Calls Tryz.prog 68 #[.pointer (some ⟨sb, off, none⟩), .string ⟨List.toArray t⟩] (w.alloc (.cells #[.string ⟨#[]⟩, .pointer none] TES)) (PlSPost p B (w.alloc (.cells #[.string ⟨#[]⟩, .pointer none] TES)))))
    (HC : Hid (∀ W, Below w.heap.size w W → W.cell? ⟨sb, off, none⟩ = some (.slice (some ⟨R, 0, none⟩) 1 1) ∧ W.cell? ⟨R, 0, none⟩ = some (.slice (some ⟨E, 0, none⟩) (n + 1) cap)))
    (HI : Hid (∀ W, Below w.heap.size w W → RwS W E cap zs)) :
    Calls Tryz.prog 79 #[.pointer (some ⟨sb, off, none⟩), .string ⟨List.toArray t⟩] w (NxSPost (zs[q]?) w) := by
  have hne1 : ¬ w.heap.size = sb := by omega
  have hne2 : ¬ w.heap.size = R := by omega
  have hne3 : ¬ w.heap.size = E := by have := (HI.out w (Below.refl _ _)).lt; omega
  have hw1 : IntKind.i64.wrap ((p : Int) + 1) = (p : Int) + 1 := by rw [IntKind.wrap_i64]; cases B <;> simp at hq0 <;> omega
  have hw2 : wrap64 ((p : Int) + 1) = (p : Int) + 1 := by rw [wrap64]; cases B <;> simp at hq0 <;> omega
  by_cases hlast : q = n + 1
  · have hz : zs[q]? = none := List.getElem?_eq_none (by omega)
    have HPn := Lib.hid (show ∀ W, Below w.heap.size w W → NxSPost (zs[q]?) w (.returned (.tuple #[.agg #[.string ⟨#[]⟩, .pointer none], .bool false])) W from fun W h => ⟨by rw [hz]; rfl, h⟩)
    clear hz hreach hl1 hl2 hn
    cases B
    · obtain rfl : p = q := by simpa using hq0
      have e1 : ((p : Int) : Int) = (n : Int) + 1 := by omega
      have e2 : (p : Int) = (n : Int) + 1 := by omega
      clear hq0
      go_enter Tryz.func79, Tryz.ntmps79
      go_wp2_with fail
      refine HN.out.mono ?_
      rintro e w1 ⟨rfl, hb1⟩
      have hB : Below w.heap.size w w1 := below_then (below_new (Below.refl _ _) _) hb1
      have A1 := ((At.new w #[.string ⟨#[]⟩, .pointer none] TES).below hb1).f2
      obtain ⟨c1, c2⟩ := HC.out w1 hB
      clear hb1 HN
      go_wp2
      refine bodyPost_ret (by simp [results, Tryz.results79, go_sem, cell_set, A1]; try rfl) rfl ?_
      exact HPn.out _ ((hB.setCell (by dsimp only; omega) _).setCell (by dsimp only; omega) _)
    · obtain rfl : p + 1 = q := by simpa using hq0
      obtain rfl : n = p := by omega
      clear hq0
      go_enter Tryz.func79, Tryz.ntmps79
      go_wp2_with fail
      refine HN.out.mono ?_
      rintro e w1 ⟨rfl, hb1⟩
      have hB : Below w.heap.size w w1 := below_then (below_new (Below.refl _ _) _) hb1
      have A1 := ((At.new w #[.string ⟨#[]⟩, .pointer none] TES).below hb1).f2
      obtain ⟨c1, c2⟩ := HC.out w1 hB
      clear hb1 HN
      go_wp2
      refine bodyPost_ret (by simp [results, Tryz.results79, go_sem, cell_set, A1]; try rfl) rfl ?_
      exact HPn.out _ ((hB.setCell (by dsimp only; omega) _).setCell (by dsimp only; omega) _)
  · obtain ⟨x, hx⟩ : ∃ x, zs[q]? = some x := ⟨_, List.getElem?_eq_getElem (by omega)⟩
    have HPs := Lib.hid (show ∀ W, Below w.heap.size w W → NxSPost (zs[q]?) w (.returned (.tuple #[.agg #[.string ⟨List.toArray x.1⟩, .pointer (some ⟨x.2, 0, none⟩)], .bool true])) W from fun W h => ⟨by rw [hx]; rfl, h⟩)
    have HX := Lib.hid hx
    clear hx hreach hl1 hl2 hn
    cases B
    · obtain rfl : p = q := by simpa using hq0
      have e1 : ¬ ((p : Int) : Int) = (n : Int) + 1 := by omega
      have e2 : ((p : Int) : Int) < (n : Int) + 1 := by omega
      have e3 : (0 : Int) ≤ ((p : Int) : Int) := by omega
      clear hq0
      go_enter Tryz.func79, Tryz.ntmps79
      go_wp2_with fail
      refine HN.out.mono ?_
      rintro e w1 ⟨rfl, hb1⟩
      have hB : Below w.heap.size w w1 := below_then (below_new (Below.refl _ _) _) hb1
      have A1 := ((At.new w #[.string ⟨#[]⟩, .pointer none] TES).below hb1).f2
      obtain ⟨c1, c2⟩ := HC.out w1 hB
      obtain ⟨d0, d1⟩ := (HI.out w1 hB).cell HX.out
      clear hb1 HN
      go_wp2
      refine bodyPost_ret (by simp [results, Tryz.results79, go_sem, cell_set, A1]; try rfl) rfl ?_
      exact HPs.out _ ((hB.setCell (by dsimp only; omega) _).setCell (by dsimp only; omega) _)
    · obtain rfl : p + 1 = q := by simpa using hq0
      have e1 : ¬ ((p : Int) + 1 : Int) = (n : Int) + 1 := by omega
      have e2 : ((p : Int) + 1 : Int) < (n : Int) + 1 := by omega
      have e3 : (0 : Int) ≤ ((p : Int) + 1 : Int) := by omega
      have e4 : ¬ (p : Int) = (n : Int) := by omega
      have e5 : (p : Int) < (n : Int) := by omega
      have e6 : ((p : Int) + 1).toNat = p + 1 := by omega
      clear hq0
      go_enter Tryz.func79, Tryz.ntmps79
      go_wp2_with fail
      refine HN.out.mono ?_
      rintro e w1 ⟨rfl, hb1⟩
      have hB : Below w.heap.size w w1 := below_then (below_new (Below.refl _ _) _) hb1
      have A1 := ((At.new w #[.string ⟨#[]⟩, .pointer none] TES).below hb1).f2
      obtain ⟨c1, c2⟩ := HC.out w1 hB
      obtain ⟨d0, d1⟩ := (HI.out w1 hB).cell HX.out
      clear hb1 HN
      go_wp2
      refine bodyPost_ret (by simp [results, Tryz.results79, go_sem, cell_set, A1]; try rfl) rfl ?_
      exact HPs.out _ ((hB.setCell (by dsimp only; omega) _).setCell (by dsimp only; omega) _)
theorem nextS_row (sb off R E cap n : Nat) (zs : List EnS) (hreach : zs.length ≤ 1000) (hn : zs.length = n + 1) (t : (List UInt8)) (p : Nat) (hp : p ≤ zs.length) (hP : ∀ k x, zs[k]? = some x → (ltS x.1 t = true ↔ k < p)) (w : World)
    (hc : w.cell? ⟨sb, off, none⟩ = some (.slice (some ⟨R, 0, none⟩) 1 1)) (hR : w.cell? ⟨R, 0, none⟩ = some (.slice (some ⟨E, 0, none⟩) (n + 1) cap)) (hI : RwS w E cap zs) (B : Bool) (hB0 : hereS zs p t = B) :
    Calls Tryz.prog 79 #[.pointer (some ⟨sb, off, none⟩), .string ⟨List.toArray t⟩] w (NxSPost (zs[if B then p + 1 else p]?) w) := by
  have hl1 := World.block_lt_of_cell? w ⟨sb, off, none⟩ hc
  have hl2 := World.block_lt_of_cell? w ⟨R, 0, none⟩ hR
  have hbA := below_cells (w := w) (.cells #[.string ⟨#[]⟩, .pointer none] TES)
  have HN := Lib.hid (placeS_row sb off R E cap n zs hreach hn t p hp hP (w.alloc (.cells #[.string ⟨#[]⟩, .pointer none] TES)) ((hbA.cell (p := ⟨sb, off, none⟩) hl1).trans hc) ((hbA.cell (p := ⟨R, 0, none⟩) hl2).trans hR) (hI.below hbA))
  rw [hB0] at HN
  refine nextS_core sb off R E cap n zs (by omega) hn t p _ B rfl ?_ w hl1 hl2 HN (fun W h => ⟨(h.cell (p := ⟨sb, off, none⟩) hl1).trans hc, (h.cell (p := ⟨R, 0, none⟩) hl2).trans hR⟩) (fun W h => hI.below h)
  cases B
  · simp; omega
  · unfold hereS at hB0
    split at hB0
    · rename_i x hx
      have := (List.getElem?_eq_some_iff.1 hx).1
      simp; omega
    · cases hB0
end Go.Proofs.YtedcdhngiofpjaaGreatDoor
/- store: a sorted map's get, insert, at. -/
namespace Go.Proofs.YtedcdhngiofpjaaGreatDoor
open Go Go.Proofs Go.RowKit Go.Shelf
set_option maxRecDepth 100000
/-- what insert leaves: the variable's rows, the map, its blocks -/
def PutSPost (sb off : Nat) (cs : Array Value) (T : TypeId) (es : List EnS) (O : List Nat) (w w' : World) : Prop :=
  ∃ v' O', w'.heap[sb]? = some (.cells (cs.setIfInBounds off v') T (0, 0)) ∧ MapS w' v' es O' ∧ Turn (sb :: O) w w' ∧ New O O' w
theorem cell_blkS {w : World} {b j : Nat} {cs : Array Value} {T : TypeId} {v : Value} (h : w.heap[b]? = some (.cells cs T (0, 0))) (hj : cs[j]? = some v) : w.cell? ⟨b, j, none⟩ = some v ∧ w.frozen? ⟨b, j, none⟩ = false :=
  ⟨(cell_of_row w b j _ _ _ h).trans hj, frozen_of_row w b j _ _ h⟩
theorem insertS_nil (sb off : Nat) (cs : Array Value) (T : TypeId) (a : Option Addr) (c : Nat) (x : EnS) (w : World) (hS : w.heap[sb]? = some (.cells cs T (0, 0))) (hv : cs[off]? = some (.slice a 0 c)) :
    Calls Tryz.prog 69 #[.pointer (some ⟨sb, off, none⟩), .int .i64 0, .int .i64 0, .agg #[.string ⟨List.toArray x.1⟩, .pointer (some ⟨x.2, 0, none⟩)]] w fun e w' => (∃ r, e = .returned r) ∧ PutSPost sb off cs T [x] [] w w' := by
  obtain ⟨hc, hf⟩ := cell_blkS hS hv
  have hl : sb < w.heap.size := (Array.getElem?_eq_some_iff.1 hS).1
  have hne1 : ¬ w.heap.size = sb := by omega
  have hne2 : ¬ w.heap.size + 1 = sb := by omega
  have hne3 : ¬ w.heap.size + 1 + 1 = sb := by omega
  obtain ⟨W1, hW1⟩ : ∃ W1, W1 = w.alloc (.cells #[.string ⟨List.toArray x.1⟩, .pointer (some ⟨x.2, 0, none⟩)] TES) := ⟨_, rfl⟩
  have hb1 : Below w.heap.size w W1 := by rw [hW1]; exact below_cells _
  have hN := Lib.hid (noneS_nil sb off a c W1 ((hb1.cell (p := ⟨sb, off, none⟩) hl).trans hc))
  have hs1 : W1.heap.size = w.heap.size + 1 := by rw [hW1]; simp
  obtain ⟨X, hX⟩ : ∃ X, X = W1.setCell ⟨sb, off, none⟩ (.slice (some ⟨w.heap.size + 1 + 1, 0, none⟩) 1 1) := ⟨_, rfl⟩
  have hXs : X.heap.size = w.heap.size + 1 := by rw [hX]; simpa [World.setCell] using hs1
  obtain ⟨W4, hW4⟩ : ∃ W4, W4 = (X.alloc (.cells #[.string ⟨List.toArray x.1⟩, .pointer (some ⟨x.2, 0, none⟩)] TES)).alloc (.cells #[.slice (some ⟨w.heap.size + 1, 0, none⟩) 1 1] TLS) := ⟨_, rfl⟩
  have hP : PutSPost sb off cs T [x] [] w W4 := by
    refine ⟨_, [w.heap.size + 1 + 1, w.heap.size + 1], ?_, .inr ⟨by simp, w.heap.size + 1 + 1, w.heap.size + 1, 1, rfl, rfl, ?_, ?_⟩, ?_, ?_⟩
    · rw [hW4, Below.heap_alloc _ _ _ (by simp; omega), Below.heap_alloc _ _ _ (by omega), hX]
      exact blk_set14 ((hb1.block sb hl).trans hS) _ _
    · rw [hW4]
      have := heap_alloc_new (X.alloc (.cells #[.string ⟨List.toArray x.1⟩, .pointer (some ⟨x.2, 0, none⟩)] TES)) (.cells #[.slice (some ⟨w.heap.size + 1, 0, none⟩) 1 1] TLS)
      rwa [World.size_alloc, hXs] at this
    · refine ⟨#[.string ⟨List.toArray x.1⟩, .pointer (some ⟨x.2, 0, none⟩)], ?_, by simp, by unfold maxLen; omega, rfl, by simp [entCS]⟩
      rw [hW4, Below.heap_alloc _ _ _ (by simp; omega)]
      have := heap_alloc_new X (.cells #[.string ⟨List.toArray x.1⟩, .pointer (some ⟨x.2, 0, none⟩)] TES)
      rwa [hXs] at this
    · rw [hW4, hX]
      exact (((Turn.of_below hb1 [sb]).trans (Turn.set _ sb off _) (fun _ h => .inl h)).alloc _).alloc _
    · intro b hb
      simp at hb
      omega
  have HP := Lib.hid hP
  rw [hX] at hW4
  have HW := Lib.hid hW4
  have c1 : W1.cell? ⟨sb, off, none⟩ = some (.slice a 0 c) := (hb1.cell (p := ⟨sb, off, none⟩) hl).trans hc
  have c2 : W1.frozen? ⟨sb, off, none⟩ = false := (hb1.frozen (p := ⟨sb, off, none⟩) hl).trans hf
  have c3 : sb < w.heap.size + 1 := by omega
  have c4 : sb < w.heap.size + 1 + 1 := by omega
  have c5 : sb < w.heap.size := hl
  have A1 := (At.new w #[.string ⟨List.toArray x.1⟩, .pointer (some ⟨x.2, 0, none⟩)] TES).f2
  clear hP hS hv hW4 hX hXs hb1 hl hc hf
  go_enter Tryz.func69, Tryz.ntmps69
  go_wp2_with fail
  rw [← hW1] at *
  refine hN.out.mono ?_
  rintro e w1 ⟨rfl, rfl⟩
  clear hN
  go_wp2
  refine bodyPost_ret (results_none rfl _ _ _) rfl ?_
  exact ⟨⟨_, rfl⟩, by rw [← HW.out]; exact HP.out⟩
set_option maxHeartbeats 4000000 in
theorem insertS_row (sb off R E cap : Nat) (cs : Array Value) (T : TypeId) (zs : List EnS) (hz : zs.length ≤ 100) (p : Nat) (hp : p ≤ zs.length) (x : EnS) (w : World) (hS : w.heap[sb]? = some (.cells cs T (0, 0))) (hv : cs[off]? = some (.slice (some ⟨R, 0, none⟩) 1 1))
    (hR : w.heap[R]? = some (.cells #[.slice (some ⟨E, 0, none⟩) zs.length cap] TLS (0, 0))) (hE : RwS w E cap zs) (hsR : sb ≠ R) (hsE : sb ≠ E) :
    Calls Tryz.prog 69 #[.pointer (some ⟨sb, off, none⟩), .int .i64 0, .int .i64 (p : Int), .agg #[.string ⟨List.toArray x.1⟩, .pointer (some ⟨x.2, 0, none⟩)]] w fun e w' => (∃ r, e = .returned r) ∧ PutSPost sb off cs T (zs.take p ++ x :: zs.drop p) [R, E] w w' := by
  obtain ⟨hc, hf⟩ := cell_blkS hS hv
  have hl : sb < w.heap.size := (Array.getElem?_eq_some_iff.1 hS).1
  have hlR : R < w.heap.size := (Array.getElem?_eq_some_iff.1 hR).1
  have hlE : E < w.heap.size := hE.lt
  have hRE : R ≠ E := by
    rintro rfl
    obtain ⟨cur, h1, _, _, h4, _⟩ := hE
    have := h1.symm.trans hR
    simp [TES, TLS] at this
  obtain ⟨W1, hW1⟩ : ∃ W1, W1 = w.alloc (.cells #[.string ⟨List.toArray x.1⟩, .pointer (some ⟨x.2, 0, none⟩)] TES) := ⟨_, rfl⟩
  have hb1 : Below w.heap.size w W1 := by rw [hW1]; exact below_cells _
  have hN := Lib.hid (noneS_row sb off R W1 ((hb1.cell (p := ⟨sb, off, none⟩) hl).trans hc))
  have hs1 : W1.heap.size = w.heap.size + 1 := by rw [hW1]; simp
  -- the call
  have hI : ∀ W : World, W.heap = (W1.alloc (.cells #[.string ⟨List.toArray x.1⟩, .pointer (some ⟨x.2, 0, none⟩)] TES)).heap → Calls Tryz.prog 108 #[.slice (some ⟨E, 0, none⟩) zs.length cap, .int .i64 (p : Int), .slice (some ⟨w.heap.size + 1, 0, none⟩) 1 1] W (InsSPost (zs.take p ++ x :: zs.drop p) E W) := fun W hW => by
    refine insertS_any E cap zs p x (w.heap.size + 1) W hz hp (hE.keep ?_) ?_ (by omega)
    · rw [hW, Below.heap_alloc _ _ _ (by omega)]; exact hb1.block E hlE
    · show W.heap[w.heap.size + 1]? = _
      rw [hW]
      have := heap_alloc_new W1 (.cells #[.string ⟨List.toArray x.1⟩, .pointer (some ⟨x.2, 0, none⟩)] TES)
      rwa [hs1] at this
  have hlen : (zs.take p ++ x :: zs.drop p).length = zs.length + 1 := by simp; omega
  have hP : ∀ (W W3 : World) (E' c' : Nat), W.heap = (W1.alloc (.cells #[.string ⟨List.toArray x.1⟩, .pointer (some ⟨x.2, 0, none⟩)] TES)).heap → W.os = W1.os → W.tape = W1.tape → W.output = W1.output → RwS W3 E' c' (zs.take p ++ x :: zs.drop p) → W.grownBy W3 (some E) → (E' = E ∨ E' = W.heap.size) →
      PutSPost sb off cs T (zs.take p ++ x :: zs.drop p) [R, E] w (W3.setCell ⟨R, 0, none⟩ (.slice (some ⟨E', 0, none⟩) (zs.length + 1) c')) := fun W W3 E' c' hW ho ht hu hr hg hE' => by
    have hWs : W.heap.size = w.heap.size + 2 := by rw [hW, World.size_alloc]; omega
    have hold : ∀ k, k < w.heap.size → W.heap[k]? = w.heap[k]? := fun k hk => by rw [hW, Below.heap_alloc _ _ _ (by omega)]; exact hb1.block k hk
    have tW : Turn [] w W := ⟨ho.trans hb1.os, ht.trans hb1.tape, hu.trans hb1.output, by omega, fun k hk _ => hold k hk⟩
    have t3 : Turn [E] w W3 := (tW.mono (fun _ h => nomatch h)).trans (Turn.grown hg) (fun b hb => .inl (by simpa using hb))
    refine ⟨.slice (some ⟨R, 0, none⟩) 1 1, [R, E'], ?_, .inr ⟨by simp, R, E', c', rfl, rfl, ?_, ?_⟩, ?_, ?_⟩
    · rw [Below.heap_setCell _ _ _ _ (by dsimp only; omega), t3.block sb hl (by simpa using hsE), hS]
      rw [set_same14 hv]
    · rw [hlen]
      have := blk_set14 (t3.at (b := R) (by simpa using hRE) hR) 0 (.slice (some ⟨E', 0, none⟩) (zs.length + 1) c')
      simpa using this
    · refine hr.keep (Below.heap_setCell _ _ _ _ ?_)
      dsimp only
      rcases hE' with rfl | rfl <;> omega
    · exact (t3.mono (fun b h => by simp at h; simp [h])).trans (Turn.set _ R 0 _) (fun b h => .inl (by simp at h; simp [h]))
    · intro b hb
      simp at hb ⊢
      omega
  have hD : ∀ W : World, W.heap = (W1.alloc (.cells #[.string ⟨List.toArray x.1⟩, .pointer (some ⟨x.2, 0, none⟩)] TES)).heap → ∀ W3, W.grownBy W3 (some E) → W3.cell? ⟨sb, off, none⟩ = some (.slice (some ⟨R, 0, none⟩) 1 1) ∧ W3.cell? ⟨R, 0, none⟩ = some (.slice (some ⟨E, 0, none⟩) zs.length cap) ∧ W3.frozen? ⟨R, 0, none⟩ = false ∧ R < W3.heap.size := fun W hW W3 hg => by
    have hWs : W.heap.size = w.heap.size + 2 := by rw [hW, World.size_alloc]; omega
    have hold : ∀ k, k < w.heap.size → W.heap[k]? = w.heap[k]? := fun k hk => by rw [hW, Below.heap_alloc _ _ _ (by omega)]; exact hb1.block k hk
    have e1 := (hg.block sb (by omega) (fun e => hsE (by simpa using e))).trans (hold sb hl)
    have e2 := (hg.block R (by omega) (fun e => hRE (by simpa using e))).trans (hold R hlR)
    have := hg.size
    exact ⟨(World.cell?_of_block (a := ⟨sb, off, none⟩) e1).trans hc, (cell_of_row W3 R 0 _ _ _ (e2.trans hR)).trans rfl, frozen_of_row W3 R 0 _ _ (e2.trans hR), by omega⟩
  have HI := Lib.hid (hI (W1.alloc (.cells #[.string ⟨List.toArray x.1⟩, .pointer (some ⟨x.2, 0, none⟩)] TES)).drew rfl)
  have HP := Lib.hid (hP (W1.alloc (.cells #[.string ⟨List.toArray x.1⟩, .pointer (some ⟨x.2, 0, none⟩)] TES)).drew)
  have HD := Lib.hid (hD (W1.alloc (.cells #[.string ⟨List.toArray x.1⟩, .pointer (some ⟨x.2, 0, none⟩)] TES)).drew rfl)
  have c1 : W1.cell? ⟨sb, off, none⟩ = some (.slice (some ⟨R, 0, none⟩) 1 1) := (hb1.cell (p := ⟨sb, off, none⟩) hl).trans hc
  have c2 : W1.cell? ⟨R, 0, none⟩ = some (.slice (some ⟨E, 0, none⟩) zs.length cap) := (hb1.cell (p := ⟨R, 0, none⟩) hlR).trans (cell_of_row w R 0 _ _ _ hR)
  have c3 : sb < w.heap.size + 1 := by omega
  have c4 : R < w.heap.size + 1 := by omega
  have c5 : zs.length ≤ 100 := hz
  have c6 : ¬ (256 : Int) < (zs.length : Int) + 1 := by omega
  have A1 := (At.new w #[.string ⟨List.toArray x.1⟩, .pointer (some ⟨x.2, 0, none⟩)] TES).f2
  clear hI hP hD hS hv hR hE hl hlR hlE hc hf hsR hsE hRE
  go_enter Tryz.func69, Tryz.ntmps69
  go_wp2_with fail
  rw [← hW1] at *
  refine hN.out.mono ?_
  rintro e w1 ⟨rfl, rfl⟩
  clear hN
  go_wp2
  go_region_with (first | (go_at_call 108; refine HI.out.mono ?_; rintro e W3 ⟨E', c', rfl, hr, hg, hE'⟩; have hd := HD.out W3 hg; have hp := Lib.hid (HP.out W3 E' c' rfl rfl rfl rfl hr hg hE'); clear hr hg hE'))
  all_goals
    obtain ⟨d1, d2, d3, d4⟩ := hd
    go_wp2
    go_end0
    exact ⟨⟨_, rfl⟩, hp.out⟩
end Go.Proofs.YtedcdhngiofpjaaGreatDoor
