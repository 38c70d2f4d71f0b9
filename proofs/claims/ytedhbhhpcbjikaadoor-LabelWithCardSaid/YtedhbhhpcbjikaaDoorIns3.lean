/- slices.Insert of one label, ahead of others, where there is no room. -/
import Derived.Test.YtedhbhhpcbjikaaDoorIns2
namespace Go.Proofs.YtedhbhhpcbjikaaDoor
open Go Go.Proofs Go.RowKit Go.Shelf
set_option maxRecDepth 100000
set_option maxHeartbeats 4000000 in
theorem insert_grow (base : Nat) (g cap : Nat) (zs : List SLab) (p : Nat) (x : SLab) (vb : Nat) (w : World) (hz : zs.length ≤ 100) (hp : p < zs.length) (hroom : cap < zs.length + 1) (hv : w.ownsRow base 55 2 (.slice (some ⟨g, 0, none⟩) zs.length cap) zs.length (labC zs)) (hb : base ≤ w.heap.size)
    (hx : Blk w vb #[.string ⟨x.1.1.toArray⟩, .string ⟨x.1.2.toArray⟩] 55) :
    Calls Tryd.prog 50 #[.slice (some ⟨g, 0, none⟩) zs.length cap, .int .i64 (p : Int), .slice (some ⟨vb, 0, none⟩) 1 1] w (InsPost base (zs.take p ++ x :: zs.drop p) w) := by
  obtain ⟨i0, hi0, hz0, hz1, hz2⟩ := info_parts info_lab
  obtain ⟨hlen, ⟨h, _⟩ | ⟨g', cap', cur, e, hbg, hgb, hnc, hcm, hcs, htk⟩⟩ := hv
  · cases h
  obtain ⟨rfl, rfl⟩ : g = g' ∧ cap = cap' := by simpa using e
  clear e
  unfold maxLen at hcm
  generalize hn : zs.length = n at *
  have hl := labC_len zs
  rw [hn] at hl
  have hgw : g < w.heap.size := (Array.getElem?_eq_some_iff.1 hgb).1
  have hvw : vb < w.heap.size := (Array.getElem?_eq_some_iff.1 hx).1
  have hdl : (labC (zs.drop p)).length = (n - p) * 2 := by rw [labC_len, List.length_drop, hn]
  have hcell : ∀ j u, (labC zs)[j]? = some u → w.cell? ⟨g, j, none⟩ = some u := fun j u hj => by
    rw [← htk, List.getElem?_take] at hj
    split at hj
    · exact blk_cell (W := w) (B := g) (t := 55) hgb (by simpa using hj)
    · cases hj
  have hold : (Builtin.firstCells i0.size p (.slice (some ⟨g, 0, none⟩) p cap)).run Tryd.prog w.drew = .ok (labC (zs.take p)).toArray w.drew := by
    rw [hz1]
    refine run_firstCells_some w.drew 2 p ⟨g, 0, none⟩ p cap (labC (zs.take p)) (by rw [labC_len, List.length_take]; omega) (fun j u hj => ?_)
    rw [labC_take, List.getElem?_take] at hj
    split at hj
    · rw [Addr.add_lit]
      simpa using hcell j u hj
    · cases hj
  obtain ⟨G, hG⟩ : ∃ G, G = grownCap w (n + 1) cap 55 := ⟨_, rfl⟩
  have hGn : n + 1 ≤ G := by rw [hG]; exact grownCap_ge w _ _ _
  have hGm : G ≤ 9223372036854775807 := by
    have := grownCap_le_maxLen w (n + 1) cap 55 (by unfold maxLen; omega)
    rw [← hG] at this; unfold maxLen at this; omega
  obtain ⟨z, hzd⟩ : ∃ z : Value, z = .agg #[.string ⟨#[]⟩, .string ⟨#[]⟩] := ⟨_, rfl⟩
  have hzc : z.cells.size = 2 := by rw [hzd]; rfl
  obtain ⟨ROW, hROW⟩ : ∃ ROW : Array Value, ROW = (labC (zs.take p)).toArray ++ Builtin.zeroCells z.cells (n + 1 - p) ++ Builtin.zeroCells z.cells (G - (n + 1)) := ⟨_, rfl⟩
  have hkk : (n : Int) + 1 - (p : Int) = ((n + 1 - p : Nat) : Int) := by omega
  have hrz : ∀ ty, (Builtin.append_ #[23, 3] ty #[.slice (some ⟨g, 0, none⟩) p cap, .int .i64 ((n : Int) + 1 - (p : Int))]).run Tryd.prog w =
      .ok (.slice (some ⟨w.heap.size, 0, none⟩) (n + 1) G) ((w.alloc (.cells ROW 55)).drew) := fun ty => by
    have h := Lib.run_append_grow_zeros (P := Tryd.prog) w 23 3 ty 55 i0 z .i64 .i64 Tryd.underlying23 Tryd.underlying3 hi0 (by rw [hz0, hzd]) (some ⟨g, 0, none⟩) p cap (labC (zs.take p)) hold (n + 1 - p) (by omega) (by rw [hz1]; omega) (by omega) (by omega) (by rw [hz2]; omega) (by rw [hz2, show p + (n + 1 - p) = n + 1 by omega]; exact growslice_fits hroom (by omega))
    rw [show p + (n + 1 - p) = n + 1 by omega, ← hG, ← hROW] at h
    rw [hkk]
    exact h
  have hRs : ROW.size = G * 2 := by
    rw [hROW]
    simp only [Array.size_append, List.size_toArray, size_zeroCells, hzc, labC_len, List.length_take, hn]
    omega
  have hRt : ROW.toList.take (p * 2) = labC (zs.take p) := by
    have el : (labC (zs.take p)).length = p * 2 := by rw [labC_len, List.length_take]; omega
    rw [hROW, Array.toList_append, Array.toList_append, List.append_assoc, ← el]
    exact List.take_left
  obtain ⟨V, hV⟩ : ∃ V : List Value, V = [.string ⟨x.1.1.toArray⟩, .string ⟨x.1.2.toArray⟩] := ⟨_, rfl⟩
  have hVl : V.length = 2 := by rw [hV]; rfl
  obtain ⟨X1, hX1⟩ : ∃ X1 : Array Value, X1 = (ROW.toList.take (p * 2) ++ V ++ ROW.toList.drop (p * 2 + V.length)).toArray := ⟨_, rfl⟩
  obtain ⟨X2, hX2⟩ : ∃ X2 : Array Value, X2 = (X1.toList.take ((p + 1) * 2) ++ labC (zs.drop p) ++ X1.toList.drop ((p + 1) * 2 + (labC (zs.drop p)).length)).toArray := ⟨_, rfl⟩
  have hRl : ROW.toList.length = G * 2 := by simpa using hRs
  have hX1s : X1.size = G * 2 := by
    rw [hX1]
    simp only [List.size_toArray, List.length_append, List.length_take, List.length_drop, hRl, hVl]
    omega
  obtain ⟨W1, hW1⟩ : ∃ W1, W1 = (w.alloc (.cells ROW 55)).drew := ⟨_, rfl⟩
  have hN1 : W1.heap[w.heap.size]? = some (.cells ROW 55 (0, 0)) := by rw [hW1]; exact heap_alloc_new w _
  have hO1 : ∀ k, k < w.heap.size → W1.heap[k]? = w.heap[k]? := fun k hk => by rw [hW1]; exact Below.heap_alloc w _ k hk
  have hcpA : ∀ ty dc, (Builtin.copy_ #[23, 22] ty #[.slice (some ⟨w.heap.size, p * 2, none⟩) (n + 1 - p) dc, .slice (some ⟨vb, 0, none⟩) 1 1]).run Tryd.prog W1 = .ok (goInt 1) (W1.setRow w.heap.size X1) := fun ty dc => by
    rw [hX1]
    refine run_copy_row2 W1 _ _ ty _ w.heap.size (p * 2) (n + 1 - p) dc ⟨vb, 0, none⟩ 1 1 1 ROW 55 V Tryd.underlying23 size2 hN1 (by simp only [Nat.min_def]; split <;> omega) hVl ?_ (by rw [hVl, hRs]; omega) ?_
    · intro j u hj
      rw [hV] at hj
      rw [Addr.add_lit]
      refine blk_cell (W := W1) (B := vb) (t := 55) ((hO1 vb hvw).trans hx) ?_
      rcases j with _ | _ | j
      · simpa using hj
      · simpa using hj
      · simp at hj
    · intro u hu; rw [hV] at hu; simp at hu; rcases hu with rfl | rfl <;> rfl
  obtain ⟨W2, hW2⟩ : ∃ W2, W2 = W1.setRow w.heap.size X1 := ⟨_, rfl⟩
  rw [← hW2] at hcpA
  have hN2 : W2.heap[w.heap.size]? = some (.cells X1 55 (0, 0)) := by rw [hW2]; exact setRow_heap W1 _ ROW _ _ _ hN1
  have hO2 : ∀ k, k < w.heap.size → W2.heap[k]? = w.heap[k]? := fun k hk => by rw [hW2]; exact (setRow_other W1 _ k _ (by omega)).trans (hO1 k hk)
  have hcpB : ∀ ty dc sc, (Builtin.copy_ #[23, 23] ty #[.slice (some ⟨w.heap.size, (p + 1) * 2, none⟩) (n - p) dc, .slice (some ⟨g, p * 2, none⟩) (n - p) sc]).run Tryd.prog W2.drew = .ok (goInt ((n - p : Nat) : Int)) (W2.drew.setRow w.heap.size X2) := fun ty dc sc => by
    rw [hX2]
    refine run_copy_row2 W2.drew _ _ ty _ w.heap.size ((p + 1) * 2) (n - p) dc ⟨g, p * 2, none⟩ (n - p) sc (n - p) X1 _ (labC (zs.drop p)) Tryd.underlying23 size2 hN2 (by simp only [Nat.min_def]; split <;> omega) hdl ?_ (by rw [hdl, hX1s]; omega) (labC_one _)
    intro j u hj
    rw [labC_drop, List.getElem?_drop] at hj
    rw [Addr.add_lit]
    have hc := hcell _ u hj
    have e : W2.cell? ⟨g, p * 2 + j, none⟩ = w.cell? ⟨g, p * 2 + j, none⟩ := World.cell?_of_block (hO2 g hgw)
    exact e.trans hc
  have hPost : InsPost base (zs.take p ++ x :: zs.drop p) w (.returned (.slice (some ⟨w.heap.size, 0, none⟩) (n + 1) G)) (W2.drew.setRow w.heap.size X2) := by
    have hxl : (zs.take p ++ x :: zs.drop p).length = n + 1 := by simp; omega
    have hB1 : Below base w W1 := by rw [hW1]; exact ((Below.refl base w).alloc hb _).drew
    have hB2 : Below base w W2 := by rw [hW2]; exact hB1.trans (setRow_below X1 hb)
    refine ⟨_, rfl, ?_, hB2.drew.trans (setRow_below X2 hb)⟩
    rw [hxl]
    refine ⟨by rw [labC_len, hxl], .inr ⟨w.heap.size, G, X2, rfl, hb, setRow_heap _ _ X1 _ _ _ (show W2.drew.heap[w.heap.size]? = _ from hN2), hGn, by unfold maxLen; omega, ?_, ?_⟩⟩
    · rw [hX2]
      simp only [List.size_toArray, List.length_append, List.length_take, List.length_drop, hdl, Array.length_toList, hX1s]
      omega
    · have e1 : X1.toList = labC (zs.take p) ++ V ++ ROW.toList.drop (p * 2 + V.length) := by rw [hX1, hRt]
      have e2 : X2.toList = X1.toList.take ((p + 1) * 2) ++ labC (zs.drop p) ++ X1.toList.drop ((p + 1) * 2 + (labC (zs.drop p)).length) := by rw [hX2]
      have e3 : X1.toList.take ((p + 1) * 2) = labC (zs.take p) ++ V := by
        have el : (labC (zs.take p) ++ V).length = (p + 1) * 2 := by rw [List.length_append, hVl, labC_len, List.length_take]; omega
        rw [e1, ← el]; exact List.take_left
      rw [e2, e3, labC_app, labC_cons, hV]
      have eL : (labC (zs.take p) ++ (.string ⟨x.1.1.toArray⟩ :: .string ⟨x.1.2.toArray⟩ :: labC (zs.drop p))).length = (n + 1) * 2 := by
        simp only [List.length_append, List.length_cons, labC_len, List.length_take, List.length_drop, hn]; omega
      have e5 : ∀ R : List Value, labC (zs.take p) ++ [.string ⟨x.1.1.toArray⟩, .string ⟨x.1.2.toArray⟩] ++ labC (zs.drop p) ++ R = (labC (zs.take p) ++ (.string ⟨x.1.1.toArray⟩ :: .string ⟨x.1.2.toArray⟩ :: labC (zs.drop p))) ++ R := fun R => by simp
      rw [← eL, e5]
      exact List.take_left
  rw [← hW1] at hrz
  have RZ := Lib.hid hrz
  have A1 := Lib.hid hcpA
  have A2 := Lib.hid hcpB
  have HP := Lib.hid hPost
  clear hcpA hcpB hPost hX1 hX2 hV hVl hX1s hRl hRs hRt hrz hN1 hO1 hN2 hO2 hW1 hW2 hROW hzd hzc hkk hG hold hcell htk hcs hgb hx hlen hl hdl hn hi0 hz0 hz1 hz2
  have hz2 : ¬ ((p : Int) = (n : Int)) := by omega
  have hz3 : (cap : Int) < (n : Int) + 1 := by omega
  have hw1 : IntKind.i64.wrap ((p : Int) + 1) = (p : Int) + 1 := by rw [IntKind.wrap_i64]; omega
  have hb1 : (0 : Int) ≤ (p : Int) + 1 := by omega
  have hin : p ≤ n := by omega
  have htn : ((p : Int) + 1).toNat = p + 1 := by omega
  have hb3 : (p : Int) ≤ (n : Int) := by omega
  have hGi : ¬ (G = p) := by omega
  have hGim : ¬ (G = p + 1) := by omega
  have hci : ¬ (cap = p) := by omega
  go_enter Tryd.func50, Tryd.ntmps50
  go_wp2_with (at_builtin; refine Lib.wpList_append_run _ rfl _ _ _ _ rfl _ _ rfl rfl _ _ (RZ.out _) ?_)
  simp only [A1.out, Result.andThen_ok]
  go_wp2_with fail
  go_region_law (refine step_copy_runI rfl _ _ 23 23 rfl (.slice (some ⟨w.heap.size, (p + 1) * 2, none⟩) (n - p) (G - (p + 1))) (.slice (some ⟨g, p * 2, none⟩) (n - p) (cap - p)) (by simp [Act.eval, Act.put]) (by simp [Act.eval, Act.put]) (A2.out 3 (G - (p + 1)) (cap - p)) ?_)
  go_wp2
  go_ret
  exact HP.out
end Go.Proofs.YtedhbhhpcbjikaaDoor
