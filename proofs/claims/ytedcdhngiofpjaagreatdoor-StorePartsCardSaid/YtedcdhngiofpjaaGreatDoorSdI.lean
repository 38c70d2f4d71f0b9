/- store: slices.Insert of one entry. -/
import Derived.Test.YtedcdhngiofpjaaGreatDoorSeI
import Derived.Shelf.Spec.SlicesInsertGrow
import Derived.Laws.CopyRow
import Derived.Deep.RegionLaw
import Derived.Maps.AppendAt
import Derived.Lib.SliceRun
namespace Go.Proofs.YtedcdhngiofpjaaGreatDoor
open Go Go.Proofs Go.RowKit Go.Shelf
set_option maxRecDepth 100000
def InsIPost (xs : List EnI) (g : Nat) (w : World) (e : Ending) (w' : World) : Prop := ∃ E c, e = .returned (.slice (some ⟨E, 0, none⟩) xs.length c) ∧ RwI w' E c xs ∧ w.grownBy w' (some g) ∧ (E = g ∨ E = w.heap.size)
/-- at the end: by append -/
theorem insertI_end (g cap : Nat) (zs : List EnI) (x : EnI) (vb : Nat) (w : World) (hz : zs.length ≤ 100) (hv : RwI w g cap zs)
    (hx : Blk w vb #[.int .i64 x.1, .pointer (some ⟨x.2, 0, none⟩)] 152) :
    Calls Tryz.prog 118 #[.slice (some ⟨g, 0, none⟩) zs.length cap, .int .i64 (zs.length : Int), .slice (some ⟨vb, 0, none⟩) 1 1] w (InsIPost (zs ++ [x]) g w) := by
  obtain ⟨i0, hi, hz0, hz1, hz2⟩ := info_parts info_enI
  obtain ⟨v', w', hrun, hown, hg, _, hat⟩ := run_append_own_at (P := Tryz.prog) (w := w) 0 TLI TLI TEI i0 _ 2 16 Tryz.underlying153 hi hz0 hz1 hz2 rfl (by decide) (.slice (some ⟨g, 0, none⟩) zs.length cap) zs.length (entCI zs) hv.own ⟨vb, 0, none⟩ 1 1 [.int .i64 x.1, .pointer (some ⟨x.2, 0, none⟩)] rfl
    (fun j u hj => by
      rw [Addr.add_lit]
      refine blk_cell hx ?_
      rcases j with _ | _ | j
      · simpa using hj
      · simpa using hj
      · simp at hj) (fun u hu => by simp at hu; rcases hu with rfl | rfl <;> rfl) (by unfold maxLen; omega) (by omega) (Nat.zero_le _)
  have hP : InsIPost (zs ++ [x]) g w (.returned v') w' := by
    obtain ⟨_, ⟨_, h0⟩ | ⟨E, c, cur, rfl, _, r1, r2, r3, r4, r5⟩⟩ := hown
    · omega
    · refine ⟨E, c, by simp, ⟨cur, r1, by simpa using r2, r3, r4, by rw [entCI_snoc, ← r5]; simp⟩, hg, ?_⟩
      rcases hat with q | q
      · exact .inl (by simpa [Value.ownBlock] using q)
      · exact .inr (by simpa [Value.ownBlock] using q)
  have hrun2 : ∀ ty, (Builtin.append_ #[TLI, TLI] ty #[.slice (some ⟨g, 0, none⟩) zs.length cap, .slice (some ⟨vb, 0, none⟩) 1 1]).run Tryz.prog w = .ok v' w' := fun ty => hrun
  have HR := Lib.hid hrun2
  have HP := Lib.hid hP
  obtain ⟨cur, hgb, hnc, hcm, hcs, htk⟩ := hv
  unfold maxLen at hcm
  clear hrun hrun2 hP hown hg hat hz0 hz1 hz2 hi hgb hcs htk
  go_enter Tryz.func118, Tryz.ntmps118
  go_wp2_with (at_builtin; refine Lib.wpList_append_run _ rfl _ _ _ _ rfl _ _ rfl rfl _ _ (HR.out _) ?_)
  all_goals (go_ret; exact HP.out)
set_option maxHeartbeats 4000000 in
theorem insertI_shift (g cap : Nat) (zs : List EnI) (p : Nat) (x : EnI) (vb : Nat) (w : World) (hz : zs.length ≤ 100) (hp : p < zs.length) (hroom : zs.length + 1 ≤ cap) (hv : RwI w g cap zs)
    (hx : Blk w vb #[.int .i64 x.1, .pointer (some ⟨x.2, 0, none⟩)] 152) (hne : vb ≠ g) :
    Calls Tryz.prog 118 #[.slice (some ⟨g, 0, none⟩) zs.length cap, .int .i64 (p : Int), .slice (some ⟨vb, 0, none⟩) 1 1] w (InsIPost (zs.take p ++ x :: zs.drop p) g w) := by
  obtain ⟨cur, hgb, hnc, hcm, hcs, htk⟩ := hv
  unfold maxLen at hcm
  generalize hn : zs.length = n at *
  have hl := entCI_len zs
  rw [hn] at hl
  have hcl : cur.toList.length = cap * 2 := by simpa using hcs
  -- the two copies
  have hdl : (entCI (zs.drop p)).length = (n - p) * 2 := by rw [entCI_len, List.length_drop, hn]
  obtain ⟨X1, hX1⟩ : ∃ X1 : Array Value, X1 = (cur.toList.take ((p + 1) * 2) ++ entCI (zs.drop p) ++ cur.toList.drop ((p + 1) * 2 + (entCI (zs.drop p)).length)).toArray := ⟨_, rfl⟩
  obtain ⟨V, hV⟩ : ∃ V : List Value, V = [.int .i64 x.1, .pointer (some ⟨x.2, 0, none⟩)] := ⟨_, rfl⟩
  have hVl : V.length = 2 := by rw [hV]; rfl
  obtain ⟨X2, hX2⟩ : ∃ X2 : Array Value, X2 = (X1.toList.take (p * 2) ++ V ++ X1.toList.drop (p * 2 + V.length)).toArray := ⟨_, rfl⟩
  have hX1s : X1.size = cap * 2 := by
    rw [hX1]
    simp only [List.size_toArray, List.length_append, List.length_take, List.length_drop, hcl, hdl]
    omega
  have hcpA : ∀ ty dc sc, (Builtin.copy_ #[153, 153] ty #[.slice (some ⟨g, (p + 1) * 2, none⟩) (n - p) dc, .slice (some ⟨g, p * 2, none⟩) (n + 1 - p) sc]).run Tryz.prog w.drew = .ok (goInt ((n - p : Nat) : Int)) (w.drew.setRow g X1) := fun ty dc sc => by
    rw [hX1]
    refine run_copy_row2 w.drew _ _ ty _ g ((p + 1) * 2) (n - p) dc ⟨g, p * 2, none⟩ (n + 1 - p) sc (n - p) cur _ (entCI (zs.drop p)) Tryz.underlying153 size2I hgb (by simp only [Nat.min_def]; split <;> omega) hdl ?_ (by rw [hdl, hcs]; omega) (entCI_one _)
    intro j u hj
    rw [entCI_drop, List.getElem?_drop, ← htk, List.getElem?_take] at hj
    split at hj
    · rw [Addr.add_lit]
      refine blk_cell (W := w) (B := g) (t := 152) hgb ?_
      simpa using hj
    · cases hj
  have hcpB : ∀ ty dc, (Builtin.copy_ #[153, 153] ty #[.slice (some ⟨g, p * 2, none⟩) (n + 1 - p) dc, .slice (some ⟨vb, 0, none⟩) 1 1]).run Tryz.prog (w.drew.setRow g X1) = .ok (goInt 1) ((w.drew.setRow g X1).setRow g X2) := fun ty dc => by
    rw [hX2]
    refine run_copy_row2 (w.drew.setRow g X1) _ _ ty _ g (p * 2) (n + 1 - p) dc ⟨vb, 0, none⟩ 1 1 1 X1 152 V Tryz.underlying153 size2I (setRow_heap w.drew g cur _ _ _ hgb) (by simp only [Nat.min_def]; split <;> omega) hVl ?_ (by rw [hVl, hX1s]; omega) ?_
    · intro j u hj
      rw [hV] at hj
      rw [Addr.add_lit]
      refine blk_cell (W := w.drew.setRow g X1) (B := vb) (t := 152) ((setRow_other w.drew g vb _ hne).trans hx) ?_
      rcases j with _ | _ | j
      · simpa using hj
      · simpa using hj
      · simp at hj
    · intro u hu; rw [hV] at hu; simp at hu; rcases hu with rfl | rfl <;> rfl
  have hov : ∀ lb cb, (callFunc 144 #[.slice (some ⟨vb, 0, none⟩) 1 1, .slice (some ⟨g, (p + 1) * 2, none⟩) lb cb]).run Tryz.prog w = .ok (.value (.bool false)) w := fun lb cb => by
    rw [run_callFunc_extern Tryz.func144 (by kernel_rfl) (by kernel_rfl) (by kernel_rfl) (e := Extern.SlicesOverlaps.overlaps #[153, 153] #[4]) (by kernel_rfl),
      Lib.run_overlaps_apart w 153 4 152 Tryz.underlying153 2 (fun _ => by kernel_rfl) ⟨vb, 0, none⟩ ⟨g, (p + 1) * 2, none⟩ 1 1 lb cb hne 152 152 2 (cap * 2) (by simp [World.shape?, show w.heap[vb]? = _ from hx]) (by simp [World.shape?, hgb, hcs]) (by omega) (by simp [World.frozen?, show w.heap[vb]? = _ from hx]) (by simp [World.frozen?, show w.heap[vb]? = _ from hx])]
    rfl
  have hgd : w.drew.heap[g]? = some (.cells cur 152 (0, 0)) := hgb
  have hPost : InsIPost (zs.take p ++ x :: zs.drop p) g w (.returned (.slice (some ⟨g, 0, none⟩) (n + 1) cap)) ((w.drew.setRow g X1).setRow g X2) := by
    have hxl : (zs.take p ++ x :: zs.drop p).length = n + 1 := by simp; omega
    refine ⟨g, cap, by rw [hxl], ?_, ⟨rfl, rfl, rfl, by rw [setRow_size, setRow_size]; exact Nat.le_refl _, fun k _ hk => (setRow_other _ g k _ (fun e => hk (by rw [e]))).trans ((setRow_other _ g k _ (fun e => hk (by rw [e]))).trans rfl)⟩, .inl rfl⟩
    unfold RwI
    rw [hxl]
    refine ⟨X2, setRow_heap _ g X1 _ _ _ (setRow_heap _ g cur _ _ _ hgd), hroom, by unfold maxLen; omega, ?_, ?_⟩
    · rw [hX2]
      simp only [List.size_toArray, List.length_append, List.length_take, List.length_drop, hVl, Array.length_toList, hX1s]
      omega
    · have e1 : X1.toList = cur.toList.take ((p + 1) * 2) ++ entCI (zs.drop p) ++ cur.toList.drop ((p + 1) * 2 + (entCI (zs.drop p)).length) := by rw [hX1]
      have e2 : X2.toList = X1.toList.take (p * 2) ++ V ++ X1.toList.drop (p * 2 + V.length) := by rw [hX2]
      have e3 : X1.toList.take (p * 2) = entCI (zs.take p) := by
        rw [e1, List.append_assoc, List.take_append_of_le_length (by rw [List.length_take, hcl]; omega), List.take_take, entCI_take, ← htk, List.take_take]
        congr 1; omega
      have e4 : X1.toList.drop (p * 2 + V.length) = entCI (zs.drop p) ++ cur.toList.drop ((p + 1) * 2 + (entCI (zs.drop p)).length) := by
        have el : (cur.toList.take ((p + 1) * 2)).length = p * 2 + V.length := by rw [List.length_take, hcl, hVl]; omega
        rw [e1, List.append_assoc, ← el, List.drop_left]
      rw [e2, e3, e4, entCI_app, entCI_cons, hV]
      have eL : (entCI (zs.take p) ++ (.int .i64 x.1 :: .pointer (some ⟨x.2, 0, none⟩) :: entCI (zs.drop p))).length = (n + 1) * 2 := by
        simp only [List.length_append, List.length_cons, entCI_len, List.length_take, List.length_drop, hn]; omega
      rw [← eL]
      have e5 : ∀ R : List Value, entCI (zs.take p) ++ [.int .i64 x.1, .pointer (some ⟨x.2, 0, none⟩)] ++ (entCI (zs.drop p) ++ R) = (entCI (zs.take p) ++ (.int .i64 x.1 :: .pointer (some ⟨x.2, 0, none⟩) :: entCI (zs.drop p))) ++ R := fun R => by simp
      rw [e5]
      exact List.take_left
  have A1 := Lib.hid hcpA
  have A2 := Lib.hid hcpB
  have HP := Lib.hid hPost
  clear hcpA hcpB hPost hX1 hX2 hV hVl hX1s hcl hgd htk hcs hgb hx hl hdl hn
  have hz2 : ¬ ((p : Int) = (n : Int)) := by omega
  have hw1 : IntKind.i64.wrap ((p : Int) + 1) = (p : Int) + 1 := by rw [IntKind.wrap_i64]; omega
  have hb1 : (0 : Int) ≤ (p : Int) + 1 := by omega
  have hin : p ≤ n := by omega
  have htn : ((p : Int) + 1).toNat = p + 1 := by omega
  have hb2 : ¬ (cap = p + 1) := by omega
  have hb3 : (p : Int) ≤ (n : Int) + 1 := by omega
  have hb4 : ¬ (cap = p) := by omega
  go_enter Tryz.func118, Tryz.ntmps118
  go_wp2_with (simp only [hov])
  go_region_law (refine step_copy_runI rfl _ _ 153 153 rfl (.slice (some ⟨g, (p + 1) * 2, none⟩) (n - p) (cap - (p + 1))) (.slice (some ⟨g, p * 2, none⟩) (n + 1 - p) (cap - p)) (by simp [Act.eval, Act.put]) (by simp [Act.eval, Act.put]) (A1.out 3 (cap - (p + 1)) (cap - p)) ?_)
  go_wp2_with fail
  simp only [A2.out, Result.andThen_ok]
  go_wp2
  go_ret
  exact HP.out
set_option maxHeartbeats 4000000 in
theorem insertI_grow (g cap : Nat) (zs : List EnI) (p : Nat) (x : EnI) (vb : Nat) (w : World) (hz : zs.length ≤ 100) (hp : p < zs.length) (hroom : cap < zs.length + 1) (hv : RwI w g cap zs)
    (hx : Blk w vb #[.int .i64 x.1, .pointer (some ⟨x.2, 0, none⟩)] 152) :
    Calls Tryz.prog 118 #[.slice (some ⟨g, 0, none⟩) zs.length cap, .int .i64 (p : Int), .slice (some ⟨vb, 0, none⟩) 1 1] w (InsIPost (zs.take p ++ x :: zs.drop p) g w) := by
  obtain ⟨i0, hi0, hz0, hz1, hz2⟩ := info_parts info_enI
  obtain ⟨cur, hgb, hnc, hcm, hcs, htk⟩ := hv
  unfold maxLen at hcm
  generalize hn : zs.length = n at *
  have hl := entCI_len zs
  rw [hn] at hl
  have hgw : g < w.heap.size := (Array.getElem?_eq_some_iff.1 hgb).1
  have hvw : vb < w.heap.size := (Array.getElem?_eq_some_iff.1 hx).1
  have hdl : (entCI (zs.drop p)).length = (n - p) * 2 := by rw [entCI_len, List.length_drop, hn]
  have hcell : ∀ j u, (entCI zs)[j]? = some u → w.cell? ⟨g, j, none⟩ = some u := fun j u hj => by
    rw [← htk, List.getElem?_take] at hj
    split at hj
    · exact blk_cell (W := w) (B := g) (t := 152) hgb (by simpa using hj)
    · cases hj
  have hold : (Builtin.firstCells i0.size p (.slice (some ⟨g, 0, none⟩) p cap)).run Tryz.prog w.drew = .ok (entCI (zs.take p)).toArray w.drew := by
    rw [hz1]
    refine run_firstCells_some w.drew 2 p ⟨g, 0, none⟩ p cap (entCI (zs.take p)) (by rw [entCI_len, List.length_take]; omega) (fun j u hj => ?_)
    rw [entCI_take, List.getElem?_take] at hj
    split at hj
    · rw [Addr.add_lit]
      simpa using hcell j u hj
    · cases hj
  obtain ⟨G, hG⟩ : ∃ G, G = grownCap w (n + 1) cap 152 := ⟨_, rfl⟩
  have hGn : n + 1 ≤ G := by rw [hG]; exact grownCap_ge w _ _ _
  have hGm : G ≤ 9223372036854775807 := by
    have := grownCap_le_maxLen w (n + 1) cap 152 (by unfold maxLen; omega)
    rw [← hG] at this; unfold maxLen at this; omega
  obtain ⟨z, hzd⟩ : ∃ z : Value, z = .agg #[.int .i64 0, .pointer none] := ⟨_, rfl⟩
  have hzc : z.cells.size = 2 := by rw [hzd]; rfl
  obtain ⟨ROW, hROW⟩ : ∃ ROW : Array Value, ROW = (entCI (zs.take p)).toArray ++ Builtin.zeroCells z.cells (n + 1 - p) ++ Builtin.zeroCells z.cells (G - (n + 1)) := ⟨_, rfl⟩
  have hkk : (n : Int) + 1 - (p : Int) = ((n + 1 - p : Nat) : Int) := by omega
  have hrz : ∀ ty, (Builtin.append_ #[153, 3] ty #[.slice (some ⟨g, 0, none⟩) p cap, .int .i64 ((n : Int) + 1 - (p : Int))]).run Tryz.prog w =
      .ok (.slice (some ⟨w.heap.size, 0, none⟩) (n + 1) G) ((w.alloc (.cells ROW 152)).drew) := fun ty => by
    have h := Lib.run_append_grow_zeros (P := Tryz.prog) w 153 3 ty 152 i0 z .i64 .i64 Tryz.underlying153 Tryz.underlying3 hi0 (by rw [hz0, hzd]) (some ⟨g, 0, none⟩) p cap (entCI (zs.take p)) hold (n + 1 - p) (by omega) (by rw [hz1]; omega) (by omega) (by omega) (by rw [hz2]; omega) (by rw [hz2, show p + (n + 1 - p) = n + 1 by omega]; exact growslice_fits hroom (by omega))
    rw [show p + (n + 1 - p) = n + 1 by omega, ← hG, ← hROW] at h
    rw [hkk]
    exact h
  have hRs : ROW.size = G * 2 := by
    rw [hROW]
    simp only [Array.size_append, List.size_toArray, size_zeroCells, hzc, entCI_len, List.length_take, hn]
    omega
  have hRt : ROW.toList.take (p * 2) = entCI (zs.take p) := by
    have el : (entCI (zs.take p)).length = p * 2 := by rw [entCI_len, List.length_take]; omega
    rw [hROW, Array.toList_append, Array.toList_append, List.append_assoc, ← el]
    exact List.take_left
  obtain ⟨V, hV⟩ : ∃ V : List Value, V = [.int .i64 x.1, .pointer (some ⟨x.2, 0, none⟩)] := ⟨_, rfl⟩
  have hVl : V.length = 2 := by rw [hV]; rfl
  obtain ⟨X1, hX1⟩ : ∃ X1 : Array Value, X1 = (ROW.toList.take (p * 2) ++ V ++ ROW.toList.drop (p * 2 + V.length)).toArray := ⟨_, rfl⟩
  obtain ⟨X2, hX2⟩ : ∃ X2 : Array Value, X2 = (X1.toList.take ((p + 1) * 2) ++ entCI (zs.drop p) ++ X1.toList.drop ((p + 1) * 2 + (entCI (zs.drop p)).length)).toArray := ⟨_, rfl⟩
  have hRl : ROW.toList.length = G * 2 := by simpa using hRs
  have hX1s : X1.size = G * 2 := by
    rw [hX1]
    simp only [List.size_toArray, List.length_append, List.length_take, List.length_drop, hRl, hVl]
    omega
  obtain ⟨W1, hW1⟩ : ∃ W1, W1 = (w.alloc (.cells ROW 152)).drew := ⟨_, rfl⟩
  have hN1 : W1.heap[w.heap.size]? = some (.cells ROW 152 (0, 0)) := by rw [hW1]; exact heap_alloc_new w _
  have hO1 : ∀ k, k < w.heap.size → W1.heap[k]? = w.heap[k]? := fun k hk => by rw [hW1]; exact Below.heap_alloc w _ k hk
  have hcpA : ∀ ty dc, (Builtin.copy_ #[153, 153] ty #[.slice (some ⟨w.heap.size, p * 2, none⟩) (n + 1 - p) dc, .slice (some ⟨vb, 0, none⟩) 1 1]).run Tryz.prog W1 = .ok (goInt 1) (W1.setRow w.heap.size X1) := fun ty dc => by
    rw [hX1]
    refine run_copy_row2 W1 _ _ ty _ w.heap.size (p * 2) (n + 1 - p) dc ⟨vb, 0, none⟩ 1 1 1 ROW 152 V Tryz.underlying153 size2I hN1 (by simp only [Nat.min_def]; split <;> omega) hVl ?_ (by rw [hVl, hRs]; omega) ?_
    · intro j u hj
      rw [hV] at hj
      rw [Addr.add_lit]
      refine blk_cell (W := W1) (B := vb) (t := 152) ((hO1 vb hvw).trans hx) ?_
      rcases j with _ | _ | j
      · simpa using hj
      · simpa using hj
      · simp at hj
    · intro u hu; rw [hV] at hu; simp at hu; rcases hu with rfl | rfl <;> rfl
  obtain ⟨W2, hW2⟩ : ∃ W2, W2 = W1.setRow w.heap.size X1 := ⟨_, rfl⟩
  rw [← hW2] at hcpA
  have hN2 : W2.heap[w.heap.size]? = some (.cells X1 152 (0, 0)) := by rw [hW2]; exact setRow_heap W1 _ ROW _ _ _ hN1
  have hO2 : ∀ k, k < w.heap.size → W2.heap[k]? = w.heap[k]? := fun k hk => by rw [hW2]; exact (setRow_other W1 _ k _ (by omega)).trans (hO1 k hk)
  have hcpB : ∀ ty dc sc, (Builtin.copy_ #[153, 153] ty #[.slice (some ⟨w.heap.size, (p + 1) * 2, none⟩) (n - p) dc, .slice (some ⟨g, p * 2, none⟩) (n - p) sc]).run Tryz.prog W2.drew = .ok (goInt ((n - p : Nat) : Int)) (W2.drew.setRow w.heap.size X2) := fun ty dc sc => by
    rw [hX2]
    refine run_copy_row2 W2.drew _ _ ty _ w.heap.size ((p + 1) * 2) (n - p) dc ⟨g, p * 2, none⟩ (n - p) sc (n - p) X1 _ (entCI (zs.drop p)) Tryz.underlying153 size2I hN2 (by simp only [Nat.min_def]; split <;> omega) hdl ?_ (by rw [hdl, hX1s]; omega) (entCI_one _)
    intro j u hj
    rw [entCI_drop, List.getElem?_drop] at hj
    rw [Addr.add_lit]
    have hc := hcell _ u hj
    have e : W2.cell? ⟨g, p * 2 + j, none⟩ = w.cell? ⟨g, p * 2 + j, none⟩ := World.cell?_of_block (hO2 g hgw)
    exact e.trans hc
  have hPost : InsIPost (zs.take p ++ x :: zs.drop p) g w (.returned (.slice (some ⟨w.heap.size, 0, none⟩) (n + 1) G)) (W2.drew.setRow w.heap.size X2) := by
    have hxl : (zs.take p ++ x :: zs.drop p).length = n + 1 := by simp; omega
    have hsz : w.heap.size ≤ W1.heap.size := by rw [hW1]; simp [World.drew]
    refine ⟨w.heap.size, G, by rw [hxl], ?_, ⟨by rw [hW2, hW1]; rfl, by rw [hW2, hW1]; rfl, by rw [hW2, hW1]; rfl, by rw [hW2]; simpa [World.drew] using hsz, fun k hk _ => (setRow_other _ w.heap.size k _ (by omega)).trans (hO2 k hk)⟩, .inr rfl⟩
    unfold RwI
    rw [hxl]
    refine ⟨X2, setRow_heap _ _ X1 _ _ _ (show W2.drew.heap[w.heap.size]? = _ from hN2), hGn, by unfold maxLen; omega, ?_, ?_⟩
    · rw [hX2]
      simp only [List.size_toArray, List.length_append, List.length_take, List.length_drop, hdl, Array.length_toList, hX1s]
      omega
    · have e1 : X1.toList = entCI (zs.take p) ++ V ++ ROW.toList.drop (p * 2 + V.length) := by rw [hX1, hRt]
      have e2 : X2.toList = X1.toList.take ((p + 1) * 2) ++ entCI (zs.drop p) ++ X1.toList.drop ((p + 1) * 2 + (entCI (zs.drop p)).length) := by rw [hX2]
      have e3 : X1.toList.take ((p + 1) * 2) = entCI (zs.take p) ++ V := by
        have el : (entCI (zs.take p) ++ V).length = (p + 1) * 2 := by rw [List.length_append, hVl, entCI_len, List.length_take]; omega
        rw [e1, ← el]; exact List.take_left
      rw [e2, e3, entCI_app, entCI_cons, hV]
      have eL : (entCI (zs.take p) ++ (.int .i64 x.1 :: .pointer (some ⟨x.2, 0, none⟩) :: entCI (zs.drop p))).length = (n + 1) * 2 := by
        simp only [List.length_append, List.length_cons, entCI_len, List.length_take, List.length_drop, hn]; omega
      have e5 : ∀ R : List Value, entCI (zs.take p) ++ [.int .i64 x.1, .pointer (some ⟨x.2, 0, none⟩)] ++ entCI (zs.drop p) ++ R = (entCI (zs.take p) ++ (.int .i64 x.1 :: .pointer (some ⟨x.2, 0, none⟩) :: entCI (zs.drop p))) ++ R := fun R => by simp
      rw [← eL, e5]
      exact List.take_left
  rw [← hW1] at hrz
  have RZ := Lib.hid hrz
  have A1 := Lib.hid hcpA
  have A2 := Lib.hid hcpB
  have HP := Lib.hid hPost
  clear hcpA hcpB hPost hX1 hX2 hV hVl hX1s hRl hRs hRt hrz hN1 hO1 hN2 hO2 hW1 hW2 hROW hzd hzc hkk hG hold hcell htk hcs hgb hx hl hdl hn hi0 hz0 hz1 hz2
  have hz2 : ¬ ((p : Int) = (n : Int)) := by omega
  have hz3 : (cap : Int) < (n : Int) + 1 := by omega
  have hw1 : IntKind.i64.wrap ((p : Int) + 1) = (p : Int) + 1 := by rw [IntKind.wrap_i64]; omega
  have hb1 : (0 : Int) ≤ (p : Int) + 1 := by omega
  have hin : p ≤ n := by omega
  have htn : ((p : Int) + 1).toNat = p + 1 := by omega
  have hb3 : (p : Int) ≤ (n : Int) := by omega
  have hGi : ¬ (G = p) := by omega
  have hGim : ¬ (G = p + 1) := by omega
  have hci : ¬ (cap = p) := by omega
  go_enter Tryz.func118, Tryz.ntmps118
  go_wp2_with (at_builtin; refine Lib.wpList_append_run _ rfl _ _ _ _ rfl _ _ rfl rfl _ _ (RZ.out _) ?_)
  simp only [A1.out, Result.andThen_ok]
  go_wp2_with fail
  go_region_law (refine step_copy_runI rfl _ _ 153 153 rfl (.slice (some ⟨w.heap.size, (p + 1) * 2, none⟩) (n - p) (G - (p + 1))) (.slice (some ⟨g, p * 2, none⟩) (n - p) (cap - p)) (by simp [Act.eval, Act.put]) (by simp [Act.eval, Act.put]) (A2.out 3 (G - (p + 1)) (cap - p)) ?_)
  go_wp2
  go_ret
  exact HP.out
theorem insertI_any (g cap : Nat) (zs : List EnI) (p : Nat) (x : EnI) (vb : Nat) (w : World) (hz : zs.length ≤ 100) (hp : p ≤ zs.length) (hv : RwI w g cap zs)
    (hx : Blk w vb #[.int .i64 x.1, .pointer (some ⟨x.2, 0, none⟩)] 152) (hne : vb ≠ g) :
    Calls Tryz.prog 118 #[.slice (some ⟨g, 0, none⟩) zs.length cap, .int .i64 (p : Int), .slice (some ⟨vb, 0, none⟩) 1 1] w (InsIPost (zs.take p ++ x :: zs.drop p) g w) := by
  rcases Nat.lt_or_ge p zs.length with h | h
  · by_cases hr : zs.length + 1 ≤ cap
    · exact insertI_shift g cap zs p x vb w hz h hr hv hx hne
    · exact insertI_grow g cap zs p x vb w hz h (by omega) hv hx
  · obtain rfl : p = zs.length := by omega
    rw [List.take_length, List.drop_length]
    exact insertI_end g cap zs x vb w hz hv hx
end Go.Proofs.YtedcdhngiofpjaaGreatDoor
/- store: slices.Delete of one entry; of the one row. -/
namespace Go.Proofs.YtedcdhngiofpjaaGreatDoor
open Go Go.Proofs Go.RowKit Go.Shelf
set_option maxRecDepth 100000
def DelIPost (xs : List EnI) (g cap : Nat) (w : World) (e : Ending) (w' : World) : Prop := e = .returned (.slice (some ⟨g, 0, none⟩) xs.length cap) ∧ RwI w' g cap xs ∧ Turn [g] w w'
theorem zero_enI : ∀ w, (zeroValue TEI).run Tryz.prog w = .ok (.agg #[.int .i64 0, .pointer none]) w := fun w => by kernel_rfl
/-- what both copies come to -/
theorem delI_world (g cap n : Nat) (zs : List EnI) (p : Nat) (w : World) (hn : zs.length = n + 1) (hp : p ≤ n) (hv : RwI w g cap zs) :
    ∃ cur1, (w.drew.setCells g (0 + p * 2) (entCI (zs.drop (p + 1)))).heap[g]? = some (.cells cur1 TEI (0, 0)) ∧ cur1.size = cap * 2 ∧
      DelIPost (zs.take p ++ zs.drop (p + 1)) g cap w (.returned (.slice (some ⟨g, 0, none⟩) n cap)) ((w.drew.setCells g (0 + p * 2) (entCI (zs.drop (p + 1)))).setCells g (n * 2) [.int .i64 0, .pointer none]) := by
  obtain ⟨cur, hg, hnc, hcm, hcs, htk⟩ := hv
  have hl : (entCI (zs.drop (p + 1))).length = (n - p) * 2 := by rw [entCI_len, List.length_drop, hn]; omega
  have hg1 := setCells_splice g (entCI (zs.drop (p + 1))) (0 + p * 2) w.drew cur hg (by rw [hl, hcs]; omega)
  have hcl : cur.toList.length = cap * 2 := by simpa using hcs
  obtain ⟨c1, hc1⟩ : ∃ c1 : Array Value, c1 = (cur.toList.take (0 + p * 2) ++ entCI (zs.drop (p + 1)) ++ cur.toList.drop (0 + p * 2 + (entCI (zs.drop (p + 1))).length)).toArray := ⟨_, rfl⟩
  have hs1 : c1.size = cap * 2 := by
    rw [hc1]
    simp only [List.size_toArray, List.length_append, List.length_take, List.length_drop, hcl, hl]
    omega
  rw [← hc1] at hg1
  refine ⟨c1, hg1, hs1, ?_⟩
  have hx : (zs.take p ++ zs.drop (p + 1)).length = n := by rw [List.length_append, List.length_take, List.length_drop, hn]; omega
  have hg2 := setCells_splice g [.int .i64 0, .pointer none] (n * 2) _ c1 hg1 (by rw [hs1]; simp; omega)
  refine ⟨by rw [hx], ⟨_, hg2, by rw [hx]; omega, hcm, ?_, ?_⟩, ?_⟩
  · simp only [List.size_toArray, List.length_append, List.length_take, List.length_drop, Array.length_toList, hs1, List.length_cons, List.length_nil]
    omega
  · rw [hx]
    have e1 : c1.toList.take (n * 2) = entCI (zs.take p) ++ entCI (zs.drop (p + 1)) := by
      have e2 : cur.toList.take (0 + p * 2) = entCI (zs.take p) := by
        rw [entCI_take, ← htk, List.take_take]
        congr 1; omega
      have e3 : (entCI (zs.take p) ++ entCI (zs.drop (p + 1))).length = n * 2 := by rw [List.length_append, hl, entCI_len, List.length_take]; omega
      rw [hc1, e2, ← e3]
      exact List.take_left
    refine (take_mid14 _ _ _ _ (by rw [Array.length_toList, hs1]; omega)).trans ?_
    rw [e1, entCI_app]
  · exact ((Turn.refl [g] w).drew.trans (setCells_turn g _ _ _) (fun _ h => .inl h)).trans (setCells_turn g _ _ _) (fun _ h => .inl h)
set_option maxHeartbeats 4000000 in
theorem deleteI_any (g cap n : Nat) (zs : List EnI) (p : Nat) (w : World) (hz : zs.length ≤ 1000) (hn : zs.length = n + 1) (hp : p ≤ n) (hv : RwI w g cap zs) :
    Calls Tryz.prog 121 #[.slice (some ⟨g, 0, none⟩) (n + 1) cap, .int .i64 (p : Int), .int .i64 ((p : Int) + 1)] w (DelIPost (zs.take p ++ zs.drop (p + 1)) g cap w) := by
  obtain ⟨i0, hi0, hz0, hz1, hz2⟩ := info_parts info_enI
  obtain ⟨cur1, hg1, hs1, hpost⟩ := delI_world g cap n zs p w hn hp hv
  obtain ⟨cur, hg, hnc, hcm, hcs, htk⟩ := hv
  have hl : (entCI (zs.drop (p + 1))).length = (n - p) * 2 := by rw [entCI_len, List.length_drop, hn]; omega
  have hcell : ∀ k, k < cap * 2 → (w.cell? ⟨g, k, none⟩).isSome = true ∧ w.frozen? ⟨g, k, none⟩ = false := fun k hk => by
    refine ⟨?_, by simp [World.frozen?, hg]⟩
    simp only [World.cell?, hg]
    have : k < cur.size := by omega
    simp [this]
  obtain ⟨A, hA, hnews⟩ : ∃ A : Addr, (if cap = p + 1 then some (⟨g, 0, none⟩ : Addr) else some ⟨g, (p + 1) * 2, none⟩) = some A ∧ (∀ j u, (entCI (zs.drop (p + 1)))[j]? = some u → w.drew.cell? (A.add j) = some u) := by
    by_cases h : cap = p + 1
    · refine ⟨_, if_pos h, fun j u hj => ?_⟩
      rw [List.drop_eq_nil_of_le (by omega)] at hj
      simp [entCI] at hj
    · refine ⟨_, if_neg h, fun j u hj => ?_⟩
      rw [Addr.add_lit]
      rw [entCI_drop, List.getElem?_drop, ← htk, List.getElem?_take] at hj
      split at hj
      · exact (cell_of_row w.drew g _ _ _ _ hg).trans (by simpa using hj)
      · cases hj
  have HN := Lib.hid hnews
  obtain ⟨W1, hW1⟩ : ∃ W1, W1 = w.drew.setCells g (0 + p * 2) (entCI (zs.drop (p + 1))) := ⟨_, rfl⟩
  rw [← hW1] at hg1 hpost
  have hcl : ∀ ty, (Builtin.clear_ #[TLI] ty #[.slice (some ⟨g, n * 2, none⟩) 1 (cap - n)]).run Tryz.prog W1 = .ok (.tuple #[]) (W1.setCells g (n * 2) [.int .i64 0, .pointer none]) := fun ty => by
    refine run_clear_one W1 _ _ ty (.agg #[.int .i64 0, .pointer none]) Tryz.underlying153 zero_enI ?_ g (n * 2) _ ?_ ?_
    · intro v hv
      simp [Value.cells] at hv
      rcases hv with rfl | rfl <;> rfl
    · intro j hj
      have hj' : j < 2 := hj
      rw [cell_of_row W1 g _ _ _ _ hg1, Array.getElem?_eq_getElem (by omega)]
      rfl
    · intro j _
      exact frozen_of_row W1 g _ _ _ hg1
  obtain ⟨W2, hW2⟩ : ∃ W2, W2 = W1.setCells g (n * 2) [.int .i64 0, .pointer none] := ⟨_, rfl⟩
  rw [← hW2] at hcl hpost
  have HQ := Lib.hid hpost
  have hW : Hid (W1 = w.drew.setCells g (0 + p * 2) (entCI (zs.drop (p + 1)))) := hW1
  have hs3 : Hid (∀ t, t < (entCI (zs.drop (p + 1))).length → (w.drew.cell? ⟨g, 0 + p * 2 + t, none⟩).isSome = true ∧ w.drew.frozen? ⟨g, 0 + p * 2 + t, none⟩ = false) := fun t ht => hcell _ (by omega)
  have H1 : Hid (∀ u ∈ entCI (zs.drop (p + 1)), u.oneCell' = true) := entCI_one _
  have HL : Hid ((entCI (zs.drop (p + 1))).length = (n - p) * 2) := hl
  unfold maxLen at hcm
  have hw1 : IntKind.i64.wrap ((p : Int) + 1) = (p : Int) + 1 := by rw [IntKind.wrap_i64]; omega
  have hb0 : (0 : Int) ≤ (p : Int) + 1 := by omega
  have htn : ((p : Int) + 1).toNat = p + 1 := by omega
  have hb1 : (p : Int) ≤ (p : Int) + 1 := by omega
  have hb2 : (p : Int) + 1 ≤ (n : Int) + 1 := by omega
  have hb3 : ¬ ((p : Int) = (p : Int) + 1) := by omega
  have hb4 : n + 1 ≤ cap := by omega
  have hb5 : p ≤ cap := by omega
  have hb6 : ¬ (cap = n) := by omega
  have hb7 : n + 1 - (p + 1) = n - p := by omega
  have hb8 : p + (n - p) = n := by omega
  have hb9 : n + 1 - n = 1 := by omega
  have hc1 : (((n + 1 : Nat) : Int)).toNat = n + 1 := by omega
  have hc2 : p + 1 ≤ n + 1 := by omega
  have hc3 : p ≤ p + 1 := by omega
  generalize entCI (zs.drop (p + 1)) = NW at *
  clear hW1 hW2 htk hcs hg hcell hpost hnews hg1 hs1 hl
  go_enter Tryz.func121, Tryz.ntmps121
  go_wp2_with fail
  go_region_law (refine step_append_room rfl (.tmp 22) (.tmp 25) TLI rfl TEI i0 2 Tryz.underlying153 hi0 hz1 g 0 p cap (by simp [Act.eval, Act.put]) A (n - p) (cap - (p + 1)) NW (by simp [Act.eval, Act.put]) HL.out HN.out H1.out (by omega) hs3.out ?_; rw [← hW.out])
  go_wp2
  go_ret
  exact HQ.out
end Go.Proofs.YtedcdhngiofpjaaGreatDoor
