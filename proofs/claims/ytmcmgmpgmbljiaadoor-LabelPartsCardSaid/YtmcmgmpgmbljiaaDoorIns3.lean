/- slices.Insert of one label into a row of the call's own. -/
import Derived.Test.YtmcmgmpgmbljiaaDoorOnly
import Derived.Shelf.Spec.SlicesInsertGrow
import Derived.Laws.CopyRow
import Derived.Deep.RegionLaw
namespace Go.Proofs.YtmcmgmpgmbljiaaDoor
open Go Go.Proofs Go.RowKit Go.Shelf
set_option maxRecDepth 100000
theorem append_types {P : Program} (t u ty e e' : TypeId) (args : Array Value) (w : World) (ht : P.underlying t = some (.slice e)) (hu : P.underlying u = some (.slice e')) :
    (Builtin.append_ #[t, u] ty args).run P w = (Builtin.append_ #[t, t] ty args).run P w := by
  unfold Builtin.append_
  cases h0 : args[0]? with
  | none => simp [h0]
  | some s =>
    cases h1 : args[1]? with
    | none => simp [h0, h1]
    | some x => cases s <;> simp [h0, h1, run_underlying ht, run_underlying hu]
theorem run_copy_row2 {P : Program} (w : World) (dT sT ty elem : TypeId) (g o dLen dCap : Nat) (a : Addr) (sLen sCap n : Nat) (cur : Array Value) (t : TypeId) (cs : List Value)
    (hu : P.underlying dT = some (.slice elem)) (hs : (P.info? elem).map (·.size) = some 2)
    (hg : w.heap[g]? = some (.cells cur t (0, 0))) (hn : n = Nat.min sLen dLen) (hcl : cs.length = n * 2)
    (hsrc : ∀ j v, cs[j]? = some v → w.cell? (a.add j) = some v) (hfit : o + cs.length ≤ cur.size) (h1 : ∀ v ∈ cs, v.oneCell' = true) :
    (Builtin.copy_ #[dT, sT] ty #[.slice (some ⟨g, o, none⟩) dLen dCap, .slice (some a) sLen sCap]).run P w =
      .ok (goInt n) (w.setRow g (cur.toList.take o ++ cs ++ cur.toList.drop (o + cs.length)).toArray) := by
  have hl := run_loadCells_list (P := P) w a cs hsrc
  have hst := run_storeCells_at P g o t cs 0 cur w hg (by simpa using hfit) h1
  rw [hcl] at hl
  cases hq : P.info? elem with
  | none => simp [hq] at hs
  | some i =>
    have hi : i.size = 2 := by simpa [hq] using hs
    simp [Builtin.copy_, run_underlying hu, Builtin.lenOf, Builtin.firstCells, sizeOf, typeInfo, hq, hi, ← hn, hl, hst]
theorem size2 : (Tryd.prog.info? 55).map (·.size) = some 2 := by kernel_rfl
theorem labC_app (a b : List SLab) : labC (a ++ b) = labC a ++ labC b := by unfold labC; simp
theorem labC_one (zs : List SLab) : ∀ v ∈ labC zs, v.oneCell' = true := by
  intro v hv
  unfold labC at hv
  obtain ⟨x, _, h⟩ := List.mem_flatMap.1 hv
  simp at h
  rcases h with rfl | rfl <;> rfl
def InsPost (base : Nat) (xs : List SLab) (w : World) (e : Ending) (w' : World) : Prop := ∃ v', e = .returned v' ∧ w'.ownsRow base 55 2 v' xs.length (labC xs) ∧ Below base w w'
theorem labC_take (zs : List SLab) (p : Nat) : labC (zs.take p) = (labC zs).take (p * 2) := by
  induction zs generalizing p with
  | nil => simp [labC]
  | cons x t ih =>
    cases p with
    | zero => simp [labC]
    | succ p => rw [List.take_succ_cons, labC_cons, labC_cons, show (p + 1) * 2 = p * 2 + 1 + 1 by omega, List.take_succ_cons, List.take_succ_cons, ih]
theorem labC_drop (zs : List SLab) (p : Nat) : labC (zs.drop p) = (labC zs).drop (p * 2) := by
  induction zs generalizing p with
  | nil => simp [labC]
  | cons x t ih =>
    cases p with
    | zero => simp
    | succ p => rw [List.drop_succ_cons, labC_cons, show (p + 1) * 2 = p * 2 + 1 + 1 by omega, List.drop_succ_cons, List.drop_succ_cons, ih]
/-- at the end: by append -/
theorem insert_end (base : Nat) (v : Value) (zs : List SLab) (x : SLab) (vb : Nat) (w : World) (hz : zs.length ≤ 100) (hv : w.ownsRow base 55 2 v zs.length (labC zs)) (hb : base ≤ w.heap.size)
    (hx : Blk w vb #[.string ⟨x.1.1.toArray⟩, .string ⟨x.1.2.toArray⟩] 55) :
    Calls Tryd.prog 50 #[v, .int .i64 (zs.length : Int), .slice (some ⟨vb, 0, none⟩) 1 1] w (InsPost base (zs ++ [x]) w) := by
  obtain ⟨i0, hi, hz0, hz1, hz2⟩ := info_parts info_lab
  obtain ⟨v', w', hrun, hown, hg, _⟩ := run_append_own (P := Tryd.prog) (w := w) base 23 23 55 i0 _ 2 32 Tryd.underlying23 hi hz0 hz1 hz2 rfl (by decide) v zs.length (labC zs) hv ⟨vb, 0, none⟩ 1 1 [.string ⟨x.1.1.toArray⟩, .string ⟨x.1.2.toArray⟩] rfl
    (fun j u hj => by
      rw [Addr.add_lit]
      refine blk_cell hx ?_
      rcases j with _ | _ | j
      · simpa using hj
      · simpa using hj
      · simp at hj) (fun u hu => by simp at hu; rcases hu with rfl | rfl <;> rfl) (by unfold maxLen; omega) (by omega) hb
  have hrun2 : ∀ ty, (Builtin.append_ #[23, 22] ty #[v, .slice (some ⟨vb, 0, none⟩) 1 1]).run Tryd.prog w = .ok v' w' := fun ty => by
    rw [append_types _ _ ty _ _ _ _ Tryd.underlying23 Tryd.underlying22]
    exact hrun
  have hP : InsPost base (zs ++ [x]) w (.returned v') w' := ⟨v', rfl, by rw [List.length_append, labC_snoc]; exact hown, (Below.refl base w).grown hg hb (fun k ek => by
    rcases hv.2 with ⟨rfl, _⟩ | ⟨g, cap, cur, rfl, hbg, _⟩
    · simp [Value.ownBlock] at ek
    · obtain rfl : g = k := by simpa [Value.ownBlock] using ek
      exact hbg)⟩
  have HR := Lib.hid hrun2
  have HP := Lib.hid hP
  clear hrun hrun2 hP hown hg
  rcases hv.2 with ⟨rfl, h0⟩ | ⟨g, cap, cur, rfl, hbg, hgb, hnc, hcm, hcs, htk⟩
  · have h0' : (zs.length : Int) = 0 := by omega
    rw [h0]
    clear hv h0 h0' hz0 hz1 hz2 hi
    go_enter Tryd.func50, Tryd.ntmps50
    go_wp2_with (at_builtin; refine Lib.wpList_append_run _ rfl _ _ _ _ rfl _ _ rfl rfl _ _ (HR.out _) ?_)
    go_ret
    exact HP.out
  · unfold maxLen at hcm
    clear hv hz0 hz1 hz2 hi hgb hcs htk
    go_enter Tryd.func50, Tryd.ntmps50
    go_wp2_with (at_builtin; refine Lib.wpList_append_run _ rfl _ _ _ _ rfl _ _ rfl rfl _ _ (HR.out _) ?_)
    all_goals (go_ret; exact HP.out)
end Go.Proofs.YtmcmgmpgmbljiaaDoor
/- slices.Insert of one label, ahead of others, where there is room. -/
namespace Go.Proofs.YtmcmgmpgmbljiaaDoor
open Go Go.Proofs Go.RowKit Go.Shelf
set_option maxRecDepth 100000
theorem setRow_below {w : World} {base g : Nat} (X : Array Value) (hb : base ≤ g) : Below base w (w.setRow g X) :=
  ⟨rfl, rfl, rfl, by simp, fun k hk => setRow_other w g k _ (by omega)⟩
set_option maxHeartbeats 4000000 in
theorem insert_shift (base : Nat) (g cap : Nat) (zs : List SLab) (p : Nat) (x : SLab) (vb : Nat) (w : World) (hz : zs.length ≤ 100) (hp : p < zs.length) (hroom : zs.length + 1 ≤ cap) (hv : w.ownsRow base 55 2 (.slice (some ⟨g, 0, none⟩) zs.length cap) zs.length (labC zs))
    (hx : Blk w vb #[.string ⟨x.1.1.toArray⟩, .string ⟨x.1.2.toArray⟩] 55) (hne : vb ≠ g) :
    Calls Tryd.prog 50 #[.slice (some ⟨g, 0, none⟩) zs.length cap, .int .i64 (p : Int), .slice (some ⟨vb, 0, none⟩) 1 1] w (InsPost base (zs.take p ++ x :: zs.drop p) w) := by
  obtain ⟨hlen, ⟨h, _⟩ | ⟨g', cap', cur, e, hbg, hgb, hnc, hcm, hcs, htk⟩⟩ := hv
  · cases h
  obtain ⟨rfl, rfl⟩ : g = g' ∧ cap = cap' := by simpa using e
  clear e
  unfold maxLen at hcm
  generalize hn : zs.length = n at *
  have hl := labC_len zs
  rw [hn] at hl
  have hcl : cur.toList.length = cap * 2 := by simpa using hcs
  -- the two copies
  have hdl : (labC (zs.drop p)).length = (n - p) * 2 := by rw [labC_len, List.length_drop, hn]
  obtain ⟨X1, hX1⟩ : ∃ X1 : Array Value, X1 = (cur.toList.take ((p + 1) * 2) ++ labC (zs.drop p) ++ cur.toList.drop ((p + 1) * 2 + (labC (zs.drop p)).length)).toArray := ⟨_, rfl⟩
  obtain ⟨V, hV⟩ : ∃ V : List Value, V = [.string ⟨x.1.1.toArray⟩, .string ⟨x.1.2.toArray⟩] := ⟨_, rfl⟩
  have hVl : V.length = 2 := by rw [hV]; rfl
  obtain ⟨X2, hX2⟩ : ∃ X2 : Array Value, X2 = (X1.toList.take (p * 2) ++ V ++ X1.toList.drop (p * 2 + V.length)).toArray := ⟨_, rfl⟩
  have hX1s : X1.size = cap * 2 := by
    rw [hX1]
    simp only [List.size_toArray, List.length_append, List.length_take, List.length_drop, hcl, hdl]
    omega
  have hcpA : ∀ ty dc sc, (Builtin.copy_ #[23, 23] ty #[.slice (some ⟨g, (p + 1) * 2, none⟩) (n - p) dc, .slice (some ⟨g, p * 2, none⟩) (n + 1 - p) sc]).run Tryd.prog w.drew = .ok (goInt ((n - p : Nat) : Int)) (w.drew.setRow g X1) := fun ty dc sc => by
    rw [hX1]
    refine run_copy_row2 w.drew _ _ ty _ g ((p + 1) * 2) (n - p) dc ⟨g, p * 2, none⟩ (n + 1 - p) sc (n - p) cur _ (labC (zs.drop p)) Tryd.underlying23 size2 hgb (by simp only [Nat.min_def]; split <;> omega) hdl ?_ (by rw [hdl, hcs]; omega) (labC_one _)
    intro j u hj
    rw [labC_drop, List.getElem?_drop, ← htk, List.getElem?_take] at hj
    split at hj
    · rw [Addr.add_lit]
      refine blk_cell (W := w) (B := g) (t := 55) hgb ?_
      simpa using hj
    · cases hj
  have hcpB : ∀ ty dc, (Builtin.copy_ #[23, 22] ty #[.slice (some ⟨g, p * 2, none⟩) (n + 1 - p) dc, .slice (some ⟨vb, 0, none⟩) 1 1]).run Tryd.prog (w.drew.setRow g X1) = .ok (goInt 1) ((w.drew.setRow g X1).setRow g X2) := fun ty dc => by
    rw [hX2]
    refine run_copy_row2 (w.drew.setRow g X1) _ _ ty _ g (p * 2) (n + 1 - p) dc ⟨vb, 0, none⟩ 1 1 1 X1 55 V Tryd.underlying23 size2 (setRow_heap w.drew g cur _ _ _ hgb) (by simp only [Nat.min_def]; split <;> omega) hVl ?_ (by rw [hVl, hX1s]; omega) ?_
    · intro j u hj
      rw [hV] at hj
      rw [Addr.add_lit]
      refine blk_cell (W := w.drew.setRow g X1) (B := vb) (t := 55) ((setRow_other w.drew g vb _ hne).trans hx) ?_
      rcases j with _ | _ | j
      · simpa using hj
      · simpa using hj
      · simp at hj
    · intro u hu; rw [hV] at hu; simp at hu; rcases hu with rfl | rfl <;> rfl
  have hov : ∀ lb cb, (callFunc 63 #[.slice (some ⟨vb, 0, none⟩) 1 1, .slice (some ⟨g, (p + 1) * 2, none⟩) lb cb]).run Tryd.prog w = .ok (.value (.bool false)) w := fun lb cb => by
    rw [run_callFunc_extern Tryd.func63 (by kernel_rfl) (by kernel_rfl) (by kernel_rfl) (e := Extern.SlicesOverlaps.overlaps #[22, 22] #[4]) (by kernel_rfl),
      Lib.run_overlaps_apart w 22 4 55 Tryd.underlying22 2 (fun _ => by kernel_rfl) ⟨vb, 0, none⟩ ⟨g, (p + 1) * 2, none⟩ 1 1 lb cb hne 55 55 2 (cap * 2) (by simp [World.shape?, show w.heap[vb]? = _ from hx]) (by simp [World.shape?, hgb, hcs]) (by omega) (by simp [World.frozen?, show w.heap[vb]? = _ from hx]) (by simp [World.frozen?, show w.heap[vb]? = _ from hx])]
    rfl
  have hgd : w.drew.heap[g]? = some (.cells cur 55 (0, 0)) := hgb
  have hPost : InsPost base (zs.take p ++ x :: zs.drop p) w (.returned (.slice (some ⟨g, 0, none⟩) (n + 1) cap)) ((w.drew.setRow g X1).setRow g X2) := by
    have hxl : (zs.take p ++ x :: zs.drop p).length = n + 1 := by simp; omega
    refine ⟨_, rfl, ?_, (((Below.refl base w).drew).trans (setRow_below X1 hbg)).trans (setRow_below X2 hbg)⟩
    rw [hxl]
    refine ⟨by rw [labC_len, hxl], .inr ⟨g, cap, X2, rfl, hbg, setRow_heap _ g X1 _ _ _ (setRow_heap _ g cur _ _ _ hgd), hroom, by unfold maxLen; omega, ?_, ?_⟩⟩
    · rw [hX2]
      simp only [List.size_toArray, List.length_append, List.length_take, List.length_drop, hVl, Array.length_toList, hX1s]
      omega
    · have e1 : X1.toList = cur.toList.take ((p + 1) * 2) ++ labC (zs.drop p) ++ cur.toList.drop ((p + 1) * 2 + (labC (zs.drop p)).length) := by rw [hX1]
      have e2 : X2.toList = X1.toList.take (p * 2) ++ V ++ X1.toList.drop (p * 2 + V.length) := by rw [hX2]
      have e3 : X1.toList.take (p * 2) = labC (zs.take p) := by
        rw [e1, List.append_assoc, List.take_append_of_le_length (by rw [List.length_take, hcl]; omega), List.take_take, labC_take, ← htk, List.take_take]
        congr 1; omega
      have e4 : X1.toList.drop (p * 2 + V.length) = labC (zs.drop p) ++ cur.toList.drop ((p + 1) * 2 + (labC (zs.drop p)).length) := by
        have el : (cur.toList.take ((p + 1) * 2)).length = p * 2 + V.length := by rw [List.length_take, hcl, hVl]; omega
        rw [e1, List.append_assoc, ← el, List.drop_left]
      rw [e2, e3, e4, labC_app, labC_cons, hV]
      have eL : (labC (zs.take p) ++ (.string ⟨x.1.1.toArray⟩ :: .string ⟨x.1.2.toArray⟩ :: labC (zs.drop p))).length = (n + 1) * 2 := by
        simp only [List.length_append, List.length_cons, labC_len, List.length_take, List.length_drop, hn]; omega
      rw [← eL]
      have e5 : ∀ R : List Value, labC (zs.take p) ++ [.string ⟨x.1.1.toArray⟩, .string ⟨x.1.2.toArray⟩] ++ (labC (zs.drop p) ++ R) = (labC (zs.take p) ++ (.string ⟨x.1.1.toArray⟩ :: .string ⟨x.1.2.toArray⟩ :: labC (zs.drop p))) ++ R := fun R => by simp
      rw [e5]
      exact List.take_left
  have A1 := Lib.hid hcpA
  have A2 := Lib.hid hcpB
  have HP := Lib.hid hPost
  clear hcpA hcpB hPost hX1 hX2 hV hVl hX1s hcl hgd htk hcs hgb hx hlen hl hdl hn
  have hz2 : ¬ ((p : Int) = (n : Int)) := by omega
  have hw1 : IntKind.i64.wrap ((p : Int) + 1) = (p : Int) + 1 := by rw [IntKind.wrap_i64]; omega
  have hb1 : (0 : Int) ≤ (p : Int) + 1 := by omega
  have hin : p ≤ n := by omega
  have htn : ((p : Int) + 1).toNat = p + 1 := by omega
  have hb2 : ¬ (cap = p + 1) := by omega
  have hb3 : (p : Int) ≤ (n : Int) + 1 := by omega
  have hb4 : ¬ (cap = p) := by omega
  go_enter Tryd.func50, Tryd.ntmps50
  go_wp2_with (simp only [hov])
  go_region_law (refine step_copy_runI rfl _ _ 23 23 rfl (.slice (some ⟨g, (p + 1) * 2, none⟩) (n - p) (cap - (p + 1))) (.slice (some ⟨g, p * 2, none⟩) (n + 1 - p) (cap - p)) (by simp [Act.eval, Act.put]) (by simp [Act.eval, Act.put]) (A1.out 3 (cap - (p + 1)) (cap - p)) ?_)
  go_wp2_with fail
  simp only [A2.out, Result.andThen_ok]
  go_wp2
  go_ret
  exact HP.out
end Go.Proofs.YtmcmgmpgmbljiaaDoor
/- slices.Insert of one label, ahead of others, where there is no room. -/
namespace Go.Proofs.YtmcmgmpgmbljiaaDoor
open Go Go.Proofs Go.RowKit Go.Shelf
set_option maxRecDepth 100000
set_option maxHeartbeats 4000000 in
theorem insert_grow (base : Nat) (g cap : Nat) (zs : List SLab) (p : Nat) (x : SLab) (vb : Nat) (w : World) (hz : zs.length ≤ 100) (hp : p < zs.length) (hroom : cap < zs.length + 1) (hv : w.ownsRow base 55 2 (.slice (some ⟨g, 0, none⟩) zs.length cap) zs.length (labC zs)) (hb : base ≤ w.heap.size)
    (hx : Blk w vb #[.string ⟨x.1.1.toArray⟩, .string ⟨x.1.2.toArray⟩] 55) :
    Calls Tryd.prog 50 #[.slice (some ⟨g, 0, none⟩) zs.length cap, .int .i64 (p : Int), .slice (some ⟨vb, 0, none⟩) 1 1] w (InsPost base (zs.take p ++ x :: zs.drop p) w) := by
  obtain ⟨i0, hi0, hz0, hz1, hz2⟩ := info_parts info_lab
  obtain ⟨hlen, ⟨h, _⟩ | ⟨g', cap', cur, e, hbg, hgb, hnc, hcm, hcs, htk⟩⟩ := hv
  · cases h
  obtain ⟨rfl, rfl⟩ : g = g' ∧ cap = cap' := by simpa using e
  clear e
  unfold maxLen at hcm
  generalize hn : zs.length = n at *
  have hl := labC_len zs
  rw [hn] at hl
  have hgw : g < w.heap.size := (Array.getElem?_eq_some_iff.1 hgb).1
  have hvw : vb < w.heap.size := (Array.getElem?_eq_some_iff.1 hx).1
  have hdl : (labC (zs.drop p)).length = (n - p) * 2 := by rw [labC_len, List.length_drop, hn]
  have hcell : ∀ j u, (labC zs)[j]? = some u → w.cell? ⟨g, j, none⟩ = some u := fun j u hj => by
    rw [← htk, List.getElem?_take] at hj
    split at hj
    · exact blk_cell (W := w) (B := g) (t := 55) hgb (by simpa using hj)
    · cases hj
  have hold : (Builtin.firstCells i0.size p (.slice (some ⟨g, 0, none⟩) p cap)).run Tryd.prog w.drew = .ok (labC (zs.take p)).toArray w.drew := by
    rw [hz1]
    refine run_firstCells_some w.drew 2 p ⟨g, 0, none⟩ p cap (labC (zs.take p)) (by rw [labC_len, List.length_take]; omega) (fun j u hj => ?_)
    rw [labC_take, List.getElem?_take] at hj
    split at hj
    · rw [Addr.add_lit]
      simpa using hcell j u hj
    · cases hj
  obtain ⟨G, hG⟩ : ∃ G, G = grownCap w (n + 1) cap 55 := ⟨_, rfl⟩
  have hGn : n + 1 ≤ G := by rw [hG]; exact grownCap_ge w _ _ _
  have hGm : G ≤ 9223372036854775807 := by
    have := grownCap_le_maxLen w (n + 1) cap 55 (by unfold maxLen; omega)
    rw [← hG] at this; unfold maxLen at this; omega
  obtain ⟨z, hzd⟩ : ∃ z : Value, z = .agg #[.string ⟨#[]⟩, .string ⟨#[]⟩] := ⟨_, rfl⟩
  have hzc : z.cells.size = 2 := by rw [hzd]; rfl
  obtain ⟨ROW, hROW⟩ : ∃ ROW : Array Value, ROW = (labC (zs.take p)).toArray ++ Builtin.zeroCells z.cells (n + 1 - p) ++ Builtin.zeroCells z.cells (G - (n + 1)) := ⟨_, rfl⟩
  have hkk : (n : Int) + 1 - (p : Int) = ((n + 1 - p : Nat) : Int) := by omega
  have hrz : ∀ ty, (Builtin.append_ #[23, 3] ty #[.slice (some ⟨g, 0, none⟩) p cap, .int .i64 ((n : Int) + 1 - (p : Int))]).run Tryd.prog w =
      .ok (.slice (some ⟨w.heap.size, 0, none⟩) (n + 1) G) ((w.alloc (.cells ROW 55)).drew) := fun ty => by
    have h := Lib.run_append_grow_zeros (P := Tryd.prog) w 23 3 ty 55 i0 z .i64 .i64 Tryd.underlying23 Tryd.underlying3 hi0 (by rw [hz0, hzd]) (some ⟨g, 0, none⟩) p cap (labC (zs.take p)) hold (n + 1 - p) (by omega) (by rw [hz1]; omega) (by omega) (by omega) (by rw [hz2]; omega) (by rw [hz2, show p + (n + 1 - p) = n + 1 by omega]; exact growslice_fits hroom (by omega))
    rw [show p + (n + 1 - p) = n + 1 by omega, ← hG, ← hROW] at h
    rw [hkk]
    exact h
  have hRs : ROW.size = G * 2 := by
    rw [hROW]
    simp only [Array.size_append, List.size_toArray, size_zeroCells, hzc, labC_len, List.length_take, hn]
    omega
  have hRt : ROW.toList.take (p * 2) = labC (zs.take p) := by
    have el : (labC (zs.take p)).length = p * 2 := by rw [labC_len, List.length_take]; omega
    rw [hROW, Array.toList_append, Array.toList_append, List.append_assoc, ← el]
    exact List.take_left
  obtain ⟨V, hV⟩ : ∃ V : List Value, V = [.string ⟨x.1.1.toArray⟩, .string ⟨x.1.2.toArray⟩] := ⟨_, rfl⟩
  have hVl : V.length = 2 := by rw [hV]; rfl
  obtain ⟨X1, hX1⟩ : ∃ X1 : Array Value, X1 = (ROW.toList.take (p * 2) ++ V ++ ROW.toList.drop (p * 2 + V.length)).toArray := ⟨_, rfl⟩
  obtain ⟨X2, hX2⟩ : ∃ X2 : Array Value, X2 = (X1.toList.take ((p + 1) * 2) ++ labC (zs.drop p) ++ X1.toList.drop ((p + 1) * 2 + (labC (zs.drop p)).length)).toArray := ⟨_, rfl⟩
  have hRl : ROW.toList.length = G * 2 := by simpa using hRs
  have hX1s : X1.size = G * 2 := by
    rw [hX1]
    simp only [List.size_toArray, List.length_append, List.length_take, List.length_drop, hRl, hVl]
    omega
  obtain ⟨W1, hW1⟩ : ∃ W1, W1 = (w.alloc (.cells ROW 55)).drew := ⟨_, rfl⟩
  have hN1 : W1.heap[w.heap.size]? = some (.cells ROW 55 (0, 0)) := by rw [hW1]; exact heap_alloc_new w _
  have hO1 : ∀ k, k < w.heap.size → W1.heap[k]? = w.heap[k]? := fun k hk => by rw [hW1]; exact Below.heap_alloc w _ k hk
  have hcpA : ∀ ty dc, (Builtin.copy_ #[23, 22] ty #[.slice (some ⟨w.heap.size, p * 2, none⟩) (n + 1 - p) dc, .slice (some ⟨vb, 0, none⟩) 1 1]).run Tryd.prog W1 = .ok (goInt 1) (W1.setRow w.heap.size X1) := fun ty dc => by
    rw [hX1]
    refine run_copy_row2 W1 _ _ ty _ w.heap.size (p * 2) (n + 1 - p) dc ⟨vb, 0, none⟩ 1 1 1 ROW 55 V Tryd.underlying23 size2 hN1 (by simp only [Nat.min_def]; split <;> omega) hVl ?_ (by rw [hVl, hRs]; omega) ?_
    · intro j u hj
      rw [hV] at hj
      rw [Addr.add_lit]
      refine blk_cell (W := W1) (B := vb) (t := 55) ((hO1 vb hvw).trans hx) ?_
      rcases j with _ | _ | j
      · simpa using hj
      · simpa using hj
      · simp at hj
    · intro u hu; rw [hV] at hu; simp at hu; rcases hu with rfl | rfl <;> rfl
  obtain ⟨W2, hW2⟩ : ∃ W2, W2 = W1.setRow w.heap.size X1 := ⟨_, rfl⟩
  rw [← hW2] at hcpA
  have hN2 : W2.heap[w.heap.size]? = some (.cells X1 55 (0, 0)) := by rw [hW2]; exact setRow_heap W1 _ ROW _ _ _ hN1
  have hO2 : ∀ k, k < w.heap.size → W2.heap[k]? = w.heap[k]? := fun k hk => by rw [hW2]; exact (setRow_other W1 _ k _ (by omega)).trans (hO1 k hk)
  have hcpB : ∀ ty dc sc, (Builtin.copy_ #[23, 23] ty #[.slice (some ⟨w.heap.size, (p + 1) * 2, none⟩) (n - p) dc, .slice (some ⟨g, p * 2, none⟩) (n - p) sc]).run Tryd.prog W2.drew = .ok (goInt ((n - p : Nat) : Int)) (W2.drew.setRow w.heap.size X2) := fun ty dc sc => by
    rw [hX2]
    refine run_copy_row2 W2.drew _ _ ty _ w.heap.size ((p + 1) * 2) (n - p) dc ⟨g, p * 2, none⟩ (n - p) sc (n - p) X1 _ (labC (zs.drop p)) Tryd.underlying23 size2 hN2 (by simp only [Nat.min_def]; split <;> omega) hdl ?_ (by rw [hdl, hX1s]; omega) (labC_one _)
    intro j u hj
    rw [labC_drop, List.getElem?_drop] at hj
    rw [Addr.add_lit]
    have hc := hcell _ u hj
    have e : W2.cell? ⟨g, p * 2 + j, none⟩ = w.cell? ⟨g, p * 2 + j, none⟩ := World.cell?_of_block (hO2 g hgw)
    exact e.trans hc
  have hPost : InsPost base (zs.take p ++ x :: zs.drop p) w (.returned (.slice (some ⟨w.heap.size, 0, none⟩) (n + 1) G)) (W2.drew.setRow w.heap.size X2) := by
    have hxl : (zs.take p ++ x :: zs.drop p).length = n + 1 := by simp; omega
    have hB1 : Below base w W1 := by rw [hW1]; exact ((Below.refl base w).alloc hb _).drew
    have hB2 : Below base w W2 := by rw [hW2]; exact hB1.trans (setRow_below X1 hb)
    refine ⟨_, rfl, ?_, hB2.drew.trans (setRow_below X2 hb)⟩
    rw [hxl]
    refine ⟨by rw [labC_len, hxl], .inr ⟨w.heap.size, G, X2, rfl, hb, setRow_heap _ _ X1 _ _ _ (show W2.drew.heap[w.heap.size]? = _ from hN2), hGn, by unfold maxLen; omega, ?_, ?_⟩⟩
    · rw [hX2]
      simp only [List.size_toArray, List.length_append, List.length_take, List.length_drop, hdl, Array.length_toList, hX1s]
      omega
    · have e1 : X1.toList = labC (zs.take p) ++ V ++ ROW.toList.drop (p * 2 + V.length) := by rw [hX1, hRt]
      have e2 : X2.toList = X1.toList.take ((p + 1) * 2) ++ labC (zs.drop p) ++ X1.toList.drop ((p + 1) * 2 + (labC (zs.drop p)).length) := by rw [hX2]
      have e3 : X1.toList.take ((p + 1) * 2) = labC (zs.take p) ++ V := by
        have el : (labC (zs.take p) ++ V).length = (p + 1) * 2 := by rw [List.length_append, hVl, labC_len, List.length_take]; omega
        rw [e1, ← el]; exact List.take_left
      rw [e2, e3, labC_app, labC_cons, hV]
      have eL : (labC (zs.take p) ++ (.string ⟨x.1.1.toArray⟩ :: .string ⟨x.1.2.toArray⟩ :: labC (zs.drop p))).length = (n + 1) * 2 := by
        simp only [List.length_append, List.length_cons, labC_len, List.length_take, List.length_drop, hn]; omega
      have e5 : ∀ R : List Value, labC (zs.take p) ++ [.string ⟨x.1.1.toArray⟩, .string ⟨x.1.2.toArray⟩] ++ labC (zs.drop p) ++ R = (labC (zs.take p) ++ (.string ⟨x.1.1.toArray⟩ :: .string ⟨x.1.2.toArray⟩ :: labC (zs.drop p))) ++ R := fun R => by simp
      rw [← eL, e5]
      exact List.take_left
  rw [← hW1] at hrz
  have RZ := Lib.hid hrz
  have A1 := Lib.hid hcpA
  have A2 := Lib.hid hcpB
  have HP := Lib.hid hPost
  clear hcpA hcpB hPost hX1 hX2 hV hVl hX1s hRl hRs hRt hrz hN1 hO1 hN2 hO2 hW1 hW2 hROW hzd hzc hkk hG hold hcell htk hcs hgb hx hlen hl hdl hn hi0 hz0 hz1 hz2
  have hz2 : ¬ ((p : Int) = (n : Int)) := by omega
  have hz3 : (cap : Int) < (n : Int) + 1 := by omega
  have hw1 : IntKind.i64.wrap ((p : Int) + 1) = (p : Int) + 1 := by rw [IntKind.wrap_i64]; omega
  have hb1 : (0 : Int) ≤ (p : Int) + 1 := by omega
  have hin : p ≤ n := by omega
  have htn : ((p : Int) + 1).toNat = p + 1 := by omega
  have hb3 : (p : Int) ≤ (n : Int) := by omega
  have hGi : ¬ (G = p) := by omega
  have hGim : ¬ (G = p + 1) := by omega
  have hci : ¬ (cap = p) := by omega
  go_enter Tryd.func50, Tryd.ntmps50
  go_wp2_with (at_builtin; refine Lib.wpList_append_run _ rfl _ _ _ _ rfl _ _ rfl rfl _ _ (RZ.out _) ?_)
  simp only [A1.out, Result.andThen_ok]
  go_wp2_with fail
  go_region_law (refine step_copy_runI rfl _ _ 23 23 rfl (.slice (some ⟨w.heap.size, (p + 1) * 2, none⟩) (n - p) (G - (p + 1))) (.slice (some ⟨g, p * 2, none⟩) (n - p) (cap - p)) (by simp [Act.eval, Act.put]) (by simp [Act.eval, Act.put]) (A2.out 3 (G - (p + 1)) (cap - p)) ?_)
  go_wp2
  go_ret
  exact HP.out
end Go.Proofs.YtmcmgmpgmbljiaaDoor
