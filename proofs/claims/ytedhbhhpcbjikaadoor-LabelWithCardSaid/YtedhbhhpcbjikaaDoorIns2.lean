/- slices.Insert of one label, ahead of others, where there is room. -/
import Derived.Test.YtedhbhhpcbjikaaDoorIns
namespace Go.Proofs.YtedhbhhpcbjikaaDoor
open Go Go.Proofs Go.RowKit Go.Shelf
set_option maxRecDepth 100000
theorem setRow_below {w : World} {base g : Nat} (X : Array Value) (hb : base ≤ g) : Below base w (w.setRow g X) :=
  ⟨rfl, rfl, rfl, by simp, fun k hk => setRow_other w g k _ (by omega)⟩
set_option maxHeartbeats 4000000 in
theorem insert_shift (base : Nat) (g cap : Nat) (zs : List SLab) (p : Nat) (x : SLab) (vb : Nat) (w : World) (hz : zs.length ≤ 100) (hp : p < zs.length) (hroom : zs.length + 1 ≤ cap) (hv : w.ownsRow base 55 2 (.slice (some ⟨g, 0, none⟩) zs.length cap) zs.length (labC zs))
    (hx : Blk w vb #[.string ⟨x.1.1.toArray⟩, .string ⟨x.1.2.toArray⟩] 55) (hne : vb ≠ g) :
    Calls Tryd.prog 50 #[.slice (some ⟨g, 0, none⟩) zs.length cap, .int .i64 (p : Int), .slice (some ⟨vb, 0, none⟩) 1 1] w (InsPost base (zs.take p ++ x :: zs.drop p) w) := by
  obtain ⟨hlen, ⟨h, _⟩ | ⟨g', cap', cur, e, hbg, hgb, hnc, hcm, hcs, htk⟩⟩ := hv
  · cases h
  obtain ⟨rfl, rfl⟩ : g = g' ∧ cap = cap' := by simpa using e
  clear e
  unfold maxLen at hcm
  generalize hn : zs.length = n at *
  have hl := labC_len zs
  rw [hn] at hl
  have hcl : cur.toList.length = cap * 2 := by simpa using hcs
  -- the two copies
  have hdl : (labC (zs.drop p)).length = (n - p) * 2 := by rw [labC_len, List.length_drop, hn]
  obtain ⟨X1, hX1⟩ : ∃ X1 : Array Value, X1 = (cur.toList.take ((p + 1) * 2) ++ labC (zs.drop p) ++ cur.toList.drop ((p + 1) * 2 + (labC (zs.drop p)).length)).toArray := ⟨_, rfl⟩
  obtain ⟨V, hV⟩ : ∃ V : List Value, V = [.string ⟨x.1.1.toArray⟩, .string ⟨x.1.2.toArray⟩] := ⟨_, rfl⟩
  have hVl : V.length = 2 := by rw [hV]; rfl
  obtain ⟨X2, hX2⟩ : ∃ X2 : Array Value, X2 = (X1.toList.take (p * 2) ++ V ++ X1.toList.drop (p * 2 + V.length)).toArray := ⟨_, rfl⟩
  have hX1s : X1.size = cap * 2 := by
    rw [hX1]
    simp only [List.size_toArray, List.length_append, List.length_take, List.length_drop, hcl, hdl]
    omega
  have hcpA : ∀ ty dc sc, (Builtin.copy_ #[23, 23] ty #[.slice (some ⟨g, (p + 1) * 2, none⟩) (n - p) dc, .slice (some ⟨g, p * 2, none⟩) (n + 1 - p) sc]).run Tryd.prog w.drew = .ok (goInt ((n - p : Nat) : Int)) (w.drew.setRow g X1) := fun ty dc sc => by
    rw [hX1]
    refine run_copy_row2 w.drew _ _ ty _ g ((p + 1) * 2) (n - p) dc ⟨g, p * 2, none⟩ (n + 1 - p) sc (n - p) cur _ (labC (zs.drop p)) Tryd.underlying23 size2 hgb (by simp only [Nat.min_def]; split <;> omega) hdl ?_ (by rw [hdl, hcs]; omega) (labC_one _)
    intro j u hj
    rw [labC_drop, List.getElem?_drop, ← htk, List.getElem?_take] at hj
    split at hj
    · rw [Addr.add_lit]
      refine blk_cell (W := w) (B := g) (t := 55) hgb ?_
      simpa using hj
    · cases hj
  have hcpB : ∀ ty dc, (Builtin.copy_ #[23, 22] ty #[.slice (some ⟨g, p * 2, none⟩) (n + 1 - p) dc, .slice (some ⟨vb, 0, none⟩) 1 1]).run Tryd.prog (w.drew.setRow g X1) = .ok (goInt 1) ((w.drew.setRow g X1).setRow g X2) := fun ty dc => by
    rw [hX2]
    refine run_copy_row2 (w.drew.setRow g X1) _ _ ty _ g (p * 2) (n + 1 - p) dc ⟨vb, 0, none⟩ 1 1 1 X1 55 V Tryd.underlying23 size2 (setRow_heap w.drew g cur _ _ _ hgb) (by simp only [Nat.min_def]; split <;> omega) hVl ?_ (by rw [hVl, hX1s]; omega) ?_
    · intro j u hj
      rw [hV] at hj
      rw [Addr.add_lit]
      refine blk_cell (W := w.drew.setRow g X1) (B := vb) (t := 55) ((setRow_other w.drew g vb _ hne).trans hx) ?_
      rcases j with _ | _ | j
      · simpa using hj
      · simpa using hj
      · simp at hj
    · intro u hu; rw [hV] at hu; simp at hu; rcases hu with rfl | rfl <;> rfl
  have hov : ∀ lb cb, (callFunc 63 #[.slice (some ⟨vb, 0, none⟩) 1 1, .slice (some ⟨g, (p + 1) * 2, none⟩) lb cb]).run Tryd.prog w = .ok (.value (.bool false)) w := fun lb cb => by
    rw [run_callFunc_extern Tryd.func63 (by kernel_rfl) (by kernel_rfl) (by kernel_rfl) (e := Extern.SlicesOverlaps.overlaps #[22, 22] #[4]) (by kernel_rfl),
      Lib.run_overlaps_apart w 22 4 55 Tryd.underlying22 2 (fun _ => by kernel_rfl) ⟨vb, 0, none⟩ ⟨g, (p + 1) * 2, none⟩ 1 1 lb cb hne 55 55 2 (cap * 2) (by simp [World.shape?, show w.heap[vb]? = _ from hx]) (by simp [World.shape?, hgb, hcs]) (by omega) (by simp [World.frozen?, show w.heap[vb]? = _ from hx]) (by simp [World.frozen?, show w.heap[vb]? = _ from hx])]
    rfl
  have hgd : w.drew.heap[g]? = some (.cells cur 55 (0, 0)) := hgb
  have hPost : InsPost base (zs.take p ++ x :: zs.drop p) w (.returned (.slice (some ⟨g, 0, none⟩) (n + 1) cap)) ((w.drew.setRow g X1).setRow g X2) := by
    have hxl : (zs.take p ++ x :: zs.drop p).length = n + 1 := by simp; omega
    refine ⟨_, rfl, ?_, (((Below.refl base w).drew).trans (setRow_below X1 hbg)).trans (setRow_below X2 hbg)⟩
    rw [hxl]
    refine ⟨by rw [labC_len, hxl], .inr ⟨g, cap, X2, rfl, hbg, setRow_heap _ g X1 _ _ _ (setRow_heap _ g cur _ _ _ hgd), hroom, by unfold maxLen; omega, ?_, ?_⟩⟩
    · rw [hX2]
      simp only [List.size_toArray, List.length_append, List.length_take, List.length_drop, hVl, Array.length_toList, hX1s]
      omega
    · have e1 : X1.toList = cur.toList.take ((p + 1) * 2) ++ labC (zs.drop p) ++ cur.toList.drop ((p + 1) * 2 + (labC (zs.drop p)).length) := by rw [hX1]
      have e2 : X2.toList = X1.toList.take (p * 2) ++ V ++ X1.toList.drop (p * 2 + V.length) := by rw [hX2]
      have e3 : X1.toList.take (p * 2) = labC (zs.take p) := by
        rw [e1, List.append_assoc, List.take_append_of_le_length (by rw [List.length_take, hcl]; omega), List.take_take, labC_take, ← htk, List.take_take]
        congr 1; omega
      have e4 : X1.toList.drop (p * 2 + V.length) = labC (zs.drop p) ++ cur.toList.drop ((p + 1) * 2 + (labC (zs.drop p)).length) := by
        have el : (cur.toList.take ((p + 1) * 2)).length = p * 2 + V.length := by rw [List.length_take, hcl, hVl]; omega
        rw [e1, List.append_assoc, ← el, List.drop_left]
      rw [e2, e3, e4, labC_app, labC_cons, hV]
      have eL : (labC (zs.take p) ++ (.string ⟨x.1.1.toArray⟩ :: .string ⟨x.1.2.toArray⟩ :: labC (zs.drop p))).length = (n + 1) * 2 := by
        simp only [List.length_append, List.length_cons, labC_len, List.length_take, List.length_drop, hn]; omega
      rw [← eL]
      have e5 : ∀ R : List Value, labC (zs.take p) ++ [.string ⟨x.1.1.toArray⟩, .string ⟨x.1.2.toArray⟩] ++ (labC (zs.drop p) ++ R) = (labC (zs.take p) ++ (.string ⟨x.1.1.toArray⟩ :: .string ⟨x.1.2.toArray⟩ :: labC (zs.drop p))) ++ R := fun R => by simp
      rw [e5]
      exact List.take_left
  have A1 := Lib.hid hcpA
  have A2 := Lib.hid hcpB
  have HP := Lib.hid hPost
  clear hcpA hcpB hPost hX1 hX2 hV hVl hX1s hcl hgd htk hcs hgb hx hlen hl hdl hn
  have hz2 : ¬ ((p : Int) = (n : Int)) := by omega
  have hw1 : IntKind.i64.wrap ((p : Int) + 1) = (p : Int) + 1 := by rw [IntKind.wrap_i64]; omega
  have hb1 : (0 : Int) ≤ (p : Int) + 1 := by omega
  have hin : p ≤ n := by omega
  have htn : ((p : Int) + 1).toNat = p + 1 := by omega
  have hb2 : ¬ (cap = p + 1) := by omega
  have hb3 : (p : Int) ≤ (n : Int) + 1 := by omega
  have hb4 : ¬ (cap = p) := by omega
  go_enter Tryd.func50, Tryd.ntmps50
  go_wp2_with (simp only [hov])
  go_region_law (refine step_copy_runI rfl _ _ 23 23 rfl (.slice (some ⟨g, (p + 1) * 2, none⟩) (n - p) (cap - (p + 1))) (.slice (some ⟨g, p * 2, none⟩) (n + 1 - p) (cap - p)) (by simp [Act.eval, Act.put]) (by simp [Act.eval, Act.put]) (A1.out 3 (cap - (p + 1)) (cap - p)) ?_)
  go_wp2_with fail
  simp only [A2.out, Result.andThen_ok]
  go_wp2
  go_ret
  exact HP.out
end Go.Proofs.YtedhbhhpcbjikaaDoor
