/- slices.Insert of one label into a row of the call's own. -/
import Derived.Test.YtedhbhhpcbjikaaDoorOnly
import Derived.Shelf.Spec.SlicesInsertGrow
import Derived.Laws.CopyRow
import Derived.Deep.RegionLaw
namespace Go.Proofs.YtedhbhhpcbjikaaDoor
open Go Go.Proofs Go.RowKit Go.Shelf
set_option maxRecDepth 100000
theorem append_types {P : Program} (t u ty e e' : TypeId) (args : Array Value) (w : World) (ht : P.underlying t = some (.slice e)) (hu : P.underlying u = some (.slice e')) :
    (Builtin.append_ #[t, u] ty args).run P w = (Builtin.append_ #[t, t] ty args).run P w := by
  unfold Builtin.append_
  cases h0 : args[0]? with
  | none => simp [h0]
  | some s =>
    cases h1 : args[1]? with
    | none => simp [h0, h1]
    | some x => cases s <;> simp [h0, h1, run_underlying ht, run_underlying hu]
theorem run_copy_row2 {P : Program} (w : World) (dT sT ty elem : TypeId) (g o dLen dCap : Nat) (a : Addr) (sLen sCap n : Nat) (cur : Array Value) (t : TypeId) (cs : List Value)
    (hu : P.underlying dT = some (.slice elem)) (hs : (P.info? elem).map (·.size) = some 2)
    (hg : w.heap[g]? = some (.cells cur t (0, 0))) (hn : n = Nat.min sLen dLen) (hcl : cs.length = n * 2)
    (hsrc : ∀ j v, cs[j]? = some v → w.cell? (a.add j) = some v) (hfit : o + cs.length ≤ cur.size) (h1 : ∀ v ∈ cs, v.oneCell' = true) :
    (Builtin.copy_ #[dT, sT] ty #[.slice (some ⟨g, o, none⟩) dLen dCap, .slice (some a) sLen sCap]).run P w =
      .ok (goInt n) (w.setRow g (cur.toList.take o ++ cs ++ cur.toList.drop (o + cs.length)).toArray) := by
  have hl := run_loadCells_list (P := P) w a cs hsrc
  have hst := run_storeCells_at P g o t cs 0 cur w hg (by simpa using hfit) h1
  rw [hcl] at hl
  cases hq : P.info? elem with
  | none => simp [hq] at hs
  | some i =>
    have hi : i.size = 2 := by simpa [hq] using hs
    simp [Builtin.copy_, run_underlying hu, Builtin.lenOf, Builtin.firstCells, sizeOf, typeInfo, hq, hi, ← hn, hl, hst]
theorem size2 : (Tryd.prog.info? 55).map (·.size) = some 2 := by kernel_rfl
theorem labC_app (a b : List SLab) : labC (a ++ b) = labC a ++ labC b := by unfold labC; simp
theorem labC_one (zs : List SLab) : ∀ v ∈ labC zs, v.oneCell' = true := by
  intro v hv
  unfold labC at hv
  obtain ⟨x, _, h⟩ := List.mem_flatMap.1 hv
  simp at h
  rcases h with rfl | rfl <;> rfl
def InsPost (base : Nat) (xs : List SLab) (w : World) (e : Ending) (w' : World) : Prop := ∃ v', e = .returned v' ∧ w'.ownsRow base 55 2 v' xs.length (labC xs) ∧ Below base w w'
theorem labC_take (zs : List SLab) (p : Nat) : labC (zs.take p) = (labC zs).take (p * 2) := by
  induction zs generalizing p with
  | nil => simp [labC]
  | cons x t ih =>
    cases p with
    | zero => simp [labC]
    | succ p => rw [List.take_succ_cons, labC_cons, labC_cons, show (p + 1) * 2 = p * 2 + 1 + 1 by omega, List.take_succ_cons, List.take_succ_cons, ih]
theorem labC_drop (zs : List SLab) (p : Nat) : labC (zs.drop p) = (labC zs).drop (p * 2) := by
  induction zs generalizing p with
  | nil => simp [labC]
  | cons x t ih =>
    cases p with
    | zero => simp
    | succ p => rw [List.drop_succ_cons, labC_cons, show (p + 1) * 2 = p * 2 + 1 + 1 by omega, List.drop_succ_cons, List.drop_succ_cons, ih]
/-- at the end: by append -/
theorem insert_end (base : Nat) (v : Value) (zs : List SLab) (x : SLab) (vb : Nat) (w : World) (hz : zs.length ≤ 100) (hv : w.ownsRow base 55 2 v zs.length (labC zs)) (hb : base ≤ w.heap.size)
    (hx : Blk w vb #[.string ⟨x.1.1.toArray⟩, .string ⟨x.1.2.toArray⟩] 55) :
    Calls Tryd.prog 50 #[v, .int .i64 (zs.length : Int), .slice (some ⟨vb, 0, none⟩) 1 1] w (InsPost base (zs ++ [x]) w) := by
  obtain ⟨i0, hi, hz0, hz1, hz2⟩ := info_parts info_lab
  obtain ⟨v', w', hrun, hown, hg, _⟩ := run_append_own (P := Tryd.prog) (w := w) base 23 23 55 i0 _ 2 32 Tryd.underlying23 hi hz0 hz1 hz2 rfl (by decide) v zs.length (labC zs) hv ⟨vb, 0, none⟩ 1 1 [.string ⟨x.1.1.toArray⟩, .string ⟨x.1.2.toArray⟩] rfl
    (fun j u hj => by
      rw [Addr.add_lit]
      refine blk_cell hx ?_
      rcases j with _ | _ | j
      · simpa using hj
      · simpa using hj
      · simp at hj) (fun u hu => by simp at hu; rcases hu with rfl | rfl <;> rfl) (by unfold maxLen; omega) (by omega) hb
  have hrun2 : ∀ ty, (Builtin.append_ #[23, 22] ty #[v, .slice (some ⟨vb, 0, none⟩) 1 1]).run Tryd.prog w = .ok v' w' := fun ty => by
    rw [append_types _ _ ty _ _ _ _ Tryd.underlying23 Tryd.underlying22]
    exact hrun
  have hP : InsPost base (zs ++ [x]) w (.returned v') w' := ⟨v', rfl, by rw [List.length_append, labC_snoc]; exact hown, (Below.refl base w).grown hg hb (fun k ek => by
    rcases hv.2 with ⟨rfl, _⟩ | ⟨g, cap, cur, rfl, hbg, _⟩
    · simp [Value.ownBlock] at ek
    · obtain rfl : g = k := by simpa [Value.ownBlock] using ek
      exact hbg)⟩
  have HR := Lib.hid hrun2
  have HP := Lib.hid hP
  clear hrun hrun2 hP hown hg
  rcases hv.2 with ⟨rfl, h0⟩ | ⟨g, cap, cur, rfl, hbg, hgb, hnc, hcm, hcs, htk⟩
  · have h0' : (zs.length : Int) = 0 := by omega
    rw [h0]
    clear hv h0 h0' hz0 hz1 hz2 hi
    go_enter Tryd.func50, Tryd.ntmps50
    go_wp2_with (at_builtin; refine Lib.wpList_append_run _ rfl _ _ _ _ rfl _ _ rfl rfl _ _ (HR.out _) ?_)
    go_ret
    exact HP.out
  · unfold maxLen at hcm
    clear hv hz0 hz1 hz2 hi hgb hcs htk
    go_enter Tryd.func50, Tryd.ntmps50
    go_wp2_with (at_builtin; refine Lib.wpList_append_run _ rfl _ _ _ _ rfl _ _ rfl rfl _ _ (HR.out _) ?_)
    all_goals (go_ret; exact HP.out)
end Go.Proofs.YtedhbhhpcbjikaaDoor
