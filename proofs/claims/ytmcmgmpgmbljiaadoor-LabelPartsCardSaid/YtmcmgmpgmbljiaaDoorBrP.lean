/- braces.Parse: all items of a text, or none. -/
import Derived.Test.YtmcmgmpgmbljiaaDoorBrW
namespace Go.Proofs.YtmcmgmpgmbljiaaDoor
open Go Go.Proofs Go.RowKit Go.Shelf
set_option maxRecDepth 100000
attribute [local go_sem] Oper.semAt_some
theorem info_itm : (Tryd.prog.info? 72).map (fun i => (i.zero, i.size, i.bytes)) = some (some (.agg #[.string ⟨#[]⟩, .string ⟨#[]⟩, .string ⟨#[]⟩]), 3, 48) := by kernel_rfl
/-- the cells of items -/
def itmC (zs : List SItm) : List Value := zs.flatMap fun x => [.string ⟨x.1.1.toArray⟩, .string ⟨x.1.2.1.toArray⟩, .string ⟨x.1.2.2.toArray⟩]
theorem itmC_snoc (zs : List SItm) (x : SItm) : itmC (zs ++ [x]) = itmC zs ++ [.string ⟨x.1.1.toArray⟩, .string ⟨x.1.2.1.toArray⟩, .string ⟨x.1.2.2.toArray⟩] := by unfold itmC; simp
def allOkI (zs : List (SItm × Bool)) : Prop := ∀ z ∈ zs, z.2 = true
instance (zs : List (SItm × Bool)) : Decidable (allOkI zs) := by unfold allOkI; infer_instance
/-- what Parse answers -/
def PostI (zs : List (SItm × Bool)) (w : World) (e : Ending) (w' : World) : Prop :=
  Below w.heap.size w w' ∧ ((allOkI zs ∧ ∃ v, e = .returned (.tuple #[v, .bool true]) ∧ w'.ownsRow w.heap.size 72 3 v zs.length (itmC (zs.map (·.1)))) ∨ (¬ allOkI zs ∧ e = .returned (.tuple #[.slice none 0 0, .bool false])))
theorem blk_cellI {W : World} {B j : Nat} {cs : Array Value} {t : TypeId} {v : Value} (h : Blk W B cs t) (hj : cs[j]? = some v) : W.cell? ⟨B, j, none⟩ = some v := by
  unfold World.cell?
  dsimp only
  rw [show W.heap[B]? = _ from h]
  exact hj
theorem cells3_new (W : World) (u v x : Value) (T : TypeId) : ∀ j y, [u, v, x][j]? = some y → (W.alloc (.cells #[u, v, x] T)).cell? ((⟨W.heap.size, 0, none⟩ : Addr).add j) = some y := by
  intro j y h
  have hb : Blk (W.alloc (.cells #[u, v, x] T)) W.heap.size #[u, v, x] T := heap_alloc_new W _
  have e : ((⟨W.heap.size, 0, none⟩ : Addr).add j) = ⟨W.heap.size, j, none⟩ := by rw [Addr.add_lit]; simp
  rw [e]
  refine blk_cellI hb ?_
  rcases j with _ | _ | _ | j
  · simpa using h
  · simpa using h
  · simpa using h
  · simp at h
set_option maxHeartbeats 4000000 in
theorem bparse_any (ops : List STx) (A : Option Addr) (L C : Nat) (s : List UInt8) (hs : s.length ≤ 100000) (zs : List (SItm × Bool)) (hZ : WrSI (ops.map (·.1)) s zs) (hreach : zs.length ≤ 1000) (w : World) (hT : TxAt w.heap.size w (.slice A L C) (ops.map (·.1))) :
    Calls Tryd.prog 40 #[.string ⟨s.toArray⟩, .slice A L C] w (PostI zs w) := by
  obtain ⟨i0, hi, hz0, hz1, hz2⟩ := info_parts info_itm
  have HI := Lib.hid hi
  have HZ := Lib.hid hz0
  have HZ1 := Lib.hid hz1
  have HZ2 := Lib.hid hz2
  clear hi hz0 hz1 hz2
  refine (callsIn_wide (n := 9)).1 ?_
  refine callsIn_of_wp_marks Tryd.func40 rfl trivial ?_ rfl
  simp only [Tryd.ntmps40, List.size_toArray, List.length_cons, List.length_nil, Nat.reduceAdd, Nat.reduceSub, Array.replicate_succ, Array.replicate_zero, List.push_toArray, List.append_toArray, List.nil_append, List.cons_append]
  gi_wp2
  refine ⟨trivial, (bwritten_in _ _ _ _ _).mono ?_⟩
  rintro e w1 ⟨rfl, rfl⟩
  gi_wp2
  obtain ⟨W0, hW0⟩ : ∃ W0, ((((((w).alloc (.cells #[.slice none 0 0] 67)).alloc (.cells #[.bool false] 4)).alloc (.cells #[.slice none 0 0] 67)).alloc (.cells #[.string ⟨s.toArray⟩] 9)).alloc (.cells #[.slice A L C] 44)) = W0 := ⟨_, rfl⟩
  have hlp : Below w.heap.size w W0 := by rw [← hW0]; go_grown
  have hsz : W0.heap.size = w.heap.size + 5 := by rw [← hW0]; simp
  have br0 : Boxed W0 (w.heap.size) 67 (.slice none 0 0) := by
    rw [← hW0]
    have h := Boxed.new (w) 67 (.slice none 0 0)
    (try rw [World.size_alloc] at h)
    exact ((((h.alloc _).alloc _).alloc _).alloc _)
  have be0 : Boxed W0 (w.heap.size + 1) 4 (.bool false) := by
    rw [← hW0]
    have h := Boxed.new ((w).alloc (.cells #[.slice none 0 0] 67)) 4 (.bool false)
    (try rw [World.size_alloc] at h)
    exact (((h.alloc _).alloc _).alloc _)
  have bv0 : Boxed W0 (w.heap.size + 1 + 1) 67 (.slice none 0 0) := by
    rw [← hW0]
    have h := Boxed.new (((w).alloc (.cells #[.slice none 0 0] 67)).alloc (.cells #[.bool false] 4)) 67 (.slice none 0 0)
    (try rw [World.size_alloc, World.size_alloc] at h)
    exact ((h.alloc _).alloc _)
  have bsb0 : Boxed W0 (w.heap.size + 1 + 1 + 1) 9 (.string ⟨s.toArray⟩) := by
    rw [← hW0]
    have h := Boxed.new ((((w).alloc (.cells #[.slice none 0 0] 67)).alloc (.cells #[.bool false] 4)).alloc (.cells #[.slice none 0 0] 67)) 9 (.string ⟨s.toArray⟩)
    (try rw [World.size_alloc, World.size_alloc, World.size_alloc] at h)
    exact (h.alloc _)
  have bb0 : Boxed W0 (w.heap.size + 1 + 1 + 1 + 1) 44 (.slice A L C) := by
    rw [← hW0]
    have h := Boxed.new (((((w).alloc (.cells #[.slice none 0 0] 67)).alloc (.cells #[.bool false] 4)).alloc (.cells #[.slice none 0 0] 67)).alloc (.cells #[.string ⟨s.toArray⟩] 9)) 44 (.slice A L C)
    (try rw [World.size_alloc, World.size_alloc, World.size_alloc, World.size_alloc] at h)
    exact h
  have bs0 := bsb0.cell
  have bo0 := bb0.cell
  have hO : OpsAt ops (.slice A L C) (w.heap.size + 1 + 1 + 1 + 1) w.heap.size W0 := ⟨bo0, hT.below hlp, by omega, hlp.size⟩
  rw [hW0]
  clear hW0 hT bo0
  refine wpIn_rangeFunc_ownH (F := Fence.wide) (n := 9) rfl (by omega) (gf := 73) (lb := #[.pointer (some ⟨w.heap.size + 1 + 1 + 1, 0, none⟩), .pointer (some ⟨w.heap.size + 1 + 1 + 1 + 1, 0, none⟩)]) rfl trivial (enters_of Tryd.func73 (by kernel_rfl) rfl)
    (encs := wEncI) (Kp := KpB w.heap.size (w.heap.size + 1 + 1 + 1 + 1)) (bwritten_stops ops (.slice A L C) (w.heap.size + 1 + 1 + 1) (w.heap.size + 1 + 1 + 1 + 1) w.heap.size s hs zs hZ W0 (by omega) bs0 hO) kpB_t (kpB_b (by omega)) (Below.refl _ _) (fun _ => rfl)
    (fun pre W => allOkI pre ∧ Boxed W w.heap.size 67 (.slice none 0 0) ∧ Boxed W (w.heap.size + 1) 4 (.bool false) ∧ (∃ v, Boxed W (w.heap.size + 1 + 1) 67 v ∧ W.ownsRow w.heap.size 72 3 v pre.length (itmC (pre.map (·.1))) ∧ True) ∧ Below w.heap.size w W ∧ Boxed W (w.heap.size + 1 + 1 + 1 + 1) 44 (.slice A L C))
    (fun c pre W => (c = .ret ∧ ¬ allOkI pre) ∧ Boxed W w.heap.size 67 (.slice none 0 0) ∧ Boxed W (w.heap.size + 1) 4 (.bool false) ∧ Below w.heap.size w W)
    (OwnFrom.and (ownFrom_pure _ _) (OwnFrom.and (Own.from (boxed_own w.heap.size 67 (fun _ => .slice none 0 0)) _) (OwnFrom.and (Own.from (boxed_own (w.heap.size + 1) 4 (fun _ => .bool false)) _)
      (OwnFrom.and (Own.from (holdsRow_own w.heap.size (w.heap.size + 1 + 1) 67 72 3 (fun (pre : List (SItm × Bool)) => pre.length) (fun (pre : List (SItm × Bool)) => itmC (pre.map (·.1))) (fun _ _ => True)) _) (OwnFrom.and (ownFrom_below (Nat.le_refl _) (by rw [hsz]; omega)) (Own.from (boxed_own (w.heap.size + 1 + 1 + 1 + 1) 44 (fun _ => .slice A L C)) _))))))
    (fun c => OwnFrom.and (ownFrom_pure _ _) (OwnFrom.and (Own.from (boxed_own w.heap.size 67 (fun _ => .slice none 0 0)) _) (OwnFrom.and (Own.from (boxed_own (w.heap.size + 1) 4 (fun _ => .bool false)) _) (ownFrom_below (Nat.le_refl _) (by rw [hsz]; omega)))))
    ⟨(fun z hz => absurd hz (by simp)), br0, be0, ⟨_, bv0, World.ownsRow_nil _ _ _ _, trivial⟩, hlp, bb0⟩
    (fun x a' W => ∃ Bx, w.heap.size + 1 + 1 + 1 + 1 < Bx ∧ Blk W Bx #[.string ⟨x.1.1.1.toArray⟩, .string ⟨x.1.1.2.1.toArray⟩, .string ⟨x.1.1.2.2.toArray⟩] 72 ∧ a' = { tmps := #[.string ⟨s.toArray⟩, .slice A L C, undef, undef, .pointer (some ⟨w.heap.size, 0, none⟩), .pointer (some ⟨w.heap.size + 1, 0, none⟩), .pointer (some ⟨w.heap.size + 1 + 1, 0, none⟩), .pointer (some ⟨Bx, 0, none⟩), .bool x.2, .string ⟨s.toArray⟩, .slice A L C, .func (.func 73) #[] #[.pointer (some ⟨w.heap.size + 1 + 1 + 1, 0, none⟩), .pointer (some ⟨w.heap.size + 1 + 1 + 1 + 1, 0, none⟩)], .agg #[.string ⟨x.1.1.1.toArray⟩, .string ⟨x.1.1.2.1.toArray⟩, .string ⟨x.1.1.2.2.toArray⟩], .bool x.2, undef, undef, undef, undef, undef, undef, undef], defers := [] })
    (fun x a' => ?ax) ?assign ?body ?done ?stop
  case ax => exact fun s X Y row ⟨Bx, q1, q2, q3⟩ hg hr => ⟨Bx, q1, (blk_own (β := Unit) Bx _ _).from _ () X Y row q2 hg hr, q3⟩
  case assign =>
    rintro l pre x W K ⟨hp, hn, he, ⟨v, hv, hrow, _⟩, hB, hob⟩ hK
    simp only [wEncI, itmV]
    have hWs : w.heap.size + 1 + 1 + 1 + 1 < W.heap.size := hob.lt
    have HR := Lib.hid hrow
    clear hrow
    gi_wp2
    exact hK _ _ ((KeepsOthers.alloc _ _).from _) (kpB_below hB.size hob.lt (below_cells _)) ⟨hp, hn.alloc _, he.alloc _, ⟨v, hv.alloc _, HR.out.alloc _, trivial⟩, below_new hB _, hob.alloc _⟩ ⟨W.heap.size, hWs, heap_alloc_new W _, rfl⟩
  case body =>
    rintro l pre x a' W hl ⟨r, hr⟩ ⟨hp, hn, he, ⟨v, hv, hrow, _⟩, hB, hob⟩ ⟨Bx, hBx, bX, rfl⟩ hlen
    obtain ⟨⟨⟨xn, xo, xv⟩, hx⟩, ok⟩ := x
    dsimp only at bX
    have HR := Lib.hid hrow
    have HP := Lib.hid hp
    clear hrow hp
    cases ok
    · have c3 := hn.cell
      have f3 := hn.frozen
      have c4 := he.cell
      have f4 := he.frozen
      have n2 := hn.set (.slice none 0 0)
      have e2 := (he.other (B' := w.heap.size) (by omega) (.slice none 0 0)).set (.bool false)
      have n3 := n2.other (B' := w.heap.size + 1) (by omega) (.bool false)
      have hB2 := (hB.setCell (p := ⟨w.heap.size, 0, none⟩) (Nat.le_refl _) (.slice none 0 0)).setCell (p := ⟨w.heap.size + 1, 0, none⟩) (by simp) (.bool false)
      have K2 := (KeepsOthers.setCell W ⟨w.heap.size, 0, none⟩ (.slice none 0 0)).trans (KeepsOthers.setCell _ ⟨w.heap.size + 1, 0, none⟩ (.bool false))
      gi_wp2
      exact ⟨K2.from _, ⟨rfl, fun h => absurd (h _ (List.mem_append.2 (.inr (List.mem_singleton.2 rfl)))) (by simp)⟩, n3, e2, hB2⟩
    · have hv3 := hv.cell
      have cx0 := blk_cellI (j := 0) bX rfl
      have cx1 := blk_cellI (j := 1) bX rfl
      have cx2 := blk_cellI (j := 2) bX rfl
      gi_wp2_with (gi_at_builtin; refine wpListIn_append_own _ rfl _ _ 67 rfl w.heap.size 72 i0 (.agg #[.string ⟨#[]⟩, .string ⟨#[]⟩, .string ⟨#[]⟩]) 3 48 Tryd.underlying67 HI.out HZ.out HZ1.out HZ2.out rfl (by decide) _ _ _ rfl (HR.out.alloc _) ⟨W.heap.size, 0, none⟩ 1 1 [.string ⟨xn.toArray⟩, .string ⟨xo.toArray⟩, .string ⟨xv.toArray⟩] rfl rfl (cells3_new _ _ _ _ _) ?k1 ?k2 ?k3 ?k4 ?_)
      case k1 => intro u hu; simp at hu; rcases hu with rfl | rfl | rfl <;> rfl
      case k2 => unfold maxLen; omega
      case k3 => omega
      case k4 => have := hB.size; simp; omega
      intro v' w1 hown' hgrow _
      obtain ⟨g', cap', rfl⟩ := ownsRow_succ hown'
      obtain ⟨hv1, hv2, hr2, hk2, hb2⟩ := hv.appended (by decide) HR.out hB.size (by omega) hown' hgrow
      have hc1 := hv1.cell
      have hf1 := hv1.frozen
      have n2 := ((hn.alloc _).kept hgrow (hn.not_row (by decide) HR.out)).other (B' := w.heap.size + 1 + 1) (by omega) (.slice (some ⟨g', 0, none⟩) (pre.length + 1) cap')
      have e2 := ((he.alloc _).kept hgrow (he.not_row (by decide) HR.out)).other (B' := w.heap.size + 1 + 1) (by omega) (.slice (some ⟨g', 0, none⟩) (pre.length + 1) cap')
      have o2 := ((hob.alloc _).kept hgrow (hob.not_row (by decide) HR.out)).other (B' := w.heap.size + 1 + 1) (by omega) (.slice (some ⟨g', 0, none⟩) (pre.length + 1) cap')
      have HR2 := Lib.hid hr2
      have KO : Hid (KpB w.heap.size (w.heap.size + 1 + 1 + 1 + 1) W (w1.setCell ⟨w.heap.size + 1 + 1, 0, none⟩ (.slice (some ⟨g', 0, none⟩) (pre.length + 1) cap'))) := ⟨hb2, fun u hu => by rw [hob.cell] at hu; cases hu; exact o2.cell⟩
      clear hown' hgrow hr2 hv1
      gi_wp2
      refine ⟨hk2.from _, KO.out, ?_, n2, e2, ⟨_, hv2, ?_, trivial⟩, hB.trans hb2, o2⟩
      · intro z hz
        rcases List.mem_append.1 hz with h | h
        · exact HP.out z h
        · rw [List.mem_singleton.1 h]
      · have := HR2.out
        rw [List.map_append, List.length_append]
        simpa [itmC_snoc] using this
  case done =>
    rintro D ys W hD rfl ⟨hp, hn, he, ⟨v, hv, hrow, _⟩, hB, hob⟩ hK
    have hsh : ∃ a len cap, v = .slice a len cap := by
      rcases hrow.2 with ⟨rfl, _⟩ | ⟨g, cap, cur, rfl, _⟩
      · exact ⟨_, _, _, rfl⟩
      · exact ⟨_, _, _, rfl⟩
    obtain ⟨a, len, cap, rfl⟩ := hsh
    have HP := Lib.hid hp
    have HRW := Lib.hid hrow
    have hv3 := hv.cell
    have c3 := hn.cell
    have f3 := hn.frozen
    have c4 := he.cell
    have f4 := he.frozen
    have n3 := (hn.set (.slice a len cap)).other (B' := w.heap.size + 1) (by omega) (.bool true)
    have e3 := (he.other (B' := w.heap.size) (by omega) (.slice a len cap)).set (.bool true)
    have hB3 := (hB.setCell (p := ⟨w.heap.size, 0, none⟩) (Nat.le_refl _) (.slice a len cap)).setCell (p := ⟨w.heap.size + 1, 0, none⟩) (by simp) (.bool true)
    have K3 := ((KeepsOthers.setCell W ⟨w.heap.size, 0, none⟩ (.slice a len cap)).trans (KeepsOthers.setCell _ ⟨w.heap.size + 1, 0, none⟩ (.bool true))).same D _ hK rfl
    have R3 := ownsRow_setCell_other (a := ⟨w.heap.size, 0, none⟩) hrow (hn.not_row (by decide) hrow).symm (.slice a len cap)
    have R4 := ownsRow_setCell_other (a := ⟨w.heap.size + 1, 0, none⟩) R3 ((he.other (B' := w.heap.size) (by omega) (.slice a len cap)).not_row (by decide) R3).symm (.bool true)
    have HR4 := Lib.hid R4
    clear R3 R4 hp hrow
    gi_wp2
    refine ⟨by simp, .inl ⟨_, _, rfl, run_takeDeferred K3, ?_⟩⟩
    have hc3 := cell_kept n3.cell (grownBy_putObj' _ D (.deferred none)) (fun r e => by cases e; exact ⟨_, K3, rfl⟩)
    have hc4 := cell_kept e3.cell (grownBy_putObj' _ D (.deferred none)) (fun r e => by cases e; exact ⟨_, K3, rfl⟩)
    exact ⟨.tuple #[.slice a len cap, .bool true], by simp [results, Tryd.f40, go_sem, hc3, hc4], hB3.trans (belowK_b (w := w) (Nat.le_refl _) _ D _ _ (by rw [hsz] at hD; omega) K3 rfl rfl), .inl ⟨HP.out, _, rfl, ownsRow_putObj HR4.out _ K3 rfl⟩⟩
  case stop =>
    rintro D c pre W hD hpre ⟨⟨rfl, hno⟩, hn, he, hB⟩ hK
    have c3 := hn.cell
    have c4 := he.cell
    have HNO : Hid (¬ allOkI zs) := by
      intro h
      obtain ⟨t, rfl⟩ := hpre
      exact hno fun z hz => h z (List.mem_append.2 (.inl hz))
    gi_wp2
    refine ⟨by simp, .inl ⟨_, _, rfl, run_takeDeferred hK, ?_⟩⟩
    have hc3 := cell_kept c3 (grownBy_putObj' _ D (.deferred none)) (fun r e => by cases e; exact ⟨_, hK, rfl⟩)
    have hc4 := cell_kept c4 (grownBy_putObj' _ D (.deferred none)) (fun r e => by cases e; exact ⟨_, hK, rfl⟩)
    exact ⟨.tuple #[.slice none 0 0, .bool false], by simp [results, Tryd.f40, go_sem, hc3, hc4], hB.trans (belowK_b (w := w) (Nat.le_refl _) W D _ _ (by rw [hsz] at hD; omega) hK rfl rfl), .inr ⟨HNO.out, rfl⟩⟩
end Go.Proofs.YtmcmgmpgmbljiaaDoor
