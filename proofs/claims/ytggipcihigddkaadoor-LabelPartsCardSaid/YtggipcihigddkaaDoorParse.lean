/- label.Parse. -/
import Derived.Test.YtggipcihigddkaaDoorWritten
namespace Go.Proofs.YtggipcihigddkaaDoor
open Go Go.Proofs Go.RowKit Go.Shelf
set_option maxRecDepth 100000
attribute [local go_sem] Oper.semAt_some
theorem info_lab : (Tryd.prog.info? 55).map (fun i => (i.zero, i.size, i.bytes)) = some (some (.agg #[.string ⟨#[]⟩, .string ⟨#[]⟩]), 2, 32) := by kernel_rfl
/-- the cells of labels -/
def labC (zs : List SLab) : List Value := zs.flatMap fun x => [.string ⟨x.1.1.toArray⟩, .string ⟨x.1.2.toArray⟩]
theorem labC_snoc (zs : List SLab) (x : SLab) : labC (zs ++ [x]) = labC zs ++ [.string ⟨x.1.1.toArray⟩, .string ⟨x.1.2.toArray⟩] := by unfold labC; simp
theorem labC_cons (zs : List SLab) (x : SLab) : labC (x :: zs) = .string ⟨x.1.1.toArray⟩ :: .string ⟨x.1.2.toArray⟩ :: labC zs := by unfold labC; simp
theorem labC_len (zs : List SLab) : (labC zs).length = zs.length * 2 := by
  induction zs with
  | nil => rfl
  | cons x t ih => rw [labC_cons]; simp only [List.length_cons]; omega
theorem labC_at (zs : List SLab) : ∀ j x, zs[j]? = some x → (labC zs)[j * 2]? = some (.string ⟨x.1.1.toArray⟩) ∧ (labC zs)[j * 2 + 1]? = some (.string ⟨x.1.2.toArray⟩) := by
  induction zs with
  | nil => intro j x h; simp at h
  | cons y t ih =>
    intro j x h
    rw [labC_cons]
    cases j with
    | zero => simp at h; subst h; simp
    | succ j =>
      have := ih j x (by simpa using h)
      rw [show (j + 1) * 2 = j * 2 + 1 + 1 by omega, List.getElem?_cons_succ, List.getElem?_cons_succ, show j * 2 + 1 + 1 + 1 = j * 2 + 1 + 1 + 1 from rfl, List.getElem?_cons_succ, List.getElem?_cons_succ]
      exact this
/-- a row of labels that the call owns reads as labels -/
theorem labs_of_row {W : World} {base : Nat} {v : Value} {zs : List SLab} (h : W.ownsRow base 55 2 v zs.length (labC zs)) : Labs W.heap.size W v zs := by
  obtain ⟨_, ⟨rfl, h0⟩ | ⟨g, cap, cur, rfl, hb, hg, hnc, hcm, hcs, ht⟩⟩ := h
  · exact .inl ⟨⟨_, _, rfl⟩, List.eq_nil_of_length_eq_zero h0⟩
  · refine .inr ⟨g, 0, cap, rfl, (Array.getElem?_eq_some_iff.1 hg).1, fun j x hj => ?_⟩
    obtain ⟨c1, c2⟩ := labC_at zs j x hj
    have hjl : j < zs.length := (List.getElem?_eq_some_iff.1 hj).1
    rw [← ht, List.getElem?_take] at c1 c2
    rw [if_pos (by omega)] at c1 c2
    constructor
    · show (match W.heap[g]? with | some (.cells c _ _) => c[0 + j * 2]? | _ => none) = _
      rw [hg]; simpa using c1
    · show (match W.heap[g]? with | some (.cells c _ _) => c[0 + j * 2 + 1]? | _ => none) = _
      rw [hg]; simpa using c2
def allOk (zs : List (SLab × Bool)) : Prop := ∀ z ∈ zs, z.2 = true
instance (zs : List (SLab × Bool)) : Decidable (allOk zs) := by unfold allOk; infer_instance
def parseC (zs : List (SLab × Bool)) : Int := if allOk zs then checkR (zs.map (·.1)) else 2
/-- what Parse answers -/
def ParsePost (zs : List (SLab × Bool)) (w : World) (e : Ending) (w' : World) : Prop :=
  ∃ v, e = .returned (.tuple #[v, .int .i64 (parseC zs)]) ∧ (parseC zs = 0 → Labs w'.heap.size w' v (zs.map (·.1))) ∧ (parseC zs ≠ 0 → v = .slice none 0 0) ∧ Below w.heap.size w w'
theorem cells2_new (W : World) (u v : Value) (T : TypeId) : ∀ j x, [u, v][j]? = some x → (W.alloc (.cells #[u, v] T)).cell? ((⟨W.heap.size, 0, none⟩ : Addr).add j) = some x := by
  intro j x h
  have hb : Blk (W.alloc (.cells #[u, v] T)) W.heap.size #[u, v] T := heap_alloc_new W _
  have e : ((⟨W.heap.size, 0, none⟩ : Addr).add j) = ⟨W.heap.size, j, none⟩ := by rw [Addr.add_lit]; simp
  rw [e]
  refine blk_cell hb ?_
  rcases j with _ | _ | j
  · simpa using h
  · simpa using h
  · simp at h
set_option maxHeartbeats 4000000 in
theorem parse_any (s : List UInt8) (hs : s.length ≤ 100000) (zs : List (SLab × Bool)) (hZ : WrS s zs) (hreach : zs.length ≤ 100) (w : World) :
    Calls Tryd.prog 14 #[.string ⟨s.toArray⟩] w (ParsePost zs w) := by
  obtain ⟨i0, hi, hz0, hz1, hz2⟩ := info_parts info_lab
  have HI := Lib.hid hi
  have HZ := Lib.hid hz0
  have HZ1 := Lib.hid hz1
  have HZ2 := Lib.hid hz2
  clear hi hz0 hz1 hz2
  refine (callsIn_wide (n := 9)).1 ?_
  refine callsIn_of_wp_marks Tryd.func14 rfl trivial ?_ rfl
  simp only [Tryd.ntmps14, List.size_toArray, List.length_cons, List.length_nil, Nat.reduceAdd, Nat.reduceSub, Array.replicate_succ, Array.replicate_zero, List.push_toArray, List.append_toArray, List.nil_append, List.cons_append]
  gi_wp2
  refine ⟨trivial, (written_in _ _).mono ?_⟩
  rintro e w1 ⟨rfl, rfl⟩
  gi_wp2
  obtain ⟨W0, hW0⟩ : ∃ W0, ((((w.alloc (.cells #[.slice none 0 0] 23)).alloc (.cells #[.int .i64 0] 29)).alloc (.cells #[.slice none 0 0] 23)).alloc (.cells #[.string ⟨s.toArray⟩] 9)) = W0 := ⟨_, rfl⟩
  have hlp : Below w.heap.size w W0 := by rw [← hW0]; go_grown
  have hsz : W0.heap.size = w.heap.size + 4 := by rw [← hW0]; simp
  have br0 : Boxed W0 w.heap.size 23 (.slice none 0 0) := by
    rw [← hW0]
    exact (((Boxed.new w 23 (.slice none 0 0)).alloc _).alloc _).alloc _
  have be0 : Boxed W0 (w.heap.size + 1) 29 (.int .i64 0) := by
    rw [← hW0]
    have h := Boxed.new (w.alloc (.cells #[.slice none 0 0] 23)) 29 (.int .i64 0)
    rw [World.size_alloc] at h
    exact (h.alloc _).alloc _
  have bv0 : Boxed W0 (w.heap.size + 1 + 1) 23 (.slice none 0 0) := by
    rw [← hW0]
    have h := Boxed.new ((w.alloc (.cells #[.slice none 0 0] 23)).alloc (.cells #[.int .i64 0] 29)) 23 (.slice none 0 0)
    rw [World.size_alloc, World.size_alloc] at h
    exact h.alloc _
  have bs0 : W0.cell? ⟨w.heap.size + 1 + 1 + 1, 0, none⟩ = some (.string ⟨s.toArray⟩) := by
    rw [← hW0]
    have h := cell_one_new (((w.alloc (.cells #[.slice none 0 0] 23)).alloc (.cells #[.int .i64 0] 29)).alloc (.cells #[.slice none 0 0] 23)) (.string ⟨s.toArray⟩) 9 0 _ rfl
    simpa [Addr.add] using h
  rw [hW0]
  clear hW0
  refine wpIn_rangeFunc_ownH (F := Fence.wide) (n := 9) rfl (by omega) (gf := 53) (lb := #[.pointer (some ⟨w.heap.size + 1 + 1 + 1, 0, none⟩)]) rfl trivial (enters_of Tryd.func53 (by kernel_rfl) rfl)
    (encs := wEnc) (Kp := Below w.heap.size) (written_stops (w.heap.size + 1 + 1 + 1) w.heap.size s hs zs hZ W0 (by omega) bs0) belowK_t (belowK_b (by omega)) (Below.refl _ _) (fun _ => rfl)
    (fun pre W => allOk pre ∧ Boxed W w.heap.size 23 (.slice none 0 0) ∧ Boxed W (w.heap.size + 1) 29 (.int .i64 0) ∧ (∃ v, Boxed W (w.heap.size + 1 + 1) 23 v ∧ W.ownsRow w.heap.size 55 2 v pre.length (labC (pre.map (·.1))) ∧ True) ∧ Below w.heap.size w W)
    (fun c pre W => (c = .ret ∧ ¬ allOk pre) ∧ Boxed W w.heap.size 23 (.slice none 0 0) ∧ Boxed W (w.heap.size + 1) 29 (.int .i64 2) ∧ Below w.heap.size w W)
    (OwnFrom.and (ownFrom_pure _ _) (OwnFrom.and (Own.from (boxed_own w.heap.size 23 (fun _ => .slice none 0 0)) _) (OwnFrom.and (Own.from (boxed_own (w.heap.size + 1) 29 (fun _ => .int .i64 0)) _)
      (OwnFrom.and (Own.from (holdsRow_own w.heap.size (w.heap.size + 1 + 1) 23 55 2 (fun (pre : List (SLab × Bool)) => pre.length) (fun (pre : List (SLab × Bool)) => labC (pre.map (·.1))) (fun _ _ => True)) _) (ownFrom_below (Nat.le_refl _) (by rw [hsz]; omega))))))
    (fun c => OwnFrom.and (ownFrom_pure _ _) (OwnFrom.and (Own.from (boxed_own w.heap.size 23 (fun _ => .slice none 0 0)) _) (OwnFrom.and (Own.from (boxed_own (w.heap.size + 1) 29 (fun _ => .int .i64 2)) _) (ownFrom_below (Nat.le_refl _) (by rw [hsz]; omega)))))
    ⟨(fun z hz => absurd hz (by simp)), br0, be0, ⟨_, bv0, World.ownsRow_nil _ _ _ _, trivial⟩, hlp⟩
    (fun x a' W => ∃ Bx, w.heap.size + 1 + 1 < Bx ∧ Blk W Bx #[.string ⟨x.1.1.1.toArray⟩, .string ⟨x.1.1.2.toArray⟩] 55 ∧ a' = { tmps := #[.string ⟨s.toArray⟩, undef, .pointer (some ⟨w.heap.size, 0, none⟩), .pointer (some ⟨w.heap.size + 1, 0, none⟩), .pointer (some ⟨w.heap.size + 1 + 1, 0, none⟩), .pointer (some ⟨Bx, 0, none⟩), .bool x.2, undef, .string ⟨s.toArray⟩, .func (.func 53) #[] #[.pointer (some ⟨w.heap.size + 1 + 1 + 1, 0, none⟩)], .agg #[.string ⟨x.1.1.1.toArray⟩, .string ⟨x.1.1.2.toArray⟩], .bool x.2, undef, undef, undef, undef, undef, undef, undef, undef, undef, undef, undef, undef], defers := [] })
    (fun x a' => ?ax) ?assign ?body ?done ?stop
  case ax => exact fun s X Y row ⟨Bx, q1, q2, q3⟩ hg hr => ⟨Bx, q1, (blk_own (β := Unit) Bx _ _).from _ () X Y row q2 hg hr, q3⟩
  case assign =>
    rintro l pre x W K ⟨hp, hn, he, ⟨v, hv, hrow, _⟩, hB⟩ hK
    simp only [wEnc, labV]
    have hWs : w.heap.size + 1 + 1 < W.heap.size := hv.lt
    have HR := Lib.hid hrow
    clear hrow
    gi_wp2
    exact hK _ _ ((KeepsOthers.alloc _ _).from _) ((Below.refl _ W).alloc (by omega) _) ⟨hp, hn.alloc _, he.alloc _, ⟨v, hv.alloc _, HR.out.alloc _, trivial⟩, below_new hB _⟩ ⟨W.heap.size, hWs, heap_alloc_new W _, rfl⟩
  case body =>
    rintro l pre x a' W hl ⟨r, hr⟩ ⟨hp, hn, he, ⟨v, hv, hrow, _⟩, hB⟩ ⟨Bx, hBx, bX, rfl⟩ hlen
    obtain ⟨⟨⟨xn, xv⟩, hx⟩, ok⟩ := x
    dsimp only at bX
    have HR := Lib.hid hrow
    have HP := Lib.hid hp
    clear hrow hp
    cases ok
    · have c3 := hn.cell
      have f3 := hn.frozen
      have c4 := he.cell
      have f4 := he.frozen
      have n2 := hn.set (.slice none 0 0)
      have e2 := (he.other (B' := w.heap.size) (by omega) (.slice none 0 0)).set (.int .i64 2)
      have n3 := n2.other (B' := w.heap.size + 1) (by omega) (.int .i64 2)
      have hB2 := (hB.setCell (p := ⟨w.heap.size, 0, none⟩) (Nat.le_refl _) (.slice none 0 0)).setCell (p := ⟨w.heap.size + 1, 0, none⟩) (by simp) (.int .i64 2)
      have K2 := (KeepsOthers.setCell W ⟨w.heap.size, 0, none⟩ (.slice none 0 0)).trans (KeepsOthers.setCell _ ⟨w.heap.size + 1, 0, none⟩ (.int .i64 2))
      gi_wp2
      exact ⟨K2.from _, ⟨rfl, fun h => absurd (h _ (List.mem_append.2 (.inr (List.mem_singleton.2 rfl)))) (by simp)⟩, n3, e2, hB2⟩
    · have hv3 := hv.cell
      have cx0 := blk_cell (j := 0) bX rfl
      have cx1 := blk_cell (j := 1) bX rfl
      gi_wp2_with (gi_at_builtin; refine wpListIn_append_own _ rfl _ _ 23 rfl w.heap.size 55 i0 (.agg #[.string ⟨#[]⟩, .string ⟨#[]⟩]) 2 32 Tryd.underlying23 HI.out HZ.out HZ1.out HZ2.out rfl (by decide) _ _ _ rfl (HR.out.alloc _) ⟨W.heap.size, 0, none⟩ 1 1 [.string ⟨xn.toArray⟩, .string ⟨xv.toArray⟩] rfl rfl (cells2_new _ _ _ _) ?k1 ?k2 ?k3 ?k4 ?_)
      case k1 => intro u hu; simp at hu; rcases hu with rfl | rfl <;> rfl
      case k2 => unfold maxLen; omega
      case k3 => omega
      case k4 => have := hB.size; simp; omega
      intro v' w1 hown' hgrow _
      obtain ⟨g', cap', rfl⟩ := ownsRow_succ hown'
      obtain ⟨hv1, hv2, hr2, hk2, hb2⟩ := hv.appended (by decide) HR.out hB.size (by omega) hown' hgrow
      have hc1 := hv1.cell
      have hf1 := hv1.frozen
      have n2 := ((hn.alloc _).kept hgrow (hn.not_row (by decide) HR.out)).other (B' := w.heap.size + 1 + 1) (by omega) (.slice (some ⟨g', 0, none⟩) (pre.length + 1) cap')
      have e2 := ((he.alloc _).kept hgrow (he.not_row (by decide) HR.out)).other (B' := w.heap.size + 1 + 1) (by omega) (.slice (some ⟨g', 0, none⟩) (pre.length + 1) cap')
      have HR2 := Lib.hid hr2
      clear hown' hgrow hr2 hv1
      gi_wp2
      refine ⟨hk2.from _, hb2, ?_, n2, e2, ⟨_, hv2, ?_, trivial⟩, hB.trans hb2⟩
      · intro z hz
        rcases List.mem_append.1 hz with h | h
        · exact HP.out z h
        · rw [List.mem_singleton.1 h]
      · have := HR2.out
        rw [List.map_append, List.length_append]
        simpa [labC_snoc] using this
  case done =>
    rintro D ys W hD rfl ⟨hp, hn, he, ⟨v, hv, hrow, _⟩, hB⟩ hK
    have hL := labs_of_row (zs := ys.map (·.1)) (by rw [List.length_map]; exact hrow)
    have hsh : ∃ a len cap, v = .slice a len cap := by
      rcases hL with ⟨⟨_, _, rfl⟩, _⟩ | ⟨b, off, cap, rfl, _⟩
      · exact ⟨_, _, _, rfl⟩
      · exact ⟨_, _, _, rfl⟩
    obtain ⟨a, len, cap, rfl⟩ := hsh
    have HC := Lib.hid (check_any a len cap (ys.map (·.1)) (by rw [List.length_map]; exact hreach) W hL)
    have hPC : parseC ys = checkR (ys.map (·.1)) := by unfold parseC; rw [if_pos hp]
    have HL := Lib.hid hL
    have HPC := Lib.hid hPC
    have hv3 := hv.cell
    have HRW := Lib.hid hrow
    clear hL hPC hp hrow
    gi_wp2
    refine ⟨trivial, (callsIn_wide.2 HC.out).mono ?_⟩
    rintro e w2 ⟨rfl, hb2⟩
    have n2 := boxed_below hn hb2
    have e2 := boxed_below he hb2
    have v2 := boxed_below hv hb2
    have K2 := (ko_below hb2).same D _ hK rfl
    have hob : ∀ v : Value, v.ownBlock = none ∨ v.ownBlock ≠ none := fun v => by cases v.ownBlock <;> simp
    have R2 := HRW.out.kept (grown_below hb2) (hob _)
    have HR2 := Lib.hid R2
    clear HL HRW R2 hob
    have hB2 := hB.trans (hb2.mono hB.size)
    have hDl := hb2.size
    clear HC
    have c3 := n2.cell
    have f3 := n2.frozen
    have c4 := e2.cell
    have f4 := e2.frozen
    have c5 := v2.cell
    generalize checkR (ys.map (·.1)) = c at *
    by_cases h0 : c = 0
    · have hne : (c != 0) = false := by rw [bne_eq_false_iff_eq]; exact h0
      have n3 := (n2.set (.slice a len cap)).other (B' := w.heap.size + 1) (by omega) (.int .i64 0)
      have e3 := (e2.other (B' := w.heap.size) (by omega) (.slice a len cap)).set (.int .i64 0)
      have hB3 := (hB2.setCell (p := ⟨w.heap.size, 0, none⟩) (Nat.le_refl _) (.slice a len cap)).setCell (p := ⟨w.heap.size + 1, 0, none⟩) (by simp) (.int .i64 0)
      have K3 := ((KeepsOthers.setCell w2 ⟨w.heap.size, 0, none⟩ (.slice a len cap)).trans (KeepsOthers.setCell _ ⟨w.heap.size + 1, 0, none⟩ (.int .i64 0))).same D _ K2 rfl
      have R3 := ownsRow_setCell_other (a := ⟨w.heap.size, 0, none⟩) HR2.out (n2.not_row (by decide) HR2.out).symm (.slice a len cap)
      have R4 := ownsRow_setCell_other (a := ⟨w.heap.size + 1, 0, none⟩) R3 ((e2.other (B' := w.heap.size) (by omega) (.slice a len cap)).not_row (by decide) R3).symm (.int .i64 0)
      have HR4 := Lib.hid R4
      clear R3 R4 h0
      gi_wp2
      refine ⟨by simp, .inl ⟨_, _, rfl, run_takeDeferred K3, ?_⟩⟩
      have hc3 := cell_kept n3.cell (grownBy_putObj' _ D (.deferred none)) (fun r e => by cases e; exact ⟨_, K3, rfl⟩)
      have hc4 := cell_kept e3.cell (grownBy_putObj' _ D (.deferred none)) (fun r e => by cases e; exact ⟨_, K3, rfl⟩)
      have e0 : c = 0 := by simpa using hne
      refine ⟨.tuple #[.slice a len cap, .int .i64 0], by simp [results, Tryd.f14, go_sem, hc3, hc4], _, by rw [HPC.out, e0], fun _ => ?_, fun h => absurd (HPC.out.trans e0) h, hB3.trans (belowK_b (w := w) (Nat.le_refl _) _ D _ _ (by rw [hsz] at hD; omega) K3 rfl rfl)⟩
      refine labs_of_row (base := w.heap.size) ?_
      rw [List.length_map]
      exact ownsRow_putObj HR4.out _ K3 rfl
    · have hne : (c != 0) = true := by rw [bne_iff_ne]; exact h0
      have n3 := (n2.set (.slice none 0 0)).other (B' := w.heap.size + 1) (by omega) (.int .i64 c)
      have e3 := (e2.other (B' := w.heap.size) (by omega) (.slice none 0 0)).set (.int .i64 c)
      have hB3 := (hB2.setCell (p := ⟨w.heap.size, 0, none⟩) (Nat.le_refl _) (.slice none 0 0)).setCell (p := ⟨w.heap.size + 1, 0, none⟩) (by simp) (.int .i64 c)
      have K3 := ((KeepsOthers.setCell w2 ⟨w.heap.size, 0, none⟩ (.slice none 0 0)).trans (KeepsOthers.setCell _ ⟨w.heap.size + 1, 0, none⟩ (.int .i64 c))).same D _ K2 rfl
      clear h0
      gi_wp2
      refine ⟨by simp, .inl ⟨_, _, rfl, run_takeDeferred K3, ?_⟩⟩
      have hc3 := cell_kept n3.cell (grownBy_putObj' _ D (.deferred none)) (fun r e => by cases e; exact ⟨_, K3, rfl⟩)
      have hc4 := cell_kept e3.cell (grownBy_putObj' _ D (.deferred none)) (fun r e => by cases e; exact ⟨_, K3, rfl⟩)
      refine ⟨.tuple #[.slice none 0 0, .int .i64 c], by simp [results, Tryd.f14, go_sem, hc3, hc4], _, by rw [HPC.out], ?_, fun _ => rfl, hB3.trans (belowK_b (w := w) (Nat.le_refl _) _ D _ _ (by rw [hsz] at hD; omega) K3 rfl rfl)⟩
      rw [HPC.out]; intro h; rw [h] at hne; cases hne
  case stop =>
    rintro D c pre W hD hpre ⟨⟨rfl, hno⟩, hn, he, hB⟩ hK
    have c3 := hn.cell
    have c4 := he.cell
    have hPC : parseC zs = 2 := by
      unfold parseC; rw [if_neg]
      intro h
      obtain ⟨t, rfl⟩ := hpre
      exact hno fun z hz => h z (List.mem_append.2 (.inl hz))
    have HPC := Lib.hid hPC
    clear hPC
    gi_wp2
    refine ⟨by simp, .inl ⟨_, _, rfl, run_takeDeferred hK, ?_⟩⟩
    have hc3 := cell_kept c3 (grownBy_putObj' _ D (.deferred none)) (fun r e => by cases e; exact ⟨_, hK, rfl⟩)
    have hc4 := cell_kept c4 (grownBy_putObj' _ D (.deferred none)) (fun r e => by cases e; exact ⟨_, hK, rfl⟩)
    refine ⟨.tuple #[.slice none 0 0, .int .i64 2], by simp [results, Tryd.f14, go_sem, hc3, hc4], _, by rw [HPC.out], (by rw [HPC.out]; intro h; cases h), fun _ => rfl, hB.trans (belowK_b (w := w) (Nat.le_refl _) W D _ _ (by rw [hsz] at hD; omega) hK rfl rfl)⟩
end Go.Proofs.YtggipcihigddkaaDoor
