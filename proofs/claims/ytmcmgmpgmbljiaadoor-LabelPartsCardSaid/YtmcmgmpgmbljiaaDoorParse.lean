/- label.Parse. -/
import Derived.Test.YtmcmgmpgmbljiaaDoorBrV
import Derived.Test.YtmcmgmpgmbljiaaDoorCheck
namespace Go.Proofs.YtmcmgmpgmbljiaaDoor
open Go Go.Proofs Go.RowKit Go.Shelf
set_option maxRecDepth 100000
attribute [local go_sem] Oper.semAt_some
theorem info_lab : (Tryd.prog.info? 55).map (fun i => (i.zero, i.size, i.bytes)) = some (some (.agg #[.string ⟨#[]⟩, .string ⟨#[]⟩]), 2, 32) := by kernel_rfl
/-- the cells of labels -/
def labC (zs : List SLab) : List Value := zs.flatMap fun x => [.string ⟨x.1.1.toArray⟩, .string ⟨x.1.2.toArray⟩]
theorem labC_snoc (zs : List SLab) (x : SLab) : labC (zs ++ [x]) = labC zs ++ [.string ⟨x.1.1.toArray⟩, .string ⟨x.1.2.toArray⟩] := by unfold labC; simp
theorem labC_cons (zs : List SLab) (x : SLab) : labC (x :: zs) = .string ⟨x.1.1.toArray⟩ :: .string ⟨x.1.2.toArray⟩ :: labC zs := by unfold labC; simp
theorem labC_len (zs : List SLab) : (labC zs).length = zs.length * 2 := by
  induction zs with
  | nil => rfl
  | cons x t ih => rw [labC_cons]; simp only [List.length_cons]; omega
theorem labC_at (zs : List SLab) : ∀ j x, zs[j]? = some x → (labC zs)[j * 2]? = some (.string ⟨x.1.1.toArray⟩) ∧ (labC zs)[j * 2 + 1]? = some (.string ⟨x.1.2.toArray⟩) := by
  induction zs with
  | nil => intro j x h; simp at h
  | cons y t ih =>
    intro j x h
    rw [labC_cons]
    cases j with
    | zero => simp at h; subst h; simp
    | succ j =>
      have := ih j x (by simpa using h)
      rw [show (j + 1) * 2 = j * 2 + 1 + 1 by omega, List.getElem?_cons_succ, List.getElem?_cons_succ, show j * 2 + 1 + 1 + 1 = j * 2 + 1 + 1 + 1 from rfl, List.getElem?_cons_succ, List.getElem?_cons_succ]
      exact this
/-- a row of labels that the call owns reads as labels -/
theorem labs_of_row {W : World} {base : Nat} {v : Value} {zs : List SLab} (h : W.ownsRow base 55 2 v zs.length (labC zs)) : Labs W.heap.size W v zs := by
  obtain ⟨_, ⟨rfl, h0⟩ | ⟨g, cap, cur, rfl, hb, hg, hnc, hcm, hcs, ht⟩⟩ := h
  · exact .inl ⟨⟨_, _, rfl⟩, List.eq_nil_of_length_eq_zero h0⟩
  · refine .inr ⟨g, 0, cap, rfl, (Array.getElem?_eq_some_iff.1 hg).1, fun j x hj => ?_⟩
    obtain ⟨c1, c2⟩ := labC_at zs j x hj
    have hjl : j < zs.length := (List.getElem?_eq_some_iff.1 hj).1
    rw [← ht, List.getElem?_take] at c1 c2
    rw [if_pos (by omega)] at c1 c2
    constructor
    · show (match W.heap[g]? with | some (.cells c _ _) => c[0 + j * 2]? | _ => none) = _
      rw [hg]; simpa using c1
    · show (match W.heap[g]? with | some (.cells c _ _) => c[0 + j * 2 + 1]? | _ => none) = _
      rw [hg]; simpa using c2
def allOk (zs : List (SLab × Bool)) : Prop := ∀ z ∈ zs, z.2 = true
instance (zs : List (SLab × Bool)) : Decidable (allOk zs) := by unfold allOk; infer_instance
def parseC (zs : List (SLab × Bool)) : Int := if allOk zs then checkR (zs.map (·.1)) else 2
/-- what Parse answers -/
def ParsePost (zs : List (SLab × Bool)) (w : World) (e : Ending) (w' : World) : Prop :=
  ∃ v, e = .returned (.tuple #[v, .int .i64 (parseC zs)]) ∧ (parseC zs = 0 → Labs w'.heap.size w' v (zs.map (·.1))) ∧ (parseC zs ≠ 0 → v = .slice none 0 0) ∧ Below w.heap.size w w'
theorem cells2_new (W : World) (u v : Value) (T : TypeId) : ∀ j x, [u, v][j]? = some x → (W.alloc (.cells #[u, v] T)).cell? ((⟨W.heap.size, 0, none⟩ : Addr).add j) = some x := by
  intro j x h
  have hb : Blk (W.alloc (.cells #[u, v] T)) W.heap.size #[u, v] T := heap_alloc_new W _
  have e : ((⟨W.heap.size, 0, none⟩ : Addr).add j) = ⟨W.heap.size, j, none⟩ := by rw [Addr.add_lit]; simp
  rw [e]
  refine blk_cell hb ?_
  rcases j with _ | _ | j
  · simpa using h
  · simpa using h
  · simp at h
theorem tx_one (w : World) : TxAt (w.alloc (.cells #[.string ⟨#[61]⟩] 9)).heap.size (w.alloc (.cells #[.string ⟨#[61]⟩] 9)) (.slice (some ⟨w.heap.size, 0, none⟩) 1 1) (ops1.map (·.1)) := by
  refine ⟨by decide, w.heap.size, 0, 1, rfl, by simp, fun j x hj => ?_⟩
  have hB : Blk (w.alloc (.cells #[.string ⟨#[61]⟩] 9)) w.heap.size #[.string ⟨#[61]⟩] 9 := heap_alloc_new w _
  rcases j with _ | j
  · have : x = [61] := by simpa [ops1] using hj.symm
    subst this
    exact blk_cell hB rfl
  · simp [ops1] at hj
set_option maxHeartbeats 4000000 in
theorem parse_any (s : List UInt8) (hs : s.length ≤ 100000) (zs : List (SLab × Bool)) (hZ : WrS s zs) (hreach : zs.length ≤ 100) (w : World) :
    Calls Tryd.prog 14 #[.string ⟨s.toArray⟩] w (ParsePost zs w) := by
  obtain ⟨i0, hi, hz0, hz1, hz2⟩ := info_parts info_lab
  have HI := Lib.hid hi
  have HZ := Lib.hid hz0
  have HZ1 := Lib.hid hz1
  have HZ2 := Lib.hid hz2
  clear hi hz0 hz1 hz2
  have HBP := Lib.hid (bparse_any ops1 (some ⟨w.heap.size, 0, none⟩) 1 1 s hs (zs.map itz) (wrsi_of hZ) (by rw [List.length_map]; omega) (w.alloc (.cells #[.string ⟨#[61]⟩] 9)) (tx_one w))
  have hb0 := below_cells (w := w) (.cells #[.string ⟨#[61]⟩] 9)
  clear hZ
  refine (callsIn_wide (n := 9)).1 ?_
  refine callsIn_of_wp_marks Tryd.func14 rfl trivial ?_ rfl
  simp only [Tryd.ntmps14, List.size_toArray, List.length_cons, List.length_nil, Nat.reduceAdd, Nat.reduceSub, Array.replicate_succ, Array.replicate_zero, List.push_toArray, List.append_toArray, List.nil_append, List.cons_append]
  gi_wp2
  refine ⟨trivial, (callsIn_wide.2 HBP.out).mono ?_⟩
  rintro e w1 ⟨hb1, hpost⟩
  have hbw := below_then hb0 hb1
  rcases hpost with ⟨hok, v, rfl, hrow⟩ | ⟨hno, rfl⟩
  · have hok2 := (ok_items zs).1 hok
    have hrow2 : w1.ownsRow (w.alloc (.cells #[.string ⟨#[61]⟩] 9)).heap.size 72 3 v (zs.map (·.1)).length (itmC ((zs.map (·.1)).map toI)) := by
      rw [items_ok zs hok2] at hrow
      simpa using hrow
    have hIt := itl_of_row hrow2
    obtain ⟨a, len, cap, rfl⟩ : ∃ a len cap, v = .slice a len cap := by
      rcases hIt with ⟨⟨_, _, rfl⟩, _⟩ | ⟨b, off, cap, rfl, _⟩
      · exact ⟨_, _, _, rfl⟩
      · exact ⟨_, _, _, rfl⟩
    have HOK : Hid (allOk zs) := hok2
    have HPC : Hid (parseC zs = checkR (zs.map (·.1))) := by unfold Hid parseC; rw [if_pos (show allOk zs from hok2)]
    have HIT := Lib.hid hIt
    have HBW := Lib.hid hbw
    have hzl : (zs.map (·.1)).length ≤ 100 := by rw [List.length_map]; exact hreach
    clear hrow hrow2 hok hok2 hIt HBP hb0 hb1 hbw
    obtain ⟨ls, hls⟩ : ∃ ls, ls = zs.map (·.1) := ⟨_, rfl⟩
    rw [← hls] at HPC HIT hzl
    have HLS := Lib.hid hls
    clear hls
    gi_wp2
    refine ⟨trivial, (ivalues_in Fence.wide 8 trivial rfl _ _ _ _).mono ?_⟩
    rintro e w2 ⟨rfl, rfl⟩
    gi_wp2
    obtain ⟨W0, hW0⟩ : ∃ W0, ((w1.alloc (.cells #[.slice none 0 0] 23)).alloc (.cells #[.slice a len cap] 67)) = W0 := ⟨_, rfl⟩
    have hlp : Below w1.heap.size w1 W0 := by rw [← hW0]; go_grown
    have hsz : W0.heap.size = w1.heap.size + 2 := by rw [← hW0]; simp
    have bv0 : Boxed W0 w1.heap.size 23 (.slice none 0 0) := by
      rw [← hW0]
      exact (Boxed.new w1 23 (.slice none 0 0)).alloc _
    have bs0 : W0.cell? ⟨w1.heap.size + 1, 0, none⟩ = some (.slice a len cap) := by
      rw [← hW0]
      have h : Boxed ((w1.alloc (.cells #[.slice none 0 0] 23)).alloc (.cells #[.slice a len cap] 67)) _ 67 _ := Boxed.new (w1.alloc (.cells #[.slice none 0 0] 23)) 67 (.slice a len cap)
      rw [World.size_alloc] at h
      exact h.cell
    have hI0 := HIT.out.below hlp
    rw [hW0]
    clear hW0
    refine wpIn_rangeFunc_ownH (F := Fence.wide) (n := 9) rfl (by omega) (gf := 58) (lb := #[.pointer (some ⟨w1.heap.size + 1, 0, none⟩)]) rfl trivial (enters_of Tryd.func58 (by kernel_rfl) rfl)
      (encs := fun x : SLab => #[itmV (labI x.1)]) (Kp := Below w1.heap.size) (ivalues_stops Fence.wide (9 - 1) trivial rfl (by omega) (w1.heap.size + 1) w1.heap.size (.slice a len cap) ls (by omega) W0 (by omega) (by omega) bs0 hI0) belowK_t (belowK_b (by omega)) (Below.refl _ _) (fun _ => rfl)
      (fun pre W => (∃ v, Boxed W w1.heap.size 23 v ∧ W.ownsRow w1.heap.size 55 2 v pre.length (labC pre) ∧ True) ∧ Below w1.heap.size w1 W)
      (fun _ _ _ => False)
      (OwnFrom.and (Own.from (holdsRow_own w1.heap.size w1.heap.size 23 55 2 (fun (pre : List SLab) => pre.length) (fun (pre : List SLab) => labC pre) (fun _ _ => True)) _) (ownFrom_below (Nat.le_refl _) (by rw [hsz]; omega)))
      (fun _ _ _ _ _ hs _ _ => hs)
      ⟨⟨_, bv0, World.ownsRow_nil _ _ _ _, trivial⟩, hlp⟩
      (fun x a' W => ∃ Bx, w1.heap.size < Bx ∧ Blk W Bx #[.string ⟨x.1.1.toArray⟩, .string ⟨#[61]⟩, .string ⟨x.1.2.toArray⟩] 72 ∧ a' = { tmps := #[.string ⟨s.toArray⟩, undef, .slice none 0 0, .int .i64 0, .slice a len cap, .bool true, .pointer (some ⟨w1.heap.size, 0, none⟩), .pointer (some ⟨Bx, 0, none⟩), undef, .tuple #[.slice a len cap, .bool true], .string ⟨s.toArray⟩, .slice (some ⟨w.heap.size, 0, none⟩) 1 1, .tuple #[.slice a len cap, .bool true], .slice a len cap, .bool true, .bool true, .bool false, .slice a len cap, .func (.func 58) #[] #[.pointer (some ⟨w1.heap.size + 1, 0, none⟩)], .agg #[.string ⟨x.1.1.toArray⟩, .string ⟨#[61]⟩, .string ⟨x.1.2.toArray⟩], undef, undef, undef, undef, undef, undef, undef, undef, undef, undef, undef, undef, undef, undef], defers := [] })
      (fun x a' => ?ax) ?assign ?body ?done ?stop
    case ax => exact fun s X Y row ⟨Bx, q1, q2, q3⟩ hg hr => ⟨Bx, q1, (blk_own (β := Unit) Bx _ _).from _ () X Y row q2 hg hr, q3⟩
    case assign =>
      rintro l pre x W K ⟨⟨v, hv, hrow, _⟩, hB⟩ hK
      simp only [itmV, labI]
      have hWs : w1.heap.size < W.heap.size := hv.lt
      have HR := Lib.hid hrow
      clear hrow
      gi_wp2
      exact hK _ _ ((KeepsOthers.alloc _ _).from _) ((Below.refl _ W).alloc (by omega) _) ⟨⟨v, hv.alloc _, HR.out.alloc _, trivial⟩, below_new hB _⟩ ⟨W.heap.size, hWs, heap_alloc_new W _, rfl⟩
    case body =>
      rintro l pre x a' W hl ⟨r, hr⟩ ⟨⟨v, hv, hrow, _⟩, hB⟩ ⟨Bx, hBx, bX, rfl⟩ hlen
      obtain ⟨⟨xn, xv⟩, hx⟩ := x
      dsimp only at bX
      have HR := Lib.hid hrow
      clear hrow
      have hv3 := hv.cell
      have cx0 := blk_cell (j := 0) bX rfl
      have cx1 := blk_cell (j := 1) bX rfl
      have cx2 := blk_cell (j := 2) bX rfl
      gi_wp2_with (gi_at_builtin; refine wpListIn_append_own _ rfl _ _ 23 rfl w1.heap.size 55 i0 (.agg #[.string ⟨#[]⟩, .string ⟨#[]⟩]) 2 32 Tryd.underlying23 HI.out HZ.out HZ1.out HZ2.out rfl (by decide) _ _ _ rfl (HR.out.alloc _) ⟨W.heap.size, 0, none⟩ 1 1 [.string ⟨xn.toArray⟩, .string ⟨xv.toArray⟩] rfl rfl (cells2_new _ _ _ _) ?k1 ?k2 ?k3 ?k4 ?_)
      case k1 => intro u hu; simp at hu; rcases hu with rfl | rfl <;> rfl
      case k2 => unfold maxLen; omega
      case k3 => omega
      case k4 => have := hB.size; simp; omega
      intro v' w3 hown' hgrow _
      obtain ⟨g', cap', rfl⟩ := ownsRow_succ hown'
      obtain ⟨hv1, hv2, hr2, hk2, hb2⟩ := hv.appended (by decide) HR.out hB.size (by omega) hown' hgrow
      have hc1 := hv1.cell
      have hf1 := hv1.frozen
      have HR2 := Lib.hid hr2
      clear hown' hgrow hr2 hv1
      gi_wp2
      refine ⟨hk2.from _, hb2, ⟨_, hv2, ?_, trivial⟩, hB.trans hb2⟩
      have := HR2.out
      rw [List.length_append]
      simpa [labC_snoc] using this
    case done =>
      rintro D ys W hD rfl ⟨⟨v, hv, hrow, _⟩, hB⟩ hK
      have hL := labs_of_row (zs := ys) hrow
      obtain ⟨a2, len2, cap2, rfl⟩ : ∃ a len cap, v = .slice a len cap := by
        rcases hL with ⟨⟨_, _, rfl⟩, _⟩ | ⟨b, off, cap, rfl, _⟩
        · exact ⟨_, _, _, rfl⟩
        · exact ⟨_, _, _, rfl⟩
      have HC := Lib.hid (check_any a2 len2 cap2 ys hzl W hL)
      have hv3 := hv.cell
      have HRW := Lib.hid hrow
      clear hL hrow
      gi_wp2
      refine ⟨trivial, (callsIn_wide.2 HC.out).mono ?_⟩
      rintro e w2 ⟨rfl, hb2⟩
      have v2 := boxed_below hv hb2
      have K2 := (ko_below hb2).same D _ hK rfl
      have hob : ∀ v : Value, v.ownBlock = none ∨ v.ownBlock ≠ none := fun v => by cases v.ownBlock <;> simp
      have R2 := HRW.out.kept (grown_below hb2) (hob _)
      have HR2 := Lib.hid R2
      clear HRW R2 hob HC
      have hB2 := hB.trans (hb2.mono hB.size)
      have c5 := v2.cell
      generalize checkR ys = c at *
      have hDl := hb2.size
      have HBE : Hid (Below w.heap.size w (w2.putObj D (.deferred none))) := below_then HBW.out (hB2.trans (belowK_b (w := w1) (Nat.le_refl _) w2 D _ _ (by rw [hsz] at hD; omega) K2 rfl rfl))
      by_cases h0 : c = 0
      · have hne : (c != 0) = false := by rw [bne_eq_false_iff_eq]; exact h0
        have H0 := Lib.hid h0
        clear h0
        gi_wp2
        refine ⟨by simp, .inl ⟨_, _, rfl, run_takeDeferred K2, ?_⟩⟩
        refine ⟨.tuple #[.slice a2 len2 cap2, .int .i64 0], by simp [results, Tryd.f14, go_sem], _, by rw [HPC.out, H0.out], fun _ => ?_, fun h => absurd (HPC.out.trans H0.out) h, HBE.out⟩
        rw [← HLS.out]
        exact labs_of_row (base := w1.heap.size) (ownsRow_putObj HR2.out _ K2 rfl)
      · have hne : (c != 0) = true := by rw [bne_iff_ne]; exact h0
        have H0 := Lib.hid h0
        clear h0
        gi_wp2
        refine ⟨by simp, .inl ⟨_, _, rfl, run_takeDeferred K2, ?_⟩⟩
        exact ⟨.tuple #[.slice none 0 0, .int .i64 c], by simp [results, Tryd.f14, go_sem], _, by rw [HPC.out], fun h => absurd (HPC.out.symm.trans h) H0.out, fun _ => rfl, HBE.out⟩
    case stop => exact fun D c pre W hD hpre hf hK => hf.elim
  · have HNO : Hid (parseC zs = 2) := by
      unfold Hid parseC; rw [if_neg (fun h : allOk zs => hno ((ok_items zs).2 h))]
    have HBW := Lib.hid hbw
    clear hno hb0 hb1 hbw HBP
    gi_wp2
    exact ⟨.tuple #[.slice none 0 0, .int .i64 2], by simp [results, Tryd.f14, go_sem], _, by rw [HNO.out], fun h => absurd (HNO.out.symm.trans h) (by decide), fun _ => rfl, HBW.out⟩
end Go.Proofs.YtmcmgmpgmbljiaaDoor
