/- hist.Merge. -/
import Derived.Test.YtohmliockehbkaaHe
namespace Go.Proofs.Ytohmliockehbkaa
open Go Go.Proofs Go.RowKit Go.Shelf
set_option maxRecDepth 100000
attribute [local go_sem] Oper.semAt_some
theorem HAt.mark {T : TypeId} {W : World} {b D : Nat} {h : List Int} (H : HAt T W b h) (hne : b ≠ D) (o : Obj) : HAt T (W.putObj D o) b h := H.keep (World.putObj_heap_other hne)
set_option maxHeartbeats 8000000 in
theorem merge_wd (h g : List Int) (s : Small h) (sg : Small g) (w : World) :
    CallsIn Fence.wide 9 Try.prog 13 #[.agg (hc h), .agg (hc g)] w fun e w' => e = .returned (.agg (hc (mergeR h g))) ∧ Below w.heap.size w w' := by
  have hlen := s.len
  have glen := sg.len
  have hz := zeroH
  have hzs := hc_size zs65
  have hzn := hc_ne zs65_len
  refine callsIn_of_wp_marks Try.func13 rfl trivial ?_ rfl
  simp only [Try.ntmps13, List.size_toArray, List.length_cons, List.length_nil, Nat.reduceAdd, Nat.reduceSub, Array.replicate_succ, Array.replicate_zero, List.push_toArray, List.append_toArray, List.nil_append, List.cons_append]
  have H0 : HAt 25 (((w.alloc (.cells (hc h) 25)).alloc (.cells (hc g) 25)).alloc (.cells (hc zs65) 25)) (w.heap.size + 1) g := by
    have := hat_new (w.alloc (.cells (hc h) 25)) 25 glen
    rw [World.size_alloc] at this
    exact this.alloc _
  gi_wp2_with (first | (refine ldI_row rowH H0 rfl rfl rfl ?_) | fail)
  refine ⟨trivial, (callsIn_wide.2 (buckets_any g _)).mono ?_⟩
  rintro e w1 ⟨rfl, rfl⟩
  clear hz hzs hzn
  gi_wp2
  obtain ⟨W0, hW0⟩ : ∃ W0, (((w.alloc (.cells (hc h) 25)).alloc (.cells (hc g) 25)).alloc (.cells (hc zs65) 25)).alloc (.cells (hc g) 25) = W0 := ⟨_, rfl⟩
  have hlp : Below w.heap.size w W0 := by rw [← hW0]; go_grown
  have hsz : W0.heap.size = w.heap.size + 4 := by rw [← hW0]; simp
  have A0 : HAt 25 W0 w.heap.size h := by
    rw [← hW0]
    exact (((hat_new w 25 hlen).alloc _).alloc _).alloc _
  have R0 : HAt 25 W0 (w.heap.size + 1 + 1) zs65 := by
    rw [← hW0]
    have h := hat_new ((w.alloc (.cells (hc h) 25)).alloc (.cells (hc g) 25)) 25 zs65_len
    rw [World.size_alloc, World.size_alloc] at h
    exact h.alloc _
  have HI : HAt 25 W0 (w.heap.size + 1 + 1 + 1) g := by
    rw [← hW0]
    have h := hat_new (((w.alloc (.cells (hc h) 25)).alloc (.cells (hc g) 25)).alloc (.cells (hc zs65) 25)) 25 glen
    rwa [World.size_alloc, World.size_alloc, World.size_alloc] at h
  rw [hW0]
  clear hW0 H0
  refine rangeS 2 (F := Fence.wide) (n := 9) rfl (by omega) (gf := 20) (lb := #[.pointer (some ⟨w.heap.size + 1 + 1 + 1, 0, none⟩)]) rfl trivial (enters_of Try.func20 (by kernel_rfl) rfl)
    (buckets_stops 2 25 (fun _ _ => True) (w.heap.size + 1 + 1 + 1) g W0 HI) (fun _ _ => trivial) (fun _ _ _ _ => trivial) (fun _ _ _ _ hs _ _ => hs) (Below.refl _ _) (fun _ => rfl)
    (fun pre W => HAt 25 W w.heap.size (mergeL h g pre) ∧ HAt 25 W (w.heap.size + 1 + 1) zs65 ∧ Below w.heap.size W0 W)
    (fun _ _ _ => False)
    (OwnFrom.and (Own.from (hat_own w.heap.size (fun pre => mergeL h g pre) 25) _) (OwnFrom.and (Own.from (hat_own (w.heap.size + 1 + 1) (fun _ => zs65) 25) _) (ownFrom_below (by omega) (by rw [hsz]; omega))))
    (fun _ _ _ _ _ hs _ _ => hs)
    ⟨A0, R0, Below.refl _ _⟩
    (fun x a' _ => a' = { tmps := #[.agg (hc h), .agg (hc g), .pointer (some ⟨w.heap.size, 0, none⟩), .pointer (some ⟨w.heap.size + 1, 0, none⟩), .pointer (some ⟨w.heap.size + 1 + 1, 0, none⟩), .int .i64 (x.val : Int), .int .i64 (nth g x.val), .agg (hc g), .func (.func 20) #[] #[.pointer (some ⟨w.heap.size + 1 + 1 + 1, 0, none⟩)], .int .i64 (x.val : Int), .int .i64 (nth g x.val), undef, undef, undef, undef, undef, undef, undef], defers := [] })
    (fun x a' => fun _ _ _ _ hs _ _ => hs) ?assign ?body ?done ?stop
  case assign =>
    rintro l' pre x W K hI hK
    simp only [bkV]
    have HI := Lib.hid hI
    clear hI
    gi_wp2
    exact hK _ _ (KeepsT.below (Below.refl _ _)) trivial HI.out rfl
  case body =>
    rintro l' pre x a' W hl _ ⟨hA, hR, hB⟩ rfl hpl
    have hx := x.isLt
    have hx2 : (x.val : Int) < 65 := by omega
    have ha := mergeL_at s sg pre (by omega) x.val
    have hc0 := hA.cell (nth_some (h := mergeL h g pre) (i := x.val) (by rw [mergeL_len]; omega))
    have hf0 := hA.free x.val
    have hg := sg.at x.val
    have hw : wrap64 (nth (mergeL h g pre) x.val + nth g x.val) = nth (mergeL h g pre) x.val + nth g x.val := wr64 (by omega) (by omega)
    have HT := Lib.hid (And.intro hA (And.intro hR hB))
    clear hA hR hB
    gi_wp2
    obtain ⟨hA, hR, hB⟩ := HT.out
    refine ⟨KeepsT.setCell _ (by omega), trivial, ?_, hR.far (by omega) _, hB.setCell (Nat.le_refl _) _⟩
    rw [mergeL_snoc]
    exact hA.set _ _
  case done =>
    rintro D ys W hD rfl ⟨hA, hR, hB⟩ hK
    have hme : mergeL h g allI = mergeR h g := rfl
    have hml : (mergeR h g).length = 65 := by rw [← hme, mergeL_len]; exact hlen
    rw [hme] at hA
    have HB := Lib.hid hB
    have HK := Lib.hid hK
    clear hB hme hK
    gi_wp2_with (first | (refine ldI_row rowH hA rfl rfl rfl ?_) | (refine stI_row rowH hR rfl rfl rfl rfl hml ?_) | fail)
    have hB := HB.out
    have hD2 : D ≠ w.heap.size + 1 + 1 := by omega
    have hR2 := hR.row hml
    have hB2 := below_row hB (show w.heap.size ≤ w.heap.size + 1 + 1 by omega) (hc (mergeR h g))
    have hK2 : (W.setRow (w.heap.size + 1 + 1) (hc (mergeR h g))).heap[D]? = some (.deferred (some [])) := (setRow_other W _ D _ hD2).trans HK.out
    refine ⟨by simp [Act.put], .inl ⟨_, _, by simp [Act.put], run_takeDeferred hK2, ?_⟩⟩
    refine ⟨_, ?_, rfl, below_mark hlp hB2 (by omega)⟩
    exact results_cell_row (p := 4) (ty := 25) rfl _ _ (w.heap.size + 1 + 1) 25 _ (0, 0) _ rfl (hR2.mark hD2.symm _).blk rowH.und rfl (rowH.size hml)
  case stop =>
    rintro D c pre W _ _ h _
    exact h.elim
theorem merge_any (h g : List Int) (s : Small h) (sg : Small g) (w : World) :
    Calls Try.prog 13 #[.agg (hc h), .agg (hc g)] w fun e w' => e = .returned (.agg (hc (mergeR h g))) ∧ Below w.heap.size w w' := (callsIn_wide (n := 9)).1 (merge_wd h g s sg w)
end Go.Proofs.Ytohmliockehbkaa
