/- hist.Count. -/
import Derived.Test.YtohmliockehbkaaHd
import Derived.Test.YtohmliockehbkaaTk7
import Derived.Handy
namespace Go.Proofs.Ytohmliockehbkaa
open Go Go.Proofs Go.RowKit Go.Shelf
set_option maxRecDepth 100000
attribute [local go_sem] Oper.semAt_some
theorem hat_own {β : Type} (b : Nat) (f : β → List Int) (T : TypeId) : Own (fun (s : β) W => HAt T W b (f s)) := fun s X Y row hs hg hrow =>
  hs.keep (hg.block b hs.lt (fun e' => by obtain ⟨o, ho, hc⟩ := hrow b e'.symm; rw [hs.blk] at ho; cases ho; cases hc))
/-- behind a loop's return mark -/
theorem below_mark {w W0 W : World} {D : Nat} (h0 : Below w.heap.size w W0) (hB : Below w.heap.size W0 W) (hD : w.heap.size ≤ D) : Below w.heap.size w (W.putObj D (.deferred none)) :=
  (h0.trans hB).trans ((Below.refl _ W).grown (grownBy_putObj' W D _) (by have := hB.size; have := h0.size; omega) (fun k e => by cases e; exact hD))
set_option maxHeartbeats 8000000 in
theorem count_wd (h : List Int) (s : Small h) (w : World) :
    CallsIn Fence.wide 9 Try.prog 14 #[.agg (hc h)] w fun e w' => e = .returned (.int .i64 (countR h)) ∧ Below w.heap.size w w' := by
  have hlen := s.len
  refine callsIn_of_wp_marks Try.func14 rfl trivial ?_ rfl
  simp only [Try.ntmps14, List.size_toArray, List.length_cons, List.length_nil, Nat.reduceAdd, Nat.reduceSub, Array.replicate_succ, Array.replicate_zero, List.push_toArray, List.append_toArray, List.nil_append, List.cons_append]
  have H0 : HAt 25 ((w.alloc (.cells (hc h) 25)).alloc (.cells #[.int .i64 0] 2)) w.heap.size h := (hat_new w _ hlen).alloc _
  gi_wp2_with (first | (refine ldI_row rowH H0 rfl rfl rfl ?_) | fail)
  refine ⟨trivial, (callsIn_wide.2 (buckets_any h _)).mono ?_⟩
  rintro e w1 ⟨rfl, rfl⟩
  gi_wp2
  obtain ⟨W0, hW0⟩ : ∃ W0, ((w.alloc (.cells (hc h) 25)).alloc (.cells #[.int .i64 0] 2)).alloc (.cells (hc h) 25) = W0 := ⟨_, rfl⟩
  have hlp : Below w.heap.size w W0 := by rw [← hW0]; go_grown
  have hsz : W0.heap.size = w.heap.size + 3 := by rw [← hW0]; simp
  have bt0 : Boxed W0 (w.heap.size + 1) 2 (.int .i64 0) := by
    rw [← hW0]
    have h := Boxed.new (w.alloc (.cells (hc h) 25)) 2 (.int .i64 0)
    rw [World.size_alloc] at h
    exact h.alloc _
  have HI : HAt 25 W0 (w.heap.size + 1 + 1) h := by
    rw [← hW0]
    have h := hat_new ((w.alloc (.cells (hc h) 25)).alloc (.cells #[.int .i64 0] 2)) 25 hlen
    rwa [World.size_alloc, World.size_alloc] at h
  rw [hW0]
  clear hW0 H0
  refine rangeS 25 (F := Fence.wide) (n := 9) rfl (by omega) (gf := 20) (lb := #[.pointer (some ⟨w.heap.size + 1 + 1, 0, none⟩)]) rfl trivial (enters_of Try.func20 (by kernel_rfl) rfl)
    (buckets_stops 25 25 (fun _ _ => True) (w.heap.size + 1 + 1) h W0 HI) (fun _ _ => trivial) (fun _ _ _ _ => trivial) (fun _ _ _ _ hs _ _ => hs) (Below.refl _ _) (fun _ => rfl)
    (fun pre W => Boxed W (w.heap.size + 1) 2 (.int .i64 (sumB h pre)) ∧ Below w.heap.size W0 W)
    (fun _ _ _ => False)
    (OwnFrom.and (Own.from (boxed_own (w.heap.size + 1) 2 (fun pre => .int .i64 (sumB h pre))) _) (ownFrom_below (by omega) (by rw [hsz]; omega)))
    (fun _ _ _ _ _ hs _ _ => hs)
    ⟨bt0, Below.refl _ _⟩
    (fun x a' _ => a' = { tmps := #[.agg (hc h), .pointer (some ⟨w.heap.size, 0, none⟩), .int .i64 0, .pointer (some ⟨w.heap.size + 1, 0, none⟩), undef, .int .i64 (nth h x.val), .agg (hc h), .func (.func 20) #[] #[.pointer (some ⟨w.heap.size + 1 + 1, 0, none⟩)], .int .i64 (x.val : Int), .int .i64 (nth h x.val), undef, undef, undef, undef], defers := [] })
    (fun x a' => fun _ _ _ _ hs _ _ => hs) ?assign ?body ?done ?stop
  case assign =>
    rintro l' pre x W K hI hK
    simp only [bkV]
    have HI := Lib.hid hI
    clear hI
    gi_wp2
    exact hK _ _ (KeepsT.below (Below.refl _ _)) trivial HI.out rfl
  case body =>
    rintro l' pre x a' W hl _ ⟨ht, hB⟩ rfl hlen
    have ht3 := ht.cell
    have hf3 := ht.frozen
    have hb1 := sumB_bounds s pre
    have hb2 := s.at x.val
    have hw : wrap64 (sumB h pre + nth h x.val) = sumB h pre + nth h x.val := wr64 (by omega) (by omega)
    have HT := Lib.hid ht
    have HB := Lib.hid hB
    clear ht hB
    gi_wp2
    refine ⟨KeepsT.setCell _ (by omega), trivial, ?_, HB.out.setCell (Nat.le_succ _) _⟩
    rw [sumB_snoc]
    exact HT.out.set _
  case done =>
    rintro D ys W hD rfl ⟨ht, hB⟩ hK
    have ht3 := ht.cell
    have HB := Lib.hid hB
    clear ht hB
    gi_wp2
    refine ⟨by simp, .inl ⟨_, _, rfl, run_takeDeferred hK, ?_⟩⟩
    refine ⟨_, by simp [results, Try.f14, go_sem]; rfl, rfl, below_mark hlp HB.out (by omega)⟩
  case stop =>
    rintro D c pre W _ _ h _
    exact h.elim
theorem count_any (h : List Int) (s : Small h) (w : World) :
    Calls Try.prog 14 #[.agg (hc h)] w fun e w' => e = .returned (.int .i64 (countR h)) ∧ Below w.heap.size w w' := (callsIn_wide (n := 9)).1 (count_wd h s w)
end Go.Proofs.Ytohmliockehbkaa
