/- source.Live. -/
import Derived.Test.YtoodcaonlfeleaaDoorTx
import Derived.OneCell
import Derived.Maps.AppendAt
import Derived.Laws.AppendOwn
namespace Go.Proofs.YtoodcaonlfeleaaDoor
open Go Go.Proofs Go.RowKit Go.Shelf
set_option maxRecDepth 100000
attribute [local go_sem] Oper.semAt_some
theorem info_int : (Tryd.prog.info? 3).map (fun i => (i.zero, i.size, i.bytes)) = some (some (.int .i64 0), 1, 8) := by kernel_rfl
theorem row_base (base base' : Nat) {w : World} {e : TypeId} {s n : Nat} {v : Value} {X : List Value} (h : w.ownsRow base e s v n X) (hb : base' ≤ base) : w.ownsRow base' e s v n X :=
  ⟨h.1, h.2.imp id (fun ⟨g, cap, cur, q1, q2, q3⟩ => ⟨g, cap, cur, q1, Nat.le_trans hb q2, q3⟩)⟩
theorem row_at2 {w : World} {base e k n : Nat} {v : Value} {xs : List Value} (h : w.ownsRow base e k v n xs) : ∀ i, v.ownBlock = some i → ∃ c fz, w.heap[i]? = some (.cells c e fz) := by
  intro i e'
  rcases h.2 with ⟨rfl, _⟩ | ⟨gg, cap, cur, rfl, hb, hgb, _⟩
  · simp [Value.ownBlock] at e'
  · obtain rfl : gg = i := by simpa [Value.ownBlock] using e'
    exact ⟨_, _, hgb⟩
/-- who is waited for, as cells -/
def ivC (l : List Nat) : List Value := l.map fun (x : Nat) => Value.int .i64 ((x : Int) + 1)
theorem ivC_snoc (l : List Nat) (x : Nat) : ivC (l ++ [x]) = ivC l ++ [.int .i64 ((x : Int) + 1)] := by simp [ivC]
def liveN (A : Tb) : List Nat := (liveP A 16).map (·.1)
def LivePost (l : List Nat) (w : World) (e : Ending) (w' : World) : Prop :=
  ∃ a c, e = .returned (.slice a l.length c) ∧ w'.ownsRow w.heap.size 3 1 (.slice a l.length c) l.length (ivC l) ∧ Below w.heap.size w w'
set_option maxHeartbeats 8000000 in
theorem Live_wd {N : Int} (b : Nat) (A : Tb) (hA : TbOk N A) (hN : N ≤ 1000000) (w : World) (h : TAt w b A) :
    CallsIn Fence.wide 9 Tryd.prog 16 #[tp b] w (LivePost (liveN A) w) := by
  have HT := Lib.hid h
  have hbl : b < w.heap.size := VAt.lt h
  obtain ⟨i0, hi, hz0, hz1, hz2⟩ := info_parts info_int
  have HI := Lib.hid hi
  have HZ := Lib.hid hz0
  have HZ1 := Lib.hid hz1
  have HZ2 := Lib.hid hz2
  clear h hi hz0 hz1 hz2
  refine callsIn_of_wp_marks Tryd.func16 rfl trivial ?_ rfl
  simp only [Tryd.ntmps16, List.size_toArray, List.length_cons, List.length_nil, Nat.reduceAdd, Nat.reduceSub, Array.replicate_succ, Array.replicate_zero, List.push_toArray, List.append_toArray, List.nil_append, List.cons_append]
  gi_wp2_with fail
  refine ⟨trivial, (callsIn_wide.2 (live_any b _)).mono ?_⟩
  rintro e w1 ⟨rfl, rfl⟩
  gi_wp2
  obtain ⟨W0, hW0⟩ : ∃ W0, (w.alloc (.cells #[.slice none 0 0] 50)).alloc (.cells #[tp b] 24) = W0 := ⟨_, rfl⟩
  have hlp : Below w.heap.size w W0 := by rw [← hW0]; go_grown
  have hsz : W0.heap.size = w.heap.size + 2 := by rw [← hW0]; simp
  have bv0 : Boxed W0 w.heap.size 50 (.slice none 0 0) := by
    rw [← hW0]
    exact (Boxed.new w 50 (.slice none 0 0)).alloc _
  have bp0 : Boxed W0 (w.heap.size + 1) 24 (tp b) := by
    rw [← hW0]
    have h := Boxed.new (w.alloc (.cells #[.slice none 0 0] 50)) 24 (tp b)
    rwa [World.size_alloc] at h
  have ht0 : TAt W0 b A := VAt.below HT.out hlp
  rw [hW0]
  clear hW0
  refine rangeS 3 (F := Fence.wide) (n := 9) rfl (by omega) (gf := 36) (lb := #[.pointer (some ⟨w.heap.size + 1, 0, none⟩)]) rfl trivial (enters_of Tryd.func36 (by kernel_rfl) rfl)
    (live_stops 3 b (w.heap.size + 1) A hA hN W0 ht0 bp0) same2_t (fun o' hl _ _ => ⟨World.putObj_heap_other (by omega), World.putObj_heap_other (by omega)⟩) (fun _ _ _ _ hs _ _ => hs) (Below.refl _ _) (fun _ => rfl)
    (fun pre W => (∃ v, Boxed W w.heap.size 50 v ∧ W.ownsRow W0.heap.size 3 1 v pre.length (ivC (pre.map (·.1))) ∧ True) ∧ Below w.heap.size W0 W)
    (fun _ _ _ => False)
    (OwnFrom.and (Own.from (holdsRow_own W0.heap.size w.heap.size 50 3 1 (fun (pre : List (Nat × R3)) => pre.length) (fun (pre : List (Nat × R3)) => ivC (pre.map (·.1))) (fun _ _ => True)) _) (ownFrom_below (by omega) (by rw [hsz]; omega)))
    (fun _ _ _ _ _ hs _ _ => hs)
    ⟨⟨_, bv0, by simpa [ivC] using World.ownsRow_nil W0 W0.heap.size 3 1, trivial⟩, Below.refl _ _⟩
    (fun x a' _ => a' = { tmps := #[tp b, undef, .slice none 0 0, .pointer (some ⟨w.heap.size, 0, none⟩), .int .i64 ((x.1 : Int) + 1), tp b, .func (.func 36) #[] #[.pointer (some ⟨w.heap.size + 1, 0, none⟩)], .int .i64 ((x.1 : Int) + 1), .agg #[.int .i64 x.2.q, .int .i64 x.2.t, .int .i64 x.2.k], undef, undef, undef, undef, undef], defers := [] })
    (fun x a' => fun _ _ _ _ hs _ _ => hs) ?assign ?body ?done ?stop
  case assign =>
    rintro l' pre x W K hI hK
    simp only [lvV]
    have HI := Lib.hid hI
    clear hI
    gi_wp2
    exact hK _ _ (KeepsT.below (Below.refl _ _)) ⟨rfl, rfl⟩ HI.out rfl
  case body =>
    rintro l' pre x a' W hl ⟨r, hr⟩ ⟨⟨v, hv, hrow, _⟩, hB⟩ rfl hlen
    have HR := Lib.hid hrow
    clear hrow
    have hv3 := hv.cell
    gi_wp2_with (gi_at_builtin; refine wpListIn_append_own _ rfl _ _ 50 rfl W0.heap.size 3 i0 (.int .i64 0) 1 8 Tryd.underlying50 HI.out HZ.out HZ1.out HZ2.out rfl (by decide) _ _ _ rfl (HR.out.alloc _) ⟨W.heap.size, 0, none⟩ 1 1 [.int .i64 ((x.1 : Int) + 1)] rfl rfl (cell_one_new _ _ _) ?k1 ?k2 ?k3 ?k4 ?_)
    case k1 => intro u hu; simp at hu; rcases hu with rfl; rfl
    case k2 => unfold maxLen; omega
    case k3 => omega
    case k4 => have := hB.size; simp; omega
    intro v' w1' hown' hgrow _
    obtain ⟨g', cap', rfl⟩ := ownsRow_succ hown'
    have hWz : W0.heap.size ≤ W.heap.size := hB.size
    have hv1 : Boxed w1' w.heap.size 50 v := (hv.alloc _).kept hgrow (hv.not_row (by decide) HR.out)
    have hc1 := hv1.cell
    have hf1 := hv1.frozen
    have hgl := World.ownsRow.lt hown' g' rfl
    have hvl : ∀ k, v.ownBlock = some k → W0.heap.size ≤ k := fun k e => (World.ownsRow.lt HR.out k e).1
    have kt : KeepsT 3 W0.heap.size W (w1'.setCell ⟨w.heap.size, 0, none⟩ (.slice (some ⟨g', 0, none⟩) (pre.length + 1) cap')) :=
      ((KeepsT.alloc _ _ _ _).trans (KeepsT.grown hgrow (row_at2 (HR.out.alloc _)))).trans (KeepsT.setCell _ (by omega))
    have hbw : Below W0.heap.size W w1' := ((Below.refl _ W).alloc hWz _).grown hgrow (by simp; omega) hvl
    have hlow : ∀ k, k < W0.heap.size → k ≠ w.heap.size → (w1'.setCell ⟨w.heap.size, 0, none⟩ (.slice (some ⟨g', 0, none⟩) (pre.length + 1) cap')).heap[k]? = W.heap[k]? := fun k h1 h2 =>
      (Below.heap_setCell _ _ _ k h2).trans (hbw.block k h1)
    have hfin : Below w.heap.size W0 (w1'.setCell ⟨w.heap.size, 0, none⟩ (.slice (some ⟨g', 0, none⟩) (pre.length + 1) cap')) :=
      (hB.trans (hbw.mono (by omega))).setCell (Nat.le_refl _) _
    have hvF := hv1.set (.slice (some ⟨g', 0, none⟩) (pre.length + 1) cap')
    have hrF := hown'.kept (grownBy_setCell' w1' w.heap.size (.slice (some ⟨g', 0, none⟩) (pre.length + 1) cap')) (.inr (by intro e; simp [Value.ownBlock] at e; omega))
    have HF := Lib.hid (And.intro hvF (And.intro hrF hfin))
    have HK := Lib.hid (And.intro kt hlow)
    clear hown' hgrow hv1 hvF hrF hfin kt hlow hbw
    gi_wp2
    obtain ⟨q1, q3, q4⟩ := HF.out
    refine ⟨HK.out.1, ⟨HK.out.2 b (by omega) (by omega), HK.out.2 _ (by omega) (by omega)⟩, ⟨_, q1, ?_, trivial⟩, q4⟩
    rw [List.length_append, List.map_append, List.map_cons, List.map_nil, ivC_snoc]
    rw [← hsz] at q3
    exact q3
  case done =>
    rintro D ys W hD rfl ⟨⟨v, hv, hrow, _⟩, hB⟩ hK
    have hv3 := hv.cell
    have HR := Lib.hid hrow
    have HKD := Lib.hid hK
    have HB := Lib.hid hB
    clear hrow hK hB hv
    gi_wp2
    refine ⟨by simp, .inl ⟨_, _, rfl, run_takeDeferred HKD.out, ?_⟩⟩
    have hrow := row_base _ w.heap.size (ownsRow_putObj HR.out (.deferred none) HKD.out rfl) (by omega)
    have ev : ∃ a c, v = .slice a (liveP A 16).length c := by
      rcases HR.out.2 with ⟨rfl, h0⟩ | ⟨g, cap, cur, rfl, _⟩
      · rw [h0]; exact ⟨_, _, rfl⟩
      · exact ⟨_, _, rfl⟩
    obtain ⟨a, c, rfl⟩ := ev
    have el : (liveN A).length = (liveP A 16).length := by unfold liveN; rw [List.length_map]
    refine ⟨_, results_tmp rfl _ _ _, a, c, ?_, ?_, ?_⟩
    · rw [el]; rfl
    · rw [el]; exact hrow
    · exact below_put (hlp.trans HB.out) (by omega)
  case stop =>
    rintro D c pre W hD _ hf hK
    exact hf.elim
theorem Live_any {N : Int} (b : Nat) (A : Tb) (hA : TbOk N A) (hN : N ≤ 1000000) (w : World) (h : TAt w b A) : Calls Tryd.prog 16 #[tp b] w (LivePost (liveN A) w) := (callsIn_wide (n := 9)).1 (Live_wd b A hA hN w h)
end Go.Proofs.YtoodcaonlfeleaaDoor
