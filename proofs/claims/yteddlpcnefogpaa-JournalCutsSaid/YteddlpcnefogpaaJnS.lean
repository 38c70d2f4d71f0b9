/- journal.Scan. -/
import Derived.Test.YteddlpcnefogpaaJnI
namespace Go.Proofs.Yteddlpcnefogpaa
open Go Go.Proofs Go.RowKit Go.Shelf
set_option maxRecDepth 100000
attribute [local go_sem] Oper.semAt_some
set_option maxHeartbeats 4000000 in
theorem records_nil (Bs : Nat) (a : Option Addr) (c : Nat) (w : World) (hBs : Bs < w.heap.size) (hs : w.cell? ⟨Bs, 0, none⟩ = some (.slice a 0 c)) :
    SeqStopsS 42 Fence.wide 8 Try.prog 38 #[.pointer (some ⟨Bs, 0, none⟩)] ylV (Same2 Bs Bs) (YAll w.heap.size []) (fun _ => True) 0 w := by
  intro L J Jx W hW hJ hJx hY h0
  have hs := (hW.cell (p := ⟨Bs, 0, none⟩) hBs).trans hs
  have H0 := Lib.hid h0
  have hfirst : ∀ a cp, Calls Try.prog 39 #[.slice a 0 cp] W (FirstPost [] W) := fun a cp => first_few 0 0 cp [] a W (by simp)
  have HFi := Lib.hid hfirst
  clear h0 hY hW hfirst
  refine callsIn_of_wp Try.func38 rfl trivial ?_ rfl
  simp only [Try.ntmps38, List.size_toArray, List.length_cons, List.length_nil, Nat.reduceAdd, Nat.reduceSub, Array.replicate_succ, Array.replicate_zero, List.push_toArray, List.append_toArray, List.nil_append, List.cons_append]
  gi_wp2
  gi_loopw [3] (fun i wr => i = .int .i64 0 ∧ wr = W) (fun _ _ => 0)
  case atStart => exact ⟨rfl, rfl⟩
  case round =>
    obtain ⟨rfl, rfl⟩ := hrel
    have hfin : ∀ w2, Below wr.heap.size wr w2 → YAll w.heap.size [] [] w2 ∧ J [] w2 := fun w2 hb => ⟨⟨by simp [scanR_none (show firstR [] = none from rfl)], by rw [scanR_none (show firstR [] = none from rfl)]; rfl, by simp⟩, own_below hJ H0.out hb⟩
    have HE := Lib.hid hfin
    clear hfin
    cases a with
    | none =>
      gi_wp2_with fail
      refine ⟨trivial, (callsIn_wide.2 (HFi.out _ _)).mono ?_⟩
      intro e w2 hp
      unfold FirstPost at hp
      rw [show firstR [] = none from rfl] at hp
      obtain ⟨hb2, rfl⟩ := hp
      have HB2 := Lib.hid hb2
      clear hb2
      gi_wp2
      refine bodyPost_ret (results_none rfl _ _ _) rfl ?_
      exact ⟨⟨_, rfl⟩, .inl ⟨[], HE.out _ (HB2.out.alloc HB2.out.size _)⟩⟩
    | some ad =>
      obtain ⟨b, off, sp⟩ := ad
      gi_wp2_with fail
      refine ⟨trivial, (callsIn_wide.2 (HFi.out _ _)).mono ?_⟩
      intro e w2 hp
      unfold FirstPost at hp
      rw [show firstR [] = none from rfl] at hp
      obtain ⟨hb2, rfl⟩ := hp
      have HB2 := Lib.hid hb2
      clear hb2
      gi_wp2
      refine bodyPost_ret (results_none rfl _ _ _) rfl ?_
      exact ⟨⟨_, rfl⟩, .inl ⟨[], HE.out _ (HB2.out.alloc HB2.out.size _)⟩⟩
theorem info_rec : (Try.prog.info? 42).map (fun i => (i.zero, i.size, i.bytes)) = some (some (.agg #[.int .u8 0, .slice none 0 0]), 2, 32) := by kernel_rfl
/-- the cells of records -/
def recC (xs : List Yl) : List Value := xs.flatMap fun x => [byV x.r.1, x.dv]
theorem recC_snoc (xs : List Yl) (x : Yl) : recC (xs ++ [x]) = recC xs ++ [byV x.r.1, x.dv] := by unfold recC; simp
theorem cells2_new (W : World) (u v : Value) (T : TypeId) : ∀ j x, [u, v][j]? = some x → (W.alloc (.cells #[u, v] T)).cell? ((⟨W.heap.size, 0, none⟩ : Addr).add j) = some x := by
  intro j x h
  have hb : Blk (W.alloc (.cells #[u, v] T)) W.heap.size #[u, v] T := heap_alloc_new W _
  have e : ((⟨W.heap.size, 0, none⟩ : Addr).add j) = ⟨W.heap.size, j, none⟩ := by rw [Addr.add_lit]; simp
  rw [e]
  exact blk_cell hb (by simpa using h)
theorem row_at2 {w : World} {base e k n : Nat} {v : Value} {xs : List Value} (h : w.ownsRow base e k v n xs) : ∀ i, v.ownBlock = some i → ∃ c fz, w.heap[i]? = some (.cells c e fz) := by
  intro i e'
  rcases h.2 with ⟨rfl, _⟩ | ⟨gg, cap, cur, rfl, hb, hgb, _⟩
  · simp [Value.ownBlock] at e'
  · obtain rfl : gg = i := by simpa [Value.ownBlock] using e'
    exact ⟨_, _, hgb⟩
theorem recs_any (a : Option Addr) (n c : Nat) (w : World) :
    Calls Try.prog 27 #[.slice a n c] w fun e w' => e = .returned (.func (.func 38) #[] #[.pointer (some ⟨w.heap.size, 0, none⟩)]) ∧ w' = w.alloc (.cells #[.slice a n c] 22) := by
  go_enter Try.func27, Try.ntmps27
  go_wp2
  go_ret
  exact ⟨rfl, rfl⟩
/-- records in memory of the call's own, their bytes too -/
def Ys (B : Nat) (W : World) (v : Value) (xs : List Yl) : Prop := W.ownsRow B 42 2 v xs.length (recC xs) ∧ (∃ a c, v = .slice a xs.length c) ∧ ∀ x ∈ xs, Dat B W x.dv x.r.2
def ScanPost (l : List UInt8) (w : World) (e : Ending) (w' : World) : Prop :=
  ∃ v xs, e = .returned (.tuple #[v, .int .i64 (endR (scanR l) : Int)]) ∧ xs.map Yl.r = scanR l ∧ Ys w.heap.size w' v xs ∧ Below w.heap.size w w'
set_option maxHeartbeats 8000000 in
theorem scan_wd (a : Option Addr) (n c b : Nat) (l : List UInt8) (N : Nat) (hN : N ≤ 1099511627776) (w : World) (hb : b < w.heap.size + 3)
    (hseq : ∀ W, W.heap.size = w.heap.size + 3 → Below w.heap.size w W → W.cell? ⟨w.heap.size + 1 + 1, 0, none⟩ = some (.slice a n c) → b ≠ w.heap.size ∧ b ≠ w.heap.size + 1 ∧ SeqStopsS 42 Fence.wide 8 Try.prog 38 #[.pointer (some ⟨w.heap.size + 1 + 1, 0, none⟩)] ylV (Same2 b (w.heap.size + 1 + 1)) (YAll W.heap.size l) (fun _ => True) N W) :
    CallsIn Fence.wide 9 Try.prog 9 #[.slice a n c] w (ScanPost l w) := by
  obtain ⟨i0, hi, hz0, hz1, hz2⟩ := info_parts info_rec
  have HI := Lib.hid hi
  have HZ := Lib.hid hz0
  have HZ1 := Lib.hid hz1
  have HZ2 := Lib.hid hz2
  have HQ := Lib.hid hseq
  clear hi hz0 hz1 hz2 hseq
  refine callsIn_of_wp_marks Try.func9 rfl trivial ?_ rfl
  simp only [Try.ntmps9, List.size_toArray, List.length_cons, List.length_nil, Nat.reduceAdd, Nat.reduceSub, Array.replicate_succ, Array.replicate_zero, List.push_toArray, List.append_toArray, List.nil_append, List.cons_append]
  gi_wp2_with fail
  refine ⟨trivial, (callsIn_wide.2 (recs_any _ _ _ _)).mono ?_⟩
  rintro e w1 ⟨rfl, rfl⟩
  gi_wp2
  obtain ⟨W0, hW0⟩ : ∃ W0, ((w.alloc (.cells #[.slice none 0 0] 24)).alloc (.cells #[.int .i64 0] 3)).alloc (.cells #[.slice a n c] 22) = W0 := ⟨_, rfl⟩
  have hlp : Below w.heap.size w W0 := by rw [← hW0]; go_grown
  have hsz : W0.heap.size = w.heap.size + 3 := by rw [← hW0]; simp
  have bv0 : Boxed W0 w.heap.size 24 (.slice none 0 0) := by
    rw [← hW0]
    exact ((Boxed.new w 24 (.slice none 0 0)).alloc _).alloc _
  have bt0 : Boxed W0 (w.heap.size + 1) 3 (.int .i64 0) := by
    rw [← hW0]
    have h := Boxed.new (w.alloc (.cells #[.slice none 0 0] 24)) 3 (.int .i64 0)
    rw [World.size_alloc] at h
    exact h.alloc _
  have bs0 : W0.cell? ⟨w.heap.size + 1 + 1, 0, none⟩ = some (.slice a n c) := by
    rw [← hW0]
    have h := Boxed.new ((w.alloc (.cells #[.slice none 0 0] 24)).alloc (.cells #[.int .i64 0] 3)) 22 (.slice a n c)
    rw [World.size_alloc, World.size_alloc] at h
    exact h.cell
  obtain ⟨hb1, hb2, hseq⟩ := HQ.out W0 hsz hlp bs0
  rw [hW0]
  clear hW0 HQ
  refine rangeS 42 (F := Fence.wide) (n := 9) rfl (by omega) (gf := 38) (lb := #[.pointer (some ⟨w.heap.size + 1 + 1, 0, none⟩)]) rfl trivial (enters_of Try.func38 (by kernel_rfl) rfl)
    hseq same2_t (fun {W l o} o' hl h _ => ⟨World.putObj_heap_other (by omega), World.putObj_heap_other (by omega)⟩) ?own (Below.refl _ _) (fun _ => rfl)
    (fun pre W => (∃ v, Boxed W w.heap.size 24 v ∧ W.ownsRow W0.heap.size 42 2 v pre.length (recC pre) ∧ True) ∧ Boxed W (w.heap.size + 1) 3 (.int .i64 (lastE pre)) ∧ Below w.heap.size W0 W)
    (fun _ _ _ => False)
    (OwnFrom.and (Own.from (holdsRow_own W0.heap.size w.heap.size 24 42 2 (fun (pre : List Yl) => pre.length) (fun (pre : List Yl) => recC pre) (fun _ _ => True)) _) (OwnFrom.and (Own.from (boxed_own (w.heap.size + 1) 3 (fun pre => .int .i64 (lastE pre))) _) (ownFrom_below (by omega) (by rw [hsz]; omega))))
    (fun _ _ _ _ _ hs _ _ => hs)
    ⟨⟨_, bv0, World.ownsRow_nil _ _ _ _, trivial⟩, bt0, Below.refl _ _⟩
    (fun x a' W => ∃ Bx, w.heap.size + 2 < Bx ∧ Blk W Bx #[byV x.r.1, x.dv] 42 ∧ a' = { tmps := #[.slice a n c, undef, .slice none 0 0, .int .i64 0, .pointer (some ⟨w.heap.size, 0, none⟩), .pointer (some ⟨w.heap.size + 1, 0, none⟩), .pointer (some ⟨Bx, 0, none⟩), .int .i64 x.e, .slice a n c, .func (.func 38) #[] #[.pointer (some ⟨w.heap.size + 1 + 1, 0, none⟩)], .agg #[byV x.r.1, x.dv], .int .i64 x.e, undef, undef, undef, undef, undef, undef, undef], defers := [] })
    (fun x a' => ?ax) ?assign ?body ?done ?stop
  case own =>
    rintro xs X Y row ⟨q1, q2, q3⟩ hg hr
    refine ⟨q1, q2, fun x hx => ⟨(q3 x hx).1.kept hg ?_, (q3 x hx).2⟩⟩
    rcases (q3 x hx).1.2 with ⟨e, _⟩ | ⟨g, cap, cur, e, _, hgb, _⟩
    · left; rw [e]; rfl
    · right
      rw [e]
      intro q
      obtain ⟨_, o, ho, hc⟩ := hr g (by simpa [Value.ownBlock] using q.symm)
      rw [hgb] at ho; cases ho; cases hc
  case ax => exact fun s X Y row ⟨Bx, q1, q2, q3⟩ hg hr => ⟨Bx, q1, (blk_own (β := Unit) Bx _ _).from _ () X Y row q2 hg hr, q3⟩
  case assign =>
    rintro l' pre x W K ⟨⟨v, hv, hrow, _⟩, ht, hB⟩ hK
    simp only [ylV]
    have hWs : W0.heap.size ≤ W.heap.size := hB.size
    have HR := Lib.hid hrow
    clear hrow
    gi_wp2
    exact hK _ _ (KeepsT.alloc _ _ _ _) (same2_below (below_cells _) (by omega) (by omega)) ⟨⟨v, hv.alloc _, HR.out.alloc _, trivial⟩, ht.alloc _, hB.alloc (by omega) _⟩ ⟨W.heap.size, by omega, heap_alloc_new W _, rfl⟩
  case body =>
    rintro l' pre x a' W hl ⟨r, hr⟩ ⟨⟨v, hv, hrow, _⟩, ht, hB⟩ ⟨Bx, hBx, bX, rfl⟩ hlen
    have HR := Lib.hid hrow
    clear hrow
    have hv3 := hv.cell
    have ht3 := ht.cell
    have cx0 := blk_cell (j := 0) bX rfl
    have cx1 := blk_cell (j := 1) bX rfl
    gi_wp2_with (gi_at_builtin; refine wpListIn_append_own _ rfl _ _ 24 rfl W0.heap.size 42 i0 (.agg #[.int .u8 0, .slice none 0 0]) 2 32 Try.underlying24 HI.out HZ.out HZ1.out HZ2.out rfl (by decide) _ _ _ rfl (HR.out.alloc _) ⟨W.heap.size, 0, none⟩ 1 1 [byV x.r.1, x.dv] rfl rfl (cells2_new _ _ _ _) ?k1 ?k2 ?k3 ?k4 ?_)
    case k1 => intro u hu; simp at hu; rcases hu with rfl | rfl <;> rfl
    case k2 => unfold maxLen; omega
    case k3 => omega
    case k4 => have := hB.size; simp; omega
    intro v' w1' hown' hgrow _
    obtain ⟨g', cap', rfl⟩ := ownsRow_succ hown'
    have hWz : W0.heap.size ≤ W.heap.size := hB.size
    have hv1 : Boxed w1' w.heap.size 24 v := (hv.alloc _).kept hgrow (hv.not_row (by decide) HR.out)
    have ht1 : Boxed w1' (w.heap.size + 1) 3 (.int .i64 (lastE pre)) := (ht.alloc _).kept hgrow (ht.not_row (by decide) HR.out)
    have hc1 := hv1.cell
    have hf1 := hv1.frozen
    have hc2 := ht1.cell
    have hf2 := ht1.frozen
    have hgl := World.ownsRow.lt hown' g' rfl
    have hvl : ∀ k, v.ownBlock = some k → W0.heap.size ≤ k := fun k e => (World.ownsRow.lt HR.out k e).1
    have kt : KeepsT 42 W0.heap.size W ((w1'.setCell ⟨w.heap.size, 0, none⟩ (.slice (some ⟨g', 0, none⟩) (pre.length + 1) cap')).setCell ⟨w.heap.size + 1, 0, none⟩ (.int .i64 x.e)) :=
      (((KeepsT.alloc _ _ _ _).trans (KeepsT.grown hgrow (row_at2 (HR.out.alloc _)))).trans (KeepsT.setCell _ (by omega))).trans (KeepsT.setCell _ (by omega))
    have hbw : Below W0.heap.size W w1' := ((Below.refl _ W).alloc hWz _).grown hgrow (by simp; omega) hvl
    have hlow : ∀ k, k < W0.heap.size → k ≠ w.heap.size → k ≠ w.heap.size + 1 → ((w1'.setCell ⟨w.heap.size, 0, none⟩ (.slice (some ⟨g', 0, none⟩) (pre.length + 1) cap')).setCell ⟨w.heap.size + 1, 0, none⟩ (.int .i64 x.e)).heap[k]? = W.heap[k]? := fun k h1 h2 h3 =>
      (Below.heap_setCell _ _ _ k h3).trans ((Below.heap_setCell _ _ _ k h2).trans (hbw.block k h1))
    have hfin : Below w.heap.size W0 ((w1'.setCell ⟨w.heap.size, 0, none⟩ (.slice (some ⟨g', 0, none⟩) (pre.length + 1) cap')).setCell ⟨w.heap.size + 1, 0, none⟩ (.int .i64 x.e)) :=
      ((hB.trans (hbw.mono (by omega))).setCell (Nat.le_refl _) _).setCell (Nat.le_succ _) _
    have hvF := (hv1.set (.slice (some ⟨g', 0, none⟩) (pre.length + 1) cap')).other (B' := w.heap.size + 1) (by omega) (.int .i64 x.e)
    have htF := (ht1.other (B' := w.heap.size) (by omega) (.slice (some ⟨g', 0, none⟩) (pre.length + 1) cap')).set (.int .i64 x.e)
    have hrF := (hown'.kept (grownBy_setCell' w1' w.heap.size (.slice (some ⟨g', 0, none⟩) (pre.length + 1) cap')) (.inr (by intro e; simp [Value.ownBlock] at e; omega))).kept (grownBy_setCell' _ (w.heap.size + 1) (.int .i64 x.e)) (.inr (by intro e; simp [Value.ownBlock] at e; omega))
    have HF := Lib.hid (And.intro hvF (And.intro htF (And.intro hrF hfin)))
    have HK := Lib.hid (And.intro kt hlow)
    clear hown' hgrow hv1 ht1 hvF htF hrF hfin kt hlow hbw
    gi_wp2
    obtain ⟨q1, q2, q3, q4⟩ := HF.out
    refine ⟨HK.out.1, ⟨HK.out.2 b (by omega) hb1 hb2, HK.out.2 _ (by omega) (by omega) (by omega)⟩, ⟨_, q1, ?_, trivial⟩, ?_, q4⟩
    · rw [List.length_append, recC_snoc]
      rw [← hsz] at q3
      exact q3
    · rw [lastE_snoc]; exact q2
  case done =>
    rintro D ys W hD ⟨hS1, hS2, hS3⟩ ⟨⟨v, hv, hrow, _⟩, ht, hB⟩ hK
    have hv3 := hv.cell
    have ht3 := ht.cell
    have HR := Lib.hid hrow
    clear hrow
    gi_wp2_with fail
    have hS : W.drew.cell? ⟨w.heap.size, 0, none⟩ = some v ∧ W.drew.cell? ⟨w.heap.size + 1, 0, none⟩ = some (.int .i64 (lastE ys)) := ⟨hv3, ht3⟩
    refine wpIn_mono ?_ NoPanic.imp
    refine region_anyM (S := fun u => u.cell? ⟨w.heap.size, 0, none⟩ = some v ∧ u.cell? ⟨w.heap.size + 1, 0, none⟩ = some (.int .i64 (lastE ys))) 3 (by kernel_rfl) (fun hS => ?_) hS
    refine anyM_d 0 [0, 2, 3] hS ?_
    refine anyM_d 1 [1, 3] hS ?_
    refine anyM_d 2 [2, 3] hS ?_
    refine anyM_l (fun K hK => ?_)
    go_simp
    refine hK _ _ ?_
    clear hK K
    refine anyIn_done (by kernel_rfl) (NoPanic.normal ?_) _
    gi_wp2
    have hKd : W.drew.heap[D]? = some (.deferred (some [])) := hK
    have hD2 : w.heap.size ≤ D := by omega
    refine ⟨by simp, .inl ⟨_, _, rfl, run_takeDeferred hKd, ?_⟩⟩
    have hg : W.grownBy (W.drew.putObj D (.deferred none)) (some D) := grownBy_trans (w1 := W.drew) ⟨rfl, rfl, rfl, Nat.le_refl _, fun _ _ _ => rfl⟩ (grownBy_putObj' W.drew D _) (fun g e => .inl e)
    have hne : ∀ {B : Nat} {dv : Value} {d : List UInt8}, Dat B W dv d → some D ≠ dv.ownBlock := fun {B dv d} h e => by
      rcases h.1.2 with ⟨rfl, _⟩ | ⟨g, cap, cur, rfl, _, hgb, _⟩
      · simp [Value.ownBlock] at e
      · obtain rfl : g = D := by simpa [Value.ownBlock, eq_comm] using e
        rw [hK] at hgb; cases hgb
    have hrow := ownsRow_putObj (W := W.drew) HR.out (.deferred none) hK rfl
    refine ⟨.tuple #[v, .int .i64 (endR (scanR l) : Int)], by simp [results, Try.f9, go_sem], v, ys, rfl, hS1, ⟨row_at _ _ hrow (by omega), ?_, fun x hx => ?_⟩, ?_⟩
    · rcases HR.out.2 with ⟨rfl, h0⟩ | ⟨g, cap, cur, rfl, _⟩
      · rw [h0]; exact ⟨_, _, rfl⟩
      · exact ⟨_, _, rfl⟩
    · have := hS3 x hx
      exact dat_mono ⟨this.1.kept hg (by
        rcases q : x.dv.ownBlock with _ | g
        · exact .inl rfl
        · exact .inr (by rw [← q]; exact (hne this).symm)), this.2⟩ (by omega)
    · exact (hlp.trans hB).trans ((Below.refl _ W).grown hg (by have := hB.size; omega) (fun k e => by cases e; exact hD2))
  case stop =>
    rintro D c pre W _ _ h _
    exact h.elim
theorem scan_any (a : Option Addr) (n c : Nat) (l : List UInt8) (w : World) (h : Bys w (.slice a n c) l) (hnc : n ≤ c) (hbig : l.length ≤ 1099511627776) :
    Calls Try.prog 9 #[.slice a n c] w (ScanPost l w) := by
  rcases h with ⟨⟨a', c', e⟩, rfl⟩ | ⟨b, off, cap, e, hb, hc⟩
  · injection e with e1 e2 e3
    subst e1 e2 e3
    refine (callsIn_wide (n := 9)).1 (scan_wd a 0 c (w.heap.size + 1 + 1) [] 0 (by omega) w (by omega) (fun W hz hB hs => ⟨by omega, by omega, ?_⟩))
    exact records_nil (w.heap.size + 1 + 1) a c W (by omega) hs
  · injection e with e1 e2 e3
    subst e1 e2 e3
    refine (callsIn_wide (n := 9)).1 (scan_wd _ _ c b l l.length hbig w (by omega) (fun W hz hB hs => ⟨by omega, by omega, ?_⟩))
    exact records_stops (w.heap.size + 1 + 1) b off c l hnc hbig W (by omega) (by omega) hs (fun j x hj => (hB.cell (p := ⟨b, off + j, none⟩) hb).trans (hc j x hj))
end Go.Proofs.Yteddlpcnefogpaa
