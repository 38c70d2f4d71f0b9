/- hist.Quantile. -/
import Derived.Test.YtohmliockehbkaaHf
namespace Go.Proofs.Ytohmliockehbkaa
open Go Go.Proofs Go.RowKit Go.Shelf
set_option maxRecDepth 100000
attribute [local go_sem] Oper.semAt_some
def qV (p : Int × Bool) : Value := .tuple #[.int .i64 p.1, .bool p.2]
theorem need_bounds {h : List Int} (s : Small h) {q : Int} (h0 : 0 ≤ q) (h1 : q ≤ 100) : 0 ≤ q * countR h ∧ q * countR h ≤ 7318349394477056000 := by
  have hc := countR_bounds s
  have h2 : q * countR h ≤ 100 * countR h := Int.mul_le_mul_of_nonneg_right h1 hc.1
  exact ⟨Int.mul_nonneg h0 hc.1, by omega⟩
set_option maxHeartbeats 8000000 in
theorem quant_bad (h : List Int) (q : Int) (hq : q < 0 ∨ 100 < q) (w : World) :
    CallsIn Fence.wide 9 Try.prog 11 #[.agg (hc h), .int .i64 q] w fun e w' => e = .returned (qV (quantR h q)) ∧ Below w.heap.size w w' := by
  rw [show quantR h q = (0, false) from if_pos hq]
  refine callsIn_of_wp_marks Try.func11 rfl trivial ?_ rfl
  simp only [Try.ntmps11, List.size_toArray, List.length_cons, List.length_nil, Nat.reduceAdd, Nat.reduceSub, Array.replicate_succ, Array.replicate_zero, List.push_toArray, List.append_toArray, List.nil_append, List.cons_append]
  rcases hq with hq | hq
  · gi_wp2
    refine ⟨_, by simp [results, Try.f11, go_sem]; rfl, rfl, by go_grown⟩
  · have hq0 : ¬ q < 0 := by omega
    gi_wp2
    refine ⟨_, by simp [results, Try.f11, go_sem]; rfl, rfl, by go_grown⟩
/-- the slots in a round -/
abbrev QT (h : List Int) (q need : Int) (n m : Nat) (x : Fin 65) : Array Value := #[.agg (hc h), .int .i64 q, .pointer (some ⟨n, 0, none⟩), undef, .pointer (some ⟨n + 1, 0, none⟩), .pointer (some ⟨n + 1 + 1, 0, none⟩), .pointer (some ⟨m, 0, none⟩), .pointer (some ⟨m + 1, 0, none⟩), .int .i64 (x.val : Int), .int .i64 (nth h x.val), .int .i64 q, .bool (decide (q < 0)), .bool (decide (q < 0)), .int .i64 q, .bool (decide (100 < q)), .bool (decide (q < 0) || decide (100 < q)), .int .i64 q, .agg (hc h), .int .i64 (countR h), .int .i64 need, .agg (hc h), .func (.func 20) #[] #[.pointer (some ⟨m + 1 + 1, 0, none⟩)], .int .i64 (x.val : Int), .int .i64 (nth h x.val), undef, undef, undef, undef, undef, undef, undef, undef, undef, undef, undef, undef, undef]
set_option maxHeartbeats 8000000 in
theorem quant_wd (h : List Int) (s : Small h) (q : Int) (h0 : 0 ≤ q) (h1 : q ≤ 100) (w : World) :
    CallsIn Fence.wide 9 Try.prog 11 #[.agg (hc h), .int .i64 q] w fun e w' => e = .returned (qV (quantR h q)) ∧ Below w.heap.size w w' := by
  have hlen := s.len
  have hnb := need_bounds s h0 h1
  have hw : wrap64 (q * countR h) = q * countR h := wr64 (by omega) (by omega)
  have hQ : quantR h q = qOf (scanQ (q * countR h) h 0 allI) := by unfold quantR; rw [if_neg (by omega)]
  generalize quantR h q = R at *
  have HC := Lib.hid (fun W => count_any h s W)
  refine callsIn_of_wp_marks Try.func11 rfl trivial ?_ rfl
  simp only [Try.ntmps11, List.size_toArray, List.length_cons, List.length_nil, Nat.reduceAdd, Nat.reduceSub, Array.replicate_succ, Array.replicate_zero, List.push_toArray, List.append_toArray, List.nil_append, List.cons_append]
  have H0 : HAt 25 (((w.alloc (.cells (hc h) 25)).alloc (.cells #[.int .i64 0] 2)).alloc (.cells #[.bool false] 4)) w.heap.size h := ((hat_new w _ hlen).alloc _).alloc _
  gi_wp2_with (first | (refine ldI_row rowH H0 rfl rfl rfl ?_) | fail)
  refine ⟨trivial, (callsIn_wide.2 (HC.out _)).mono ?_⟩
  rintro e w1 ⟨rfl, hb1⟩
  have hlp1 : Below w.heap.size w w1 := below_then (by go_grown) hb1
  have hsz1 : w.heap.size + 3 ≤ w1.heap.size := by have := hb1.size; simp at this; omega
  have b4 : Boxed w1 (w.heap.size + 1) 2 (.int .i64 0) := by
    have h := Boxed.new (w.alloc (.cells (hc h) 25)) 2 (.int .i64 0)
    rw [World.size_alloc] at h
    have h2 := h.alloc (.cells #[.bool false] 4)
    exact (hb1.block _ h2.lt).trans h2
  have b5 : Boxed w1 (w.heap.size + 1 + 1) 4 (.bool false) := by
    have h := Boxed.new ((w.alloc (.cells (hc h) 25)).alloc (.cells #[.int .i64 0] 2)) 4 (.bool false)
    rw [World.size_alloc, World.size_alloc] at h
    exact (hb1.block _ h.lt).trans h
  have H1 := H0.below hb1
  clear hb1 H0
  have H2 : HAt 25 ((w1.alloc (.cells #[.int .i64 (q * countR h)] 2)).alloc (.cells #[.int .i64 0] 2)) w.heap.size h := (H1.alloc _).alloc _
  gi_wp2_with (first | (refine ldI_row rowH H2 rfl rfl rfl ?_) | fail)
  refine ⟨trivial, (callsIn_wide.2 (buckets_any h _)).mono ?_⟩
  rintro e w2 ⟨rfl, rfl⟩
  gi_wp2
  obtain ⟨need, hneed⟩ : ∃ n, q * countR h = n := ⟨_, rfl⟩
  obtain ⟨W0, hW0⟩ : ∃ W0, ((w1.alloc (.cells #[.int .i64 (q * countR h)] 2)).alloc (.cells #[.int .i64 0] 2)).alloc (.cells (hc h) 25) = W0 := ⟨_, rfl⟩
  have hlp : Below w.heap.size w W0 := by rw [← hW0]; exact hlp1.trans (by go_grown)
  have hsz : W0.heap.size = w1.heap.size + 3 := by rw [← hW0]; simp
  have c4 : Boxed W0 (w.heap.size + 1) 2 (.int .i64 0) := by
    rw [← hW0]
    exact ((b4.alloc _).alloc _).alloc _
  have c5 : Boxed W0 (w.heap.size + 1 + 1) 4 (.bool false) := by
    rw [← hW0]
    exact ((b5.alloc _).alloc _).alloc _
  have c6 : Boxed W0 w1.heap.size 2 (.int .i64 need) := by
    rw [← hW0, hneed]
    exact ((Boxed.new w1 _ _).alloc _).alloc _
  have c7 : Boxed W0 (w1.heap.size + 1) 2 (.int .i64 0) := by
    rw [← hW0]
    have h := Boxed.new (w1.alloc (.cells #[.int .i64 (q * countR h)] 2)) 2 (.int .i64 0)
    rw [World.size_alloc] at h
    exact h.alloc _
  have HI : HAt 25 W0 (w1.heap.size + 1 + 1) h := by
    rw [← hW0]
    have h := hat_new ((w1.alloc (.cells #[.int .i64 (q * countR h)] 2)).alloc (.cells #[.int .i64 0] 2)) 25 hlen
    rwa [World.size_alloc, World.size_alloc] at h
  rw [hW0]
  rw [hneed] at hnb hQ ⊢
  clear hW0 H1 H2 b4 b5 hw HC hneed
  have hpre : ∀ {x : Fin 65} {a' : Act}, OwnFrom W0.heap.size (fun (_ : Unit) (_ : World) => a' = { tmps := QT h q need w.heap.size w1.heap.size x, defers := [] }) := fun {x a'} _ _ _ _ hs _ _ => hs
  refine rangeS 2 (F := Fence.wide) (n := 9) rfl (by omega) (gf := 20) (lb := #[.pointer (some ⟨w1.heap.size + 1 + 1, 0, none⟩)]) rfl trivial (enters_of Try.func20 (by kernel_rfl) rfl)
    (buckets_stops 2 25 (fun _ _ => True) (w1.heap.size + 1 + 1) h W0 HI) (fun _ _ => trivial) (fun _ _ _ _ => trivial) (fun _ _ _ _ hs _ _ => hs) (Below.refl _ _) (fun _ => rfl)
    (fun pre W => Boxed W (w1.heap.size + 1) 2 (.int .i64 (sumB h pre)) ∧ Boxed W w1.heap.size 2 (.int .i64 need) ∧ Boxed W (w.heap.size + 1) 2 (.int .i64 0) ∧ Boxed W (w.heap.size + 1 + 1) 4 (.bool false) ∧ NotYet need h pre ∧ Below w.heap.size W0 W)
    (fun c pre W => c = .ret ∧ ∃ i, Found need h pre i ∧ Boxed W (w.heap.size + 1) 2 (.int .i64 (boundR i)) ∧ Boxed W (w.heap.size + 1 + 1) 4 (.bool true) ∧ Below w.heap.size W0 W)
    (OwnFrom.and (Own.from (boxed_own (w1.heap.size + 1) 2 (fun pre => .int .i64 (sumB h pre))) _) (OwnFrom.and (Own.from (boxed_own _ _ _) _) (OwnFrom.and (Own.from (boxed_own _ _ _) _) (OwnFrom.and (Own.from (boxed_own _ _ _) _) (OwnFrom.and (fun _ _ _ _ hs _ _ => hs) (ownFrom_below (by omega) (by omega)))))))
    (fun c pre X Y row hs hg hr => ⟨hs.1, by
      obtain ⟨_, i, q1, q2⟩ := hs
      exact ⟨i, q1, (OwnFrom.and (Own.from (boxed_own (β := Unit) _ _ (fun _ => .int .i64 (boundR i))) W0.heap.size) (OwnFrom.and (Own.from (boxed_own _ _ (fun _ => .bool true)) _) (ownFrom_below (by omega) (by omega)))) () X Y row q2 hg hr⟩⟩)
    ⟨c7, c6, c4, c5, notYet_nil need h, Below.refl _ _⟩
    (fun x a' _ => a' = { tmps := QT h q need w.heap.size w1.heap.size x, defers := [] })
    (fun x a' => hpre) ?assign ?body ?done ?stop
  case assign =>
    rintro l' pre x W K hI hK
    simp only [bkV]
    have HI := Lib.hid hI
    clear hI
    gi_wp2
    exact hK _ _ (KeepsT.below (Below.refl _ _)) trivial HI.out rfl
  case body =>
    rintro l' pre x a' W hl _ ⟨h7, h6, h4, h5, hN, hB⟩ rfl hpl
    unfold QT
    dsimp only
    have x7 := h7.cell
    have y7 := h7.frozen
    have x6 := h6.cell
    have nb := sumB_bounds s pre
    have nx := s.at x.val
    have hx := x.isLt
    have hw1 : wrap64 (sumB h pre + nth h x.val) = sumB h pre + nth h x.val := wr64 (by omega) (by omega)
    have hw2 : wrap64 (100 * (sumB h pre + nth h x.val)) = 100 * (sumB h pre + nth h x.val) := wr64 (by omega) (by omega)
    have hs := sumB_snoc h pre x
    have HS := Lib.hid hs
    have HT := Lib.hid (And.intro h7 (And.intro h6 (And.intro h4 (And.intro h5 (And.intro hN hB)))))
    have h46 : w.heap.size + 1 ≠ w1.heap.size + 1 := by omega
    have HBd := Lib.hid (fun W => bound_any (x.val : Int) (by unfold I64; omega) W)
    clear hs
    by_cases hc0 : 0 < sumB h pre + nth h x.val
    · by_cases hc1 : need ≤ 100 * (sumB h pre + nth h x.val)
      · have x4 := h4.cell
        have y4 := h4.frozen
        have x5 := h5.cell
        have y5 := h5.frozen
        have HF := Lib.hid (found_snoc hN ⟨hc0, hc1⟩)
        clear h7 h6 h4 h5 hN hB
        gi_wp2_with fail
        refine ⟨trivial, CallsIn.mono (callsIn_wide.2 (HBd.out _)) ?_⟩
        rintro e w3 ⟨rfl, rfl⟩
        gi_wp2
        obtain ⟨h7, h6, h4, h5, hN, hB⟩ := HT.out
        refine ⟨((KeepsT.setCell _ (by omega)).trans (KeepsT.setCell _ (by omega))).trans (KeepsT.setCell _ (by omega)), rfl, x.val, HF.out, ?_, ?_, ?_⟩
        · exact ((h4.other (by omega) _).set _).other (by omega) _
        · exact ((h5.other (by omega) _).other (by omega) _).set _
        · exact ((hB.setCell (show w.heap.size ≤ w1.heap.size + 1 by omega) _).setCell (Nat.le_succ _) _).setCell (show w.heap.size ≤ w.heap.size + 1 + 1 by omega) _
      · have HF := Lib.hid (notYet_snoc (i := x) hN (by omega))
        clear h7 h6 h4 h5 hN hB
        gi_wp2
        obtain ⟨h7, h6, h4, h5, hN, hB⟩ := HT.out
        refine ⟨KeepsT.setCell _ (by omega), trivial, ?_, h6.other (by omega) _, h4.other (by omega) _, h5.other (by omega) _, HF.out, hB.setCell (show w.heap.size ≤ w1.heap.size + 1 by omega) _⟩
        rw [HS.out]
        exact h7.set _
    · have HF := Lib.hid (notYet_snoc (i := x) hN (by omega))
      clear h7 h6 h4 h5 hN hB
      gi_wp2
      obtain ⟨h7, h6, h4, h5, hN, hB⟩ := HT.out
      refine ⟨KeepsT.setCell _ (by omega), trivial, ?_, h6.other (by omega) _, h4.other (by omega) _, h5.other (by omega) _, HF.out, hB.setCell (show w.heap.size ≤ w1.heap.size + 1 by omega) _⟩
      rw [HS.out]
      exact h7.set _
  case done =>
    rintro D ys W hD rfl ⟨h7, h6, h4, h5, hN, hB⟩ hK
    have x4 := h4.cell
    have x5 := h5.cell
    have y4 := h4.frozen
    have y5 := h5.frozen
    have HB := Lib.hid hB
    have HK := Lib.hid hK
    rw [notYet_all hN] at hQ
    clear h7 h6 h4 h5 hN hB hK
    have HQ := Lib.hid hQ
    clear hQ
    gi_wp2
    have hK2 : ((W.setCell ⟨w.heap.size + 1, 0, none⟩ (.int .i64 0)).setCell ⟨w.heap.size + 1 + 1, 0, none⟩ (.bool false)).heap[D]? = some (.deferred (some [])) := (Below.heap_setCell _ _ _ _ (show D ≠ w.heap.size + 1 + 1 by omega)).trans ((Below.heap_setCell _ _ _ _ (show D ≠ w.heap.size + 1 by omega)).trans HK.out)
    refine ⟨by simp, .inl ⟨_, _, rfl, run_takeDeferred hK2, ?_⟩⟩
    have z4 : (((W.setCell ⟨w.heap.size + 1, 0, none⟩ (.int .i64 0)).setCell ⟨w.heap.size + 1 + 1, 0, none⟩ (.bool false)).putObj D (.deferred none)).cell? ⟨w.heap.size + 1, 0, none⟩ = some (.int .i64 0) := (World.cell?_of_block (World.putObj_heap_other (show w.heap.size + 1 ≠ D by omega))).trans (by simp [go_sem, x4])
    have z5 : (((W.setCell ⟨w.heap.size + 1, 0, none⟩ (.int .i64 0)).setCell ⟨w.heap.size + 1 + 1, 0, none⟩ (.bool false)).putObj D (.deferred none)).cell? ⟨w.heap.size + 1 + 1, 0, none⟩ = some (.bool false) := (World.cell?_of_block (World.putObj_heap_other (show w.heap.size + 1 + 1 ≠ D by omega))).trans (by simp [go_sem, x5])
    have hBl := below_mark hlp ((HB.out.setCell (p := ⟨w.heap.size + 1, 0, none⟩) (Nat.le_succ _) (.int .i64 0)).setCell (p := ⟨w.heap.size + 1 + 1, 0, none⟩) (show w.heap.size ≤ w.heap.size + 1 + 1 by omega) (.bool false)) (show w.heap.size ≤ D by omega)
    rw [HQ.out]
    refine ⟨_, by simp [results, Try.f11, go_sem, z4, z5]; rfl, rfl, hBl⟩
  case stop =>
    rintro D c pre W hD hpr ⟨rfl, i, hf, h4, h5, hB⟩ hK
    have x4 := h4.cell
    have x5 := h5.cell
    rw [found_all hf hpr] at hQ
    have HQ := Lib.hid hQ
    have HB := Lib.hid hB
    clear hQ hB h4 h5
    gi_wp2
    refine ⟨by simp, .inl ⟨_, _, rfl, run_takeDeferred hK, ?_⟩⟩
    have z4 : (W.putObj D (.deferred none)).cell? ⟨w.heap.size + 1, 0, none⟩ = some (.int .i64 (boundR i)) := (World.cell?_of_block (World.putObj_heap_other (show w.heap.size + 1 ≠ D by omega))).trans x4
    have z5 : (W.putObj D (.deferred none)).cell? ⟨w.heap.size + 1 + 1, 0, none⟩ = some (.bool true) := (World.cell?_of_block (World.putObj_heap_other (show w.heap.size + 1 + 1 ≠ D by omega))).trans x5
    rw [HQ.out]
    refine ⟨_, by simp [results, Try.f11, go_sem, z4, z5]; rfl, rfl, below_mark hlp HB.out (by omega)⟩
theorem quant_any (h : List Int) (s : Small h) (q : Int) (w : World) :
    Calls Try.prog 11 #[.agg (hc h), .int .i64 q] w fun e w' => e = .returned (qV (quantR h q)) ∧ Below w.heap.size w w' := by
  by_cases hq : q < 0 ∨ 100 < q
  · exact (callsIn_wide (n := 9)).1 (quant_bad h q hq w)
  · exact (callsIn_wide (n := 9)).1 (quant_wd h s q (by omega) (by omega) w)
end Go.Proofs.Ytohmliockehbkaa
