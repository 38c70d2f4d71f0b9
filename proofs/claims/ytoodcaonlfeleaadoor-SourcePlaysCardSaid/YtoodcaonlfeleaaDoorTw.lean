/- source.advance. -/
import Derived.Test.YtoodcaonlfeleaaDoorTv
namespace Go.Proofs.YtoodcaonlfeleaaDoor
open Go Go.Proofs Go.RowKit Go.Shelf
set_option maxRecDepth 100000
attribute [local go_sem] Oper.semAt_some
def lsI (o : Option Int) : Int := match o with | none => 0 | some m => m
theorem vat_own {β : Type} (T : TypeId) (b : Nat) (f : β → List Value) : Own (fun (s : β) W => VAt T W b (f s)) := fun s X Y row hs hg hrow =>
  hs.keep (hg.block b hs.lt (fun e' => by obtain ⟨o, ho, hc⟩ := hrow b e'.symm; rw [hs.blk] at ho; cases ho; cases hc))
/-- behind a loop's return mark -/
theorem below_mark {w W0 W : World} {D : Nat} (h0 : Below w.heap.size w W0) (hB : Below w.heap.size W0 W) (hD : w.heap.size ≤ D) : Below w.heap.size w (W.putObj D (.deferred none)) :=
  (h0.trans hB).trans ((Below.refl _ W).grown (grownBy_putObj' W D _) (by have := hB.size; have := h0.size; omega) (fun k e => by cases e; exact hD))
theorem boxed_far {W : World} {B : Nat} {t : TypeId} {v : Value} (h : Boxed W B t v) {a j : Nat} (hne : B ≠ a) (u : Value) : Boxed (W.setCell ⟨a, j, none⟩ u) B t v := (Below.heap_setCell W ⟨a, j, none⟩ u B hne).trans h
theorem below_put {w W : World} {D : Nat} {o : Obj} (hB : Below w.heap.size w W) (hD : w.heap.size ≤ D) : Below w.heap.size w (W.putObj D o) :=
  hB.trans ((Below.refl _ W).grown (grownBy_putObj' W D _) hB.size (fun k e => by cases e; exact hD))
theorem grown_of {w W : World} {r : Option Nat} (hB : Below w.heap.size w W) : w.grownBy W r := ⟨hB.os, hB.tape, hB.output, hB.size, fun k hk _ => hB.block k hk⟩
theorem grown_then {w W W2 W3 : World} {b D : Nat} (h : w.grownBy W (some b)) (k : W.grownBy W2 (some b)) (l : W2.grownBy W3 (some D)) (hD : w.heap.size ≤ D) : w.grownBy W3 (some b) :=
  ⟨l.os.trans (k.os.trans h.os), l.tape.trans (k.tape.trans h.tape), l.output.trans (k.output.trans h.output), Nat.le_trans h.size (Nat.le_trans k.size l.size), fun i hi hn =>
    (l.block i (by have := h.size; have := k.size; omega) (fun e => by injection e; omega)).trans ((k.block i (by have := h.size; omega) hn).trans (h.block i hi hn))⟩
theorem av_step {w w0 W : World} {b : Nat} {u v : Value} (HL : Boxed W w.heap.size 2 u) (HS : Boxed W (w.heap.size + 1) 4 v) (HB : Below w.heap.size w W) (t : Int) (hb : b < w.heap.size) (h0 : w.heap.size + 2 ≤ w0.heap.size) (hzw : w.heap.size + 3 ≤ W.heap.size) :
    KeepsT 2 w0.heap.size W ((W.setCell ⟨w.heap.size, 0, none⟩ (.int .i64 t)).setCell ⟨w.heap.size + 1, 0, none⟩ (.bool true)) ∧ Same2 b (w.heap.size + 1 + 1) W ((W.setCell ⟨w.heap.size, 0, none⟩ (.int .i64 t)).setCell ⟨w.heap.size + 1, 0, none⟩ (.bool true)) ∧
        Boxed ((W.setCell ⟨w.heap.size, 0, none⟩ (.int .i64 t)).setCell ⟨w.heap.size + 1, 0, none⟩ (.bool true)) w.heap.size 2 (.int .i64 t) ∧ Boxed ((W.setCell ⟨w.heap.size, 0, none⟩ (.int .i64 t)).setCell ⟨w.heap.size + 1, 0, none⟩ (.bool true)) (w.heap.size + 1) 4 (.bool true) ∧ Below w.heap.size w ((W.setCell ⟨w.heap.size, 0, none⟩ (.int .i64 t)).setCell ⟨w.heap.size + 1, 0, none⟩ (.bool true)) ∧ w.heap.size + 3 ≤ ((W.setCell ⟨w.heap.size, 0, none⟩ (.int .i64 t)).setCell ⟨w.heap.size + 1, 0, none⟩ (.bool true)).heap.size := by
  generalize hn : w.heap.size = n at *
  obtain ⟨W1, h1⟩ : ∃ W1, W.setCell ⟨n, 0, none⟩ (.int .i64 t) = W1 := ⟨_, rfl⟩
  obtain ⟨W2, h2⟩ : ∃ W2, W1.setCell ⟨n + 1, 0, none⟩ (.bool true) = W2 := ⟨_, rfl⟩
  have k1 : KeepsT 2 w0.heap.size W W1 := by rw [← h1]; exact KeepsT.setCell _ (by omega)
  have k2 : KeepsT 2 w0.heap.size W1 W2 := by rw [← h2]; exact KeepsT.setCell _ (by omega)
  have e1 : ∀ i, i ≠ n → W1.heap[i]? = W.heap[i]? := fun i hi => by rw [← h1]; exact Below.heap_setCell _ _ _ _ hi
  have e2 : ∀ i, i ≠ n + 1 → W2.heap[i]? = W1.heap[i]? := fun i hi => by rw [← h2]; exact Below.heap_setCell _ _ _ _ hi
  have b1 : Boxed W1 n 2 (.int .i64 t) := by rw [← h1]; exact HL.set _
  have b2 : Boxed W2 (n + 1) 4 (.bool true) := by
    have : Boxed W1 (n + 1) 4 v := (e1 _ (by omega)).trans HS
    rw [← h2]; exact this.set _
  have g1 : Below n w W1 := by rw [← h1]; exact HB.setCell (Nat.le_refl _) _
  have g2 : Below n w W2 := by rw [← h2]; exact g1.setCell (Nat.le_succ _) _
  have z1 : W1.heap.size = W.heap.size := by rw [← h1]; simp
  have z2 : W2.heap.size = W1.heap.size := by rw [← h2]; simp
  rw [h1, h2]
  exact ⟨k1.trans k2, ⟨(e2 _ (by omega)).trans (e1 _ (by omega)), (e2 _ (by omega)).trans (e1 _ (by omega))⟩, (e2 _ (by omega)).trans b1, b2, g2, by omega⟩
theorem adv_def (A : Tb) : advT A = match leastP (liveP A 16) with | none => A | some m => raiseT A (m - A.late) := by
  unfold advT
  generalize leastP (liveP A 16) = o
  cases o <;> rfl
/-- advance's row of slots in a round -/
def avT (w : World) (b : Nat) (x : Nat × R3) (d : Nat) : Array Value := #[tp b, undef, .pointer (some ⟨w.heap.size, 0, none⟩), .pointer (some ⟨w.heap.size + 1, 0, none⟩), undef, .pointer (some ⟨d, 0, none⟩), tp b, .func (.func 36) #[] #[.pointer (some ⟨w.heap.size + 1 + 1, 0, none⟩)], .int .i64 ((x.1 : Int) + 1), .agg #[.int .i64 x.2.q, .int .i64 x.2.t, .int .i64 x.2.k], undef, undef, undef, undef, undef, undef, undef, undef, undef, undef, undef, undef, undef, undef, undef, undef, undef, undef, undef]
def AvPost (b : Nat) (A : Tb) (w : World) (e : Ending) (w' : World) : Prop := (∃ v, e = .returned v) ∧ TAt w' b (advT A) ∧ w.grownBy w' (some b)
set_option maxHeartbeats 8000000 in
theorem advance_wd {N : Int} (b : Nat) (A : Tb) (hA : TbOk N A) (hN : N ≤ 1000000) (w : World) (h : TAt w b A) :
    CallsIn Fence.wide 9 Tryd.prog 29 #[tp b] w (AvPost b A w) := by
  have HT := Lib.hid h
  have hbl := h.lt
  clear h
  refine callsIn_of_wp_marks Tryd.func29 rfl trivial ?_ rfl
  simp only [Tryd.ntmps29, List.size_toArray, List.length_cons, List.length_nil, Nat.reduceAdd, Nat.reduceSub, Array.replicate_succ, Array.replicate_zero, List.push_toArray, List.append_toArray, List.nil_append, List.cons_append]
  gi_wp2_with fail
  refine ⟨trivial, (callsIn_wide.2 (live_any b _)).mono ?_⟩
  rintro e w1 ⟨rfl, rfl⟩
  gi_wp2
  obtain ⟨W0, hW0⟩ : ∃ W0, ((w.alloc (.cells #[.int .i64 0] 2)).alloc (.cells #[.bool false] 4)).alloc (.cells #[tp b] 24) = W0 := ⟨_, rfl⟩
  have hlp : Below w.heap.size w W0 := by rw [← hW0]; go_grown
  have hsz : W0.heap.size = w.heap.size + 3 := by rw [← hW0]; simp
  have bl0 : Boxed W0 w.heap.size 2 (.int .i64 0) := by
    rw [← hW0]
    exact ((Boxed.new w 2 (.int .i64 0)).alloc _).alloc _
  have bs0 : Boxed W0 (w.heap.size + 1) 4 (.bool false) := by
    rw [← hW0]
    have h := Boxed.new (w.alloc (.cells #[.int .i64 0] 2)) 4 (.bool false)
    rw [World.size_alloc] at h
    exact h.alloc _
  have bp0 : Boxed W0 (w.heap.size + 1 + 1) 24 (tp b) := by
    rw [← hW0]
    have h := Boxed.new ((w.alloc (.cells #[.int .i64 0] 2)).alloc (.cells #[.bool false] 4)) 24 (tp b)
    rwa [World.size_alloc, World.size_alloc] at h
  have ht0 : TAt W0 b A := VAt.below HT.out hlp
  rw [hW0]
  clear hW0
  refine rangeS 2 (F := Fence.wide) (n := 9) rfl (by omega) (gf := 36) (lb := #[.pointer (some ⟨w.heap.size + 1 + 1, 0, none⟩)]) rfl trivial (enters_of Tryd.func36 (by kernel_rfl) rfl)
    (live_stops 2 b (w.heap.size + 1 + 1) A hA hN W0 ht0 bp0) same2_t (fun o' hl _ _ => ⟨World.putObj_heap_other (by omega), World.putObj_heap_other (by omega)⟩) (fun _ _ _ _ hs _ _ => hs) (Below.refl _ _) (fun _ => rfl)
    (fun pre W => Boxed W w.heap.size 2 (.int .i64 (lsI (leastP pre))) ∧ Boxed W (w.heap.size + 1) 4 (.bool (leastP pre).isSome) ∧ Below w.heap.size w W ∧ w.heap.size + 3 ≤ W.heap.size)
    (fun _ _ _ => False)
    (OwnFrom.and (Own.from (boxed_own w.heap.size 2 (fun pre => .int .i64 (lsI (leastP pre)))) _) (OwnFrom.and (Own.from (boxed_own (w.heap.size + 1) 4 (fun pre => .bool (leastP pre).isSome)) _) (OwnFrom.and (ownFrom_below (Nat.le_refl _) (by rw [hsz]; omega)) (fun _ _ _ _ hs hg _ => Nat.le_trans hs hg.size))))
    (fun _ _ _ _ _ hs _ _ => hs)
    ⟨bl0, bs0, hlp, by omega⟩
    (fun x a' W => ∃ d, a' = { tmps := avT w b x d, defers := [] } ∧ VAt 64 W d (r3C x.2))
    (fun x a' => fun s X Y row hs hg hrow => by
      obtain ⟨d, e, hv⟩ := hs
      exact ⟨d, e, vat_own 64 d (fun _ : Unit => r3C x.2) () X Y row hv hg (fun r e => (hrow r e).2)⟩) ?assign ?body ?done ?stop
  case assign =>
    rintro l' pre x W K ⟨hl, hs, hB, hzw⟩ hK
    simp only [lvV]
    have HL := Lib.hid hl
    have HS := Lib.hid hs
    have HB := Lib.hid hB
    have hz := hl.lt
    have hz2 := hs.lt
    have hzb := hB.size
    clear hl hs hB
    gi_wp2
    refine hK _ _ (KeepsT.below (below_cells _)) ⟨Below.heap_alloc W _ _ (by omega), Below.heap_alloc W _ _ (by omega)⟩ ⟨HL.out.alloc _, HS.out.alloc _, below_new HB.out _, by rw [World.size_alloc]; omega⟩ ⟨W.heap.size, rfl, vat_new W _ (r3C x.2)⟩
  case body =>
    rintro l' pre x a' W hl _ ⟨hl0, hs0, hB, hzw⟩ ⟨d, rfl, hv⟩ hpl
    have hcl := hl0.cell
    have hfl := hl0.frozen
    have hcs := hs0.cell
    have hfs := hs0.frozen
    have hx1 : W.cell? ⟨d, 1, none⟩ = some (.int .i64 x.2.t) := hv.cell rfl
    have hs2 := hl0.lt
    have HB := Lib.hid hB
    have HL0 := Lib.hid hl0
    have HS0 := Lib.hid hs0
    have EL := Lib.hid (leastP_snoc pre x)
    clear hl0 hs0 hB hv
    unfold avT
    generalize leastP pre = o at *
    have key := fun t => av_step (w0 := W0) (b := b) HL0.out HS0.out HB.out t (by omega) (by omega) hzw
    have KY := Lib.hid key
    clear key
    cases o with
    | none =>
      simp only [Option.isSome_none, lsI] at hcs hcl
      clear hpl
      gi_wp2
      obtain ⟨k1, k2, k3, k4, k5⟩ := KY.out x.2.t
      exact ⟨k1, k2, by rw [EL.out]; exact k3, by rw [EL.out]; exact k4, k5⟩
    | some m =>
      simp only [Option.isSome_some, lsI] at hcs hcl
      by_cases hlt : x.2.t < m
      · have dl : decide (x.2.t < m) = true := by simpa using hlt
        clear hpl
        gi_wp2
        obtain ⟨k1, k2, k3, k4, k5⟩ := KY.out x.2.t
        refine ⟨k1, k2, ?_, by rw [EL.out]; exact k4, k5⟩
        rw [EL.out]
        unfold leastN lsI
        dsimp only
        rw [if_pos hlt]
        exact k3
      · have dl : decide (x.2.t < m) = false := by simpa using hlt
        clear hpl
        gi_wp2
        refine ⟨KeepsT.below (Below.refl _ _), ⟨rfl, rfl⟩, ?_, ?_, HB.out, hzw⟩
        · rw [EL.out]
          unfold leastN lsI
          dsimp only
          rw [if_neg (by omega)]
          exact HL0.out
        · rw [EL.out]
          exact HS0.out
  case done =>
    rintro D ys W hD rfl ⟨hl0, hs0, hB, hzw⟩ hK
    have hcl := hl0.cell
    have hcs := hs0.cell
    have hs2 := hl0.lt
    have TW : TAt W b A := VAt.below HT.out hB
    have HB := Lib.hid hB
    have HKD := Lib.hid hK
    have bm := leastP_bound hA _ (live_rows 16)
    have l0 := hA.l0
    have HA := Lib.hid (adv_def A)
    clear hB hl0 hs0
    generalize leastP (liveP A 16) = o at *
    cases o with
    | none =>
      simp only [Option.isSome_none, lsI] at hcs hcl
      clear bm l0
      have HTW := Lib.hid TW
      clear TW
      gi_wp2
      refine ⟨by simp, .inl ⟨_, _, rfl, run_takeDeferred HKD.out, ?_⟩⟩
      refine ⟨_, results_none rfl _ _ _, ⟨_, rfl⟩, ?_, ?_⟩
      · rw [HA.out]
        exact VAt.keep HTW.out (World.putObj_heap_other (by omega))
      · exact grown_of (below_put HB.out (by omega))
    | some m =>
      obtain ⟨bm1, bm2⟩ := bm m rfl
      simp only [Option.isSome_some, lsI] at hcs hcl
      have R := Lib.hid (fun u (hu : TAt u b A) => raise_any b A (m - A.late) u hu)
      have hw2 : IntKind.i64.wrap (m - A.late) = m - A.late := by rw [IntKind.wrap_i64]; omega
      have HKd : Hid (W.drew.heap[D]? = some (.deferred (some []))) := HKD.out
      have HBd := Lib.hid (HB.out.drew)
      have HS0 := Lib.hid (show W.drew.cell? ⟨w.heap.size, 0, none⟩ = some (.int .i64 m) ∧ TAt W.drew b A ∧ W.drew = W.drew from ⟨hcl, VAt.drew TW, rfl⟩)
      clear TW bm l0 hK HKD HB bm1 bm2
      gi_wp2_with fail
      refine wpIn_mono ?_ NoPanic.imp
      refine region_anyM (S := fun u => u.cell? ⟨w.heap.size, 0, none⟩ = some (.int .i64 m) ∧ TAt u b A ∧ u = W.drew) 7 (by kernel_rfl) (fun hS => ?_) ⟨HS0.out.1, HS0.out.2.1, rfl⟩
      generalize W.drew = Wd at *
      refine anyM_d 0 [0, 7] hS ?_
      refine anyM_c 1 [1, 6, 7] hS (fun u h => h.1) ?_
      refine anyM_d 2 [2, 3, 4, 5, 6, 7] hS ?_
      refine anyM_d 3 [3, 4, 5, 6, 7] hS ?_
      refine anyM_d 4 [4, 5, 6, 7] hS ?_
      refine anyM_c 5 [5, 6, 7] hS (fun u h => h.2.1.c0) ?_
      refine anyM_d 6 [6, 7] (v := .int .i64 (m - A.late)) hS ?_
      refine anyM_l (fun K hK => ?_)
      go_simp
      refine ⟨trivial, ?_⟩
      refine (callsIn_wide.2 (R.out _ hS.2.1)).mono ?_
      rintro e W2 ⟨⟨v, rfl⟩, hT2, hg2⟩
      dsimp only
      refine hK _ _ ?_
      refine anyIn_done (by kernel_rfl) (NoPanic.normal ?_) _
      clear hK K HS0 hS
      have HK2 : W2.heap[D]? = some (.deferred (some [])) := (hg2.block D (Array.getElem?_eq_some_iff.1 HKd.out).1 (fun e => by injection e; omega)).trans HKd.out
      have HT2 := Lib.hid hT2
      have HG2 := Lib.hid hg2
      clear hT2 hg2
      gi_wp2
      refine ⟨by simp, .inl ⟨_, _, rfl, run_takeDeferred HK2, ?_⟩⟩
      refine ⟨_, results_none rfl _ _ _, ⟨_, rfl⟩, ?_, ?_⟩
      · rw [HA.out]
        exact VAt.keep HT2.out (World.putObj_heap_other (by omega))
      · exact grown_then (grown_of HBd.out) HG2.out (grownBy_putObj' W2 D _) (by omega)
  case stop =>
    rintro D c pre W hD _ hf hK
    exact hf.elim
end Go.Proofs.YtoodcaonlfeleaaDoor
