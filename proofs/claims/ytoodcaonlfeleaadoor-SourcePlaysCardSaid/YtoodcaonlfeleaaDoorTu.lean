/- source: Seen, Raise, Frontier, Last, Twin, live. -/
import Derived.Test.YtoodcaonlfeleaaDoorTt
namespace Go.Proofs.YtoodcaonlfeleaaDoor
open Go Go.Proofs Go.RowKit Go.Shelf
set_option maxRecDepth 100000
attribute [local go_sem] cell_set Oper.semAt_some
theorem grownBy_set (W : World) (b j : Nat) (v : Value) : W.grownBy (W.setCell ⟨b, j, none⟩ v) (some b) :=
  ⟨rfl, rfl, rfl, (KeepsWalks.setCell W _ v).size, fun k _ hk => Below.heap_setCell _ _ _ k (fun e => hk (by rw [e]))⟩
theorem fld0 (a b c : Int) (w : World) : Sem.run Tryd.prog (Instr.field 64 (.agg #[.int .i64 a, .int .i64 b, .int .i64 c]) 0) w = .ok (.int .i64 a) w := by kernel_rfl
theorem fld1 (a b c : Int) (w : World) : Sem.run Tryd.prog (Instr.field 64 (.agg #[.int .i64 a, .int .i64 b, .int .i64 c]) 1) w = .ok (.int .i64 b) w := by kernel_rfl
theorem seen_any {N : Int} (b : Nat) (A : Tb) (s q : Int) (w : World) (hA : TbOk N A) (h : TAt w b A) :
    Calls Tryd.prog 20 #[tp b, .int .i64 s, .int .i64 q] w fun e w' => e = .returned (.bool (decide (q ≤ (rowR A s).q))) ∧ Below w.heap.size w w' := by
  have R := Lib.hid (row_any b A s w hA h)
  clear h hA
  generalize rowR A s = r at *
  unfold rowV at R
  go_enter Tryd.func20, Tryd.ntmps20
  go_wp2_with fail
  refine R.out.mono ?_
  rintro e w1 ⟨rfl, hb⟩
  have F := fld0 r.q r.t r.k
  go_wp2
  go_ret
  exact ⟨rfl, hb⟩
theorem tb_front (A : Tb) (f : Int) : (tbC A).set 3 (.int .i64 f) = tbC { A with front := f } := rfl
theorem tb_ticks (A : Tb) (f : Int) : (tbC A).set 2 (.int .i64 f) = tbC { A with ticks := f } := rfl
theorem raise_any (b : Nat) (A : Tb) (f : Int) (w : World) (h : TAt w b A) :
    Calls Tryd.prog 14 #[tp b, .int .i64 f] w fun e w' => (∃ r, e = .returned r) ∧ TAt w' b (raiseT A f) ∧ w.grownBy w' (some b) := by
  have c3 := h.c3
  have f3 := h.free 3
  have H := Lib.hid h
  have e : Hid (max A.front f = (raiseT A f).front) := rfl
  clear h
  go_enter Tryd.func14, Tryd.ntmps14
  go_wp2
  go_end0
  refine ⟨⟨_, rfl⟩, ?_, grownBy_set w _ _ _⟩
  have := H.out.set 3 (.int .i64 (max A.front f))
  rw [tb_front] at this
  exact this
theorem frontier_any (b : Nat) (A : Tb) (w : World) (h : TAt w b A) :
    Calls Tryd.prog 18 #[tp b] w fun e w' => e = .returned (.int .i64 A.front) ∧ w' = w := by
  have c3 := h.c3
  clear h
  go_enter Tryd.func18, Tryd.ntmps18
  go_wp2
  go_ret
  exact ⟨rfl, rfl⟩
set_option maxHeartbeats 4000000 in
theorem last_any {N : Int} (b : Nat) (A : Tb) (s : Int) (w : World) (hA : TbOk N A) (h : TAt w b A) :
    Calls Tryd.prog 19 #[tp b, .int .i64 s] w fun e w' => e = .returned (.tuple #[.int .i64 (rowR A s).q, .int .i64 (rowR A s).t, .bool (decide (0 < (rowR A s).q))]) ∧ Below w.heap.size w w' := by
  have R := Lib.hid (row_any b A s w hA h)
  clear h hA
  generalize rowR A s = r at *
  unfold rowV at R
  have HD := Lib.hid (fun W => heard_any r W)
  unfold rowV at HD
  go_enter Tryd.func19, Tryd.ntmps19
  go_wp2_with fail
  refine R.out.mono ?_
  rintro e w1 ⟨rfl, hb⟩
  go_wp2_with fail
  obtain ⟨W, hW⟩ : ∃ W, W = w1.alloc (.cells #[.int .i64 r.q, .int .i64 r.t, .int .i64 r.k] 64) := ⟨_, rfl⟩
  have hA0 : At W w1.heap.size [.int .i64 r.q, .int .i64 r.t, .int .i64 r.k] := by rw [hW]; exact At.nwb _ _ [_, _, _] _ rfl
  have hB : Below w.heap.size w W := by rw [hW]; exact below_new hb _
  rw [← hW]
  refine wp_region_held_drew (S := fun u => At u w1.heap.size [.int .i64 r.q, .int .i64 r.t, .int .i64 r.k] ∧ Below w.heap.size w u) (by kernel_rfl) ⟨hA0.drew, hB.drew⟩ (fun hS => ?_)
  generalize W.drew = w0 at *
  clear hW hA0 hB hb
  refine tkH 0 hS ?_
  refine tkC 1 hS (fun u h => h.1.cell 0 _ rfl) ?_
  refine tkH 2 hS ?_
  refine tkC 3 hS (fun u h => h.1.cell 1 _ rfl) ?_
  refine tkC 4 (v := .agg #[.int .i64 r.q, .int .i64 r.t, .int .i64 r.k]) hS (fun u h => And.intro (h.1.cell 0 _ rfl) (And.intro (h.1.cell 1 _ rfl) (h.1.cell 2 _ rfl))) ?_
  refine anyH_1 5 (fun K hK => ?_)
  go_simp
  go_at_call 31
  refine (HD.out _).mono ?_
  rintro e w2 ⟨rfl, hb2⟩
  dsimp only
  refine hK.out _ _ ⟨hS.1.below hb2, below_then hS.2 hb2⟩ (fun hS => ?_)
  clear hK K hb2
  refine tkH 6 hS ?_
  refine tkH 7 hS ?_
  refine tkH 8 hS ?_
  refine wpAnyH_done (by kernel_rfl) ?_ _
  go_wp2
  refine bodyPost_ret (by simp [results, Tryd.results19, go_sem]; try rfl) rfl ?_
  exact ⟨rfl, hS.2⟩
set_option maxHeartbeats 4000000 in
theorem twin_any (b : Nat) (A : Tb) (hl : A.rows.length = 16) (w : World) (h : TAt w b A) :
    Calls Tryd.prog 15 #[tp b] w fun e w' => e = .returned (tp w.heap.size) ∧ TAt w' w.heap.size A ∧ Below w.heap.size w w' := by
  have rc := tb_rc hl
  have hz : ∀ w, (zeroValue 67).run Tryd.prog w = .ok (.agg (tbC (newT 0 0)).toArray) w := fun w => by kernel_rfl
  have rz : RC 52 (tbC (newT 0 0)) := tb_rc (by simp [newT])
  have hzs : (tbC (newT 0 0)).toArray.size = 52 := by rw [List.size_toArray, rz.len]
  have hzn : (tbC (newT 0 0)).toArray ≠ #[] := fun e => by rw [e] at hzs; cases hzs
  have hn := vat_new w 67 (tbC (newT 0 0))
  generalize tbC (newT 0 0) = Z at *
  go_enter Tryd.func15, Tryd.ntmps15
  go_wp2_with (first | (refine ld_v rowTab rc h rfl rfl rfl ?_) | (refine st_v rowTab rz rc hn rfl rfl rfl rfl ?_) | fail)
  go_ret
  exact ⟨rfl, hn.row _, below_row (below_cells _) (Nat.le_refl _) _⟩
theorem live_any (b : Nat) (w : World) :
    Calls Tryd.prog 30 #[tp b] w fun e w' => e = .returned (.func (.func 36) #[] #[.pointer (some ⟨w.heap.size, 0, none⟩)]) ∧ w' = w.alloc (.cells #[tp b] 24) := by
  go_enter Tryd.func30, Tryd.ntmps30
  go_wp2
  go_ret
  exact ⟨rfl, rfl⟩
end Go.Proofs.YtoodcaonlfeleaaDoor
