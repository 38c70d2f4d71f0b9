/- Package pane: with, gather, Of. -/
import Derived.Test.YtedcdhngiofpjaaGreatDoorPaM
namespace Go.Proofs.YtedcdhngiofpjaaGreatDoor
open Go Go.Proofs Go.RowKit Go.Shelf
set_option maxRecDepth 100000
attribute [local go_sem] cell_set Oper.semAt_some
theorem merge_any {n m : Nat} (p q : Pn) (hp : Bd n p) (hq : Bd m q) (h : n + m ≤ 1000000) (w : World) :
    Calls Tryz.prog 29 #[p.V, q.V] w fun e w' => e = .returned ((mergeR p q).V) ∧ Below w.heap.size w w' := by
  by_cases h1 : p.c < 1
  · have e : mergeR p q = q := by unfold mergeR; rw [if_pos h1]
    rw [e]; exact merge_a p q h1 w
  by_cases h2 : q.c < 1
  · have e : mergeR p q = p := by unfold mergeR; rw [if_neg h1, if_pos h2]
    rw [e]; exact merge_b p q h1 h2 w
  have F := hp.fits hq (by omega)
  have hs : p.c + q.c ≤ 1000000000 := by rw [hp.c, hq.c]; omega
  unfold mergeR Pn.V
  rw [if_neg h1, if_neg h2]
  by_cases h3 : Lt3 p.t p.s p.q q.t q.s q.q
  · simp only [if_pos h3]
    exact merge_lt p q h1 h2 hs _ _ hp.i hq.i (ini_hl F) (val_hl _) h3 w
  · simp only [if_neg h3]
    exact merge_ge p q h1 h2 hs _ _ hp.i hq.i (ini_hl F) (val_hl _) h3 w
/-- a sample as it lies in memory: its labels, what they are, its numbers -/
structure Smp where
  sa : Option Addr
  sn : Nat
  sc : Nat
  zs : List Lab
  x : Nm
def Smp.C (s : Smp) : List Value := [.slice s.sa s.sn s.sc, .int .i64 s.x.v, .int .i64 s.x.t, .int .i64 s.x.s, .int .i64 s.x.q]
def Smps (W : World) (sv : Value) (L : List Smp) : Prop :=
  (L = [] ∧ ∃ a c, sv = .slice a 0 c) ∨ ∃ b off cap, sv = .slice (some ⟨b, off, none⟩) L.length cap ∧ b < W.heap.size ∧ ∀ j s, L[j]? = some s → ∀ i v, s.C[i]? = some v → W.cell? ⟨b, off + j * 5 + i, none⟩ = some v
theorem Smps.below {W W' : World} {sv : Value} {L : List Smp} (h : Smps W sv L) (hb : Below W.heap.size W W') : Smps W' sv L := by
  rcases h with h | ⟨b, off, cap, e, hl, hc⟩
  · exact .inl h
  · exact .inr ⟨b, off, cap, e, Nat.lt_of_lt_of_le hl hb.size, fun j s hj i v hi => (hb.cell (p := ⟨b, off + j * 5 + i, none⟩) hl).trans (hc j s hj i v hi)⟩
theorem Smps.len {W : World} {a : Option Addr} {n c : Nat} {L : List Smp} (h : Smps W (.slice a n c) L) : n = L.length := by
  rcases h with ⟨rfl, _, _, e⟩ | ⟨b, off, cap, e, _⟩
  · injection e
  · injection e
theorem Smps.at {W : World} {a : Option Addr} {n c k : Nat} {L : List Smp} (h : Smps W (.slice a n c) L) {s : Smp} (hk : L[k]? = some s) :
    ∃ b off, a = some ⟨b, off, none⟩ ∧ b < W.heap.size ∧ W.cell? ⟨b, off + k * 5, none⟩ = some (.slice s.sa s.sn s.sc) ∧ W.cell? ⟨b, off + k * 5 + 1, none⟩ = some (.int .i64 s.x.v) ∧ W.cell? ⟨b, off + k * 5 + 2, none⟩ = some (.int .i64 s.x.t) ∧ W.cell? ⟨b, off + k * 5 + 3, none⟩ = some (.int .i64 s.x.s) ∧ W.cell? ⟨b, off + k * 5 + 4, none⟩ = some (.int .i64 s.x.q) := by
  rcases h with ⟨rfl, _⟩ | ⟨b, off, cap, e, hl, hc⟩
  · simp at hk
  · injection e with e1
    exact ⟨b, off, e1, hl, hc k s hk 0 _ rfl, hc k s hk 1 _ rfl, hc k s hk 2 _ rfl, hc k s hk 3 _ rfl, hc k s hk 4 _ rfl⟩
def nums (L : List Smp) : List Nm := L.map (·.x)
theorem nums_take (L : List Smp) (k : Nat) : nums (L.take k) = (nums L).take k := by unfold nums; rw [List.map_take]
theorem nums_drop (L : List Smp) (k : Nat) : nums (L.drop k) = (nums L).drop k := by unfold nums; rw [List.map_drop]
theorem nums_app (a b : List Smp) : nums (a ++ b) = nums a ++ nums b := by unfold nums; rw [List.map_append]
theorem nums_len (a : List Smp) : (nums a).length = a.length := by unfold nums; rw [List.length_map]
/-- what lies in memory while with goes -/
structure WS (p : Pn) (sa : Option Addr) (sn sc : Nat) (x : Nm) (w u : World) : Prop where
  P : At u w.heap.size [.int .i64 p.c, .int .i64 p.h, .int .u64 p.l, .int .i64 p.mn, .int .i64 p.mx, .int .i64 p.t, .int .i64 p.s, .int .i64 p.q, .int .i64 p.v]
  X : At u (w.heap.size + 1) [.slice sa sn sc, .int .i64 x.v, .int .i64 x.t, .int .i64 x.s, .int .i64 x.q]
  B : Below w.heap.size w u
section
variable {p : Pn} {sa : Option Addr} {sn sc : Nat} {x : Nm} {w u u' : World}
theorem WS.drew (h : WS p sa sn sc x w u) : WS p sa sn sc x w u.drew := ⟨h.P.drew, h.X.drew, h.B.drew⟩
theorem WS.below (h : WS p sa sn sc x w u) (hb : Below u.heap.size u u') : WS p sa sn sc x w u' := ⟨h.P.below hb, h.X.below hb, below_then h.B hb⟩
theorem WS.far (h : WS p sa sn sc x w u) (j : Nat) (v : Value) : WS p sa sn sc x w (u.setCell ⟨w.heap.size + 1 + 1, j, none⟩ v) := ⟨h.P.far (by omega) v, h.X.far (by omega) v, h.B.setCell (by dsimp only; omega) v⟩
end
set_option maxHeartbeats 4000000 in
theorem with_any {n : Nat} (p : Pn) (hp : Bd n p) (hn : n ≤ 100000) (sa : Option Addr) (sn sc : Nat) (x : Nm) (hx : I64 x.v) (w : World) : Calls Tryz.prog 76 #[p.V, .agg #[.slice sa sn sc, .int .i64 x.v, .int .i64 x.t, .int .i64 x.s, .int .i64 x.q]] w fun e w' => e = .returned ((mergeR p (oneR x)).V) ∧ Below w.heap.size w w' := by
  have MG := Lib.hid (fun W => merge_any p (oneR x) hp (Bd.one hx) (by omega) W)
  have OF := Lib.hid (fun W => Of_any x.v (hiS x.v) (loS x.v) hx (Bd.one hx).i (val_hl _) W)
  generalize mergeR p (oneR x) = r at *
  unfold oneR at MG
  generalize hiS x.v = h0 at *
  generalize loS x.v = l0 at *
  unfold Pn.V at *
  dsimp only at MG
  clear hp hx
  go_enter Tryz.func76, Tryz.ntmps76
  have e : Below w.heap.size w w := Below.refl _ _
  clear e
  have d0 : True := trivial
  have DP : At ((((w).alloc (.cells #[.int .i64 p.c, .int .i64 p.h, .int .u64 p.l, .int .i64 p.mn, .int .i64 p.mx, .int .i64 p.t, .int .i64 p.s, .int .i64 p.q, .int .i64 p.v] 55)).alloc (.cells #[.slice sa sn sc, .int .i64 x.v, .int .i64 x.t, .int .i64 x.s, .int .i64 x.q] 33)).alloc (.cells #[.int .i64 0, .int .i64 0, .int .u64 0, .int .i64 0, .int .i64 0, .int .i64 0, .int .i64 0, .int .i64 0, .int .i64 0] 55)) (w.heap.size) [.int .i64 p.c, .int .i64 p.h, .int .u64 p.l, .int .i64 p.mn, .int .i64 p.mx, .int .i64 p.t, .int .i64 p.s, .int .i64 p.q, .int .i64 p.v] := by have h := (((At.new (w) #[.int .i64 p.c, .int .i64 p.h, .int .u64 p.l, .int .i64 p.mn, .int .i64 p.mx, .int .i64 p.t, .int .i64 p.s, .int .i64 p.q, .int .i64 p.v] 55).alloc (.cells #[.slice sa sn sc, .int .i64 x.v, .int .i64 x.t, .int .i64 x.s, .int .i64 x.q] 33)).alloc (.cells #[.int .i64 0, .int .i64 0, .int .u64 0, .int .i64 0, .int .i64 0, .int .i64 0, .int .i64 0, .int .i64 0, .int .i64 0] 55)); simpa using h
  have DX : At ((((w).alloc (.cells #[.int .i64 p.c, .int .i64 p.h, .int .u64 p.l, .int .i64 p.mn, .int .i64 p.mx, .int .i64 p.t, .int .i64 p.s, .int .i64 p.q, .int .i64 p.v] 55)).alloc (.cells #[.slice sa sn sc, .int .i64 x.v, .int .i64 x.t, .int .i64 x.s, .int .i64 x.q] 33)).alloc (.cells #[.int .i64 0, .int .i64 0, .int .u64 0, .int .i64 0, .int .i64 0, .int .i64 0, .int .i64 0, .int .i64 0, .int .i64 0] 55)) (w.heap.size + 1) [.slice sa sn sc, .int .i64 x.v, .int .i64 x.t, .int .i64 x.s, .int .i64 x.q] := by have h := ((At.new ((w).alloc (.cells #[.int .i64 p.c, .int .i64 p.h, .int .u64 p.l, .int .i64 p.mn, .int .i64 p.mx, .int .i64 p.t, .int .i64 p.s, .int .i64 p.q, .int .i64 p.v] 55)) #[.slice sa sn sc, .int .i64 x.v, .int .i64 x.t, .int .i64 x.s, .int .i64 x.q] 33).alloc (.cells #[.int .i64 0, .int .i64 0, .int .u64 0, .int .i64 0, .int .i64 0, .int .i64 0, .int .i64 0, .int .i64 0, .int .i64 0] 55)); simpa using h
  have DR : At ((((w).alloc (.cells #[.int .i64 p.c, .int .i64 p.h, .int .u64 p.l, .int .i64 p.mn, .int .i64 p.mx, .int .i64 p.t, .int .i64 p.s, .int .i64 p.q, .int .i64 p.v] 55)).alloc (.cells #[.slice sa sn sc, .int .i64 x.v, .int .i64 x.t, .int .i64 x.s, .int .i64 x.q] 33)).alloc (.cells #[.int .i64 0, .int .i64 0, .int .u64 0, .int .i64 0, .int .i64 0, .int .i64 0, .int .i64 0, .int .i64 0, .int .i64 0] 55)) (w.heap.size + 1 + 1) [.int .i64 0, .int .i64 0, .int .u64 0, .int .i64 0, .int .i64 0, .int .i64 0, .int .i64 0, .int .i64 0, .int .i64 0] := by have h := (At.new (((w).alloc (.cells #[.int .i64 p.c, .int .i64 p.h, .int .u64 p.l, .int .i64 p.mn, .int .i64 p.mx, .int .i64 p.t, .int .i64 p.s, .int .i64 p.q, .int .i64 p.v] 55)).alloc (.cells #[.slice sa sn sc, .int .i64 x.v, .int .i64 x.t, .int .i64 x.s, .int .i64 x.q] 33)) #[.int .i64 0, .int .i64 0, .int .u64 0, .int .i64 0, .int .i64 0, .int .i64 0, .int .i64 0, .int .i64 0, .int .i64 0] 55); simpa using h
  have B : Below w.heap.size w ((((w).alloc (.cells #[.int .i64 p.c, .int .i64 p.h, .int .u64 p.l, .int .i64 p.mn, .int .i64 p.mx, .int .i64 p.t, .int .i64 p.s, .int .i64 p.q, .int .i64 p.v] 55)).alloc (.cells #[.slice sa sn sc, .int .i64 x.v, .int .i64 x.t, .int .i64 x.s, .int .i64 x.q] 33)).alloc (.cells #[.int .i64 0, .int .i64 0, .int .u64 0, .int .i64 0, .int .i64 0, .int .i64 0, .int .i64 0, .int .i64 0, .int .i64 0] 55)) := below_new (below_new (below_new (Below.refl _ _) (.cells #[.int .i64 p.c, .int .i64 p.h, .int .u64 p.l, .int .i64 p.mn, .int .i64 p.mx, .int .i64 p.t, .int .i64 p.s, .int .i64 p.q, .int .i64 p.v] 55)) (.cells #[.slice sa sn sc, .int .i64 x.v, .int .i64 x.t, .int .i64 x.s, .int .i64 x.q] 33)) (.cells #[.int .i64 0, .int .i64 0, .int .u64 0, .int .i64 0, .int .i64 0, .int .i64 0, .int .i64 0, .int .i64 0, .int .i64 0] 55)
  go_wp2_with fail
  generalize (((w).alloc (.cells #[.int .i64 p.c, .int .i64 p.h, .int .u64 p.l, .int .i64 p.mn, .int .i64 p.mx, .int .i64 p.t, .int .i64 p.s, .int .i64 p.q, .int .i64 p.v] 55)).alloc (.cells #[.slice sa sn sc, .int .i64 x.v, .int .i64 x.t, .int .i64 x.s, .int .i64 x.q] 33)).alloc (.cells #[.int .i64 0, .int .i64 0, .int .u64 0, .int .i64 0, .int .i64 0, .int .i64 0, .int .i64 0, .int .i64 0, .int .i64 0] 55) = W9 at *
  have aR0 := DR.cell 0 _ rfl
  have zR0 := DR.free 0 _ rfl
  have aR1 := DR.cell 1 _ rfl
  have zR1 := DR.free 1 _ rfl
  have aR2 := DR.cell 2 _ rfl
  have zR2 := DR.free 2 _ rfl
  have aR3 := DR.cell 3 _ rfl
  have zR3 := DR.free 3 _ rfl
  have aR4 := DR.cell 4 _ rfl
  have zR4 := DR.free 4 _ rfl
  have aR5 := DR.cell 5 _ rfl
  have zR5 := DR.free 5 _ rfl
  have aR6 := DR.cell 6 _ rfl
  have zR6 := DR.free 6 _ rfl
  have aR7 := DR.cell 7 _ rfl
  have zR7 := DR.free 7 _ rfl
  have aR8 := DR.cell 8 _ rfl
  have zR8 := DR.free 8 _ rfl
  have nR := DR.lt
  have aX0 := DX.cell 0 _ rfl
  have aX1 := DX.cell 1 _ rfl
  have aX2 := DX.cell 2 _ rfl
  have aX3 := DX.cell 3 _ rfl
  have aX4 := DX.cell 4 _ rfl
  have nX := DX.lt
  have aP0 := DP.cell 0 _ rfl
  have aP1 := DP.cell 1 _ rfl
  have aP2 := DP.cell 2 _ rfl
  have aP3 := DP.cell 3 _ rfl
  have aP4 := DP.cell 4 _ rfl
  have aP5 := DP.cell 5 _ rfl
  have aP6 := DP.cell 6 _ rfl
  have aP7 := DP.cell 7 _ rfl
  have aP8 := DP.cell 8 _ rfl
  have nP := DP.lt
  have hM : WS p sa sn sc x w W9 := ⟨DP, DX, B⟩
  clear DP DX B d0 aR0 zR0 aR1 zR1 aR2 zR2 aR3 zR3 aR4 zR4 aR5 zR5 aR6 zR6 aR7 zR7 aR8 zR8 nR aX0 aX1 aX2 aX3 aX4 nX aP0 aP1 aP2 aP3 aP4 aP5 aP6 aP7 aP8 nP
  refine wp_region_held_drew (S := WS p sa sn sc x w) (by kernel_rfl) hM.drew (fun hS => ?_)
  have DR := DR.drew
  generalize W9.drew = w0 at *
  clear hM
  refine tkC 0 hS (fun u h => h.P.f9) ?_
  generalize Value.agg #[.int .i64 p.c, .int .i64 p.h, .int .u64 p.l, .int .i64 p.mn, .int .i64 p.mx, .int .i64 p.t, .int .i64 p.s, .int .i64 p.q, .int .i64 p.v] = VP at *
  refine tkC 1 hS (fun u h => h.X.f5) ?_
  refine tkC 2 hS (fun u h => h.X.f5) ?_
  refine tkC 4 hS (fun u h => h.X.f5) ?_
  refine tkC 5 hS (fun u h => h.X.f5) ?_
  refine tkC 6 hS (fun u h => h.X.f5) ?_
  refine tkC 7 hS (fun u h => h.X.f5) ?_
  refine tkC 8 hS (fun u h => h.X.f5) ?_
  refine tkC 9 hS (fun u h => h.X.f5) ?_
  refine tkC 10 hS (fun u h => h.X.f5) ?_
  refine tkC 11 hS (fun u h => h.X.f5) ?_
  refine tkC 12 hS (fun u h => h.X.f5) ?_
  refine tkC 13 hS (fun u h => h.X.f5) ?_
  refine tkC 14 hS (fun u h => h.X.f5) ?_
  refine tkC 15 hS (fun u h => h.X.f5) ?_
  refine anyH_1 3 (fun K hK => ?_)
  go_simp
  go_at_call 122
  refine (OF.out _).mono ?_
  rintro e w1 ⟨rfl, hb1⟩
  have hM1 := hS.below hb1
  have DR := DR.below hb1
  go_wp2_with fail
  refine hK.out _ _ hM1 (fun hS => ?_)
  clear hM1 hK K hb1
  refine tkC 16 hS (fun u h => h.X.f5) ?_
  refine anyH_1 17 (fun K hK => ?_)
  go_simp
  go_at_call 29
  refine (MG.out _).mono ?_
  rintro e w1 ⟨rfl, hb1⟩
  have hM1 := hS.below hb1
  have DR := DR.below hb1
  go_wp2_with fail
  refine hK.out _ _ hM1 (fun hS => ?_)
  clear hM1 hK K hb1
  refine anyH_1 18 (fun K hK => ?_)
  have fR := DR.f9
  go_simp
  have DR2 := (((((((((DR.set 0 (.int .i64 r.c)).set 1 (.int .i64 r.h)).set 2 (.int .u64 r.l)).set 3 (.int .i64 r.mn)).set 4 (.int .i64 r.mx)).set 5 (.int .i64 r.t)).set 6 (.int .i64 r.s)).set 7 (.int .i64 r.q)).set 8 (.int .i64 r.v))
  simp only [qd, qe, qf] at DR2
  have hM2 := (((((((((hS.far 0 (.int .i64 r.c)).far 1 (.int .i64 r.h)).far 2 (.int .u64 r.l)).far 3 (.int .i64 r.mn)).far 4 (.int .i64 r.mx)).far 5 (.int .i64 r.t)).far 6 (.int .i64 r.s)).far 7 (.int .i64 r.q)).far 8 (.int .i64 r.v))
  clear fR hS
  generalize (((((((((w1.setCell ⟨w.heap.size + 1 + 1, 0, none⟩ (.int .i64 r.c)).setCell ⟨w.heap.size + 1 + 1, 1, none⟩ (.int .i64 r.h)).setCell ⟨w.heap.size + 1 + 1, 2, none⟩ (.int .u64 r.l)).setCell ⟨w.heap.size + 1 + 1, 3, none⟩ (.int .i64 r.mn)).setCell ⟨w.heap.size + 1 + 1, 4, none⟩ (.int .i64 r.mx)).setCell ⟨w.heap.size + 1 + 1, 5, none⟩ (.int .i64 r.t)).setCell ⟨w.heap.size + 1 + 1, 6, none⟩ (.int .i64 r.s)).setCell ⟨w.heap.size + 1 + 1, 7, none⟩ (.int .i64 r.q)).setCell ⟨w.heap.size + 1 + 1, 8, none⟩ (.int .i64 r.v)) = w2 at *
  refine hK.out _ _ hM2 (fun hS => ?_)
  clear hK K hM2
  refine wpAnyH_done (by kernel_rfl) ?_ _
  have fR := DR2.f9
  have B := hS.B
  go_wp2
  refine bodyPost_ret (by simp [results, Tryz.results76, go_sem, fR]; try rfl) rfl ⟨rfl, B⟩
theorem snoc_at {α : Type} {L : List α} {k : Nat} {x : α} (h : L[k]? = some x) : L.take (k + 1) = L.take k ++ [x] := by
  obtain ⟨hn, he⟩ := List.getElem?_eq_some_iff.1 h
  rw [List.take_succ_eq_append_getElem hn, he]
theorem bd_take {L : List Smp} (hl : L.length ≤ 10000) (hx : ∀ x ∈ nums L, I64 x.v) (k : Nat) : Bd (nums (L.take k)).length (ofR (nums (L.take k))) :=
  ofR_bd _ (fun x h => hx x (by rw [nums_take] at h; exact List.mem_of_mem_take h)) (by rw [nums_len, List.length_take]; omega)
set_option maxHeartbeats 4000000 in
theorem gather_any (a : Option Addr) (cap : Nat) (L : List Smp) (hl : L.length ≤ 10000) (hx : ∀ x ∈ nums L, I64 x.v) (w : World) (hL : Smps w (.slice a L.length cap) L) :
    Calls Tryz.prog 75 #[.slice a L.length cap, .agg #[.int .i64 0, .int .i64 0, .int .u64 0, .int .i64 0, .int .i64 0, .int .i64 0, .int .i64 0, .int .i64 0, .int .i64 0], .func (.func 76) #[] #[]] w fun e w' => e = .returned ((ofR (nums L)).V) ∧ Below w.heap.size w w' := by
  have HL := Lib.hid hL
  have BT := Lib.hid (fun k => bd_take hl hx k)
  have HX := Lib.hid hx
  clear hL hx
  go_enter Tryz.func75, Tryz.ntmps75
  have P0 : At ((w.alloc (.cells #[.int .i64 0, .int .i64 0, .int .u64 0, .int .i64 0, .int .i64 0, .int .i64 0, .int .i64 0, .int .i64 0, .int .i64 0] 55)).alloc (.cells #[.int .i64 0, .int .i64 0, .int .u64 0, .int .i64 0, .int .i64 0, .int .i64 0, .int .i64 0, .int .i64 0, .int .i64 0] 55)) w.heap.size [.int .i64 0, .int .i64 0, .int .u64 0, .int .i64 0, .int .i64 0, .int .i64 0, .int .i64 0, .int .i64 0, .int .i64 0] := (At.new w #[.int .i64 0, .int .i64 0, .int .u64 0, .int .i64 0, .int .i64 0, .int .i64 0, .int .i64 0, .int .i64 0, .int .i64 0] 55).alloc _
  have R0 : At ((w.alloc (.cells #[.int .i64 0, .int .i64 0, .int .u64 0, .int .i64 0, .int .i64 0, .int .i64 0, .int .i64 0, .int .i64 0, .int .i64 0] 55)).alloc (.cells #[.int .i64 0, .int .i64 0, .int .u64 0, .int .i64 0, .int .i64 0, .int .i64 0, .int .i64 0, .int .i64 0, .int .i64 0] 55)) (w.heap.size + 1) [.int .i64 0, .int .i64 0, .int .u64 0, .int .i64 0, .int .i64 0, .int .i64 0, .int .i64 0, .int .i64 0, .int .i64 0] := by
    have h := At.new (w.alloc (.cells #[.int .i64 0, .int .i64 0, .int .u64 0, .int .i64 0, .int .i64 0, .int .i64 0, .int .i64 0, .int .i64 0, .int .i64 0] 55)) #[.int .i64 0, .int .i64 0, .int .u64 0, .int .i64 0, .int .i64 0, .int .i64 0, .int .i64 0, .int .i64 0, .int .i64 0] 55
    simpa using h
  have B0 := below_new (below_cells (w := w) (.cells #[.int .i64 0, .int .i64 0, .int .u64 0, .int .i64 0, .int .i64 0, .int .i64 0, .int .i64 0, .int .i64 0, .int .i64 0] 55)) (.cells #[.int .i64 0, .int .i64 0, .int .u64 0, .int .i64 0, .int .i64 0, .int .i64 0, .int .i64 0, .int .i64 0, .int .i64 0] 55)
  go_wp2_with fail
  generalize (w.alloc (.cells #[.int .i64 0, .int .i64 0, .int .u64 0, .int .i64 0, .int .i64 0, .int .i64 0, .int .i64 0, .int .i64 0, .int .i64 0] 55)).alloc (.cells #[.int .i64 0, .int .i64 0, .int .u64 0, .int .i64 0, .int .i64 0, .int .i64 0, .int .i64 0, .int .i64 0, .int .i64 0] 55) = w2 at *
  go_loopw [11] (fun i wr => ∃ k : Nat, i = .int .i64 (k : Int) ∧ k ≤ L.length ∧ At wr w.heap.size [.int .i64 (ofR (nums (L.take k))).c, .int .i64 (ofR (nums (L.take k))).h, .int .u64 (ofR (nums (L.take k))).l, .int .i64 (ofR (nums (L.take k))).mn, .int .i64 (ofR (nums (L.take k))).mx, .int .i64 (ofR (nums (L.take k))).t, .int .i64 (ofR (nums (L.take k))).s, .int .i64 (ofR (nums (L.take k))).q, .int .i64 (ofR (nums (L.take k))).v] ∧ At wr (w.heap.size + 1) [.int .i64 0, .int .i64 0, .int .u64 0, .int .i64 0, .int .i64 0, .int .i64 0, .int .i64 0, .int .i64 0, .int .i64 0] ∧ Below w.heap.size w wr) (fun i _ => L.length - (intOf i).toNat)
  case atStart => exact ⟨0, rfl, Nat.zero_le _, P0, R0, B0⟩
  case round =>
    obtain ⟨k, rfl, hk, DP, DR, B⟩ := hrel
    have hkB := BT.out k
    obtain ⟨p, hp⟩ : ∃ p, ofR (nums (L.take k)) = p := ⟨_, rfl⟩
    rw [hp] at DP hkB
    have HP := Lib.hid hp
    clear hp
    by_cases hlt : k < L.length
    · obtain ⟨s, hs⟩ : ∃ s, L[k]? = some s := ⟨_, List.getElem?_eq_getElem hlt⟩
      obtain ⟨b, off, rfl, hb, c0, c1, c2, c3, c4⟩ := (HL.out.below B).at hs
      have hsx : I64 s.x.v := HX.out _ (List.mem_map_of_mem (List.mem_of_getElem? hs))
      have hnx : ofR (nums (L.take (k + 1))) = mergeR p (oneR s.x) := by
        rw [snoc_at hs, nums_app, ← HP.out]
        exact ofR_snoc _ _
      have WI := Lib.hid (fun W => with_any p hkB (by rw [nums_len, List.length_take]; omega) s.sa s.sn s.sc s.x hsx W)
      obtain ⟨r, hr⟩ : ∃ r, mergeR p (oneR s.x) = r := ⟨_, rfl⟩
      rw [hr] at WI hnx
      have NX := Lib.hid hnx
      obtain ⟨sa, sn, sc, zs, x⟩ := s
      dsimp only at c0 c1 c2 c3 c4 WI
      unfold Pn.V at WI
      clear hs hsx hnx hr hkB
      have p0 := DP.f9
      have A1 := At.new wr #[.slice sa sn sc, .int .i64 x.v, .int .i64 x.t, .int .i64 x.s, .int .i64 x.q] 33
      have P1 := DP.alloc (.cells #[.slice sa sn sc, .int .i64 x.v, .int .i64 x.t, .int .i64 x.s, .int .i64 x.q] 33)
      have R1 := DR.alloc (.cells #[.slice sa sn sc, .int .i64 x.v, .int .i64 x.t, .int .i64 x.s, .int .i64 x.q] 33)
      have B1 := below_new B (.cells #[.slice sa sn sc, .int .i64 x.v, .int .i64 x.t, .int .i64 x.s, .int .i64 x.q] 33)
      go_wp2_with fail
      refine (WI.out _).mono ?_
      rintro e w3 ⟨rfl, hb3⟩
      have P3 := P1.below hb3
      have R3 := R1.below hb3
      have B3 := below_then B1 hb3
      clear P1 R1 B1 A1 hb3 c0 c1 c2 c3 c4 p0
      have p3 := P3.f9
      go_wp2_with fail
      go_roundw
      case rel =>
        have P4 := ((((((((P3.set 0 (.int .i64 r.c)).set 1 (.int .i64 r.h)).set 2 (.int .u64 r.l)).set 3 (.int .i64 r.mn)).set 4 (.int .i64 r.mx)).set 5 (.int .i64 r.t)).set 6 (.int .i64 r.s)).set 7 (.int .i64 r.q)).set 8 (.int .i64 r.v)
        simp only [qd, qe, qf] at P4
        refine ⟨k + 1, by go_num, by omega, by rw [NX.out]; exact P4, ?_, ?_⟩
        · exact ((((((((R3.far (by omega) _).far (by omega) _).far (by omega) _).far (by omega) _).far (by omega) _).far (by omega) _).far (by omega) _).far (by omega) _).far (by omega) _
        · exact ((((((((B3.setCell (by simp) _).setCell (by simp) _).setCell (by simp) _).setCell (by simp) _).setCell (by simp) _).setCell (by simp) _).setCell (by simp) _).setCell (by simp) _).setCell (by simp) _
      case measure => simp [intOf]; omega
    · obtain rfl : k = L.length := by omega
      rw [List.take_length] at HP
      have p0 := DP.f9
      have r0 := DR.f9
      have R4 := ((((((((DR.set 0 (.int .i64 p.c)).set 1 (.int .i64 p.h)).set 2 (.int .u64 p.l)).set 3 (.int .i64 p.mn)).set 4 (.int .i64 p.mx)).set 5 (.int .i64 p.t)).set 6 (.int .i64 p.s)).set 7 (.int .i64 p.q)).set 8 (.int .i64 p.v)
      simp only [qd, qe, qf] at R4
      have r4 := R4.f9
      have B4 := ((((((((B.setCell (p := ⟨w.heap.size + 1, 0, none⟩) (by simp) (.int .i64 p.c)).setCell (p := ⟨w.heap.size + 1, 1, none⟩) (by simp) (.int .i64 p.h)).setCell (p := ⟨w.heap.size + 1, 2, none⟩) (by simp) (.int .u64 p.l)).setCell (p := ⟨w.heap.size + 1, 3, none⟩) (by simp) (.int .i64 p.mn)).setCell (p := ⟨w.heap.size + 1, 4, none⟩) (by simp) (.int .i64 p.mx)).setCell (p := ⟨w.heap.size + 1, 5, none⟩) (by simp) (.int .i64 p.t)).setCell (p := ⟨w.heap.size + 1, 6, none⟩) (by simp) (.int .i64 p.s)).setCell (p := ⟨w.heap.size + 1, 7, none⟩) (by simp) (.int .i64 p.q)).setCell (p := ⟨w.heap.size + 1, 8, none⟩) (by simp) (.int .i64 p.v)
      go_wp2
      refine bodyPost_ret (by simp [results, Tryz.results75, go_sem, r4]; try rfl) rfl ⟨?_, B4⟩
      rw [HP.out]
      rfl
set_option maxHeartbeats 4000000 in
theorem pof_any (a : Option Addr) (cap : Nat) (L : List Smp) (hl : L.length ≤ 10000) (hx : ∀ x ∈ nums L, I64 x.v) (w : World) (hL : Smps w (.slice a L.length cap) L) :
    Calls Tryz.prog 39 #[.slice a L.length cap] w fun e w' => e = .returned ((ofR (nums L)).V) ∧ Below w.heap.size w w' := by
  have GA := Lib.hid (fun W (hW : Below w.heap.size w W) => gather_any a cap L hl hx W (hL.below hW))
  clear hL hx hl
  generalize ofR (nums L) = p at *
  unfold Pn.V at *
  go_enter Tryz.func39, Tryz.ntmps39
  have R0 := At.new w #[.int .i64 0, .int .i64 0, .int .u64 0, .int .i64 0, .int .i64 0, .int .i64 0, .int .i64 0, .int .i64 0, .int .i64 0] 55
  have B0 := below_cells (w := w) (.cells #[.int .i64 0, .int .i64 0, .int .u64 0, .int .i64 0, .int .i64 0, .int .i64 0, .int .i64 0, .int .i64 0, .int .i64 0] 55)
  go_wp2_with fail
  refine (GA.out _ B0).mono ?_
  rintro e w1 ⟨rfl, hb⟩
  have DR := R0.below hb
  have B := below_then B0 hb
  clear R0 B0 hb
  have r0 := DR.f9
  have R4 := ((((((((DR.set 0 (.int .i64 p.c)).set 1 (.int .i64 p.h)).set 2 (.int .u64 p.l)).set 3 (.int .i64 p.mn)).set 4 (.int .i64 p.mx)).set 5 (.int .i64 p.t)).set 6 (.int .i64 p.s)).set 7 (.int .i64 p.q)).set 8 (.int .i64 p.v)
  simp only [qd, qe, qf] at R4
  have r4 := R4.f9
  go_wp2
  refine bodyPost_ret (by simp [results, Tryz.results39, go_sem, r4]; try rfl) rfl ⟨rfl, ?_⟩
  exact ((((((((B.setCell (by simp) _).setCell (by simp) _).setCell (by simp) _).setCell (by simp) _).setCell (by simp) _).setCell (by simp) _).setCell (by simp) _).setCell (by simp) _).setCell (by simp) _
end Go.Proofs.YtedcdhngiofpjaaGreatDoor
