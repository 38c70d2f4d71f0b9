/- The reference: Merge whole, Of; the law's Of. -/
import Derived.Test.YtedcdhngiofpjaaGreatDoorPrB
import Derived.Test.YtedcdhngiofpjaaGreatDoorPrC
import Derived.TacticsInMore
import Derived.LoopNIn
import Derived.LoopIn
import Derived.OwnWalkIn
import Derived.Test.YtedcdhngiofpjaaGreatDoorPaB
import Derived.Lib.SmallJoins
import Derived.Lib.OthersKept
namespace Go.Proofs.YtedcdhngiofpjaaGreatDoor
open Go Go.Proofs Go.RowKit Go.Shelf
set_option maxRecDepth 100000
attribute [local go_sem] cell_set Oper.semAt_some
/-- what lies in memory while Value goes -/
structure VS (p : Pn) (w u : World) : Prop where
  P : At u w.heap.size [.int .i64 p.c, .int .i64 p.h, .int .u64 p.l, .int .i64 p.mn, .int .i64 p.mx, .int .i64 p.t, .int .i64 p.s, .int .i64 p.q, .int .i64 p.v]
  B : Below w.heap.size w u
theorem VS.drew {p : Pn} {w u : World} (h : VS p w u) : VS p w u.drew := ⟨h.P.drew, h.B.drew⟩
theorem VS.below {p : Pn} {w u u' : World} (h : VS p w u) (hb : Below u.heap.size u u') : VS p w u' := ⟨h.P.below hb, below_then h.B hb⟩
theorem VS.far {p : Pn} {w u : World} (h : VS p w u) (j : Nat) (v : Value) : VS p w (u.setCell ⟨w.heap.size + 1, j, none⟩ v) := ⟨h.P.far (by omega) v, h.B.setCell (by dsimp only; omega) v⟩
theorem rmerge_any {n m : Nat} (p q : Pn) (hp : Bd n p) (hq : Bd m q) (h : n + m ≤ 1000000) (w : World) :
    Calls Tryz.prog 53 #[p.V, q.V] w fun e w' => e = .returned ((mergeR p q).V) ∧ Below w.heap.size w w' := by
  have c1 := hp.c
  have c2 := hq.c
  by_cases h1 : p.c = 0
  · have e : mergeR p q = q := by unfold mergeR; rw [if_pos (by omega)]
    rw [e]; exact rmerge_a p q h1 w
  by_cases h2 : q.c = 0
  · have e : mergeR p q = p := by unfold mergeR; rw [if_neg (by omega), if_pos (by omega)]
    rw [e]; exact rmerge_b p q h1 h2 w
  have F := hp.fits hq (by omega)
  have hs : -1000000000 ≤ p.c + q.c ∧ p.c + q.c ≤ 1000000000 := by omega
  have g1 : ¬ p.c < 1 := by omega
  have g2 : ¬ q.c < 1 := by omega
  unfold mergeR Pn.V
  rw [if_neg g1, if_neg g2]
  have m1 : min p.mn q.mn = if q.mn < p.mn then q.mn else p.mn := by split <;> omega
  have m2 : max p.mx q.mx = if p.mx < q.mx then q.mx else p.mx := by split <;> omega
  rw [m1, m2]
  by_cases k1 : q.mn < p.mn <;> by_cases k2 : p.mx < q.mx <;> by_cases k3 : Lt3 p.t p.s p.q q.t q.s q.q
  all_goals simp only [k1, k2, k3, ↓reduceIte]
  · exact rmerge_mxl p q h1 h2 hs _ _ hp.i hq.i (ini_hl F) (val_hl _) k1 k2 k3 w
  · exact rmerge_mxn p q h1 h2 hs _ _ hp.i hq.i (ini_hl F) (val_hl _) k1 k2 k3 w
  · exact rmerge_mnl p q h1 h2 hs _ _ hp.i hq.i (ini_hl F) (val_hl _) k1 k2 k3 w
  · exact rmerge_mnn p q h1 h2 hs _ _ hp.i hq.i (ini_hl F) (val_hl _) k1 k2 k3 w
  · exact rmerge_nxl p q h1 h2 hs _ _ hp.i hq.i (ini_hl F) (val_hl _) k1 k2 k3 w
  · exact rmerge_nxn p q h1 h2 hs _ _ hp.i hq.i (ini_hl F) (val_hl _) k1 k2 k3 w
  · exact rmerge_nnl p q h1 h2 hs _ _ hp.i hq.i (ini_hl F) (val_hl _) k1 k2 k3 w
  · exact rmerge_nnn p q h1 h2 hs _ _ hp.i hq.i (ini_hl F) (val_hl _) k1 k2 k3 w
theorem lof12_any (p : Pn) (w : World) : Calls Tryz.prog 24 #[p.V] w fun e w' => e = .returned (p.V) ∧ Below w.heap.size w w' := by
  have L1 := Lib.hid (fun W => lof1_any p.h p.l W)
  unfold Pn.V
  go_enter Tryz.func24, Tryz.ntmps24
  have DP : At (((w).alloc (.cells #[.int .i64 p.c, .int .i64 p.h, .int .u64 p.l, .int .i64 p.mn, .int .i64 p.mx, .int .i64 p.t, .int .i64 p.s, .int .i64 p.q, .int .i64 p.v] 55)).alloc (.cells #[.int .i64 0, .int .i64 0, .int .u64 0, .int .i64 0, .int .i64 0, .int .i64 0, .int .i64 0, .int .i64 0, .int .i64 0] 67)) (w.heap.size) [.int .i64 p.c, .int .i64 p.h, .int .u64 p.l, .int .i64 p.mn, .int .i64 p.mx, .int .i64 p.t, .int .i64 p.s, .int .i64 p.q, .int .i64 p.v] := by have h := ((At.new (w) #[.int .i64 p.c, .int .i64 p.h, .int .u64 p.l, .int .i64 p.mn, .int .i64 p.mx, .int .i64 p.t, .int .i64 p.s, .int .i64 p.q, .int .i64 p.v] 55).alloc (.cells #[.int .i64 0, .int .i64 0, .int .u64 0, .int .i64 0, .int .i64 0, .int .i64 0, .int .i64 0, .int .i64 0, .int .i64 0] 67)); simpa using h
  have DR : At (((w).alloc (.cells #[.int .i64 p.c, .int .i64 p.h, .int .u64 p.l, .int .i64 p.mn, .int .i64 p.mx, .int .i64 p.t, .int .i64 p.s, .int .i64 p.q, .int .i64 p.v] 55)).alloc (.cells #[.int .i64 0, .int .i64 0, .int .u64 0, .int .i64 0, .int .i64 0, .int .i64 0, .int .i64 0, .int .i64 0, .int .i64 0] 67)) (w.heap.size + 1) [.int .i64 0, .int .i64 0, .int .u64 0, .int .i64 0, .int .i64 0, .int .i64 0, .int .i64 0, .int .i64 0, .int .i64 0] := by have h := (At.new ((w).alloc (.cells #[.int .i64 p.c, .int .i64 p.h, .int .u64 p.l, .int .i64 p.mn, .int .i64 p.mx, .int .i64 p.t, .int .i64 p.s, .int .i64 p.q, .int .i64 p.v] 55)) #[.int .i64 0, .int .i64 0, .int .u64 0, .int .i64 0, .int .i64 0, .int .i64 0, .int .i64 0, .int .i64 0, .int .i64 0] 67); simpa using h
  have B : Below w.heap.size w (((w).alloc (.cells #[.int .i64 p.c, .int .i64 p.h, .int .u64 p.l, .int .i64 p.mn, .int .i64 p.mx, .int .i64 p.t, .int .i64 p.s, .int .i64 p.q, .int .i64 p.v] 55)).alloc (.cells #[.int .i64 0, .int .i64 0, .int .u64 0, .int .i64 0, .int .i64 0, .int .i64 0, .int .i64 0, .int .i64 0, .int .i64 0] 67)) := below_new (below_new (Below.refl _ _) (.cells #[.int .i64 p.c, .int .i64 p.h, .int .u64 p.l, .int .i64 p.mn, .int .i64 p.mx, .int .i64 p.t, .int .i64 p.s, .int .i64 p.q, .int .i64 p.v] 55)) (.cells #[.int .i64 0, .int .i64 0, .int .u64 0, .int .i64 0, .int .i64 0, .int .i64 0, .int .i64 0, .int .i64 0, .int .i64 0] 67)
  go_wp2_with fail
  generalize ((w).alloc (.cells #[.int .i64 p.c, .int .i64 p.h, .int .u64 p.l, .int .i64 p.mn, .int .i64 p.mx, .int .i64 p.t, .int .i64 p.s, .int .i64 p.q, .int .i64 p.v] 55)).alloc (.cells #[.int .i64 0, .int .i64 0, .int .u64 0, .int .i64 0, .int .i64 0, .int .i64 0, .int .i64 0, .int .i64 0, .int .i64 0] 67) = W9 at *
  have aR0 := DR.cell 0 _ rfl
  have zR0 := DR.free 0 _ rfl
  have aR1 := DR.cell 1 _ rfl
  have zR1 := DR.free 1 _ rfl
  have aR2 := DR.cell 2 _ rfl
  have zR2 := DR.free 2 _ rfl
  have aR3 := DR.cell 3 _ rfl
  have zR3 := DR.free 3 _ rfl
  have aR4 := DR.cell 4 _ rfl
  have zR4 := DR.free 4 _ rfl
  have aR5 := DR.cell 5 _ rfl
  have zR5 := DR.free 5 _ rfl
  have aR6 := DR.cell 6 _ rfl
  have zR6 := DR.free 6 _ rfl
  have aR7 := DR.cell 7 _ rfl
  have zR7 := DR.free 7 _ rfl
  have aR8 := DR.cell 8 _ rfl
  have zR8 := DR.free 8 _ rfl
  have nR := DR.lt
  have aP0 := DP.cell 0 _ rfl
  have aP1 := DP.cell 1 _ rfl
  have aP2 := DP.cell 2 _ rfl
  have aP3 := DP.cell 3 _ rfl
  have aP4 := DP.cell 4 _ rfl
  have aP5 := DP.cell 5 _ rfl
  have aP6 := DP.cell 6 _ rfl
  have aP7 := DP.cell 7 _ rfl
  have aP8 := DP.cell 8 _ rfl
  have nP := DP.lt
  have hM : VS p w W9 := ⟨DP, B⟩
  have DR0 := DR.drew
  clear DP DR B aR0 zR0 aR1 zR1 aR2 zR2 aR3 zR3 aR4 zR4 aR5 zR5 aR6 zR6 aR7 zR7 aR8 zR8 nR aP0 aP1 aP2 aP3 aP4 aP5 aP6 aP7 aP8 nP
  refine wp_region_held_drew (S := VS p w) (by kernel_rfl) hM.drew (fun hS => ?_)
  generalize W9.drew = w0 at *
  clear hM
  refine tkC 0 hS (fun u h => h.P.f9) ?_
  refine tkC 1 hS (fun u h => h.P.f9) ?_
  refine tkC 2 hS (fun u h => h.P.f9) ?_
  refine tkC 3 hS (fun u h => h.P.f9) ?_
  refine tkC 5 hS (fun u h => h.P.f9) ?_
  refine tkC 6 hS (fun u h => h.P.f9) ?_
  refine tkC 7 hS (fun u h => h.P.f9) ?_
  refine tkC 8 hS (fun u h => h.P.f9) ?_
  refine tkC 9 hS (fun u h => h.P.f9) ?_
  refine tkC 10 hS (fun u h => h.P.f9) ?_
  refine tkC 11 hS (fun u h => h.P.f9) ?_
  refine tkC 12 hS (fun u h => h.P.f9) ?_
  refine tkC 13 hS (fun u h => h.P.f9) ?_
  refine tkC 14 hS (fun u h => h.P.f9) ?_
  refine tkC 15 hS (fun u h => h.P.f9) ?_
  refine tkC 16 hS (fun u h => h.P.f9) ?_
  refine anyH_1 4 (fun K hK => ?_)
  go_simp
  go_at_call 52
  refine (L1.out _).mono ?_
  rintro e w1 ⟨rfl, hb1⟩
  have hM1 := hS.below hb1
  have DR := DR0.below hb1
  go_wp2_with fail
  refine hK.out _ _ hM1 (fun hS => ?_)
  clear hM1 hK K hb1
  refine tkC 17 hS (fun u h => h.P.f9) ?_
  refine anyH_1 18 (fun K hK => ?_)
  have fR := DR.f9
  go_simp
  have DR2 := (((((((((DR.set 0 (.int .i64 p.c)).set 1 (.int .i64 p.h)).set 2 (.int .u64 p.l)).set 3 (.int .i64 p.mn)).set 4 (.int .i64 p.mx)).set 5 (.int .i64 p.t)).set 6 (.int .i64 p.s)).set 7 (.int .i64 p.q)).set 8 (.int .i64 p.v))
  simp only [qd, qe, qf] at DR2
  have hM2 := (((((((((hS.far 0 (.int .i64 p.c)).far 1 (.int .i64 p.h)).far 2 (.int .u64 p.l)).far 3 (.int .i64 p.mn)).far 4 (.int .i64 p.mx)).far 5 (.int .i64 p.t)).far 6 (.int .i64 p.s)).far 7 (.int .i64 p.q)).far 8 (.int .i64 p.v))
  clear fR hS
  generalize (((((((((w1.setCell ⟨w.heap.size + 1, 0, none⟩ (.int .i64 p.c)).setCell ⟨w.heap.size + 1, 1, none⟩ (.int .i64 p.h)).setCell ⟨w.heap.size + 1, 2, none⟩ (.int .u64 p.l)).setCell ⟨w.heap.size + 1, 3, none⟩ (.int .i64 p.mn)).setCell ⟨w.heap.size + 1, 4, none⟩ (.int .i64 p.mx)).setCell ⟨w.heap.size + 1, 5, none⟩ (.int .i64 p.t)).setCell ⟨w.heap.size + 1, 6, none⟩ (.int .i64 p.s)).setCell ⟨w.heap.size + 1, 7, none⟩ (.int .i64 p.q)).setCell ⟨w.heap.size + 1, 8, none⟩ (.int .i64 p.v)) = w2 at *
  refine hK.out _ _ hM2 (fun hS => ?_)
  clear hK K hM2
  refine wpAnyH_done (by kernel_rfl) ?_ _
  have fR := DR2.f9
  have B := hS.B
  go_wp2
  refine bodyPost_ret (by simp [results, Tryz.results24, go_sem, fR]; try rfl) rfl ⟨rfl, B⟩
set_option maxHeartbeats 4000000 in
theorem rof_any (a : Option Addr) (cap : Nat) (L : List Smp) (hl : L.length ≤ 10000) (hx : ∀ x ∈ nums L, I64 x.v) (w : World) (hL : Smps w (.slice a L.length cap) L) :
    Calls Tryz.prog 25 #[.slice a L.length cap] w fun e w' => e = .returned ((ofR (nums L)).V) ∧ Below w.heap.size w w' := by
  have HL := Lib.hid hL
  have BT := Lib.hid (fun k => bd_take hl hx k)
  have HX := Lib.hid hx
  clear hL hx
  refine (callsIn_wide (n := 9)).1 ?_
  refine callsIn_of_wp Tryz.func25 rfl trivial ?_ rfl
  simp only [Tryz.ntmps25, List.size_toArray, List.length_cons, List.length_nil, Nat.reduceAdd, Nat.reduceSub, Array.replicate_succ, Array.replicate_zero, List.push_toArray, List.append_toArray, List.nil_append, List.cons_append]
  have P0 : At ((w.alloc (.cells #[.int .i64 0, .int .i64 0, .int .u64 0, .int .i64 0, .int .i64 0, .int .i64 0, .int .i64 0, .int .i64 0, .int .i64 0] 67)).alloc (.cells #[.int .i64 0, .int .i64 0, .int .u64 0, .int .i64 0, .int .i64 0, .int .i64 0, .int .i64 0, .int .i64 0, .int .i64 0] 67)) w.heap.size [.int .i64 0, .int .i64 0, .int .u64 0, .int .i64 0, .int .i64 0, .int .i64 0, .int .i64 0, .int .i64 0, .int .i64 0] := (At.new w #[.int .i64 0, .int .i64 0, .int .u64 0, .int .i64 0, .int .i64 0, .int .i64 0, .int .i64 0, .int .i64 0, .int .i64 0] 67).alloc _
  have R0 : At ((w.alloc (.cells #[.int .i64 0, .int .i64 0, .int .u64 0, .int .i64 0, .int .i64 0, .int .i64 0, .int .i64 0, .int .i64 0, .int .i64 0] 67)).alloc (.cells #[.int .i64 0, .int .i64 0, .int .u64 0, .int .i64 0, .int .i64 0, .int .i64 0, .int .i64 0, .int .i64 0, .int .i64 0] 67)) (w.heap.size + 1) [.int .i64 0, .int .i64 0, .int .u64 0, .int .i64 0, .int .i64 0, .int .i64 0, .int .i64 0, .int .i64 0, .int .i64 0] := by
    have h := At.new (w.alloc (.cells #[.int .i64 0, .int .i64 0, .int .u64 0, .int .i64 0, .int .i64 0, .int .i64 0, .int .i64 0, .int .i64 0, .int .i64 0] 67)) #[.int .i64 0, .int .i64 0, .int .u64 0, .int .i64 0, .int .i64 0, .int .i64 0, .int .i64 0, .int .i64 0, .int .i64 0] 67
    simpa using h
  have B0 := below_new (below_cells (w := w) (.cells #[.int .i64 0, .int .i64 0, .int .u64 0, .int .i64 0, .int .i64 0, .int .i64 0, .int .i64 0, .int .i64 0, .int .i64 0] 67)) (.cells #[.int .i64 0, .int .i64 0, .int .u64 0, .int .i64 0, .int .i64 0, .int .i64 0, .int .i64 0, .int .i64 0, .int .i64 0] 67)
  gi_wp2_with fail
  generalize (w.alloc (.cells #[.int .i64 0, .int .i64 0, .int .u64 0, .int .i64 0, .int .i64 0, .int .i64 0, .int .i64 0, .int .i64 0, .int .i64 0] 67)).alloc (.cells #[.int .i64 0, .int .i64 0, .int .u64 0, .int .i64 0, .int .i64 0, .int .i64 0, .int .i64 0, .int .i64 0, .int .i64 0] 67) = w2 at *
  gi_loopw [4] (fun i wr => ∃ k : Nat, i = .int .i64 (k : Int) ∧ k ≤ L.length ∧ At wr (w.heap.size + 1) [.int .i64 (ofR (nums (L.take k))).c, .int .i64 (ofR (nums (L.take k))).h, .int .u64 (ofR (nums (L.take k))).l, .int .i64 (ofR (nums (L.take k))).mn, .int .i64 (ofR (nums (L.take k))).mx, .int .i64 (ofR (nums (L.take k))).t, .int .i64 (ofR (nums (L.take k))).s, .int .i64 (ofR (nums (L.take k))).q, .int .i64 (ofR (nums (L.take k))).v] ∧ At wr w.heap.size [.int .i64 0, .int .i64 0, .int .u64 0, .int .i64 0, .int .i64 0, .int .i64 0, .int .i64 0, .int .i64 0, .int .i64 0] ∧ Below w.heap.size w wr) (fun i _ => L.length - (intOf i).toNat)
  case atStart => exact ⟨0, rfl, Nat.zero_le _, R0, P0, B0⟩
  case round =>
    obtain ⟨k, rfl, hk, DP, DR, B⟩ := hrel
    have hkB := BT.out k
    obtain ⟨p, hp⟩ : ∃ p, ofR (nums (L.take k)) = p := ⟨_, rfl⟩
    rw [hp] at DP hkB
    have HP := Lib.hid hp
    clear hp
    by_cases hlt : k < L.length
    · obtain ⟨s, hs⟩ : ∃ s, L[k]? = some s := ⟨_, List.getElem?_eq_getElem hlt⟩
      obtain ⟨b, off, rfl, hb, c0, c1, c2, c3, c4⟩ := (HL.out.below B).at hs
      have hsx : I64 s.x.v := HX.out _ (List.mem_map_of_mem (List.mem_of_getElem? hs))
      have hnx : ofR (nums (L.take (k + 1))) = mergeR p (oneR s.x) := by
        rw [snoc_at hs, nums_app, ← HP.out]
        exact ofR_snoc _ _
      have MG := Lib.hid (fun W => rmerge_any p (oneR s.x) hkB (Bd.one hsx) (by rw [nums_len, List.length_take]; omega) W)
      have OF := Lib.hid (fun W => rof1_any s.x.v hsx W)
      obtain ⟨r, hr⟩ : ∃ r, mergeR p (oneR s.x) = r := ⟨_, rfl⟩
      rw [hr] at MG hnx
      have NX := Lib.hid hnx
      obtain ⟨sa, sn, sc, zs, x⟩ := s
      dsimp only at c0 c1 c2 c3 c4 MG OF
      unfold oneR at MG
      generalize hiS x.v = h0 at *
      generalize loS x.v = l0 at *
      unfold Pn.V at MG
      dsimp only at MG
      clear hs hsx hnx hr hkB
      have h0k : (0 : Int) ≤ (k : Int) := by omega
      have h1k : (k : Int) < (L.length : Int) := by omega
      have X1 := At.new wr #[.slice sa sn sc, .int .i64 x.v, .int .i64 x.t, .int .i64 x.s, .int .i64 x.q] 39
      have P1 := DP.alloc (.cells #[.slice sa sn sc, .int .i64 x.v, .int .i64 x.t, .int .i64 x.s, .int .i64 x.q] 39)
      have R1 := DR.alloc (.cells #[.slice sa sn sc, .int .i64 x.v, .int .i64 x.t, .int .i64 x.s, .int .i64 x.q] 39)
      have B1 := below_new B (.cells #[.slice sa sn sc, .int .i64 x.v, .int .i64 x.t, .int .i64 x.s, .int .i64 x.q] 39)
      gi_wp2_with fail
      generalize wr.alloc (.cells #[.slice sa sn sc, .int .i64 x.v, .int .i64 x.t, .int .i64 x.s, .int .i64 x.q] 39) = w4 at *
      have B1s := B.size
      have xlt : w.heap.size + 1 < wr.heap.size := DP.lt
      generalize wr.heap.size = xb at *
      clear c0 c1 c2 c3 c4 DP DR B
      refine region_anyM (S := fun u => At u (w.heap.size + 1) [.int .i64 p.c, .int .i64 p.h, .int .u64 p.l, .int .i64 p.mn, .int .i64 p.mx, .int .i64 p.t, .int .i64 p.s, .int .i64 p.q, .int .i64 p.v] ∧ At u xb [.slice sa sn sc, .int .i64 x.v, .int .i64 x.t, .int .i64 x.s, .int .i64 x.q]) 18 (by kernel_rfl) (fun hS => ?_) ⟨P1.drew, X1.drew⟩
      have DR := R1.drew
      have B := B1.drew
      generalize w4.drew = w5 at *
      clear P1 X1 R1 B1
      refine anyM_c 0 [0, 18] hS (fun u h => h.1.f9) ?_
      generalize Value.agg #[.int .i64 p.c, .int .i64 p.h, .int .u64 p.l, .int .i64 p.mn, .int .i64 p.mx, .int .i64 p.t, .int .i64 p.s, .int .i64 p.q, .int .i64 p.v] = VP at *
      refine anyM_c 1 [1, 18] hS (fun u h => h.2.f5) ?_
      refine anyM_c 2 [2, 18] hS (fun u h => h.2.f5) ?_
      refine anyM_c 4 [4, 18] hS (fun u h => h.2.f5) ?_
      refine anyM_c 5 [5, 18] hS (fun u h => h.2.f5) ?_
      refine anyM_c 6 [6, 18] hS (fun u h => h.2.f5) ?_
      refine anyM_c 7 [7, 18] hS (fun u h => h.2.f5) ?_
      refine anyM_c 8 [8, 18] hS (fun u h => h.2.f5) ?_
      refine anyM_c 9 [9, 18] hS (fun u h => h.2.f5) ?_
      refine anyM_c 10 [10, 18] hS (fun u h => h.2.f5) ?_
      refine anyM_c 11 [11, 18] hS (fun u h => h.2.f5) ?_
      refine anyM_c 12 [12, 18] hS (fun u h => h.2.f5) ?_
      refine anyM_c 13 [13, 18] hS (fun u h => h.2.f5) ?_
      refine anyM_c 14 [14, 18] hS (fun u h => h.2.f5) ?_
      refine anyM_c 15 [15, 18] hS (fun u h => h.2.f5) ?_
      refine anyM_o 3 (fun K hK => ?_)
      go_simp
      refine ⟨trivial, ?_⟩
      refine (callsIn_wide.2 (OF.out _)).mono ?_
      rintro e w3 ⟨rfl, hb3⟩
      have hS2 := And.intro (hS.1.below hb3) (hS.2.below hb3)
      have DR := DR.below hb3
      have B := below_then B hb3
      clear hb3 hS
      dsimp only
      refine hK _ _ hS2 ?_
      clear hK K
      refine anyM_c 16 [16, 18] hS2 (fun u h => h.2.f5) ?_
      refine anyM_o 17 (fun K hK => ?_)
      go_simp
      refine ⟨trivial, ?_⟩
      refine (callsIn_wide.2 (MG.out _)).mono ?_
      rintro e w3 ⟨rfl, hb3⟩
      have hS := And.intro (hS2.1.below hb3) (hS2.2.below hb3)
      have DR := DR.below hb3
      have B := below_then B hb3
      clear hb3 hS2
      dsimp only
      refine hK _ _ hS ?_
      clear hK K
      have DP := hS.1
      have fP := DP.f9
      refine anyM_l (fun K hK => ?_)
      go_simp
      refine hK _ _ ?_
      clear hK K hS fP
      have P4 := (((((((((DP.set 0 (.int .i64 r.c)).set 1 (.int .i64 r.h)).set 2 (.int .u64 r.l)).set 3 (.int .i64 r.mn)).set 4 (.int .i64 r.mx)).set 5 (.int .i64 r.t)).set 6 (.int .i64 r.s)).set 7 (.int .i64 r.q)).set 8 (.int .i64 r.v))
      simp only [qd, qe, qf] at P4
      have R4 := (At.far (b' := (w.heap.size + 1)) (j := 8) (At.far (b' := (w.heap.size + 1)) (j := 7) (At.far (b' := (w.heap.size + 1)) (j := 6) (At.far (b' := (w.heap.size + 1)) (j := 5) (At.far (b' := (w.heap.size + 1)) (j := 4) (At.far (b' := (w.heap.size + 1)) (j := 3) (At.far (b' := (w.heap.size + 1)) (j := 2) (At.far (b' := (w.heap.size + 1)) (j := 1) (At.far (b' := (w.heap.size + 1)) (j := 0) DR (by omega) (.int .i64 r.c)) (by omega) (.int .i64 r.h)) (by omega) (.int .u64 r.l)) (by omega) (.int .i64 r.mn)) (by omega) (.int .i64 r.mx)) (by omega) (.int .i64 r.t)) (by omega) (.int .i64 r.s)) (by omega) (.int .i64 r.q)) (by omega) (.int .i64 r.v))
      have B4 := (Below.setCell (p := ⟨w.heap.size + 1, 8, none⟩) (Below.setCell (p := ⟨w.heap.size + 1, 7, none⟩) (Below.setCell (p := ⟨w.heap.size + 1, 6, none⟩) (Below.setCell (p := ⟨w.heap.size + 1, 5, none⟩) (Below.setCell (p := ⟨w.heap.size + 1, 4, none⟩) (Below.setCell (p := ⟨w.heap.size + 1, 3, none⟩) (Below.setCell (p := ⟨w.heap.size + 1, 2, none⟩) (Below.setCell (p := ⟨w.heap.size + 1, 1, none⟩) (Below.setCell (p := ⟨w.heap.size + 1, 0, none⟩) B (by dsimp only; omega) (.int .i64 r.c)) (by dsimp only; omega) (.int .i64 r.h)) (by dsimp only; omega) (.int .u64 r.l)) (by dsimp only; omega) (.int .i64 r.mn)) (by dsimp only; omega) (.int .i64 r.mx)) (by dsimp only; omega) (.int .i64 r.t)) (by dsimp only; omega) (.int .i64 r.s)) (by dsimp only; omega) (.int .i64 r.q)) (by dsimp only; omega) (.int .i64 r.v))
      generalize (((((((((w3.setCell ⟨w.heap.size + 1, 0, none⟩ (.int .i64 r.c)).setCell ⟨w.heap.size + 1, 1, none⟩ (.int .i64 r.h)).setCell ⟨w.heap.size + 1, 2, none⟩ (.int .u64 r.l)).setCell ⟨w.heap.size + 1, 3, none⟩ (.int .i64 r.mn)).setCell ⟨w.heap.size + 1, 4, none⟩ (.int .i64 r.mx)).setCell ⟨w.heap.size + 1, 5, none⟩ (.int .i64 r.t)).setCell ⟨w.heap.size + 1, 6, none⟩ (.int .i64 r.s)).setCell ⟨w.heap.size + 1, 7, none⟩ (.int .i64 r.q)).setCell ⟨w.heap.size + 1, 8, none⟩ (.int .i64 r.v)) = w6 at *
      refine anyIn_done (by kernel_rfl) ?_ _
      gi_wp2
      go_roundw
      case rel => exact ⟨k + 1, by go_num, by omega, by rw [NX.out]; exact P4, R4, B4⟩
      case measure => simp [intOf]; omega
    · obtain rfl : k = L.length := by omega
      rw [List.take_length] at HP
      have p0 := DP.f9
      have r0 := DR.f9
      have R4 := (((((((((DR.set 0 (.int .i64 p.c)).set 1 (.int .i64 p.h)).set 2 (.int .u64 p.l)).set 3 (.int .i64 p.mn)).set 4 (.int .i64 p.mx)).set 5 (.int .i64 p.t)).set 6 (.int .i64 p.s)).set 7 (.int .i64 p.q)).set 8 (.int .i64 p.v))
      simp only [qd, qe, qf] at R4
      have r4 := R4.f9
      have B4 := (Below.setCell (p := ⟨w.heap.size, 8, none⟩) (Below.setCell (p := ⟨w.heap.size, 7, none⟩) (Below.setCell (p := ⟨w.heap.size, 6, none⟩) (Below.setCell (p := ⟨w.heap.size, 5, none⟩) (Below.setCell (p := ⟨w.heap.size, 4, none⟩) (Below.setCell (p := ⟨w.heap.size, 3, none⟩) (Below.setCell (p := ⟨w.heap.size, 2, none⟩) (Below.setCell (p := ⟨w.heap.size, 1, none⟩) (Below.setCell (p := ⟨w.heap.size, 0, none⟩) B (by dsimp only; omega) (.int .i64 p.c)) (by dsimp only; omega) (.int .i64 p.h)) (by dsimp only; omega) (.int .u64 p.l)) (by dsimp only; omega) (.int .i64 p.mn)) (by dsimp only; omega) (.int .i64 p.mx)) (by dsimp only; omega) (.int .i64 p.t)) (by dsimp only; omega) (.int .i64 p.s)) (by dsimp only; omega) (.int .i64 p.q)) (by dsimp only; omega) (.int .i64 p.v))
      have h1k : ¬ (L.length : Int) < (L.length : Int) := by omega
      gi_wp2
      refine bodyPost_ret (v := p.V) ?_ rfl ⟨?_, B4⟩
      · simp [results, Tryz.f25, go_sem, r4]; try rfl
      · rw [HP.out]
end Go.Proofs.YtedcdhngiofpjaaGreatDoor
/- Samples in memory: belfrylaw6.Good, belfrylaw6.OfAll. -/
namespace Go.Proofs.YtedcdhngiofpjaaGreatDoor
open Go Go.Proofs Go.RowKit Go.Shelf
set_option maxRecDepth 100000
attribute [local go_sem] cell_set Oper.semAt_some
/-- a sample's labels lie in memory -/
structure LabOK (W : World) (s : Smp) : Prop where
  g : LabsG W.heap.size W (.slice s.sa s.sn s.sc) s.zs
  n : s.zs.length ≤ 9223372036854775807
  b : ∀ x ∈ s.zs, x.1.length ≤ 9223372036854775807 ∧ x.2.length ≤ 9223372036854775807
theorem LabOK.below {W W' : World} {s : Smp} (h : LabOK W s) (hb : Below W.heap.size W W') : LabOK W' s := by
  refine ⟨?_, h.n, h.b⟩
  rcases h.g.below hb with e | ⟨b, off, cap, e, h1, h2⟩
  · exact .inl e
  · exact .inr ⟨b, off, cap, e, Nat.lt_of_lt_of_le h1 hb.size, h2⟩
theorem LabOK.short {W : World} {s : Smp} (h : LabOK W s) (hf : fewR s.zs = true) : ∃ ss : List SLab, ss.length ≤ 100 ∧ Labs W.heap.size W (.slice s.sa s.sn s.sc) ss := by
  obtain ⟨ss, e, hl⟩ := few_short hf
  exact ⟨ss, by omega, LabsG.toS (by rw [e]; exact h.g)⟩
def GoodP (w : World) (L : List Smp) (e : Ending) (w' : World) : Prop := ∃ b, e = .returned (.bool b) ∧ (b = true → L.length ≤ 80 ∧ ∀ s ∈ L, fewR s.zs = true) ∧ Below w.heap.size w w'
set_option maxHeartbeats 4000000 in
theorem good_any (a : Option Addr) (cap : Nat) (L : List Smp) (w : World) (hL : Smps w (.slice a L.length cap) L) (hO : ∀ s ∈ L, LabOK w s) :
    Calls Tryz.prog 27 #[.slice a L.length cap] w (GoodP w L) := by
  have HL := Lib.hid hL
  have HO := Lib.hid hO
  clear hL hO
  by_cases h80 : L.length ≤ 80
  · have q0 : ¬ (80 : Int) < (L.length : Int) := by omega
    go_enter Tryz.func27, Tryz.ntmps27
    go_wp2
    go_loopw [3] (fun i wr => ∃ k : Nat, i = .int .i64 (k : Int) ∧ k ≤ L.length ∧ (∀ s ∈ L.take k, fewR s.zs = true) ∧ Below w.heap.size w wr) (fun i _ => L.length - (intOf i).toNat)
    case atStart => exact ⟨0, rfl, Nat.zero_le _, by simp, Below.refl _ _⟩
    case round =>
      obtain ⟨k, rfl, hk, hF, B⟩ := hrel
      have HF := Lib.hid hF
      clear hF
      by_cases hlt : k < L.length
      · obtain ⟨s, hs⟩ : ∃ s, L[k]? = some s := ⟨_, List.getElem?_eq_getElem hlt⟩
        obtain ⟨b, off, rfl, hb, c0, c1, c2, c3, c4⟩ := (HL.out.below B).at hs
        have hk1 := (HO.out s (List.mem_of_getElem? hs)).below B
        have FW := Lib.hid (few_any s.sa s.sn s.sc s.zs hk1.n hk1.b _ wr hk1.g)
        have h0k : (0 : Int) ≤ (k : Int) := by omega
        have h1k : (k : Int) < (L.length : Int) := by omega
        have HS := Lib.hid hs
        cases hf : fewR s.zs
        · rw [hf] at FW
          clear hs hk1 hf
          go_wp2_with fail
          refine FW.out.mono ?_
          rintro e w1 ⟨rfl, rfl⟩
          go_wp2
          go_ret
          exact ⟨false, rfl, (by simp), B⟩
        · obtain ⟨ss, hss, hls⟩ := hk1.short hf
          have HF2 : Hid (∀ q ∈ L.take (k + 1), fewR q.zs = true) := by
            intro q hq
            rw [snoc_at hs] at hq
            rcases List.mem_append.1 hq with h | h
            · exact HF.out q h
            · obtain rfl := List.mem_singleton.1 h
              exact hf
          rw [hf] at FW
          have O6 := Lib.hid (of6_any s.sa s.sn s.sc ss hss s.x.v s.x.t s.x.s s.x.q wr hls)
          have H100 := Lib.hid hss
          clear hs hk1 hf hls hss
          unfold sampV at O6
          go_wp2_with fail
          refine FW.out.mono ?_
          rintro e w1 ⟨rfl, rfl⟩
          go_wp2_with fail
          refine O6.out.mono ?_
          rintro e w1 ⟨v, rfl, hv, hb1⟩
          obtain ⟨va, vn, vc, rfl⟩ := slice_of_labs6 hv
          have CS := Lib.hid (rsamp_any va vn vc ss H100.out s.x.v s.x.t s.x.s s.x.q w1 hv)
          have B1 := below_then B hb1
          clear hv hb1 c0 c1 c2 c3 c4
          generalize sampR ss s.x.t s.x.s s.x.q = cc at *
          by_cases hc : cc = 0
          · subst hc
            go_wp2_with fail
            refine CS.out.mono ?_
            rintro e w2 ⟨rfl, hb2⟩
            have B2 := below_then B1 hb2
            clear hb2
            go_wp2
            go_roundw
            case rel => exact ⟨k + 1, by go_num, by omega, HF2.out, B2⟩
            case measure => simp [intOf]; omega
          · have nc : (cc != 0) = true := by rw [bne_iff_ne]; exact hc
            go_wp2_with fail
            refine CS.out.mono ?_
            rintro e w2 ⟨rfl, hb2⟩
            have B2 := below_then B1 hb2
            clear hb2
            go_wp2
            go_ret
            exact ⟨false, rfl, (by simp), B2⟩
      · obtain rfl : k = L.length := by omega
        rw [List.take_length] at HF
        have h1k : ¬ (L.length : Int) < (L.length : Int) := by omega
        go_wp2
        go_ret
        exact ⟨true, rfl, fun _ => ⟨h80, HF.out⟩, B⟩
  · have q0 : (80 : Int) < (L.length : Int) := by omega
    go_enter Tryz.func27, Tryz.ntmps27
    go_wp2
    go_ret
    exact ⟨false, rfl, (by simp), Below.refl _ _⟩
theorem info_rsmp : (Tryz.prog.info? 39).map (fun i => (i.zero, i.size, i.bytes)) = some (some (.agg #[.slice none 0 0, .int .i64 0, .int .i64 0, .int .i64 0, .int .i64 0]), 5, 56) := by kernel_rfl
/-- the cells of a row of samples -/
def smpC (L : List Smp) : List Value := L.flatMap Smp.C
theorem smpC_snoc (L : List Smp) (s : Smp) : smpC (L ++ [s]) = smpC L ++ s.C := by unfold smpC; simp
theorem smpC_app (A B : List Smp) : smpC (A ++ B) = smpC A ++ smpC B := by unfold smpC; simp
theorem smpC_len (L : List Smp) : (smpC L).length = L.length * 5 := by
  induction L with
  | nil => rfl
  | cons s t ih =>
    have e : smpC (s :: t) = s.C ++ smpC t := by unfold smpC; simp
    rw [e, List.length_append, ih, List.length_cons]
    show 5 + _ = _
    omega
theorem smpC_at : ∀ (L : List Smp) (j : Nat) (s : Smp), L[j]? = some s → ∀ i v, s.C[i]? = some v → (smpC L)[j * 5 + i]? = some v := by
  intro L
  induction L with
  | nil => intro j s h; simp at h
  | cons s0 t ih =>
    intro j s h i v hv
    have hi : i < 5 := (List.getElem?_eq_some_iff.1 hv).1
    have e : smpC (s0 :: t) = s0.C ++ smpC t := by unfold smpC; simp
    have e5 : s0.C.length = 5 := rfl
    rw [e]
    cases j with
    | zero =>
      obtain rfl : s0 = s := by simpa using h
      rw [List.getElem?_append_left (by omega), Nat.zero_mul, Nat.zero_add]; exact hv
    | succ j =>
      rw [List.getElem?_append_right (by omega), e5, show (j + 1) * 5 + i - 5 = j * 5 + i by omega]
      exact ih j s (by simpa using h) i v hv
theorem smps_of_row {W : World} {base : Nat} {e : TypeId} {v : Value} {L : List Smp} (h : W.ownsRow base e 5 v L.length (smpC L)) : Smps W v L := by
  have hc := fun g => World.ownsRow.cells h (g := g)
  have hlt := World.ownsRow.lt h
  rcases h.2 with ⟨rfl, hn⟩ | ⟨g, cap, cur, rfl, _⟩
  · exact .inl ⟨List.eq_nil_of_length_eq_zero hn, _, _, rfl⟩
  · refine .inr ⟨g, 0, cap, rfl, (hlt g rfl).2, fun j s hj i u hu => ?_⟩
    have := hc g rfl (j * 5 + i) u (smpC_at L j s hj i u hu)
    rw [Addr.add_lit, Nat.zero_add] at this
    rw [Nat.zero_add]
    simpa using this
theorem cells_nw (W : World) (l : List Value) (T : TypeId) : ∀ j x, l[j]? = some x → (W.alloc (.cells l.toArray T)).cell? ((⟨W.heap.size, 0, none⟩ : Addr).add j) = some x := by
  intro j x h
  have e : ((⟨W.heap.size, 0, none⟩ : Addr).add j) = ⟨W.heap.size, j, none⟩ := by rw [Addr.add_lit]; simp
  rw [e]
  exact (At.nw W l T).cell j x h
theorem grown_below {W w2 : World} (hb : Below W.heap.size W w2) : W.grownBy w2 none := ⟨hb.os, hb.tape, hb.output, hb.size, fun k hk _ => hb.block k hk⟩
/-- samples of the reference's type, of the same numbers, in memory of the call's own -/
def OfAllP (w : World) (L : List Smp) (e : Ending) (w' : World) : Prop := ∃ a c, ∃ R : List Smp, e = .returned (.slice a R.length c) ∧ nums R = nums L ∧ Smps w' (.slice a R.length c) R ∧ Below w.heap.size w w'
theorem row_slice {W : World} {base n : Nat} {e : TypeId} {k : Nat} {v : Value} {xs : List Value} (h : W.ownsRow base e k v n xs) : ∃ a c, v = .slice a n c := by
  rcases h.2 with ⟨rfl, h0⟩ | ⟨g, cap, cur, rfl, _⟩
  · rw [h0]; exact ⟨_, _, rfl⟩
  · exact ⟨_, _, rfl⟩
end Go.Proofs.YtedcdhngiofpjaaGreatDoor
