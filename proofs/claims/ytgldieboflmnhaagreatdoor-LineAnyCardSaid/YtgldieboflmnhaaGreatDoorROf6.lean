/- belfrylaw6.Of, belfrylaw6.Same. -/
import Derived.Test.YtgldieboflmnhaaGreatDoorRefO
import Derived.Test.YtgldieboflmnhaaGreatDoorRefK
import Derived.Test.YtgldieboflmnhaaGreatDoorRefT
import Derived.Test.YtgldieboflmnhaaGreatDoorLParse2
namespace Go.Proofs.YtgldieboflmnhaaGreatDoor
open Go Go.Proofs Go.RowKit Go.Shelf
set_option maxRecDepth 100000
attribute [local go_sem] Oper.semAt_some
theorem slice_of_labs6 {n₀ : Nat} {W : World} {v : Value} {zs : List SLab} (h : Labs n₀ W v zs) : ∃ a n cap, v = .slice a n cap := by
  rcases h with ⟨⟨_, _, rfl⟩, _⟩ | ⟨b, off, cap, rfl, _⟩
  · exact ⟨_, _, _, rfl⟩
  · exact ⟨_, _, _, rfl⟩
set_option maxHeartbeats 4000000 in
theorem of6_any (a : Option Addr) (n cap : Nat) (zs : List SLab) (hreach : zs.length ≤ 100) (va tm sr sq : Int) (w : World) (hI : Labs w.heap.size w (.slice a n cap) zs) :
    Calls Tryz.prog 8 #[sampV (.slice a n cap) va tm sr sq] w fun e w' => ∃ v, e = .returned (sampV v va tm sr sq) ∧ Labs w'.heap.size w' v zs ∧ Below w.heap.size w w' := by
  obtain rfl : n = zs.length := hI.len
  have OF := Lib.hid (fun W (hW : Below w.heap.size w W) => of_any a zs.length cap zs hreach W (labs_on hI hW))
  clear hI
  unfold sampV
  refine (callsIn_wide (n := 9)).1 ?_
  refine callsIn_of_wp Tryz.func8 rfl trivial ?_ rfl
  simp only [Tryz.ntmps8, List.size_toArray, List.length_cons, List.length_nil, Nat.reduceAdd, Nat.reduceSub, Array.replicate_succ, Array.replicate_zero, List.push_toArray, List.append_toArray, List.nil_append, List.cons_append]
  have A1 := blk_on (blk_new w #[.slice a zs.length cap, .int .i64 va, .int .i64 tm, .int .i64 sr, .int .i64 sq] 25) (below_cells (w := (w.alloc (.cells #[.slice a zs.length cap, .int .i64 va, .int .i64 tm, .int .i64 sr, .int .i64 sq] 25))) (.cells #[.slice none 0 0, .int .i64 0, .int .i64 0, .int .i64 0, .int .i64 0] 31))
  have A2 := blk_new (w.alloc (.cells #[.slice a zs.length cap, .int .i64 va, .int .i64 tm, .int .i64 sr, .int .i64 sq] 25)) #[.slice none 0 0, .int .i64 0, .int .i64 0, .int .i64 0, .int .i64 0] 31
  rw [World.size_alloc] at A2
  have B := below_new (below_cells (w := w) (.cells #[.slice a zs.length cap, .int .i64 va, .int .i64 tm, .int .i64 sr, .int .i64 sq] 25)) (.cells #[.slice none 0 0, .int .i64 0, .int .i64 0, .int .i64 0, .int .i64 0] 31)
  gi_wp2
  generalize ((w.alloc (.cells #[.slice a zs.length cap, .int .i64 va, .int .i64 tm, .int .i64 sr, .int .i64 sq] 25)).alloc (.cells #[.slice none 0 0, .int .i64 0, .int .i64 0, .int .i64 0, .int .i64 0] 31)) = W2 at *
  have hS0 : ∀ u, (u = W2 ∨ u = W2.drew) → u.cell? ⟨w.heap.size, 0, none⟩ = some (.slice a zs.length cap) ∧ u.cell? ⟨w.heap.size, 1, none⟩ = some (.int .i64 va) ∧ u.cell? ⟨w.heap.size, 2, none⟩ = some (.int .i64 tm) ∧ u.cell? ⟨w.heap.size, 3, none⟩ = some (.int .i64 sr) ∧ u.cell? ⟨w.heap.size, 4, none⟩ = some (.int .i64 sq) := by
    have K : ∀ j v, #[.slice a zs.length cap, .int .i64 va, .int .i64 tm, .int .i64 sr, .int .i64 sq].toList[j]? = some v → W2.cell? ⟨w.heap.size, j, none⟩ = some v := fun j v => (blk_at A1).cell j v
    rintro u (rfl | rfl)
    · exact ⟨K 0 _ rfl, K 1 _ rfl, K 2 _ rfl, K 3 _ rfl, K 4 _ rfl⟩
    · exact ⟨K 0 _ rfl, K 1 _ rfl, K 2 _ rfl, K 3 _ rfl, K 4 _ rfl⟩
  refine wpIn_mono ?_ NoPanic.imp
  refine region_anyM (S := fun u => u.cell? ⟨w.heap.size, 0, none⟩ = some (.slice a zs.length cap) ∧ u.cell? ⟨w.heap.size, 1, none⟩ = some (.int .i64 va) ∧ u.cell? ⟨w.heap.size, 2, none⟩ = some (.int .i64 tm) ∧ u.cell? ⟨w.heap.size, 3, none⟩ = some (.int .i64 sr) ∧ u.cell? ⟨w.heap.size, 4, none⟩ = some (.int .i64 sq)) 12 (by kernel_rfl) (fun hS => ?_) (hS0 _ (.inr rfl))
  refine' anyM_take (i := 0) (oi := ?oi0) (v := ?v0) [0, 12] (by kernel_rfl) ?hi0 (by kernel_rfl) (by kernel_rfl) (by kernel_rfl) (by kernel_rfl) (fun _ _ _ h => h) ?hy0 ?hab0 hS ?rest0
  case hi0 =>
    simp only [List.getElem?_toArray, List.getElem?_cons_succ, List.getElem?_cons_zero]
    exact rfl
  case hy0 =>
    refine Or.inl ⟨by rfl, ?_⟩
    intro w hSw
    (try dsimp only at hSw)
    go_simp
    (try with_reducible rfl)
  case hab0 => exact fun _ => rfl
  (try simp only [Act.put, List.setIfInBounds_toArray, List.set_cons_zero, List.set_cons_succ])
  refine' anyM_take (i := 1) (oi := ?oi1) (v := ?v1) [1, 12] (by kernel_rfl) ?hi1 (by kernel_rfl) (by kernel_rfl) (by kernel_rfl) (by kernel_rfl) (fun _ _ _ h => h) ?hy1 ?hab1 hS ?rest1
  case hi1 =>
    simp only [List.getElem?_toArray, List.getElem?_cons_succ, List.getElem?_cons_zero]
    exact rfl
  case hy1 =>
    refine Or.inl ⟨by rfl, ?_⟩
    intro w hSw
    (try dsimp only at hSw)
    go_simp
    (try with_reducible rfl)
  case hab1 => exact fun _ => rfl
  (try simp only [Act.put, List.setIfInBounds_toArray, List.set_cons_zero, List.set_cons_succ])
  refine' anyM_take (i := 3) (oi := ?oi3) (v := ?v3) [3, 12] (by kernel_rfl) ?hi3 (by kernel_rfl) (by kernel_rfl) (by kernel_rfl) (by kernel_rfl) (fun _ _ _ h => h) ?hy3 ?hab3 hS ?rest3
  case hi3 =>
    simp only [List.getElem?_toArray, List.getElem?_cons_succ, List.getElem?_cons_zero]
    exact rfl
  case hy3 =>
    refine Or.inl ⟨by rfl, ?_⟩
    intro w hSw
    (try dsimp only at hSw)
    go_simp
    (try with_reducible rfl)
  case hab3 => exact fun _ => rfl
  (try simp only [Act.put, List.setIfInBounds_toArray, List.set_cons_zero, List.set_cons_succ])
  refine' anyM_take (i := 4) (oi := ?oi4) (v := ?v4) [4, 12] (by kernel_rfl) ?hi4 (by kernel_rfl) (by kernel_rfl) (by kernel_rfl) (by kernel_rfl) (fun _ _ _ h => h) ?hy4 ?hab4 hS ?rest4
  case hi4 =>
    simp only [List.getElem?_toArray, List.getElem?_cons_succ, List.getElem?_cons_zero]
    exact rfl
  case hy4 =>
    refine Or.inl ⟨by rfl, ?_⟩
    intro w hSw
    (try dsimp only at hSw)
    go_simp
    (try with_reducible rfl)
  case hab4 => exact fun _ => rfl
  (try simp only [Act.put, List.setIfInBounds_toArray, List.set_cons_zero, List.set_cons_succ])
  refine' anyM_take (i := 5) (oi := ?oi5) (v := ?v5) [5, 12] (by kernel_rfl) ?hi5 (by kernel_rfl) (by kernel_rfl) (by kernel_rfl) (by kernel_rfl) (fun _ _ _ h => h) ?hy5 ?hab5 hS ?rest5
  case hi5 =>
    simp only [List.getElem?_toArray, List.getElem?_cons_succ, List.getElem?_cons_zero]
    exact rfl
  case hy5 =>
    refine Or.inl ⟨by rfl, ?_⟩
    intro w hSw
    (try dsimp only at hSw)
    go_simp
    (try with_reducible rfl)
  case hab5 => exact fun _ => rfl
  (try simp only [Act.put, List.setIfInBounds_toArray, List.set_cons_zero, List.set_cons_succ])
  refine' anyM_take (i := 6) (oi := ?oi6) (v := ?v6) [6, 12] (by kernel_rfl) ?hi6 (by kernel_rfl) (by kernel_rfl) (by kernel_rfl) (by kernel_rfl) (fun _ _ _ h => h) ?hy6 ?hab6 hS ?rest6
  case hi6 =>
    simp only [List.getElem?_toArray, List.getElem?_cons_succ, List.getElem?_cons_zero]
    exact rfl
  case hy6 =>
    refine Or.inl ⟨by rfl, ?_⟩
    intro w hSw
    (try dsimp only at hSw)
    go_simp
    (try with_reducible rfl)
  case hab6 => exact fun _ => rfl
  (try simp only [Act.put, List.setIfInBounds_toArray, List.set_cons_zero, List.set_cons_succ])
  refine' anyM_take (i := 7) (oi := ?oi7) (v := ?v7) [7, 12] (by kernel_rfl) ?hi7 (by kernel_rfl) (by kernel_rfl) (by kernel_rfl) (by kernel_rfl) (fun _ _ _ h => h) ?hy7 ?hab7 hS ?rest7
  case hi7 =>
    simp only [List.getElem?_toArray, List.getElem?_cons_succ, List.getElem?_cons_zero]
    exact rfl
  case hy7 =>
    refine Or.inl ⟨by rfl, ?_⟩
    intro w hSw
    (try dsimp only at hSw)
    go_simp
    (try with_reducible rfl)
  case hab7 => exact fun _ => rfl
  (try simp only [Act.put, List.setIfInBounds_toArray, List.set_cons_zero, List.set_cons_succ])
  refine' anyM_take (i := 8) (oi := ?oi8) (v := ?v8) [8, 12] (by kernel_rfl) ?hi8 (by kernel_rfl) (by kernel_rfl) (by kernel_rfl) (by kernel_rfl) (fun _ _ _ h => h) ?hy8 ?hab8 hS ?rest8
  case hi8 =>
    simp only [List.getElem?_toArray, List.getElem?_cons_succ, List.getElem?_cons_zero]
    exact rfl
  case hy8 =>
    refine Or.inl ⟨by rfl, ?_⟩
    intro w hSw
    (try dsimp only at hSw)
    go_simp
    (try with_reducible rfl)
  case hab8 => exact fun _ => rfl
  (try simp only [Act.put, List.setIfInBounds_toArray, List.set_cons_zero, List.set_cons_succ])
  refine' anyM_take (i := 9) (oi := ?oi9) (v := ?v9) [9, 12] (by kernel_rfl) ?hi9 (by kernel_rfl) (by kernel_rfl) (by kernel_rfl) (by kernel_rfl) (fun _ _ _ h => h) ?hy9 ?hab9 hS ?rest9
  case hi9 =>
    simp only [List.getElem?_toArray, List.getElem?_cons_succ, List.getElem?_cons_zero]
    exact rfl
  case hy9 =>
    refine Or.inl ⟨by rfl, ?_⟩
    intro w hSw
    (try dsimp only at hSw)
    go_simp
    (try with_reducible rfl)
  case hab9 => exact fun _ => rfl
  (try simp only [Act.put, List.setIfInBounds_toArray, List.set_cons_zero, List.set_cons_succ])
  refine' anyM_take (i := 10) (oi := ?oi10) (v := ?v10) [10, 12] (by kernel_rfl) ?hi10 (by kernel_rfl) (by kernel_rfl) (by kernel_rfl) (by kernel_rfl) (fun _ _ _ h => h) ?hy10 ?hab10 hS ?rest10
  case hi10 =>
    simp only [List.getElem?_toArray, List.getElem?_cons_succ, List.getElem?_cons_zero]
    exact rfl
  case hy10 =>
    refine Or.inl ⟨by rfl, ?_⟩
    intro w hSw
    (try dsimp only at hSw)
    go_simp
    (try with_reducible rfl)
  case hab10 => exact fun _ => rfl
  (try simp only [Act.put, List.setIfInBounds_toArray, List.set_cons_zero, List.set_cons_succ])
  refine' anyM_only (i := 2) (o := ?oo2) (by kernel_rfl) (by decide) ?ho2 ?hw2 (fun K hK => ?st2)
  case ho2 =>
    simp only [List.getElem?_toArray, List.getElem?_cons_succ, List.getElem?_cons_zero]
    exact rfl
  case hw2 => rfl
  go_simp
  refine ⟨trivial, ?_⟩
  gi_at_call 18
  refine (callsIn_wide.2 (OF.out _ B.drew)).mono ?_
  rintro e w2 ⟨v2, rfl, own2, bl2⟩
  have D1 := blk_on (show Blk W2.drew _ _ _ from A1) bl2
  have D2 := blk_on (show Blk W2.drew _ _ _ from A2) bl2
  have L2 := labs_of_row9 own2
  have B2 := (B.drew).trans (bl2.mono B.drew.size)
  have q0 := (blk_at D1).cell 0 _ rfl
  have q1 := (blk_at D1).cell 1 _ rfl
  have q2 := (blk_at D1).cell 2 _ rfl
  have q3 := (blk_at D1).cell 3 _ rfl
  have q4 := (blk_at D1).cell 4 _ rfl
  obtain ⟨a2, n2, c2, rfl⟩ := slice_of_labs6 L2
  go_simp
  refine hK _ _ ⟨q0, q1, q2, q3, q4⟩ ?_
  clear hK K hS hS0
  have hS : w2.cell? ⟨w.heap.size, 0, none⟩ = some (.slice a zs.length cap) ∧ w2.cell? ⟨w.heap.size, 1, none⟩ = some (.int .i64 va) ∧ w2.cell? ⟨w.heap.size, 2, none⟩ = some (.int .i64 tm) ∧ w2.cell? ⟨w.heap.size, 3, none⟩ = some (.int .i64 sr) ∧ w2.cell? ⟨w.heap.size, 4, none⟩ = some (.int .i64 sq) := ⟨q0, q1, q2, q3, q4⟩
  (try simp only [Act.put, List.setIfInBounds_toArray, List.set_cons_zero, List.set_cons_succ])
  refine' anyM_take (i := 11) (oi := ?oi11) (v := ?v11) [11, 12] (by kernel_rfl) ?hi11 (by kernel_rfl) (by kernel_rfl) (by kernel_rfl) (by kernel_rfl) (fun _ _ _ h => h) ?hy11 ?hab11 hS ?rest11
  case hi11 =>
    simp only [List.getElem?_toArray, List.getElem?_cons_succ, List.getElem?_cons_zero]
    exact rfl
  case hy11 =>
    refine Or.inl ⟨by rfl, ?_⟩
    intro w hSw
    (try dsimp only at hSw)
    go_simp
    (try with_reducible rfl)
  case hab11 => exact fun _ => rfl
  (try simp only [Act.put, List.setIfInBounds_toArray, List.set_cons_zero, List.set_cons_succ])
  refine' anyM_last (o := ?oo12) (by kernel_rfl) ?ho12 ?hw12 (fun K hK => ?st12)
  case ho12 =>
    simp only [List.getElem?_toArray, List.getElem?_cons_succ, List.getElem?_cons_zero]
    exact rfl
  case hw12 => rfl
  have r0 := (blk_at D2).cell 0 _ rfl
  have r1 := (blk_at D2).cell 1 _ rfl
  have r2 := (blk_at D2).cell 2 _ rfl
  have r3 := (blk_at D2).cell 3 _ rfl
  have r4 := (blk_at D2).cell 4 _ rfl
  have f0 := (blk_at D2).free 0 _ rfl
  have f1 := (blk_at D2).free 1 _ rfl
  have f2 := (blk_at D2).free 2 _ rfl
  have f3 := (blk_at D2).free 3 _ rfl
  have f4 := (blk_at D2).free 4 _ rfl
  have nr := (blk_at D2).lt
  have DF := (((((blk_at D2).set 0 (.slice a2 n2 c2)).set 1 (.int .i64 va)).set 2 (.int .i64 tm)).set 3 (.int .i64 sr)).set 4 (.int .i64 sq)
  have BF := (((((B2.setCell (p := ⟨w.heap.size + 1, 0, none⟩) (by simp) (.slice a2 n2 c2)).setCell (p := ⟨w.heap.size + 1, 1, none⟩) (by simp) (.int .i64 va)).setCell (p := ⟨w.heap.size + 1, 2, none⟩) (by simp) (.int .i64 tm)).setCell (p := ⟨w.heap.size + 1, 3, none⟩) (by simp) (.int .i64 sr)).setCell (p := ⟨w.heap.size + 1, 4, none⟩) (by simp) (.int .i64 sq))
  have FAR := far5 w2 (w.heap.size + 1) (.slice a2 n2 c2) (.int .i64 va) (.int .i64 tm) (.int .i64 sr) (.int .i64 sq)
  have LF := labs_apart D2 (by
    intro j s
    rcases j with _ | _ | _ | _ | _ | j
    all_goals simp) FAR.1 FAR.2 L2
  simp only [List.set_cons_zero, List.set_cons_succ] at DF
  go_simp
  refine hK _ _ ?_
  clear hK K
  refine anyIn_done (by kernel_rfl) (NoPanic.normal ?_) _
  have q0 := DF.cell 0 _ rfl
  have q1 := DF.cell 1 _ rfl
  have q2 := DF.cell 2 _ rfl
  have q3 := DF.cell 3 _ rfl
  have q4 := DF.cell 4 _ rfl
  clear FAR r0 r1 r2 r3 r4 hS
  gi_wp2
  refine bodyPost_ret (v := .agg #[.slice a2 n2 c2, .int .i64 va, .int .i64 tm, .int .i64 sr, .int .i64 sq]) ?_ rfl ⟨_, rfl, LF, BF⟩
  simp [results, Tryz.f8, go_sem, q0, q1, q2, q3, q4]
set_option maxHeartbeats 4000000 in
theorem same6_yes (a1 a2 : Option Addr) (n1 c1 n2 c2 : Nat) (zs : List SLab) (hreach : zs.length ≤ 100) (va tm sr sq : Int) (w : World) (h1 : Labs w.heap.size w (.slice a1 n1 c1) zs) (h2 : Labs w.heap.size w (.slice a2 n2 c2) zs) :
    Calls Tryz.prog 15 #[sampV (.slice a1 n1 c1) va tm sr sq, sampV (.slice a2 n2 c2) va tm sr sq] w fun e w' => e = .returned (.bool true) ∧ Below w.heap.size w w' := by
  have SM := fun W (hW : Below w.heap.size w W) => rsame_any a1 a2 n1 c1 n2 c2 zs zs hreach hreach W (labs_on h1 hW) (labs_on h2 hW)
  simp only [beq_self_eq_true, Bool.and_self] at SM
  have SM := Lib.hid SM
  clear h1 h2
  unfold sampV
  go_enter Tryz.func15, Tryz.ntmps15
  have A1 := blk_new w #[.slice a1 n1 c1, .int .i64 va, .int .i64 tm, .int .i64 sr, .int .i64 sq] 31
  have A2 := blk_new (w.alloc (.cells #[.slice a1 n1 c1, .int .i64 va, .int .i64 tm, .int .i64 sr, .int .i64 sq] 31)) #[.slice a2 n2 c2, .int .i64 va, .int .i64 tm, .int .i64 sr, .int .i64 sq] 31
  rw [World.size_alloc] at A2
  have B1 := below_new (below_cells (w := w) (.cells #[.slice a1 n1 c1, .int .i64 va, .int .i64 tm, .int .i64 sr, .int .i64 sq] 31)) (.cells #[.slice a2 n2 c2, .int .i64 va, .int .i64 tm, .int .i64 sr, .int .i64 sq] 31)
  have D1 := blk_on A1 (below_cells (.cells #[.slice a2 n2 c2, .int .i64 va, .int .i64 tm, .int .i64 sr, .int .i64 sq] 31))
  clear A1
  have p0 := (blk_at D1).cell 0 _ rfl
  have p1 := (blk_at D1).cell 1 _ rfl
  have p2 := (blk_at D1).cell 2 _ rfl
  have p3 := (blk_at D1).cell 3 _ rfl
  have p4 := (blk_at D1).cell 4 _ rfl
  have q0 := (blk_at A2).cell 0 _ rfl
  have q1 := (blk_at A2).cell 1 _ rfl
  have q2 := (blk_at A2).cell 2 _ rfl
  have q3 := (blk_at A2).cell 3 _ rfl
  have q4 := (blk_at A2).cell 4 _ rfl
  go_wp2_with fail
  refine (SM.out _ B1).mono ?_
  rintro e w2 ⟨rfl, hb⟩
  have E1 := blk_on D1 hb
  have E2 := blk_on A2 hb
  have B2 := B1.trans (hb.mono B1.size)
  clear p0 p1 p2 p3 p4 q0 q1 q2 q3 q4 D1 A2 B1 hb
  have p0 := (blk_at E1).cell 0 _ rfl
  have p1 := (blk_at E1).cell 1 _ rfl
  have p2 := (blk_at E1).cell 2 _ rfl
  have p3 := (blk_at E1).cell 3 _ rfl
  have p4 := (blk_at E1).cell 4 _ rfl
  have q0 := (blk_at E2).cell 0 _ rfl
  have q1 := (blk_at E2).cell 1 _ rfl
  have q2 := (blk_at E2).cell 2 _ rfl
  have q3 := (blk_at E2).cell 3 _ rfl
  have q4 := (blk_at E2).cell 4 _ rfl
  go_wp2
  go_ret
  exact ⟨rfl, B2⟩
end Go.Proofs.YtgldieboflmnhaaGreatDoor
