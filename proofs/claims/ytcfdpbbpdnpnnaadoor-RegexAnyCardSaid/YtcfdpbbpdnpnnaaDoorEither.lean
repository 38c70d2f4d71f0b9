/- regex: either. -/
import Derived.Test.YtcfdpbbpdnpnnaaDoorFrm
import Derived.Deep.RegionHeld3
import Derived.OrdersHeld
namespace Go.Proofs.YtcfdpbbpdnpnnaaDoor
open Go Go.Proofs Go.RowKit Go.Shelf
set_option maxRecDepth 100000
attribute [local go_sem] cell_set
set_option maxHeartbeats 4000000 in
theorem either_t (x1 x2 : Nat) (y : Rx.Pce) (w : World) :
  Calls Tryd.prog 39 #[pceV ⟨x1, x2, true⟩, pceV y] w fun e w' => e = .returned (pceV ⟨x1 ||| y.first, x2 ||| y.last, true || y.none⟩) ∧ Below w.heap.size w w' := by
 have B := Below.refl w.heap.size w
 unfold pceV
 dsimp only
 go_enter Tryd.func39, Tryd.ntmps39
 go_wp2
 have Dx : At ((((w).alloc (.cells #[.int .u64 (word (x1) 0), .int .u64 (word (x1) 1), .int .u64 (word (x1) 2), .int .u64 (word (x1) 3), .int .u64 (word (x2) 0), .int .u64 (word (x2) 1), .int .u64 (word (x2) 2), .int .u64 (word (x2) 3), .bool true] 53)).alloc (.cells #[.int .u64 (word (y.first) 0), .int .u64 (word (y.first) 1), .int .u64 (word (y.first) 2), .int .u64 (word (y.first) 3), .int .u64 (word (y.last) 0), .int .u64 (word (y.last) 1), .int .u64 (word (y.last) 2), .int .u64 (word (y.last) 3), .bool y.none] 53)).alloc (.cells #[.int .u64 0, .int .u64 0, .int .u64 0, .int .u64 0, .int .u64 0, .int .u64 0, .int .u64 0, .int .u64 0, .bool false] 53)) (w.heap.size) [.int .u64 (word (x1) 0), .int .u64 (word (x1) 1), .int .u64 (word (x1) 2), .int .u64 (word (x1) 3), .int .u64 (word (x2) 0), .int .u64 (word (x2) 1), .int .u64 (word (x2) 2), .int .u64 (word (x2) 3), .bool true] := by have h := (((At.new (w) #[.int .u64 (word (x1) 0), .int .u64 (word (x1) 1), .int .u64 (word (x1) 2), .int .u64 (word (x1) 3), .int .u64 (word (x2) 0), .int .u64 (word (x2) 1), .int .u64 (word (x2) 2), .int .u64 (word (x2) 3), .bool true] 53).alloc (.cells #[.int .u64 (word (y.first) 0), .int .u64 (word (y.first) 1), .int .u64 (word (y.first) 2), .int .u64 (word (y.first) 3), .int .u64 (word (y.last) 0), .int .u64 (word (y.last) 1), .int .u64 (word (y.last) 2), .int .u64 (word (y.last) 3), .bool y.none] 53)).alloc (.cells #[.int .u64 0, .int .u64 0, .int .u64 0, .int .u64 0, .int .u64 0, .int .u64 0, .int .u64 0, .int .u64 0, .bool false] 53)); simpa using h
 have Dy : At ((((w).alloc (.cells #[.int .u64 (word (x1) 0), .int .u64 (word (x1) 1), .int .u64 (word (x1) 2), .int .u64 (word (x1) 3), .int .u64 (word (x2) 0), .int .u64 (word (x2) 1), .int .u64 (word (x2) 2), .int .u64 (word (x2) 3), .bool true] 53)).alloc (.cells #[.int .u64 (word (y.first) 0), .int .u64 (word (y.first) 1), .int .u64 (word (y.first) 2), .int .u64 (word (y.first) 3), .int .u64 (word (y.last) 0), .int .u64 (word (y.last) 1), .int .u64 (word (y.last) 2), .int .u64 (word (y.last) 3), .bool y.none] 53)).alloc (.cells #[.int .u64 0, .int .u64 0, .int .u64 0, .int .u64 0, .int .u64 0, .int .u64 0, .int .u64 0, .int .u64 0, .bool false] 53)) (w.heap.size + 1) [.int .u64 (word (y.first) 0), .int .u64 (word (y.first) 1), .int .u64 (word (y.first) 2), .int .u64 (word (y.first) 3), .int .u64 (word (y.last) 0), .int .u64 (word (y.last) 1), .int .u64 (word (y.last) 2), .int .u64 (word (y.last) 3), .bool y.none] := by have h := ((At.new ((w).alloc (.cells #[.int .u64 (word (x1) 0), .int .u64 (word (x1) 1), .int .u64 (word (x1) 2), .int .u64 (word (x1) 3), .int .u64 (word (x2) 0), .int .u64 (word (x2) 1), .int .u64 (word (x2) 2), .int .u64 (word (x2) 3), .bool true] 53)) #[.int .u64 (word (y.first) 0), .int .u64 (word (y.first) 1), .int .u64 (word (y.first) 2), .int .u64 (word (y.first) 3), .int .u64 (word (y.last) 0), .int .u64 (word (y.last) 1), .int .u64 (word (y.last) 2), .int .u64 (word (y.last) 3), .bool y.none] 53).alloc (.cells #[.int .u64 0, .int .u64 0, .int .u64 0, .int .u64 0, .int .u64 0, .int .u64 0, .int .u64 0, .int .u64 0, .bool false] 53)); simpa using h
 have Dr : At ((((w).alloc (.cells #[.int .u64 (word (x1) 0), .int .u64 (word (x1) 1), .int .u64 (word (x1) 2), .int .u64 (word (x1) 3), .int .u64 (word (x2) 0), .int .u64 (word (x2) 1), .int .u64 (word (x2) 2), .int .u64 (word (x2) 3), .bool true] 53)).alloc (.cells #[.int .u64 (word (y.first) 0), .int .u64 (word (y.first) 1), .int .u64 (word (y.first) 2), .int .u64 (word (y.first) 3), .int .u64 (word (y.last) 0), .int .u64 (word (y.last) 1), .int .u64 (word (y.last) 2), .int .u64 (word (y.last) 3), .bool y.none] 53)).alloc (.cells #[.int .u64 0, .int .u64 0, .int .u64 0, .int .u64 0, .int .u64 0, .int .u64 0, .int .u64 0, .int .u64 0, .bool false] 53)) (w.heap.size + 1 + 1) [.int .u64 0, .int .u64 0, .int .u64 0, .int .u64 0, .int .u64 0, .int .u64 0, .int .u64 0, .int .u64 0, .bool false] := by have h := (At.new (((w).alloc (.cells #[.int .u64 (word (x1) 0), .int .u64 (word (x1) 1), .int .u64 (word (x1) 2), .int .u64 (word (x1) 3), .int .u64 (word (x2) 0), .int .u64 (word (x2) 1), .int .u64 (word (x2) 2), .int .u64 (word (x2) 3), .bool true] 53)).alloc (.cells #[.int .u64 (word (y.first) 0), .int .u64 (word (y.first) 1), .int .u64 (word (y.first) 2), .int .u64 (word (y.first) 3), .int .u64 (word (y.last) 0), .int .u64 (word (y.last) 1), .int .u64 (word (y.last) 2), .int .u64 (word (y.last) 3), .bool y.none] 53)) #[.int .u64 0, .int .u64 0, .int .u64 0, .int .u64 0, .int .u64 0, .int .u64 0, .int .u64 0, .int .u64 0, .bool false] 53); simpa using h
 have B := (below_new (below_new (below_new B (.cells #[.int .u64 (word (x1) 0), .int .u64 (word (x1) 1), .int .u64 (word (x1) 2), .int .u64 (word (x1) 3), .int .u64 (word (x2) 0), .int .u64 (word (x2) 1), .int .u64 (word (x2) 2), .int .u64 (word (x2) 3), .bool true] 53)) (.cells #[.int .u64 (word (y.first) 0), .int .u64 (word (y.first) 1), .int .u64 (word (y.first) 2), .int .u64 (word (y.first) 3), .int .u64 (word (y.last) 0), .int .u64 (word (y.last) 1), .int .u64 (word (y.last) 2), .int .u64 (word (y.last) 3), .bool y.none] 53)) (.cells #[.int .u64 0, .int .u64 0, .int .u64 0, .int .u64 0, .int .u64 0, .int .u64 0, .int .u64 0, .int .u64 0, .bool false] 53))
 generalize (((w).alloc (.cells #[.int .u64 (word (x1) 0), .int .u64 (word (x1) 1), .int .u64 (word (x1) 2), .int .u64 (word (x1) 3), .int .u64 (word (x2) 0), .int .u64 (word (x2) 1), .int .u64 (word (x2) 2), .int .u64 (word (x2) 3), .bool true] 53)).alloc (.cells #[.int .u64 (word (y.first) 0), .int .u64 (word (y.first) 1), .int .u64 (word (y.first) 2), .int .u64 (word (y.first) 3), .int .u64 (word (y.last) 0), .int .u64 (word (y.last) 1), .int .u64 (word (y.last) 2), .int .u64 (word (y.last) 3), .bool y.none] 53)).alloc (.cells #[.int .u64 0, .int .u64 0, .int .u64 0, .int .u64 0, .int .u64 0, .int .u64 0, .int .u64 0, .int .u64 0, .bool false] 53) = W0 at *
 have Dx : At ((W0).drew) (w.heap.size) [.int .u64 (word (x1) 0), .int .u64 (word (x1) 1), .int .u64 (word (x1) 2), .int .u64 (word (x1) 3), .int .u64 (word (x2) 0), .int .u64 (word (x2) 1), .int .u64 (word (x2) 2), .int .u64 (word (x2) 3), .bool true] := Dx.drew
 have Dy : At ((W0).drew) (w.heap.size + 1) [.int .u64 (word (y.first) 0), .int .u64 (word (y.first) 1), .int .u64 (word (y.first) 2), .int .u64 (word (y.first) 3), .int .u64 (word (y.last) 0), .int .u64 (word (y.last) 1), .int .u64 (word (y.last) 2), .int .u64 (word (y.last) 3), .bool y.none] := Dy.drew
 have Dr : At ((W0).drew) (w.heap.size + 1 + 1) [.int .u64 0, .int .u64 0, .int .u64 0, .int .u64 0, .int .u64 0, .int .u64 0, .int .u64 0, .int .u64 0, .bool false] := Dr.drew
 have B := B.drew
 refine wp_region_held_drew (S := fun u => At u (w.heap.size) [.int .u64 (word (x1) 0), .int .u64 (word (x1) 1), .int .u64 (word (x1) 2), .int .u64 (word (x1) 3), .int .u64 (word (x2) 0), .int .u64 (word (x2) 1), .int .u64 (word (x2) 2), .int .u64 (word (x2) 3), .bool true] ∧ At u (w.heap.size + 1) [.int .u64 (word (y.first) 0), .int .u64 (word (y.first) 1), .int .u64 (word (y.first) 2), .int .u64 (word (y.first) 3), .int .u64 (word (y.last) 0), .int .u64 (word (y.last) 1), .int .u64 (word (y.last) 2), .int .u64 (word (y.last) 3), .bool y.none]) (by kernel_rfl) ?_ (fun hS => ?_)
 ·
  exact ⟨Dx, Dy⟩
 generalize (W0).drew = v0 at *
 refine' wpAnyH_take (i := 0) (oi := ?oir1) (v := ?vr1) ?hir1 (by kernel_rfl) (by kernel_rfl) (by kernel_rfl) ?hQr1 ?hyr1 hS ?restr1
 case hir1 =>
  simp only [qa, qb, qc]
  exact rfl
 case hQr1 => exact fun _ _ _ h => h
 case hyr1 =>
  refine Or.inl ⟨by rfl, ?_⟩
  intro u hSw
  go_simp
  (try with_reducible rfl)
 (try simp only [Act.put, qd, qe, qf])
 refine' wpAnyH_take (i := 1) (oi := ?oir2) (v := ?vr2) ?hir2 (by kernel_rfl) (by kernel_rfl) (by kernel_rfl) ?hQr2 ?hyr2 hS ?restr2
 case hir2 =>
  simp only [qa, qb, qc]
  exact rfl
 case hQr2 => exact fun _ _ _ h => h
 case hyr2 =>
  refine Or.inl ⟨by rfl, ?_⟩
  intro u hSw
  obtain ⟨ex, ey⟩ := hSw
  have kx0 := ex.cell 0 _ rfl
  have kx1 := ex.cell 1 _ rfl
  have kx2 := ex.cell 2 _ rfl
  have kx3 := ex.cell 3 _ rfl
  have kx4 := ex.cell 4 _ rfl
  have kx5 := ex.cell 5 _ rfl
  have kx6 := ex.cell 6 _ rfl
  have kx7 := ex.cell 7 _ rfl
  have kx8 := ex.cell 8 _ rfl
  have mx := ex.lt
  clear ex ey
  go_simp
  (try with_reducible rfl)
 (try simp only [Act.put, qd, qe, qf])
 refine' wpAnyH_take (i := 2) (oi := ?oir3) (v := ?vr3) ?hir3 (by kernel_rfl) (by kernel_rfl) (by kernel_rfl) ?hQr3 ?hyr3 hS ?restr3
 case hir3 =>
  simp only [qa, qb, qc]
  exact rfl
 case hQr3 => exact fun _ _ _ h => h
 case hyr3 =>
  refine Or.inl ⟨by rfl, ?_⟩
  intro u hSw
  go_simp
  (try with_reducible rfl)
 (try simp only [Act.put, qd, qe, qf])
 refine' wpAnyH_take (i := 3) (oi := ?oir4) (v := ?vr4) ?hir4 (by kernel_rfl) (by kernel_rfl) (by kernel_rfl) ?hQr4 ?hyr4 hS ?restr4
 case hir4 =>
  simp only [qa, qb, qc]
  exact rfl
 case hQr4 => exact fun _ _ _ h => h
 case hyr4 =>
  refine Or.inl ⟨by rfl, ?_⟩
  intro u hSw
  obtain ⟨ex, ey⟩ := hSw
  have ky0 := ey.cell 0 _ rfl
  have ky1 := ey.cell 1 _ rfl
  have ky2 := ey.cell 2 _ rfl
  have ky3 := ey.cell 3 _ rfl
  have ky4 := ey.cell 4 _ rfl
  have ky5 := ey.cell 5 _ rfl
  have ky6 := ey.cell 6 _ rfl
  have ky7 := ey.cell 7 _ rfl
  have ky8 := ey.cell 8 _ rfl
  have my := ey.lt
  clear ex ey
  go_simp
  (try with_reducible rfl)
 (try simp only [Act.put, qd, qe, qf])
 refine' wpAnyH_take (i := 5) (oi := ?oir5) (v := ?vr5) ?hir5 (by kernel_rfl) (by kernel_rfl) (by kernel_rfl) ?hQr5 ?hyr5 hS ?restr5
 case hir5 =>
  simp only [qa, qb, qc]
  exact rfl
 case hQr5 => exact fun _ _ _ h => h
 case hyr5 =>
  refine Or.inl ⟨by rfl, ?_⟩
  intro u hSw
  go_simp
  (try with_reducible rfl)
 (try simp only [Act.put, qd, qe, qf])
 refine' wpAnyH_take (i := 6) (oi := ?oir6) (v := ?vr6) ?hir6 (by kernel_rfl) (by kernel_rfl) (by kernel_rfl) ?hQr6 ?hyr6 hS ?restr6
 case hir6 =>
  simp only [qa, qb, qc]
  exact rfl
 case hQr6 => exact fun _ _ _ h => h
 case hyr6 =>
  refine Or.inl ⟨by rfl, ?_⟩
  intro u hSw
  obtain ⟨ex, ey⟩ := hSw
  have kx0 := ex.cell 0 _ rfl
  have kx1 := ex.cell 1 _ rfl
  have kx2 := ex.cell 2 _ rfl
  have kx3 := ex.cell 3 _ rfl
  have kx4 := ex.cell 4 _ rfl
  have kx5 := ex.cell 5 _ rfl
  have kx6 := ex.cell 6 _ rfl
  have kx7 := ex.cell 7 _ rfl
  have kx8 := ex.cell 8 _ rfl
  have mx := ex.lt
  clear ex ey
  go_simp
  (try with_reducible rfl)
 (try simp only [Act.put, qd, qe, qf])
 refine' wpAnyH_take (i := 7) (oi := ?oir7) (v := ?vr7) ?hir7 (by kernel_rfl) (by kernel_rfl) (by kernel_rfl) ?hQr7 ?hyr7 hS ?restr7
 case hir7 =>
  simp only [qa, qb, qc]
  exact rfl
 case hQr7 => exact fun _ _ _ h => h
 case hyr7 =>
  refine Or.inl ⟨by rfl, ?_⟩
  intro u hSw
  go_simp
  (try with_reducible rfl)
 (try simp only [Act.put, qd, qe, qf])
 refine' wpAnyH_take (i := 8) (oi := ?oir8) (v := ?vr8) ?hir8 (by kernel_rfl) (by kernel_rfl) (by kernel_rfl) ?hQr8 ?hyr8 hS ?restr8
 case hir8 =>
  simp only [qa, qb, qc]
  exact rfl
 case hQr8 => exact fun _ _ _ h => h
 case hyr8 =>
  refine Or.inl ⟨by rfl, ?_⟩
  intro u hSw
  obtain ⟨ex, ey⟩ := hSw
  have ky0 := ey.cell 0 _ rfl
  have ky1 := ey.cell 1 _ rfl
  have ky2 := ey.cell 2 _ rfl
  have ky3 := ey.cell 3 _ rfl
  have ky4 := ey.cell 4 _ rfl
  have ky5 := ey.cell 5 _ rfl
  have ky6 := ey.cell 6 _ rfl
  have ky7 := ey.cell 7 _ rfl
  have ky8 := ey.cell 8 _ rfl
  have my := ey.lt
  clear ex ey
  go_simp
  (try with_reducible rfl)
 (try simp only [Act.put, qd, qe, qf])
 refine' wpAnyH_take (i := 10) (oi := ?oir9) (v := ?vr9) ?hir9 (by kernel_rfl) (by kernel_rfl) (by kernel_rfl) ?hQr9 ?hyr9 hS ?restr9
 case hir9 =>
  simp only [qa, qb, qc]
  exact rfl
 case hQr9 => exact fun _ _ _ h => h
 case hyr9 =>
  refine Or.inl ⟨by rfl, ?_⟩
  intro u hSw
  go_simp
  (try with_reducible rfl)
 (try simp only [Act.put, qd, qe, qf])
 refine' wpAnyH_take (i := 11) (oi := ?oir10) (v := ?vr10) ?hir10 (by kernel_rfl) (by kernel_rfl) (by kernel_rfl) ?hQr10 ?hyr10 hS ?restr10
 case hir10 =>
  simp only [qa, qb, qc]
  exact rfl
 case hQr10 => exact fun _ _ _ h => h
 case hyr10 =>
  refine Or.inl ⟨by rfl, ?_⟩
  intro u hSw
  obtain ⟨ex, ey⟩ := hSw
  have kx0 := ex.cell 0 _ rfl
  have kx1 := ex.cell 1 _ rfl
  have kx2 := ex.cell 2 _ rfl
  have kx3 := ex.cell 3 _ rfl
  have kx4 := ex.cell 4 _ rfl
  have kx5 := ex.cell 5 _ rfl
  have kx6 := ex.cell 6 _ rfl
  have kx7 := ex.cell 7 _ rfl
  have kx8 := ex.cell 8 _ rfl
  have mx := ex.lt
  clear ex ey
  go_simp
  (try with_reducible rfl)
 (try simp only [Act.put, qd, qe, qf])
 refine wpAnyH_ready (rs := [4]) (by kernel_rfl) (by simp) ?_
 refine' AllReadyH.cons (o := ?oor11) ?hor11 (fun K hK => ?str11) AllReadyH.nil
 case hor11 =>
  simp only [qa, qb, qc]
  exact rfl
 go_simp
 go_at_call 41
 refine (sor_w _ _ _).mono ?_
 rintro e w2 ⟨rfl, hb2⟩
 have Dx := Dx.below hb2
 have Dy := Dy.below hb2
 have Dr := Dr.below hb2
 have B := below_then B hb2
 clear hb2
 have fx := Dx.f9
 have fy := Dy.f9
 have fr := Dr.f9
 clear fx fy fr
 refine hK.out _ _ ?_ (fun hS => ?_)
 · exact ⟨Dx, Dy⟩
 clear hK K
 (try simp only [Act.put, qd, qe, qf])
 refine wpAnyH_ready (rs := [9]) (by kernel_rfl) (by simp) ?_
 refine' AllReadyH.cons (o := ?oor12) ?hor12 (fun K hK => ?str12) AllReadyH.nil
 case hor12 =>
  simp only [qa, qb, qc]
  exact rfl
 go_simp
 go_at_call 41
 refine (sor_w _ _ _).mono ?_
 rintro e w3 ⟨rfl, hb3⟩
 have Dx := Dx.below hb3
 have Dy := Dy.below hb3
 have Dr := Dr.below hb3
 have B := below_then B hb3
 clear hb3
 have fx := Dx.f9
 have fy := Dy.f9
 have fr := Dr.f9
 clear fx fy fr
 refine hK.out _ _ ?_ (fun hS => ?_)
 · exact ⟨Dx, Dy⟩
 clear hK K
 (try simp only [Act.put, qd, qe, qf])
 refine' wpAnyH_take (i := 12) (oi := ?oir13) (v := ?vr13) ?hir13 (by kernel_rfl) (by kernel_rfl) (by kernel_rfl) ?hQr13 ?hyr13 hS ?restr13
 case hir13 =>
  simp only [qa, qb, qc]
  exact rfl
 case hQr13 => exact fun _ _ _ h => h
 case hyr13 =>
  refine Or.inl ⟨by rfl, ?_⟩
  intro u hSw
  go_simp
  (try with_reducible rfl)
 (try simp only [Act.put, qd, qe, qf])
 refine' wpAnyH_take (i := 13) (oi := ?oir14) (v := undef) ?hir14 (by kernel_rfl) (by kernel_rfl) (by kernel_rfl) ?hQr14 ?hyr14 hS ?restr14
 case hir14 =>
  simp only [qa, qb, qc]
  exact rfl
 case hQr14 => exact fun _ _ _ h => h
 case hyr14 => exact Or.inr ⟨by rfl, rfl⟩
 (try simp only [Act.put, qd, qe, qf])
 refine' wpAnyH_take (i := 14) (oi := ?oir15) (v := undef) ?hir15 (by kernel_rfl) (by kernel_rfl) (by kernel_rfl) ?hQr15 ?hyr15 hS ?restr15
 case hir15 =>
  simp only [qa, qb, qc]
  exact rfl
 case hQr15 => exact fun _ _ _ h => h
 case hyr15 => exact Or.inr ⟨by rfl, rfl⟩
 (try simp only [Act.put, qd, qe, qf])
 refine' wpAnyH_take (i := 15) (oi := ?oir16) (v := ?vr16) ?hir16 (by kernel_rfl) (by kernel_rfl) (by kernel_rfl) ?hQr16 ?hyr16 hS ?restr16
 case hir16 =>
  simp only [qa, qb, qc]
  exact rfl
 case hQr16 => exact fun _ _ _ h => h
 case hyr16 =>
  refine Or.inl ⟨by rfl, ?_⟩
  intro u hSw
  go_simp
  (try with_reducible rfl)
 (try simp only [Act.put, qd, qe, qf])
 refine' wpAnyH_take (i := 16) (oi := ?oir17) (v := ?vr17) ?hir17 (by kernel_rfl) (by kernel_rfl) (by kernel_rfl) ?hQr17 ?hyr17 hS ?restr17
 case hir17 =>
  simp only [qa, qb, qc]
  exact rfl
 case hQr17 => exact fun _ _ _ h => h
 case hyr17 =>
  refine Or.inl ⟨by rfl, ?_⟩
  intro u hSw
  go_simp
  (try with_reducible rfl)
 (try simp only [Act.put, qd, qe, qf])
 refine wpAnyH_ready (rs := [17]) (by kernel_rfl) (by simp) ?_
 refine' AllReadyH.cons (o := ?oor18) ?hor18 (fun K hK => ?str18) AllReadyH.nil
 case hor18 =>
  simp only [qa, qb, qc]
  exact rfl
 have fx := Dx.f9
 have fy := Dy.f9
 have fr := Dr.f9
 go_simp
 clear fx fy fr
 have Dx := (Dx.fars9 (w.heap.size + 1 + 1) (by omega) (.int .u64 (word (x1 ||| y.first) 0)) (.int .u64 (word (x1 ||| y.first) 1)) (.int .u64 (word (x1 ||| y.first) 2)) (.int .u64 (word (x1 ||| y.first) 3)) (.int .u64 (word (x2 ||| y.last) 0)) (.int .u64 (word (x2 ||| y.last) 1)) (.int .u64 (word (x2 ||| y.last) 2)) (.int .u64 (word (x2 ||| y.last) 3)) (.bool true))
 have Dy := (Dy.fars9 (w.heap.size + 1 + 1) (by omega) (.int .u64 (word (x1 ||| y.first) 0)) (.int .u64 (word (x1 ||| y.first) 1)) (.int .u64 (word (x1 ||| y.first) 2)) (.int .u64 (word (x1 ||| y.first) 3)) (.int .u64 (word (x2 ||| y.last) 0)) (.int .u64 (word (x2 ||| y.last) 1)) (.int .u64 (word (x2 ||| y.last) 2)) (.int .u64 (word (x2 ||| y.last) 3)) (.bool true))
 have Dr := (Dr.puts9 (.int .u64 (word (x1 ||| y.first) 0)) (.int .u64 (word (x1 ||| y.first) 1)) (.int .u64 (word (x1 ||| y.first) 2)) (.int .u64 (word (x1 ||| y.first) 3)) (.int .u64 (word (x2 ||| y.last) 0)) (.int .u64 (word (x2 ||| y.last) 1)) (.int .u64 (word (x2 ||| y.last) 2)) (.int .u64 (word (x2 ||| y.last) 3)) (.bool true))
 have B := (B.sets9 (w.heap.size + 1 + 1) (by omega) (.int .u64 (word (x1 ||| y.first) 0)) (.int .u64 (word (x1 ||| y.first) 1)) (.int .u64 (word (x1 ||| y.first) 2)) (.int .u64 (word (x1 ||| y.first) 3)) (.int .u64 (word (x2 ||| y.last) 0)) (.int .u64 (word (x2 ||| y.last) 1)) (.int .u64 (word (x2 ||| y.last) 2)) (.int .u64 (word (x2 ||| y.last) 3)) (.bool true))
 refine hK.out _ _ ?_ (fun hS => ?_)
 · exact ⟨Dx, Dy⟩
 clear hK K
 (try simp only [Act.put, qd, qe, qf])
 refine wpAnyH_done (by kernel_rfl) ?_ _
 clear hS
 have fx := Dx.f9
 have fy := Dy.f9
 have fr := Dr.f9
 go_wp2
 refine bodyPost_ret (by simp [results, Tryd.results39, go_sem, fr]; try rfl) rfl ?_
 exact ⟨rfl, B⟩
set_option maxHeartbeats 4000000 in
theorem either_f (x1 x2 : Nat) (y : Rx.Pce) (w : World) :
  Calls Tryd.prog 39 #[pceV ⟨x1, x2, false⟩, pceV y] w fun e w' => e = .returned (pceV ⟨x1 ||| y.first, x2 ||| y.last, false || y.none⟩) ∧ Below w.heap.size w w' := by
 have B := Below.refl w.heap.size w
 unfold pceV
 dsimp only
 go_enter Tryd.func39, Tryd.ntmps39
 go_wp2
 have Dx : At ((((w).alloc (.cells #[.int .u64 (word (x1) 0), .int .u64 (word (x1) 1), .int .u64 (word (x1) 2), .int .u64 (word (x1) 3), .int .u64 (word (x2) 0), .int .u64 (word (x2) 1), .int .u64 (word (x2) 2), .int .u64 (word (x2) 3), .bool false] 53)).alloc (.cells #[.int .u64 (word (y.first) 0), .int .u64 (word (y.first) 1), .int .u64 (word (y.first) 2), .int .u64 (word (y.first) 3), .int .u64 (word (y.last) 0), .int .u64 (word (y.last) 1), .int .u64 (word (y.last) 2), .int .u64 (word (y.last) 3), .bool y.none] 53)).alloc (.cells #[.int .u64 0, .int .u64 0, .int .u64 0, .int .u64 0, .int .u64 0, .int .u64 0, .int .u64 0, .int .u64 0, .bool false] 53)) (w.heap.size) [.int .u64 (word (x1) 0), .int .u64 (word (x1) 1), .int .u64 (word (x1) 2), .int .u64 (word (x1) 3), .int .u64 (word (x2) 0), .int .u64 (word (x2) 1), .int .u64 (word (x2) 2), .int .u64 (word (x2) 3), .bool false] := by have h := (((At.new (w) #[.int .u64 (word (x1) 0), .int .u64 (word (x1) 1), .int .u64 (word (x1) 2), .int .u64 (word (x1) 3), .int .u64 (word (x2) 0), .int .u64 (word (x2) 1), .int .u64 (word (x2) 2), .int .u64 (word (x2) 3), .bool false] 53).alloc (.cells #[.int .u64 (word (y.first) 0), .int .u64 (word (y.first) 1), .int .u64 (word (y.first) 2), .int .u64 (word (y.first) 3), .int .u64 (word (y.last) 0), .int .u64 (word (y.last) 1), .int .u64 (word (y.last) 2), .int .u64 (word (y.last) 3), .bool y.none] 53)).alloc (.cells #[.int .u64 0, .int .u64 0, .int .u64 0, .int .u64 0, .int .u64 0, .int .u64 0, .int .u64 0, .int .u64 0, .bool false] 53)); simpa using h
 have Dy : At ((((w).alloc (.cells #[.int .u64 (word (x1) 0), .int .u64 (word (x1) 1), .int .u64 (word (x1) 2), .int .u64 (word (x1) 3), .int .u64 (word (x2) 0), .int .u64 (word (x2) 1), .int .u64 (word (x2) 2), .int .u64 (word (x2) 3), .bool false] 53)).alloc (.cells #[.int .u64 (word (y.first) 0), .int .u64 (word (y.first) 1), .int .u64 (word (y.first) 2), .int .u64 (word (y.first) 3), .int .u64 (word (y.last) 0), .int .u64 (word (y.last) 1), .int .u64 (word (y.last) 2), .int .u64 (word (y.last) 3), .bool y.none] 53)).alloc (.cells #[.int .u64 0, .int .u64 0, .int .u64 0, .int .u64 0, .int .u64 0, .int .u64 0, .int .u64 0, .int .u64 0, .bool false] 53)) (w.heap.size + 1) [.int .u64 (word (y.first) 0), .int .u64 (word (y.first) 1), .int .u64 (word (y.first) 2), .int .u64 (word (y.first) 3), .int .u64 (word (y.last) 0), .int .u64 (word (y.last) 1), .int .u64 (word (y.last) 2), .int .u64 (word (y.last) 3), .bool y.none] := by have h := ((At.new ((w).alloc (.cells #[.int .u64 (word (x1) 0), .int .u64 (word (x1) 1), .int .u64 (word (x1) 2), .int .u64 (word (x1) 3), .int .u64 (word (x2) 0), .int .u64 (word (x2) 1), .int .u64 (word (x2) 2), .int .u64 (word (x2) 3), .bool false] 53)) #[.int .u64 (word (y.first) 0), .int .u64 (word (y.first) 1), .int .u64 (word (y.first) 2), .int .u64 (word (y.first) 3), .int .u64 (word (y.last) 0), .int .u64 (word (y.last) 1), .int .u64 (word (y.last) 2), .int .u64 (word (y.last) 3), .bool y.none] 53).alloc (.cells #[.int .u64 0, .int .u64 0, .int .u64 0, .int .u64 0, .int .u64 0, .int .u64 0, .int .u64 0, .int .u64 0, .bool false] 53)); simpa using h
 have Dr : At ((((w).alloc (.cells #[.int .u64 (word (x1) 0), .int .u64 (word (x1) 1), .int .u64 (word (x1) 2), .int .u64 (word (x1) 3), .int .u64 (word (x2) 0), .int .u64 (word (x2) 1), .int .u64 (word (x2) 2), .int .u64 (word (x2) 3), .bool false] 53)).alloc (.cells #[.int .u64 (word (y.first) 0), .int .u64 (word (y.first) 1), .int .u64 (word (y.first) 2), .int .u64 (word (y.first) 3), .int .u64 (word (y.last) 0), .int .u64 (word (y.last) 1), .int .u64 (word (y.last) 2), .int .u64 (word (y.last) 3), .bool y.none] 53)).alloc (.cells #[.int .u64 0, .int .u64 0, .int .u64 0, .int .u64 0, .int .u64 0, .int .u64 0, .int .u64 0, .int .u64 0, .bool false] 53)) (w.heap.size + 1 + 1) [.int .u64 0, .int .u64 0, .int .u64 0, .int .u64 0, .int .u64 0, .int .u64 0, .int .u64 0, .int .u64 0, .bool false] := by have h := (At.new (((w).alloc (.cells #[.int .u64 (word (x1) 0), .int .u64 (word (x1) 1), .int .u64 (word (x1) 2), .int .u64 (word (x1) 3), .int .u64 (word (x2) 0), .int .u64 (word (x2) 1), .int .u64 (word (x2) 2), .int .u64 (word (x2) 3), .bool false] 53)).alloc (.cells #[.int .u64 (word (y.first) 0), .int .u64 (word (y.first) 1), .int .u64 (word (y.first) 2), .int .u64 (word (y.first) 3), .int .u64 (word (y.last) 0), .int .u64 (word (y.last) 1), .int .u64 (word (y.last) 2), .int .u64 (word (y.last) 3), .bool y.none] 53)) #[.int .u64 0, .int .u64 0, .int .u64 0, .int .u64 0, .int .u64 0, .int .u64 0, .int .u64 0, .int .u64 0, .bool false] 53); simpa using h
 have B := (below_new (below_new (below_new B (.cells #[.int .u64 (word (x1) 0), .int .u64 (word (x1) 1), .int .u64 (word (x1) 2), .int .u64 (word (x1) 3), .int .u64 (word (x2) 0), .int .u64 (word (x2) 1), .int .u64 (word (x2) 2), .int .u64 (word (x2) 3), .bool false] 53)) (.cells #[.int .u64 (word (y.first) 0), .int .u64 (word (y.first) 1), .int .u64 (word (y.first) 2), .int .u64 (word (y.first) 3), .int .u64 (word (y.last) 0), .int .u64 (word (y.last) 1), .int .u64 (word (y.last) 2), .int .u64 (word (y.last) 3), .bool y.none] 53)) (.cells #[.int .u64 0, .int .u64 0, .int .u64 0, .int .u64 0, .int .u64 0, .int .u64 0, .int .u64 0, .int .u64 0, .bool false] 53))
 generalize (((w).alloc (.cells #[.int .u64 (word (x1) 0), .int .u64 (word (x1) 1), .int .u64 (word (x1) 2), .int .u64 (word (x1) 3), .int .u64 (word (x2) 0), .int .u64 (word (x2) 1), .int .u64 (word (x2) 2), .int .u64 (word (x2) 3), .bool false] 53)).alloc (.cells #[.int .u64 (word (y.first) 0), .int .u64 (word (y.first) 1), .int .u64 (word (y.first) 2), .int .u64 (word (y.first) 3), .int .u64 (word (y.last) 0), .int .u64 (word (y.last) 1), .int .u64 (word (y.last) 2), .int .u64 (word (y.last) 3), .bool y.none] 53)).alloc (.cells #[.int .u64 0, .int .u64 0, .int .u64 0, .int .u64 0, .int .u64 0, .int .u64 0, .int .u64 0, .int .u64 0, .bool false] 53) = W0 at *
 have Dx : At ((W0).drew) (w.heap.size) [.int .u64 (word (x1) 0), .int .u64 (word (x1) 1), .int .u64 (word (x1) 2), .int .u64 (word (x1) 3), .int .u64 (word (x2) 0), .int .u64 (word (x2) 1), .int .u64 (word (x2) 2), .int .u64 (word (x2) 3), .bool false] := Dx.drew
 have Dy : At ((W0).drew) (w.heap.size + 1) [.int .u64 (word (y.first) 0), .int .u64 (word (y.first) 1), .int .u64 (word (y.first) 2), .int .u64 (word (y.first) 3), .int .u64 (word (y.last) 0), .int .u64 (word (y.last) 1), .int .u64 (word (y.last) 2), .int .u64 (word (y.last) 3), .bool y.none] := Dy.drew
 have Dr : At ((W0).drew) (w.heap.size + 1 + 1) [.int .u64 0, .int .u64 0, .int .u64 0, .int .u64 0, .int .u64 0, .int .u64 0, .int .u64 0, .int .u64 0, .bool false] := Dr.drew
 have B := B.drew
 refine wp_region_held_drew (S := fun u => At u (w.heap.size) [.int .u64 (word (x1) 0), .int .u64 (word (x1) 1), .int .u64 (word (x1) 2), .int .u64 (word (x1) 3), .int .u64 (word (x2) 0), .int .u64 (word (x2) 1), .int .u64 (word (x2) 2), .int .u64 (word (x2) 3), .bool false] ∧ At u (w.heap.size + 1) [.int .u64 (word (y.first) 0), .int .u64 (word (y.first) 1), .int .u64 (word (y.first) 2), .int .u64 (word (y.first) 3), .int .u64 (word (y.last) 0), .int .u64 (word (y.last) 1), .int .u64 (word (y.last) 2), .int .u64 (word (y.last) 3), .bool y.none]) (by kernel_rfl) ?_ (fun hS => ?_)
 ·
  exact ⟨Dx, Dy⟩
 generalize (W0).drew = v0 at *
 refine' wpAnyH_take (i := 0) (oi := ?oir20) (v := ?vr20) ?hir20 (by kernel_rfl) (by kernel_rfl) (by kernel_rfl) ?hQr20 ?hyr20 hS ?restr20
 case hir20 =>
  simp only [qa, qb, qc]
  exact rfl
 case hQr20 => exact fun _ _ _ h => h
 case hyr20 =>
  refine Or.inl ⟨by rfl, ?_⟩
  intro u hSw
  go_simp
  (try with_reducible rfl)
 (try simp only [Act.put, qd, qe, qf])
 refine' wpAnyH_take (i := 1) (oi := ?oir21) (v := ?vr21) ?hir21 (by kernel_rfl) (by kernel_rfl) (by kernel_rfl) ?hQr21 ?hyr21 hS ?restr21
 case hir21 =>
  simp only [qa, qb, qc]
  exact rfl
 case hQr21 => exact fun _ _ _ h => h
 case hyr21 =>
  refine Or.inl ⟨by rfl, ?_⟩
  intro u hSw
  obtain ⟨ex, ey⟩ := hSw
  have kx0 := ex.cell 0 _ rfl
  have kx1 := ex.cell 1 _ rfl
  have kx2 := ex.cell 2 _ rfl
  have kx3 := ex.cell 3 _ rfl
  have kx4 := ex.cell 4 _ rfl
  have kx5 := ex.cell 5 _ rfl
  have kx6 := ex.cell 6 _ rfl
  have kx7 := ex.cell 7 _ rfl
  have kx8 := ex.cell 8 _ rfl
  have mx := ex.lt
  clear ex ey
  go_simp
  (try with_reducible rfl)
 (try simp only [Act.put, qd, qe, qf])
 refine' wpAnyH_take (i := 2) (oi := ?oir22) (v := ?vr22) ?hir22 (by kernel_rfl) (by kernel_rfl) (by kernel_rfl) ?hQr22 ?hyr22 hS ?restr22
 case hir22 =>
  simp only [qa, qb, qc]
  exact rfl
 case hQr22 => exact fun _ _ _ h => h
 case hyr22 =>
  refine Or.inl ⟨by rfl, ?_⟩
  intro u hSw
  go_simp
  (try with_reducible rfl)
 (try simp only [Act.put, qd, qe, qf])
 refine' wpAnyH_take (i := 3) (oi := ?oir23) (v := ?vr23) ?hir23 (by kernel_rfl) (by kernel_rfl) (by kernel_rfl) ?hQr23 ?hyr23 hS ?restr23
 case hir23 =>
  simp only [qa, qb, qc]
  exact rfl
 case hQr23 => exact fun _ _ _ h => h
 case hyr23 =>
  refine Or.inl ⟨by rfl, ?_⟩
  intro u hSw
  obtain ⟨ex, ey⟩ := hSw
  have ky0 := ey.cell 0 _ rfl
  have ky1 := ey.cell 1 _ rfl
  have ky2 := ey.cell 2 _ rfl
  have ky3 := ey.cell 3 _ rfl
  have ky4 := ey.cell 4 _ rfl
  have ky5 := ey.cell 5 _ rfl
  have ky6 := ey.cell 6 _ rfl
  have ky7 := ey.cell 7 _ rfl
  have ky8 := ey.cell 8 _ rfl
  have my := ey.lt
  clear ex ey
  go_simp
  (try with_reducible rfl)
 (try simp only [Act.put, qd, qe, qf])
 refine' wpAnyH_take (i := 5) (oi := ?oir24) (v := ?vr24) ?hir24 (by kernel_rfl) (by kernel_rfl) (by kernel_rfl) ?hQr24 ?hyr24 hS ?restr24
 case hir24 =>
  simp only [qa, qb, qc]
  exact rfl
 case hQr24 => exact fun _ _ _ h => h
 case hyr24 =>
  refine Or.inl ⟨by rfl, ?_⟩
  intro u hSw
  go_simp
  (try with_reducible rfl)
 (try simp only [Act.put, qd, qe, qf])
 refine' wpAnyH_take (i := 6) (oi := ?oir25) (v := ?vr25) ?hir25 (by kernel_rfl) (by kernel_rfl) (by kernel_rfl) ?hQr25 ?hyr25 hS ?restr25
 case hir25 =>
  simp only [qa, qb, qc]
  exact rfl
 case hQr25 => exact fun _ _ _ h => h
 case hyr25 =>
  refine Or.inl ⟨by rfl, ?_⟩
  intro u hSw
  obtain ⟨ex, ey⟩ := hSw
  have kx0 := ex.cell 0 _ rfl
  have kx1 := ex.cell 1 _ rfl
  have kx2 := ex.cell 2 _ rfl
  have kx3 := ex.cell 3 _ rfl
  have kx4 := ex.cell 4 _ rfl
  have kx5 := ex.cell 5 _ rfl
  have kx6 := ex.cell 6 _ rfl
  have kx7 := ex.cell 7 _ rfl
  have kx8 := ex.cell 8 _ rfl
  have mx := ex.lt
  clear ex ey
  go_simp
  (try with_reducible rfl)
 (try simp only [Act.put, qd, qe, qf])
 refine' wpAnyH_take (i := 7) (oi := ?oir26) (v := ?vr26) ?hir26 (by kernel_rfl) (by kernel_rfl) (by kernel_rfl) ?hQr26 ?hyr26 hS ?restr26
 case hir26 =>
  simp only [qa, qb, qc]
  exact rfl
 case hQr26 => exact fun _ _ _ h => h
 case hyr26 =>
  refine Or.inl ⟨by rfl, ?_⟩
  intro u hSw
  go_simp
  (try with_reducible rfl)
 (try simp only [Act.put, qd, qe, qf])
 refine' wpAnyH_take (i := 8) (oi := ?oir27) (v := ?vr27) ?hir27 (by kernel_rfl) (by kernel_rfl) (by kernel_rfl) ?hQr27 ?hyr27 hS ?restr27
 case hir27 =>
  simp only [qa, qb, qc]
  exact rfl
 case hQr27 => exact fun _ _ _ h => h
 case hyr27 =>
  refine Or.inl ⟨by rfl, ?_⟩
  intro u hSw
  obtain ⟨ex, ey⟩ := hSw
  have ky0 := ey.cell 0 _ rfl
  have ky1 := ey.cell 1 _ rfl
  have ky2 := ey.cell 2 _ rfl
  have ky3 := ey.cell 3 _ rfl
  have ky4 := ey.cell 4 _ rfl
  have ky5 := ey.cell 5 _ rfl
  have ky6 := ey.cell 6 _ rfl
  have ky7 := ey.cell 7 _ rfl
  have ky8 := ey.cell 8 _ rfl
  have my := ey.lt
  clear ex ey
  go_simp
  (try with_reducible rfl)
 (try simp only [Act.put, qd, qe, qf])
 refine' wpAnyH_take (i := 10) (oi := ?oir28) (v := ?vr28) ?hir28 (by kernel_rfl) (by kernel_rfl) (by kernel_rfl) ?hQr28 ?hyr28 hS ?restr28
 case hir28 =>
  simp only [qa, qb, qc]
  exact rfl
 case hQr28 => exact fun _ _ _ h => h
 case hyr28 =>
  refine Or.inl ⟨by rfl, ?_⟩
  intro u hSw
  go_simp
  (try with_reducible rfl)
 (try simp only [Act.put, qd, qe, qf])
 refine' wpAnyH_take (i := 11) (oi := ?oir29) (v := ?vr29) ?hir29 (by kernel_rfl) (by kernel_rfl) (by kernel_rfl) ?hQr29 ?hyr29 hS ?restr29
 case hir29 =>
  simp only [qa, qb, qc]
  exact rfl
 case hQr29 => exact fun _ _ _ h => h
 case hyr29 =>
  refine Or.inl ⟨by rfl, ?_⟩
  intro u hSw
  obtain ⟨ex, ey⟩ := hSw
  have kx0 := ex.cell 0 _ rfl
  have kx1 := ex.cell 1 _ rfl
  have kx2 := ex.cell 2 _ rfl
  have kx3 := ex.cell 3 _ rfl
  have kx4 := ex.cell 4 _ rfl
  have kx5 := ex.cell 5 _ rfl
  have kx6 := ex.cell 6 _ rfl
  have kx7 := ex.cell 7 _ rfl
  have kx8 := ex.cell 8 _ rfl
  have mx := ex.lt
  clear ex ey
  go_simp
  (try with_reducible rfl)
 (try simp only [Act.put, qd, qe, qf])
 refine wpAnyH_ready (rs := [4]) (by kernel_rfl) (by simp) ?_
 refine' AllReadyH.cons (o := ?oor30) ?hor30 (fun K hK => ?str30) AllReadyH.nil
 case hor30 =>
  simp only [qa, qb, qc]
  exact rfl
 go_simp
 go_at_call 41
 refine (sor_w _ _ _).mono ?_
 rintro e w2 ⟨rfl, hb2⟩
 have Dx := Dx.below hb2
 have Dy := Dy.below hb2
 have Dr := Dr.below hb2
 have B := below_then B hb2
 clear hb2
 have fx := Dx.f9
 have fy := Dy.f9
 have fr := Dr.f9
 clear fx fy fr
 refine hK.out _ _ ?_ (fun hS => ?_)
 · exact ⟨Dx, Dy⟩
 clear hK K
 (try simp only [Act.put, qd, qe, qf])
 refine wpAnyH_ready (rs := [9]) (by kernel_rfl) (by simp) ?_
 refine' AllReadyH.cons (o := ?oor31) ?hor31 (fun K hK => ?str31) AllReadyH.nil
 case hor31 =>
  simp only [qa, qb, qc]
  exact rfl
 go_simp
 go_at_call 41
 refine (sor_w _ _ _).mono ?_
 rintro e w3 ⟨rfl, hb3⟩
 have Dx := Dx.below hb3
 have Dy := Dy.below hb3
 have Dr := Dr.below hb3
 have B := below_then B hb3
 clear hb3
 have fx := Dx.f9
 have fy := Dy.f9
 have fr := Dr.f9
 clear fx fy fr
 refine hK.out _ _ ?_ (fun hS => ?_)
 · exact ⟨Dx, Dy⟩
 clear hK K
 (try simp only [Act.put, qd, qe, qf])
 refine' wpAnyH_take (i := 12) (oi := ?oir32) (v := ?vr32) ?hir32 (by kernel_rfl) (by kernel_rfl) (by kernel_rfl) ?hQr32 ?hyr32 hS ?restr32
 case hir32 =>
  simp only [qa, qb, qc]
  exact rfl
 case hQr32 => exact fun _ _ _ h => h
 case hyr32 =>
  refine Or.inl ⟨by rfl, ?_⟩
  intro u hSw
  go_simp
  (try with_reducible rfl)
 (try simp only [Act.put, qd, qe, qf])
 refine' wpAnyH_take (i := 13) (oi := ?oir33) (v := ?vr33) ?hir33 (by kernel_rfl) (by kernel_rfl) (by kernel_rfl) ?hQr33 ?hyr33 hS ?restr33
 case hir33 =>
  simp only [qa, qb, qc]
  exact rfl
 case hQr33 => exact fun _ _ _ h => h
 case hyr33 =>
  refine Or.inl ⟨by rfl, ?_⟩
  intro u hSw
  go_simp
  (try with_reducible rfl)
 (try simp only [Act.put, qd, qe, qf])
 refine' wpAnyH_take (i := 14) (oi := ?oir34) (v := ?vr34) ?hir34 (by kernel_rfl) (by kernel_rfl) (by kernel_rfl) ?hQr34 ?hyr34 hS ?restr34
 case hir34 =>
  simp only [qa, qb, qc]
  exact rfl
 case hQr34 => exact fun _ _ _ h => h
 case hyr34 =>
  refine Or.inl ⟨by rfl, ?_⟩
  intro u hSw
  obtain ⟨ex, ey⟩ := hSw
  have ky0 := ey.cell 0 _ rfl
  have ky1 := ey.cell 1 _ rfl
  have ky2 := ey.cell 2 _ rfl
  have ky3 := ey.cell 3 _ rfl
  have ky4 := ey.cell 4 _ rfl
  have ky5 := ey.cell 5 _ rfl
  have ky6 := ey.cell 6 _ rfl
  have ky7 := ey.cell 7 _ rfl
  have ky8 := ey.cell 8 _ rfl
  have my := ey.lt
  clear ex ey
  go_simp
  (try with_reducible rfl)
 (try simp only [Act.put, qd, qe, qf])
 refine' wpAnyH_take (i := 15) (oi := ?oir35) (v := ?vr35) ?hir35 (by kernel_rfl) (by kernel_rfl) (by kernel_rfl) ?hQr35 ?hyr35 hS ?restr35
 case hir35 =>
  simp only [qa, qb, qc]
  exact rfl
 case hQr35 => exact fun _ _ _ h => h
 case hyr35 =>
  refine Or.inl ⟨by rfl, ?_⟩
  intro u hSw
  go_simp
  (try with_reducible rfl)
 (try simp only [Act.put, qd, qe, qf])
 refine' wpAnyH_take (i := 16) (oi := ?oir36) (v := ?vr36) ?hir36 (by kernel_rfl) (by kernel_rfl) (by kernel_rfl) ?hQr36 ?hyr36 hS ?restr36
 case hir36 =>
  simp only [qa, qb, qc]
  exact rfl
 case hQr36 => exact fun _ _ _ h => h
 case hyr36 =>
  refine Or.inl ⟨by rfl, ?_⟩
  intro u hSw
  go_simp
  (try with_reducible rfl)
 (try simp only [Act.put, qd, qe, qf])
 refine wpAnyH_ready (rs := [17]) (by kernel_rfl) (by simp) ?_
 refine' AllReadyH.cons (o := ?oor37) ?hor37 (fun K hK => ?str37) AllReadyH.nil
 case hor37 =>
  simp only [qa, qb, qc]
  exact rfl
 have fx := Dx.f9
 have fy := Dy.f9
 have fr := Dr.f9
 go_simp
 clear fx fy fr
 have Dx := (Dx.fars9 (w.heap.size + 1 + 1) (by omega) (.int .u64 (word (x1 ||| y.first) 0)) (.int .u64 (word (x1 ||| y.first) 1)) (.int .u64 (word (x1 ||| y.first) 2)) (.int .u64 (word (x1 ||| y.first) 3)) (.int .u64 (word (x2 ||| y.last) 0)) (.int .u64 (word (x2 ||| y.last) 1)) (.int .u64 (word (x2 ||| y.last) 2)) (.int .u64 (word (x2 ||| y.last) 3)) (.bool y.none))
 have Dy := (Dy.fars9 (w.heap.size + 1 + 1) (by omega) (.int .u64 (word (x1 ||| y.first) 0)) (.int .u64 (word (x1 ||| y.first) 1)) (.int .u64 (word (x1 ||| y.first) 2)) (.int .u64 (word (x1 ||| y.first) 3)) (.int .u64 (word (x2 ||| y.last) 0)) (.int .u64 (word (x2 ||| y.last) 1)) (.int .u64 (word (x2 ||| y.last) 2)) (.int .u64 (word (x2 ||| y.last) 3)) (.bool y.none))
 have Dr := (Dr.puts9 (.int .u64 (word (x1 ||| y.first) 0)) (.int .u64 (word (x1 ||| y.first) 1)) (.int .u64 (word (x1 ||| y.first) 2)) (.int .u64 (word (x1 ||| y.first) 3)) (.int .u64 (word (x2 ||| y.last) 0)) (.int .u64 (word (x2 ||| y.last) 1)) (.int .u64 (word (x2 ||| y.last) 2)) (.int .u64 (word (x2 ||| y.last) 3)) (.bool y.none))
 have B := (B.sets9 (w.heap.size + 1 + 1) (by omega) (.int .u64 (word (x1 ||| y.first) 0)) (.int .u64 (word (x1 ||| y.first) 1)) (.int .u64 (word (x1 ||| y.first) 2)) (.int .u64 (word (x1 ||| y.first) 3)) (.int .u64 (word (x2 ||| y.last) 0)) (.int .u64 (word (x2 ||| y.last) 1)) (.int .u64 (word (x2 ||| y.last) 2)) (.int .u64 (word (x2 ||| y.last) 3)) (.bool y.none))
 refine hK.out _ _ ?_ (fun hS => ?_)
 · exact ⟨Dx, Dy⟩
 clear hK K
 (try simp only [Act.put, qd, qe, qf])
 refine wpAnyH_done (by kernel_rfl) ?_ _
 clear hS
 have fx := Dx.f9
 have fy := Dy.f9
 have fr := Dr.f9
 go_wp2
 refine bodyPost_ret (by simp [results, Tryd.results39, go_sem, fr]; try rfl) rfl ?_
 exact ⟨rfl, B⟩
theorem either_any (x y : Rx.Pce) (w : World) :
  Calls Tryd.prog 39 #[pceV x, pceV y] w fun e w' => e = .returned (pceV ⟨x.first ||| y.first, x.last ||| y.last, x.none || y.none⟩) ∧ Below w.heap.size w w' := by
 obtain ⟨x1, x2, xn⟩ := x
 cases xn
 ·
  exact either_f x1 x2 y w
 ·
  exact either_t x1 x2 y w
end Go.Proofs.YtcfdpbbpdnpnnaaDoor
