/- regex: either. -/
import Derived.Test.YthdoniefjmphaaaGreatDoorFrm
import Derived.Deep.RegionHeld3
import Derived.OrdersHeld
namespace Go.Proofs.YthdoniefjmphaaaGreatDoor
open Go Go.Proofs Go.RowKit Go.Shelf
set_option maxRecDepth 100000
attribute [local go_sem] cell_set
set_option maxHeartbeats 4000000 in
theorem either_t (x1 x2 : Nat) (y : Rx.Pce) (w : World) :
  Calls Tryz.prog 94 #[pceV ⟨x1, x2, true⟩, pceV y] w fun e w' => e = .returned (pceV ⟨x1 ||| y.first, x2 ||| y.last, true || y.none⟩) ∧ Below w.heap.size w w' := by
 have B := Below.refl w.heap.size w;unfold pceV;dsimp only;go_enter Tryz.func94, Tryz.ntmps94
 go_wp2
 have Dx := (((At.nwp (w.heap.size) (w) (x1) (x2) true).alloc (pC (y.first) (y.last) y.none)).alloc zC)
 have Dy := ((At.nwp (w.heap.size + 1) ((w).alloc (pC (x1) (x2) true)) (y.first) (y.last) y.none).alloc zC)
 have Dr := (At.nwz (w.heap.size + 1 + 1) (((w).alloc (pC (x1) (x2) true)).alloc (pC (y.first) (y.last) y.none)))
 have B := (below_new (below_new (below_new B (pC (x1) (x2) true)) (pC (y.first) (y.last) y.none)) zC);generalize (((w).alloc (pC (x1) (x2) true)).alloc (pC (y.first) (y.last) y.none)).alloc zC = W0 at *;have Dx : At ((W0).drew) (w.heap.size) (pL (x1) (x2) true) := Dx.drew;have Dy : At ((W0).drew) (w.heap.size + 1) (pL (y.first) (y.last) y.none) := Dy.drew;have Dr : At ((W0).drew) (w.heap.size + 1 + 1) zL := Dr.drew;have B := B.drew;refine wp_region_held_drew (S := fun u => At u (w.heap.size) (pL (x1) (x2) true) ∧ At u (w.heap.size + 1) (pL (y.first) (y.last) y.none)) (by kernel_rfl) ?_ (fun hS => ?_)
 ·
  exact ⟨Dx, Dy⟩
 generalize (W0).drew = v0 at *;refine tkH 0 hS ?_;refine tkC 1 hS (fun _ h => h.1.f9) ?_;refine tkH 2 hS ?_;refine tkC 3 hS (fun _ h => h.2.f9) ?_;refine tkH 5 hS ?_;refine tkC 6 hS (fun _ h => h.1.f9) ?_;refine tkH 7 hS ?_;refine tkC 8 hS (fun _ h => h.2.f9) ?_;refine tkH 10 hS ?_;refine tkC 11 hS (fun _ h => h.1.f9) ?_;refine wpAnyH_ready (rs := [4]) (by kernel_rfl) (by simp) ?_;refine' AllReadyH.cons (o := ?oor11) ?hor11 (fun K hK => ?str11) AllReadyH.nil
 case hor11 =>
  simp only [qa, qb, qc];exact rfl
 go_simp
 go_at_call 96
 refine (sor_w _ _ _).mono ?_;rintro e w2 ⟨rfl, hb2⟩;have Dx := Dx.below hb2;have Dy := Dy.below hb2;have Dr := Dr.below hb2;have B := below_then B hb2;clear hb2;have fx := Dx.f9;have fy := Dy.f9;have fr := Dr.f9;clear fx fy fr;refine hK.out _ _ ?_ (fun hS => ?_)
 · exact ⟨Dx, Dy⟩
 clear hK K
 (try simp only [Act.put, qd, qe, qf])
 refine wpAnyH_ready (rs := [9]) (by kernel_rfl) (by simp) ?_;refine' AllReadyH.cons (o := ?oor12) ?hor12 (fun K hK => ?str12) AllReadyH.nil
 case hor12 =>
  simp only [qa, qb, qc];exact rfl
 go_simp
 go_at_call 96
 refine (sor_w _ _ _).mono ?_;rintro e w3 ⟨rfl, hb3⟩;have Dx := Dx.below hb3;have Dy := Dy.below hb3;have Dr := Dr.below hb3;have B := below_then B hb3;clear hb3;have fx := Dx.f9;have fy := Dy.f9;have fr := Dr.f9;clear fx fy fr;refine hK.out _ _ ?_ (fun hS => ?_)
 · exact ⟨Dx, Dy⟩
 clear hK K
 (try simp only [Act.put, qd, qe, qf])
 refine tkH 12 hS ?_;refine tkS 13 hS ?_;refine tkS 14 hS ?_;refine tkH 15 hS ?_;refine tkH 16 hS ?_;refine wpAnyH_ready (rs := [17]) (by kernel_rfl) (by simp) ?_;refine' AllReadyH.cons (o := ?oor18) ?hor18 (fun K hK => ?str18) AllReadyH.nil
 case hor18 =>
  simp only [qa, qb, qc];exact rfl
 have fx := Dx.f9;have fy := Dy.f9;have fr := Dr.f9;go_simp
 clear fx fy fr;have q9 := fun o0 o1 o2 o3 o4 o5 o6 o7 o8 => And.intro (Dx.fars9 (w.heap.size + 1 + 1) (by omega) o0 o1 o2 o3 o4 o5 o6 o7 o8) (And.intro (Dy.fars9 (w.heap.size + 1 + 1) (by omega) o0 o1 o2 o3 o4 o5 o6 o7 o8) (And.intro (Dr.puts9 o0 o1 o2 o3 o4 o5 o6 o7 o8) (B.sets9 (w.heap.size + 1 + 1) (by omega) o0 o1 o2 o3 o4 o5 o6 o7 o8)));obtain ⟨Dx, Dy, Dr, B⟩ := app9 q9 (x1 ||| y.first) (x2 ||| y.last) true;clear q9;refine hK.out _ _ ?_ (fun hS => ?_)
 · exact ⟨Dx, Dy⟩
 clear hK K
 (try simp only [Act.put, qd, qe, qf])
 refine wpAnyH_done (by kernel_rfl) ?_ _;clear hS;have fx := Dx.f9;have fy := Dy.f9;have fr := Dr.f9;go_wp2
 refine bodyPost_ret (by simp [results, Tryz.results94, go_sem, fr]; try rfl) rfl ?_;exact ⟨rfl, B⟩
set_option maxHeartbeats 4000000 in
theorem either_f (x1 x2 : Nat) (y : Rx.Pce) (w : World) :
  Calls Tryz.prog 94 #[pceV ⟨x1, x2, false⟩, pceV y] w fun e w' => e = .returned (pceV ⟨x1 ||| y.first, x2 ||| y.last, false || y.none⟩) ∧ Below w.heap.size w w' := by
 have B := Below.refl w.heap.size w;unfold pceV;dsimp only;go_enter Tryz.func94, Tryz.ntmps94
 go_wp2
 have Dx := (((At.nwp (w.heap.size) (w) (x1) (x2) false).alloc (pC (y.first) (y.last) y.none)).alloc zC)
 have Dy := ((At.nwp (w.heap.size + 1) ((w).alloc (pC (x1) (x2) false)) (y.first) (y.last) y.none).alloc zC)
 have Dr := (At.nwz (w.heap.size + 1 + 1) (((w).alloc (pC (x1) (x2) false)).alloc (pC (y.first) (y.last) y.none)))
 have B := (below_new (below_new (below_new B (pC (x1) (x2) false)) (pC (y.first) (y.last) y.none)) zC);generalize (((w).alloc (pC (x1) (x2) false)).alloc (pC (y.first) (y.last) y.none)).alloc zC = W0 at *;have Dx : At ((W0).drew) (w.heap.size) (pL (x1) (x2) false) := Dx.drew;have Dy : At ((W0).drew) (w.heap.size + 1) (pL (y.first) (y.last) y.none) := Dy.drew;have Dr : At ((W0).drew) (w.heap.size + 1 + 1) zL := Dr.drew;have B := B.drew;refine wp_region_held_drew (S := fun u => At u (w.heap.size) (pL (x1) (x2) false) ∧ At u (w.heap.size + 1) (pL (y.first) (y.last) y.none)) (by kernel_rfl) ?_ (fun hS => ?_)
 ·
  exact ⟨Dx, Dy⟩
 generalize (W0).drew = v0 at *;refine tkH 0 hS ?_;refine tkC 1 hS (fun _ h => h.1.f9) ?_;refine tkH 2 hS ?_;refine tkC 3 hS (fun _ h => h.2.f9) ?_;refine tkH 5 hS ?_;refine tkC 6 hS (fun _ h => h.1.f9) ?_;refine tkH 7 hS ?_;refine tkC 8 hS (fun _ h => h.2.f9) ?_;refine tkH 10 hS ?_;refine tkC 11 hS (fun _ h => h.1.f9) ?_;refine wpAnyH_ready (rs := [4]) (by kernel_rfl) (by simp) ?_;refine' AllReadyH.cons (o := ?oor30) ?hor30 (fun K hK => ?str30) AllReadyH.nil
 case hor30 =>
  simp only [qa, qb, qc];exact rfl
 go_simp
 go_at_call 96
 refine (sor_w _ _ _).mono ?_;rintro e w2 ⟨rfl, hb2⟩;have Dx := Dx.below hb2;have Dy := Dy.below hb2;have Dr := Dr.below hb2;have B := below_then B hb2;clear hb2;have fx := Dx.f9;have fy := Dy.f9;have fr := Dr.f9;clear fx fy fr;refine hK.out _ _ ?_ (fun hS => ?_)
 · exact ⟨Dx, Dy⟩
 clear hK K
 (try simp only [Act.put, qd, qe, qf])
 refine wpAnyH_ready (rs := [9]) (by kernel_rfl) (by simp) ?_;refine' AllReadyH.cons (o := ?oor31) ?hor31 (fun K hK => ?str31) AllReadyH.nil
 case hor31 =>
  simp only [qa, qb, qc];exact rfl
 go_simp
 go_at_call 96
 refine (sor_w _ _ _).mono ?_;rintro e w3 ⟨rfl, hb3⟩;have Dx := Dx.below hb3;have Dy := Dy.below hb3;have Dr := Dr.below hb3;have B := below_then B hb3;clear hb3;have fx := Dx.f9;have fy := Dy.f9;have fr := Dr.f9;clear fx fy fr;refine hK.out _ _ ?_ (fun hS => ?_)
 · exact ⟨Dx, Dy⟩
 clear hK K
 (try simp only [Act.put, qd, qe, qf])
 refine tkH 12 hS ?_;refine tkH 13 hS ?_;refine tkC 14 hS (fun _ h => h.2.f9) ?_;refine tkH 15 hS ?_;refine tkH 16 hS ?_;refine wpAnyH_ready (rs := [17]) (by kernel_rfl) (by simp) ?_;refine' AllReadyH.cons (o := ?oor37) ?hor37 (fun K hK => ?str37) AllReadyH.nil
 case hor37 =>
  simp only [qa, qb, qc];exact rfl
 have fx := Dx.f9;have fy := Dy.f9;have fr := Dr.f9;go_simp
 clear fx fy fr;have q9 := fun o0 o1 o2 o3 o4 o5 o6 o7 o8 => And.intro (Dx.fars9 (w.heap.size + 1 + 1) (by omega) o0 o1 o2 o3 o4 o5 o6 o7 o8) (And.intro (Dy.fars9 (w.heap.size + 1 + 1) (by omega) o0 o1 o2 o3 o4 o5 o6 o7 o8) (And.intro (Dr.puts9 o0 o1 o2 o3 o4 o5 o6 o7 o8) (B.sets9 (w.heap.size + 1 + 1) (by omega) o0 o1 o2 o3 o4 o5 o6 o7 o8)));obtain ⟨Dx, Dy, Dr, B⟩ := app9 q9 (x1 ||| y.first) (x2 ||| y.last) y.none;clear q9;refine hK.out _ _ ?_ (fun hS => ?_)
 · exact ⟨Dx, Dy⟩
 clear hK K
 (try simp only [Act.put, qd, qe, qf])
 refine wpAnyH_done (by kernel_rfl) ?_ _;clear hS;have fx := Dx.f9;have fy := Dy.f9;have fr := Dr.f9;go_wp2
 refine bodyPost_ret (by simp [results, Tryz.results94, go_sem, fr]; try rfl) rfl ?_;exact ⟨rfl, B⟩
theorem either_any (x y : Rx.Pce) (w : World) :
  Calls Tryz.prog 94 #[pceV x, pceV y] w fun e w' => e = .returned (pceV ⟨x.first ||| y.first, x.last ||| y.last, x.none || y.none⟩) ∧ Below w.heap.size w w' := by
 obtain ⟨x1, x2, xn⟩ := x;cases xn
 ·
  exact either_f x1 x2 y w
 ·
  exact either_t x1 x2 y w
end Go.Proofs.YthdoniefjmphaaaGreatDoor
