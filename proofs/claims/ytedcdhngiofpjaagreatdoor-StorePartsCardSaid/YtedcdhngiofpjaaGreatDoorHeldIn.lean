/- cmp.Compare of numbers, cmp.Or; line.Compare. -/
import Derived.Test.YtedcdhngiofpjaaGreatDoorProg
import Derived.Test.YtedcdhngiofpjaaGreatDoorAt
import Derived.Tactics
import Derived.Tactics2
import Derived.WalkKit
import Derived.Handy
import Derived.Lib.Hide
import Derived.Shelf.RegionOpen
import Derived.OrdersIn
import Derived.OrdersHeld
import Derived.OwnWalkIn
namespace Go.Proofs.YtedcdhngiofpjaaGreatDoor
open Go Go.Proofs Go.RowKit Go.Shelf
set_option maxRecDepth 100000
attribute [local go_sem] Oper.semAt_some
theorem nan64_no (x : Int) (w : World) : Calls Tryz.prog 94 #[.int .i64 x] w fun e w' => e = .returned (.bool false) ∧ w = w' := by
  go_enter Tryz.func94, Tryz.ntmps94
  go_wp2
  go_ret
  exact ⟨by simp, rfl⟩
theorem nanI_no (x : Int) (w : World) : Calls Tryz.prog 95 #[.int .i64 x] w fun e w' => e = .returned (.bool false) ∧ w = w' := by
  go_enter Tryz.func95, Tryz.ntmps95
  go_wp2
  go_ret
  exact ⟨by simp, rfl⟩
/-- how a number stands to another -/
def ordI (x y : Int) : Int := if x < y then -1 else if y < x then 1 else 0
theorem cmp64_any (x y : Int) (w : World) : Calls Tryz.prog 57 #[.int .i64 x, .int .i64 y] w fun e w' => e = .returned (.int .i64 (ordI x y)) ∧ w = w' := by
  have N := Lib.hid (fun s W => nan64_no s W)
  have R : Hid (ordI x y = if x < y then -1 else if y < x then 1 else 0) := rfl
  by_cases h1 : x < y
  · go_enter Tryz.func57, Tryz.ntmps57
    go_wp2_with fail
    refine (N.out _ _).mono ?_
    rintro e w1 ⟨rfl, rfl⟩
    go_wp2_with fail
    refine (N.out _ _).mono ?_
    rintro e w1 ⟨rfl, rfl⟩
    go_wp2
    go_ret
    exact ⟨by rw [R.out, if_pos h1]; rfl, rfl⟩
  · by_cases h2 : y < x
    · go_enter Tryz.func57, Tryz.ntmps57
      go_wp2_with fail
      refine (N.out _ _).mono ?_
      rintro e w1 ⟨rfl, rfl⟩
      go_wp2_with fail
      refine (N.out _ _).mono ?_
      rintro e w1 ⟨rfl, rfl⟩
      go_wp2
      go_ret
      exact ⟨(by have e1 : ¬ x < y := (by omega); rw [R.out, if_neg e1, if_pos h2]; rfl), rfl⟩
    · go_enter Tryz.func57, Tryz.ntmps57
      go_wp2_with fail
      refine (N.out _ _).mono ?_
      rintro e w1 ⟨rfl, rfl⟩
      go_wp2_with fail
      refine (N.out _ _).mono ?_
      rintro e w1 ⟨rfl, rfl⟩
      go_wp2
      go_ret
      exact ⟨(by have e1 : ¬ x < y := (by omega); have e2 : ¬ y < x := (by omega); rw [R.out, if_neg e1, if_neg e2]; rfl), rfl⟩
theorem cmpI_any (x y : Int) (w : World) : Calls Tryz.prog 58 #[.int .i64 x, .int .i64 y] w fun e w' => e = .returned (.int .i64 (ordI x y)) ∧ w = w' := by
  have N := Lib.hid (fun s W => nanI_no s W)
  have R : Hid (ordI x y = if x < y then -1 else if y < x then 1 else 0) := rfl
  by_cases h1 : x < y
  · go_enter Tryz.func58, Tryz.ntmps58
    go_wp2_with fail
    refine (N.out _ _).mono ?_
    rintro e w1 ⟨rfl, rfl⟩
    go_wp2_with fail
    refine (N.out _ _).mono ?_
    rintro e w1 ⟨rfl, rfl⟩
    go_wp2
    go_ret
    exact ⟨by rw [R.out, if_pos h1]; rfl, rfl⟩
  · by_cases h2 : y < x
    · go_enter Tryz.func58, Tryz.ntmps58
      go_wp2_with fail
      refine (N.out _ _).mono ?_
      rintro e w1 ⟨rfl, rfl⟩
      go_wp2_with fail
      refine (N.out _ _).mono ?_
      rintro e w1 ⟨rfl, rfl⟩
      go_wp2
      go_ret
      exact ⟨(by have e1 : ¬ x < y := (by omega); rw [R.out, if_neg e1, if_pos h2]; rfl), rfl⟩
    · go_enter Tryz.func58, Tryz.ntmps58
      go_wp2_with fail
      refine (N.out _ _).mono ?_
      rintro e w1 ⟨rfl, rfl⟩
      go_wp2_with fail
      refine (N.out _ _).mono ?_
      rintro e w1 ⟨rfl, rfl⟩
      go_wp2
      go_ret
      exact ⟨(by have e1 : ¬ x < y := (by omega); have e2 : ¬ y < x := (by omega); rw [R.out, if_neg e1, if_neg e2]; rfl), rfl⟩
/-- the first number that is not nought -/
def or3I (x y z : Int) : Int := if x = 0 then (if y = 0 then z else y) else x
theorem or3_any (b : Nat) (x y z : Int) (w : World) (h : At w b [.int .i64 x, .int .i64 y, .int .i64 z]) :
    Calls Tryz.prog 56 #[.slice (some ⟨b, 0, none⟩) 3 3] w fun e w' => e = .returned (.int .i64 (or3I x y z)) ∧ w = w' := by
  have R : Hid (or3I x y z = if x = 0 then (if y = 0 then z else y) else x) := rfl
  have c0 := h.cell 0 _ rfl
  have c1 := h.cell 1 _ rfl
  have c2 := h.cell 2 _ rfl
  have hb := h.lt
  clear h
  by_cases h1 : x = 0
  · subst h1
    by_cases h2 : y = 0
    · subst h2
      by_cases h3 : z = 0
      · subst h3
        go_enter Tryz.func56, Tryz.ntmps56
        go_wp2
        refine wp_loop_rounds 4 ?_
        rw [rounds_succ]
        go_wp2
        rw [rounds_succ]
        go_wp2
        rw [rounds_succ]
        go_wp2
        rw [rounds_succ]
        go_wp2
        go_ret
        exact ⟨by rw [R.out]; rfl, rfl⟩
      · go_enter Tryz.func56, Tryz.ntmps56
        go_wp2
        refine wp_loop_rounds 4 ?_
        rw [rounds_succ]
        go_wp2
        rw [rounds_succ]
        go_wp2
        rw [rounds_succ]
        go_wp2
        go_ret
        exact ⟨by rw [R.out]; rfl, rfl⟩
    · go_enter Tryz.func56, Tryz.ntmps56
      go_wp2
      refine wp_loop_rounds 4 ?_
      rw [rounds_succ]
      go_wp2
      rw [rounds_succ]
      go_wp2
      go_ret
      exact ⟨by rw [R.out, if_pos trivial, if_neg h2]; rfl, rfl⟩
  · go_enter Tryz.func56, Tryz.ntmps56
    go_wp2
    refine wp_loop_rounds 4 ?_
    rw [rounds_succ]
    go_wp2
    go_ret
    exact ⟨by rw [R.out, if_neg h1]; rfl, rfl⟩
/-- how a sample stands to another: by time, source, place -/
def cmpS (a2 a3 a4 b2 b3 b4 : Int) : Int := or3I (ordI a2 b2) (ordI a3 b3) (ordI a4 b4)
set_option maxHeartbeats 4000000 in
theorem lcompare_any (va vb : Value) (a1 a2 a3 a4 b1 b2 b3 b4 : Int) (w : World) :
    Calls Tryz.prog 28 #[.agg #[va, .int .i64 a1, .int .i64 a2, .int .i64 a3, .int .i64 a4], .agg #[vb, .int .i64 b1, .int .i64 b2, .int .i64 b3, .int .i64 b4]] w fun e w' => e = .returned (.int .i64 (cmpS a2 a3 a4 b2 b3 b4)) ∧ Below w.heap.size w w' := by
  have C := Lib.hid (fun x y W => (cmp64_any x y W).mono (fun e w' h => (⟨h.1, h.2 ▸ Below.refl _ _⟩ : e = .returned (.int .i64 (ordI x y)) ∧ Below W.heap.size W w')))
  have D := Lib.hid (fun x y W => (cmpI_any x y W).mono (fun e w' h => (⟨h.1, h.2 ▸ Below.refl _ _⟩ : e = .returned (.int .i64 (ordI x y)) ∧ Below W.heap.size W w')))
  have O := Lib.hid (fun x y z W => or3_any W.heap.size x y z (W.alloc (.cells #[.int .i64 x, .int .i64 y, .int .i64 z] 3)) (At.new W _ _))
  have R : Hid (cmpS a2 a3 a4 b2 b3 b4 = or3I (ordI a2 b2) (ordI a3 b3) (ordI a4 b4)) := rfl
  go_enter Tryz.func28, Tryz.ntmps28
  have DP : At (((w).alloc (.cells #[va, .int .i64 a1, .int .i64 a2, .int .i64 a3, .int .i64 a4] 33)).alloc (.cells #[vb, .int .i64 b1, .int .i64 b2, .int .i64 b3, .int .i64 b4] 33)) (w.heap.size) [va, .int .i64 a1, .int .i64 a2, .int .i64 a3, .int .i64 a4] := by have h := ((At.new (w) #[va, .int .i64 a1, .int .i64 a2, .int .i64 a3, .int .i64 a4] 33).alloc (.cells #[vb, .int .i64 b1, .int .i64 b2, .int .i64 b3, .int .i64 b4] 33)); simpa using h
  have DQ : At (((w).alloc (.cells #[va, .int .i64 a1, .int .i64 a2, .int .i64 a3, .int .i64 a4] 33)).alloc (.cells #[vb, .int .i64 b1, .int .i64 b2, .int .i64 b3, .int .i64 b4] 33)) (w.heap.size + 1) [vb, .int .i64 b1, .int .i64 b2, .int .i64 b3, .int .i64 b4] := by have h := (At.new ((w).alloc (.cells #[va, .int .i64 a1, .int .i64 a2, .int .i64 a3, .int .i64 a4] 33)) #[vb, .int .i64 b1, .int .i64 b2, .int .i64 b3, .int .i64 b4] 33); simpa using h
  have B : Below w.heap.size w (((w).alloc (.cells #[va, .int .i64 a1, .int .i64 a2, .int .i64 a3, .int .i64 a4] 33)).alloc (.cells #[vb, .int .i64 b1, .int .i64 b2, .int .i64 b3, .int .i64 b4] 33)) := below_new (below_new (Below.refl _ _) (.cells #[va, .int .i64 a1, .int .i64 a2, .int .i64 a3, .int .i64 a4] 33)) (.cells #[vb, .int .i64 b1, .int .i64 b2, .int .i64 b3, .int .i64 b4] 33)
  go_wp2_with fail
  generalize ((w).alloc (.cells #[va, .int .i64 a1, .int .i64 a2, .int .i64 a3, .int .i64 a4] 33)).alloc (.cells #[vb, .int .i64 b1, .int .i64 b2, .int .i64 b3, .int .i64 b4] 33) = W2 at *
  have aQ0 := DQ.cell 0 _ rfl
  have aQ1 := DQ.cell 1 _ rfl
  have aQ2 := DQ.cell 2 _ rfl
  have aQ3 := DQ.cell 3 _ rfl
  have aQ4 := DQ.cell 4 _ rfl
  have nQ := DQ.lt
  have aP0 := DP.cell 0 _ rfl
  have aP1 := DP.cell 1 _ rfl
  have aP2 := DP.cell 2 _ rfl
  have aP3 := DP.cell 3 _ rfl
  have aP4 := DP.cell 4 _ rfl
  have nP := DP.lt
  refine wp_region_held_drew (S := fun w' => w'.cell? ⟨w.heap.size + 1, 0, none⟩ = some (vb) ∧ w'.cell? ⟨w.heap.size + 1, 1, none⟩ = some (.int .i64 b1) ∧ w'.cell? ⟨w.heap.size + 1, 2, none⟩ = some (.int .i64 b2) ∧ w'.cell? ⟨w.heap.size + 1, 3, none⟩ = some (.int .i64 b3) ∧ w'.cell? ⟨w.heap.size + 1, 4, none⟩ = some (.int .i64 b4) ∧ w'.cell? ⟨w.heap.size, 0, none⟩ = some (va) ∧ w'.cell? ⟨w.heap.size, 1, none⟩ = some (.int .i64 a1) ∧ w'.cell? ⟨w.heap.size, 2, none⟩ = some (.int .i64 a2) ∧ w'.cell? ⟨w.heap.size, 3, none⟩ = some (.int .i64 a3) ∧ w'.cell? ⟨w.heap.size, 4, none⟩ = some (.int .i64 a4) ∧ Below w.heap.size w w') (by kernel_rfl) ?_ (fun hS => ?_)
  · (try dsimp only)
    (repeat' apply And.intro) <;> first | go_cell | exact B.drew
  refine' wpAnyH_take (i := 0) (oi := ?oiT0) (v := ?vT0) ?hiT0 (by kernel_rfl) (by kernel_rfl) (by kernel_rfl) ?hQT0 ?hyT0 hS ?restT0
  case hiT0 =>
    simp only [List.getElem?_toArray, List.getElem?_cons_succ, List.getElem?_cons_zero]
    exact rfl
  case hQT0 => exact fun _ _ _ h => h
  case hyT0 =>
    refine Or.inl ⟨by rfl, ?_⟩
    intro w hSw
    (try dsimp only at hSw)
    go_simp
    (try with_reducible rfl)
  (try simp only [Act.put, List.setIfInBounds_toArray, List.set_cons_zero, List.set_cons_succ])
  refine' wpAnyH_take (i := 1) (oi := ?oiT1) (v := ?vT1) ?hiT1 (by kernel_rfl) (by kernel_rfl) (by kernel_rfl) ?hQT1 ?hyT1 hS ?restT1
  case hiT1 =>
    simp only [List.getElem?_toArray, List.getElem?_cons_succ, List.getElem?_cons_zero]
    exact rfl
  case hQT1 => exact fun _ _ _ h => h
  case hyT1 =>
    refine Or.inl ⟨by rfl, ?_⟩
    intro w hSw
    (try dsimp only at hSw)
    go_simp
    (try with_reducible rfl)
  (try simp only [Act.put, List.setIfInBounds_toArray, List.set_cons_zero, List.set_cons_succ])
  refine' wpAnyH_take (i := 2) (oi := ?oiT2) (v := ?vT2) ?hiT2 (by kernel_rfl) (by kernel_rfl) (by kernel_rfl) ?hQT2 ?hyT2 hS ?restT2
  case hiT2 =>
    simp only [List.getElem?_toArray, List.getElem?_cons_succ, List.getElem?_cons_zero]
    exact rfl
  case hQT2 => exact fun _ _ _ h => h
  case hyT2 =>
    refine Or.inl ⟨by rfl, ?_⟩
    intro w hSw
    (try dsimp only at hSw)
    go_simp
    (try with_reducible rfl)
  (try simp only [Act.put, List.setIfInBounds_toArray, List.set_cons_zero, List.set_cons_succ])
  refine' wpAnyH_take (i := 3) (oi := ?oiT3) (v := ?vT3) ?hiT3 (by kernel_rfl) (by kernel_rfl) (by kernel_rfl) ?hQT3 ?hyT3 hS ?restT3
  case hiT3 =>
    simp only [List.getElem?_toArray, List.getElem?_cons_succ, List.getElem?_cons_zero]
    exact rfl
  case hQT3 => exact fun _ _ _ h => h
  case hyT3 =>
    refine Or.inl ⟨by rfl, ?_⟩
    intro w hSw
    (try dsimp only at hSw)
    go_simp
    (try with_reducible rfl)
  (try simp only [Act.put, List.setIfInBounds_toArray, List.set_cons_zero, List.set_cons_succ])
  refine' wpAnyH_take (i := 5) (oi := ?oiT5) (v := ?vT5) ?hiT5 (by kernel_rfl) (by kernel_rfl) (by kernel_rfl) ?hQT5 ?hyT5 hS ?restT5
  case hiT5 =>
    simp only [List.getElem?_toArray, List.getElem?_cons_succ, List.getElem?_cons_zero]
    exact rfl
  case hQT5 => exact fun _ _ _ h => h
  case hyT5 =>
    refine Or.inl ⟨by rfl, ?_⟩
    intro w hSw
    (try dsimp only at hSw)
    go_simp
    (try with_reducible rfl)
  (try simp only [Act.put, List.setIfInBounds_toArray, List.set_cons_zero, List.set_cons_succ])
  refine' wpAnyH_take (i := 6) (oi := ?oiT6) (v := ?vT6) ?hiT6 (by kernel_rfl) (by kernel_rfl) (by kernel_rfl) ?hQT6 ?hyT6 hS ?restT6
  case hiT6 =>
    simp only [List.getElem?_toArray, List.getElem?_cons_succ, List.getElem?_cons_zero]
    exact rfl
  case hQT6 => exact fun _ _ _ h => h
  case hyT6 =>
    refine Or.inl ⟨by rfl, ?_⟩
    intro w hSw
    (try dsimp only at hSw)
    go_simp
    (try with_reducible rfl)
  (try simp only [Act.put, List.setIfInBounds_toArray, List.set_cons_zero, List.set_cons_succ])
  refine' wpAnyH_take (i := 7) (oi := ?oiT7) (v := ?vT7) ?hiT7 (by kernel_rfl) (by kernel_rfl) (by kernel_rfl) ?hQT7 ?hyT7 hS ?restT7
  case hiT7 =>
    simp only [List.getElem?_toArray, List.getElem?_cons_succ, List.getElem?_cons_zero]
    exact rfl
  case hQT7 => exact fun _ _ _ h => h
  case hyT7 =>
    refine Or.inl ⟨by rfl, ?_⟩
    intro w hSw
    (try dsimp only at hSw)
    go_simp
    (try with_reducible rfl)
  (try simp only [Act.put, List.setIfInBounds_toArray, List.set_cons_zero, List.set_cons_succ])
  refine' wpAnyH_take (i := 8) (oi := ?oiT8) (v := ?vT8) ?hiT8 (by kernel_rfl) (by kernel_rfl) (by kernel_rfl) ?hQT8 ?hyT8 hS ?restT8
  case hiT8 =>
    simp only [List.getElem?_toArray, List.getElem?_cons_succ, List.getElem?_cons_zero]
    exact rfl
  case hQT8 => exact fun _ _ _ h => h
  case hyT8 =>
    refine Or.inl ⟨by rfl, ?_⟩
    intro w hSw
    (try dsimp only at hSw)
    go_simp
    (try with_reducible rfl)
  (try simp only [Act.put, List.setIfInBounds_toArray, List.set_cons_zero, List.set_cons_succ])
  refine' wpAnyH_take (i := 10) (oi := ?oiT10) (v := ?vT10) ?hiT10 (by kernel_rfl) (by kernel_rfl) (by kernel_rfl) ?hQT10 ?hyT10 hS ?restT10
  case hiT10 =>
    simp only [List.getElem?_toArray, List.getElem?_cons_succ, List.getElem?_cons_zero]
    exact rfl
  case hQT10 => exact fun _ _ _ h => h
  case hyT10 =>
    refine Or.inl ⟨by rfl, ?_⟩
    intro w hSw
    (try dsimp only at hSw)
    go_simp
    (try with_reducible rfl)
  (try simp only [Act.put, List.setIfInBounds_toArray, List.set_cons_zero, List.set_cons_succ])
  refine' wpAnyH_take (i := 11) (oi := ?oiT11) (v := ?vT11) ?hiT11 (by kernel_rfl) (by kernel_rfl) (by kernel_rfl) ?hQT11 ?hyT11 hS ?restT11
  case hiT11 =>
    simp only [List.getElem?_toArray, List.getElem?_cons_succ, List.getElem?_cons_zero]
    exact rfl
  case hQT11 => exact fun _ _ _ h => h
  case hyT11 =>
    refine Or.inl ⟨by rfl, ?_⟩
    intro w hSw
    (try dsimp only at hSw)
    go_simp
    (try with_reducible rfl)
  (try simp only [Act.put, List.setIfInBounds_toArray, List.set_cons_zero, List.set_cons_succ])
  refine' wpAnyH_take (i := 12) (oi := ?oiT12) (v := ?vT12) ?hiT12 (by kernel_rfl) (by kernel_rfl) (by kernel_rfl) ?hQT12 ?hyT12 hS ?restT12
  case hiT12 =>
    simp only [List.getElem?_toArray, List.getElem?_cons_succ, List.getElem?_cons_zero]
    exact rfl
  case hQT12 => exact fun _ _ _ h => h
  case hyT12 =>
    refine Or.inl ⟨by rfl, ?_⟩
    intro w hSw
    (try dsimp only at hSw)
    go_simp
    (try with_reducible rfl)
  (try simp only [Act.put, List.setIfInBounds_toArray, List.set_cons_zero, List.set_cons_succ])
  refine' wpAnyH_take (i := 13) (oi := ?oiT13) (v := ?vT13) ?hiT13 (by kernel_rfl) (by kernel_rfl) (by kernel_rfl) ?hQT13 ?hyT13 hS ?restT13
  case hiT13 =>
    simp only [List.getElem?_toArray, List.getElem?_cons_succ, List.getElem?_cons_zero]
    exact rfl
  case hQT13 => exact fun _ _ _ h => h
  case hyT13 =>
    refine Or.inl ⟨by rfl, ?_⟩
    intro w hSw
    (try dsimp only at hSw)
    go_simp
    (try with_reducible rfl)
  (try simp only [Act.put, List.setIfInBounds_toArray, List.set_cons_zero, List.set_cons_succ])
  refine wpAnyH_ready (rs := [4]) (by kernel_rfl) (by simp) ?_
  refine' AllReadyH.cons (o := ?ooC4) ?hoC4 (fun K hK => ?stepC4) AllReadyH.nil
  case hoC4 =>
    simp only [List.getElem?_toArray, List.getElem?_cons_succ, List.getElem?_cons_zero]
    exact rfl
  go_simp
  go_at_call 57
  refine (C.out a2 b2 _).mono ?_
  rintro e w1 ⟨rfl, hb1⟩
  go_wp2_with fail
  refine hK.out _ _ ?_ (fun hS => ?_)
  · (try dsimp only)
    go_split_ands
    (repeat' apply And.intro) <;> first | (refine cell_later hb1 ?_; with_reducible assumption) | (refine below_then ?_ hb1; with_reducible assumption)
  clear hK K hb1
  (try simp only [Act.put, List.setIfInBounds_toArray, List.set_cons_zero, List.set_cons_succ])
  refine wpAnyH_ready (rs := [9]) (by kernel_rfl) (by simp) ?_
  refine' AllReadyH.cons (o := ?ooC9) ?hoC9 (fun K hK => ?stepC9) AllReadyH.nil
  case hoC9 =>
    simp only [List.getElem?_toArray, List.getElem?_cons_succ, List.getElem?_cons_zero]
    exact rfl
  go_simp
  go_at_call 58
  refine (D.out a3 b3 _).mono ?_
  rintro e w1 ⟨rfl, hb1⟩
  go_wp2_with fail
  refine hK.out _ _ ?_ (fun hS => ?_)
  · (try dsimp only)
    go_split_ands
    (repeat' apply And.intro) <;> first | (refine cell_later hb1 ?_; with_reducible assumption) | (refine below_then ?_ hb1; with_reducible assumption)
  clear hK K hb1
  (try simp only [Act.put, List.setIfInBounds_toArray, List.set_cons_zero, List.set_cons_succ])
  refine wpAnyH_ready (rs := [14]) (by kernel_rfl) (by simp) ?_
  refine' AllReadyH.cons (o := ?ooC14) ?hoC14 (fun K hK => ?stepC14) AllReadyH.nil
  case hoC14 =>
    simp only [List.getElem?_toArray, List.getElem?_cons_succ, List.getElem?_cons_zero]
    exact rfl
  go_simp
  go_at_call 57
  refine (C.out a4 b4 _).mono ?_
  rintro e w1 ⟨rfl, hb1⟩
  go_wp2_with fail
  refine hK.out _ _ ?_ (fun hS => ?_)
  · (try dsimp only)
    go_split_ands
    (repeat' apply And.intro) <;> first | (refine cell_later hb1 ?_; with_reducible assumption) | (refine below_then ?_ hb1; with_reducible assumption)
  clear hK K hb1
  (try simp only [Act.put, List.setIfInBounds_toArray, List.set_cons_zero, List.set_cons_succ])
  refine wpAnyH_ready (rs := [15]) (by kernel_rfl) (by simp) ?_
  refine' AllReadyH.cons (o := ?oo15) ?ho15 (fun K hK => ?st15) AllReadyH.nil
  case ho15 =>
    simp only [List.getElem?_toArray, List.getElem?_cons_succ, List.getElem?_cons_zero]
    exact rfl
  go_simp
  refine hK.out _ _ ?_ (fun hS => ?_)
  · (try dsimp only)
    go_split_ands
    (repeat' apply And.intro) <;> first | (refine cell_later (below_cells _) ?_; with_reducible assumption) | (refine below_new ?_ _; with_reducible assumption)
  clear hK K
  (try simp only [Act.put, List.setIfInBounds_toArray, List.set_cons_zero, List.set_cons_succ])
  refine wpAnyH_ready (rs := [16]) (by kernel_rfl) (by simp) ?_
  refine' AllReadyH.cons (o := ?oo16) ?ho16 (fun K hK => ?st16) AllReadyH.nil
  case ho16 =>
    simp only [List.getElem?_toArray, List.getElem?_cons_succ, List.getElem?_cons_zero]
    exact rfl
  go_simp
  go_at_call 56
  refine (O.out _ _ _ w1).mono ?_
  rintro e w3 ⟨rfl, rfl⟩
  go_wp2_with fail
  refine hK.out _ _ hS (fun hS => ?_)
  clear hK K
  (try simp only [Act.put, List.setIfInBounds_toArray, List.set_cons_zero, List.set_cons_succ])
  refine' wpAnyH_take (i := 17) (oi := ?oi17) (v := ?v17) ?hi17 (by kernel_rfl) (by kernel_rfl) (by kernel_rfl) ?hQ17 ?hy17 hS ?rest17
  case hi17 =>
    simp only [List.getElem?_toArray, List.getElem?_cons_succ, List.getElem?_cons_zero]
    exact rfl
  case hQ17 => exact fun _ _ _ h => h
  case hy17 =>
    refine Or.inl ⟨by rfl, ?_⟩
    intro w hSw
    (try dsimp only at hSw)
    go_simp
    (try with_reducible rfl)
  (try simp only [Act.put, List.setIfInBounds_toArray, List.set_cons_zero, List.set_cons_succ])
  refine wpAnyH_done (by kernel_rfl) ?_ _
  have hB := hS.2.2.2.2.2.2.2.2.2.2
  clear hS
  go_wp2
  go_ret
  exact ⟨by rw [R.out]; rfl, hB⟩
end Go.Proofs.YtedcdhngiofpjaaGreatDoor
/- A statement of open order inside a round of a loop over a function: what only reads may come first; one operation, which waits for all, may write. -/
namespace Go.Proofs.YtedcdhngiofpjaaGreatDoor
open Go Go.Proofs
section
variable {F : Fence} {n : Nat} {P : Program} {ops : Array Oper} {Q : Exit → Act → World → Prop} {md : Region.Mode} {S : World → Prop} {m : Nat}
def noDefer (ops : Array Oper) : Bool := ops.all fun o => match o.op with | .defer _ => false | _ => true
theorem noDefer_at (h : noDefer ops = true) {j : Nat} {o : Oper} (ho : ops[j]? = some o) : ∀ c, o.op ≠ .defer c := fun c e => by
  have hm := Array.all_eq_true'.1 h o (Array.mem_of_getElem? ho)
  rw [e] at hm
  exact Bool.false_ne_true hm
/-- whatever the world, as long as S holds: this value, and no call of a function -/
def ReadsIn (P : Program) (ops : Array Oper) (S : World → Prop) (o : Oper) (v : Value) (a : Act) : Prop := YieldsIf P ops S o v a ∧ ∀ w, o.about P w a.eval = none
/-- any order from here on; behind each operation but number m the condition S holds -/
def anyL (F : Fence) (n : Nat) (P : Program) (md : Region.Mode) (ops : Array Oper) (Q : Exit → Act → World → Prop) (S : World → Prop) (m : Nat) : Nat → Array Bool → Act → World → Prop
  | 0, l, a, w => Region.ready md ops l = [] ∧ Q .normal a w
  | k + 1, l, a, w => (Region.ready md ops l = [] → Q .normal a w) ∧ ∀ i ∈ Region.ready md ops l, wpOpIn F n P ops Q i (fun b u => (i = m ∨ S u) ∧ anyL F n P md ops Q S m k (l.setIfInBounds i true) b u) a w
theorem anyL_is : ∀ (k : Nat) (l : Array Bool) (a : Act) (w : World), anyL F n P md ops Q S m k l a w → wpAnyIn F n P md ops Q k l a w
  | 0, _, _, _, h => h
  | k + 1, _, _, _, h => ⟨h.1, fun i hi => wpOpIn_mono (fun b u hh => anyL_is k _ b u hh.2) (h.2 i hi)⟩
theorem reads_go {i : Nat} {o : Oper} {v : Value} {a : Act} {w : World} {K : Act → World → Prop} (hd : noDefer ops = true) (hi : ops[i]? = some o) (hy : ReadsIn P ops S o v a) (hS : S w) (h : K (a.put o.dst v) w) : wpOpIn F n P ops Q i K a w := by
  refine wpOpIn_step hi (fun K' hK' => ?_)
  rcases hy.1 with ⟨hw, hv⟩ | ⟨hw, rfl⟩
  · rw [if_pos hw]
    refine ⟨fun f hf => (by rw [hy.2 w] at hf; cases hf), ?_⟩
    rw [Oper.semAt_plain F _ _ (noDefer_at hd hi), hv w hS]
    exact hK' _ _ h
  · rw [if_neg (by rw [hw]; exact Bool.false_ne_true)]
    exact ⟨fun f hf => (by rw [hy.2 w] at hf; cases hf), hK' _ _ h⟩
theorem reads_stay {o : Oper} {v : Value} {a b : Act} (hy : ReadsIn P ops S o v a) (he : execOp b.eval o = execOp a.eval o) (hw : Region.wanted o (yielded ops b.tmps) = Region.wanted o (yielded ops a.tmps)) (hb : ∀ w, o.about P w b.eval = o.about P w a.eval) : ReadsIn P ops S o v b :=
  ⟨hy.1.of_same he hw, fun w => (hb w).trans (hy.2 w)⟩
theorem reads_past {j : Nat} {oi oj : Oper} {v : Value} {K : Act → World → Prop} {a : Act} {w : World} (hd : noDefer ops = true) (hj : ops[j]? = some oj) (hap : oi.apart ops oj = true)
    (si : ∀ cs b, oi.op ≠ .select cs b) (sj : ∀ cs b, oj.op ≠ .select cs b) (hQ : ∀ c a w, Q (.panic c) (a.put oi.dst v) w → Q (.panic c) a w)
    (hy : ReadsIn P ops S oi v a) (h : wpOpIn F n P ops Q j K (a.put oi.dst v) w) : wpOpIn F n P ops Q j (fun b u => ReadsIn P ops S oi v b ∧ K (b.put oi.dst v) u) a w := by
  obtain ⟨p1, p2, p3⟩ := Oper.apart_spec hap
  have st0 : ∀ b : Act, ReadsIn P ops S oi v b → ∀ u, ReadsIn P ops S oi v (b.put oj.dst u) := fun b hb u => reads_stay hb (execOp_put oi si b oj.dst u p3) (wanted_put oi b oj.dst u p3) (fun w => about_put oi w b oj.dst u p3)
  have st : ∀ u, ReadsIn P ops S oi v (a.put oj.dst u) := fun u => st0 a hy u
  have swap : ∀ u, (a.put oj.dst u).put oi.dst v = (a.put oi.dst v).put oj.dst u := fun u => (Act.put_comm a v u p2).symm
  have hpl := noDefer_at hd hj
  unfold wpOpIn at h ⊢
  simp only [hj] at h ⊢
  rw [wanted_put oj a oi.dst v p1, about_put oj w a oi.dst v p1] at h
  by_cases hw : Region.wanted oj (yielded ops a.tmps) = true
  · rw [if_pos hw] at h ⊢
    obtain ⟨g1, g2⟩ := h
    refine ⟨by rwa [about_put oj w a oi.dst v p1] at g1, ?_⟩
    rw [Oper.semAt_plain F _ _ hpl, execOp_put oj sj a oi.dst v p1] at g2
    rw [Oper.semAt_plain F _ _ hpl]
    revert g2
    cases (execOp a.eval oj).run P w with
    | ok x u =>
      cases x with
      | value y => intro g; exact ⟨st y, by rw [swap]; exact g⟩
      | skip => intro g; exact ⟨st undef, by rw [swap]; exact g⟩
      | defer d =>
        intro g
        refine ⟨st0 { a with defers := d :: a.defers } (reads_stay hy rfl rfl (fun _ => rfl)) undef, ?_⟩
        have e := Act.put_comm { a with defers := d :: a.defers } v undef p2
        rw [← e, ← Act.put_defers]
        exact g
      | enter f args =>
        intro g
        refine ⟨g.1, g.2.mono fun e u' he => ?_⟩
        cases e with
        | returned y => exact ⟨st y, by rw [swap]; exact he⟩
        | panicked c => exact hQ _ _ _ he
        | outgrown => exact he
      | row r args => intro g; exact ⟨g.1, RowsIn.mono g.2 fun y u' he => ⟨st y, by rw [swap]; exact he⟩⟩
      | round l f t s b =>
        intro g
        refine ⟨g.1, RoundIn.mono g.2 fun e u' he => ?_⟩
        cases e with
        | returned y => exact ⟨st y, by rw [swap]; exact he⟩
        | panicked c => exact hQ _ _ _ he
        | outgrown => exact he
      | _ => intro g; exact g
    | halt x u =>
      cases x with
      | panic y => intro g; exact hQ _ _ _ g
      | _ => intro g; exact g
  · rw [if_neg hw] at h ⊢
    exact ⟨h.1, st undef, by rw [swap]; exact h.2⟩
/-- number m waits for number i itself -/
def waits (md : Region.Mode) (ops : Array Oper) (m i : Nat) : Bool := match ops[m]? with | some o => o.after.any (fun e => Region.binds md e && e.on == i) | none => true
theorem waits_not {l : Array Bool} {i : Nat} (hw : waits md ops m i = true) (hi : i ∈ Region.ready md ops l) : m ∉ Region.ready md ops l := fun hm => by
  obtain ⟨_, om, hom, hall⟩ := mem_ready.1 hm
  unfold waits at hw
  rw [hom] at hw
  obtain ⟨e, he, hb⟩ := Array.any_eq_true'.1 hw
  rw [Bool.and_eq_true, beq_iff_eq] at hb
  have h1 := hall e he hb.1
  have h0 := (mem_ready.1 hi).1
  rw [hb.2] at h1
  rcases Nat.lt_or_ge i l.size with h' | h'
  · simp [h'] at h0 h1; rw [h0] at h1; cases h1
  · simp [Array.getElem?_eq_none h'] at h1
theorem anyL_first {i : Nat} {oi : Oper} {v : Value} (hd : noDefer ops = true) (hi : ops[i]? = some oi) (hsel : ∀ (j : Nat) (o : Oper) cs b, ops[j]? = some o → o.op ≠ .select cs b)
    (hQ : ∀ c a w, Q (.panic c) (a.put oi.dst v) w → Q (.panic c) a w) (hwt : waits md ops m i = true) : ∀ (k : Nat) (l : Array Bool) (a : Act) (w : World),
      (∀ j oj, ops[j]? = some oj → j ≠ i → l.getD j true = false → (∀ e ∈ oj.after, Region.binds md e = true → e.on ≠ i) → oi.apart ops oj = true) →
      i ∈ Region.ready md ops l → ReadsIn P ops S oi v a → S w → anyL F n P md ops Q S m k (l.setIfInBounds i true) (a.put oi.dst v) w → anyL F n P md ops Q S m (k + 1) l a w
  | 0, l, a, w, _, hr, hy, hS, H => by
    refine ⟨fun h => (by rw [h] at hr; cases hr), fun j hj => ?_⟩
    by_cases e : j = i
    · subst e; exact reads_go hd hi hy hS ⟨.inr hS, H⟩
    · have := ready_mono hj e; rw [H.1] at this; cases this
  | k + 1, l, a, w, hfree, hr, hy, hS, H => by
    refine ⟨fun h => (by rw [h] at hr; cases hr), fun j hj => ?_⟩
    by_cases e : j = i
    · subst e; exact reads_go hd hi hy hS ⟨.inr hS, H⟩
    · have hjm : j ≠ m := fun e' => waits_not hwt hr (e' ▸ hj)
      obtain ⟨un, oj, hoj, hall⟩ := mem_ready.1 hj
      have hnot : ∀ e ∈ oj.after, Region.binds md e = true → e.on ≠ i := fun ed he hb heq => by
        have h1 := hall ed he hb
        have h0 := (mem_ready.1 hr).1
        rw [heq] at h1
        rcases Nat.lt_or_ge i l.size with h' | h'
        · simp [h'] at h0 h1; rw [h0] at h1; cases h1
        · simp [Array.getElem?_eq_none h'] at h1
      have h2 := reads_past hd hoj (hfree j oj hoj e un hnot) (fun cs b => hsel i oi cs b hi) (fun cs b => hsel j oj cs b hoj) hQ hy (H.2 j (ready_mono hj e))
      refine wpOpIn_mono (fun b u h3 => ?_) h2
      have hSu : S u := h3.2.1.resolve_left hjm
      refine ⟨.inr hSu, anyL_first hd hi hsel hQ hwt k (l.setIfInBounds j true) b u ?_ (ready_mono hr (Ne.symm e)) h3.1 hSu ?_⟩
      · intro q oq hq hqi unq hno
        refine hfree q oq hq hqi ?_ hno
        by_cases hjq : j = q
        · subst hjq; exact un
        · rw [getD_set_ne true hjq] at unq; exact unq
      · rw [Array.setIfInBounds_comm _ _ e]; exact h3.2.2
theorem anyL_take {i : Nat} {oi : Oper} {v : Value} {k : Nat} {l : Array Bool} {a : Act} {w : World} (hd : noDefer ops = true) (hi : ops[i]? = some oi) (hs : Region.noSelect ops = true) (hf : Region.free md ops l i = true) (hr : (Region.ready md ops l).contains i = true) (hwt : waits md ops m i = true)
    (hQ : ∀ c a w, Q (.panic c) (a.put oi.dst v) w → Q (.panic c) a w) (hy : YieldsIf P ops S oi v a) (hab : ∀ w, oi.about P w a.eval = none) (hS : S w) (h : anyL F n P md ops Q S m k (l.setIfInBounds i true) (a.put oi.dst v) w) : anyL F n P md ops Q S m (k + 1) l a w :=
  anyL_first hd hi (Region.noSelect_spec hs) hQ hwt k l a w (Region.free_spec hi hf) (by simpa using hr) ⟨hy, hab⟩ hS h
/-- all that is left: number m -/
theorem anyL_last {o : Oper} {k : Nat} {l : Array Bool} {a : Act} {w : World} (hr : Region.ready md ops l = [m]) (ho : ops[m]? = some o) (hw : Region.wanted o (yielded ops a.tmps) = true)
    (h : ∀ K : Act → World → Prop, (∀ b u, anyL F n P md ops Q S m k (l.setIfInBounds m true) b u → K b u) → o.wpIn F n P a w K Q) : anyL F n P md ops Q S m (k + 1) l a w :=
  ⟨fun h0 => (by rw [hr] at h0; cases h0), fun i hi => by
    rw [hr] at hi
    obtain rfl := List.mem_singleton.1 hi
    unfold wpOpIn
    simp only [ho]
    rw [if_pos hw]
    exact h _ (fun b u hh => ⟨.inl trivial, hh⟩)⟩
theorem anyL_done {l : Array Bool} {a : Act} {w : World} (hr : Region.ready md ops l = []) (h : Q .normal a w) : ∀ k, anyL F n P md ops Q S m k l a w
  | 0 => ⟨hr, h⟩
  | _ + 1 => ⟨fun _ => h, fun i hi => by rw [hr] at hi; cases hi⟩
theorem region_anyL {id : Nat} {a : Act} {w : World} (S : World → Prop) (m : Nat) (hm : P.follows .mixedOrders = true) (h : S w.drew → anyL F n P .any ops Q S m ops.size (Array.replicate ops.size false) a w.drew) (hS : S w.drew) : (Code.region id ops true).wpIn F n P Q a w :=
  wpIn_region_any hm (anyL_is _ _ _ _ (h hS))
end
end Go.Proofs.YtedcdhngiofpjaaGreatDoor
