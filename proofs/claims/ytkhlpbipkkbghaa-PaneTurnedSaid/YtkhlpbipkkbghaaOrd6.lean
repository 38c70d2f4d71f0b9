/- cmp.Compare of numbers, cmp.Or; line.Compare. -/
import Derived.Test.YtkhlpbipkkbghaaProg
import Derived.Test.YtkhlpbipkkbghaaAt
import Derived.Tactics
import Derived.Tactics2
import Derived.WalkKit
import Derived.Handy
import Derived.Lib.Hide
import Derived.Shelf.RegionOpen
namespace Go.Proofs.Ytkhlpbipkkbghaa
open Go Go.Proofs Go.RowKit Go.Shelf
set_option maxRecDepth 100000
attribute [local go_sem] Oper.semAt_some
theorem nan64_no (x : Int) (w : World) : Calls Try.prog 44 #[.int .i64 x] w fun e w' => e = .returned (.bool false) ∧ w = w' := by
  go_enter Try.func44, Try.ntmps44
  go_wp2
  go_ret
  exact ⟨by simp, rfl⟩
theorem nanI_no (x : Int) (w : World) : Calls Try.prog 45 #[.int .i64 x] w fun e w' => e = .returned (.bool false) ∧ w = w' := by
  go_enter Try.func45, Try.ntmps45
  go_wp2
  go_ret
  exact ⟨by simp, rfl⟩
/-- how a number stands to another -/
def ordI (x y : Int) : Int := if x < y then -1 else if y < x then 1 else 0
theorem cmp64_any (x y : Int) (w : World) : Calls Try.prog 32 #[.int .i64 x, .int .i64 y] w fun e w' => e = .returned (.int .i64 (ordI x y)) ∧ w = w' := by
  have N := Lib.hid (fun s W => nan64_no s W)
  have R : Hid (ordI x y = if x < y then -1 else if y < x then 1 else 0) := rfl
  by_cases h1 : x < y
  · go_enter Try.func32, Try.ntmps32
    go_wp2_with fail
    refine (N.out _ _).mono ?_
    rintro e w1 ⟨rfl, rfl⟩
    go_wp2_with fail
    refine (N.out _ _).mono ?_
    rintro e w1 ⟨rfl, rfl⟩
    go_wp2
    go_ret
    exact ⟨by rw [R.out, if_pos h1]; rfl, rfl⟩
  · by_cases h2 : y < x
    · go_enter Try.func32, Try.ntmps32
      go_wp2_with fail
      refine (N.out _ _).mono ?_
      rintro e w1 ⟨rfl, rfl⟩
      go_wp2_with fail
      refine (N.out _ _).mono ?_
      rintro e w1 ⟨rfl, rfl⟩
      go_wp2
      go_ret
      exact ⟨(by have e1 : ¬ x < y := (by omega); rw [R.out, if_neg e1, if_pos h2]; rfl), rfl⟩
    · go_enter Try.func32, Try.ntmps32
      go_wp2_with fail
      refine (N.out _ _).mono ?_
      rintro e w1 ⟨rfl, rfl⟩
      go_wp2_with fail
      refine (N.out _ _).mono ?_
      rintro e w1 ⟨rfl, rfl⟩
      go_wp2
      go_ret
      exact ⟨(by have e1 : ¬ x < y := (by omega); have e2 : ¬ y < x := (by omega); rw [R.out, if_neg e1, if_neg e2]; rfl), rfl⟩
theorem cmpI_any (x y : Int) (w : World) : Calls Try.prog 33 #[.int .i64 x, .int .i64 y] w fun e w' => e = .returned (.int .i64 (ordI x y)) ∧ w = w' := by
  have N := Lib.hid (fun s W => nanI_no s W)
  have R : Hid (ordI x y = if x < y then -1 else if y < x then 1 else 0) := rfl
  by_cases h1 : x < y
  · go_enter Try.func33, Try.ntmps33
    go_wp2_with fail
    refine (N.out _ _).mono ?_
    rintro e w1 ⟨rfl, rfl⟩
    go_wp2_with fail
    refine (N.out _ _).mono ?_
    rintro e w1 ⟨rfl, rfl⟩
    go_wp2
    go_ret
    exact ⟨by rw [R.out, if_pos h1]; rfl, rfl⟩
  · by_cases h2 : y < x
    · go_enter Try.func33, Try.ntmps33
      go_wp2_with fail
      refine (N.out _ _).mono ?_
      rintro e w1 ⟨rfl, rfl⟩
      go_wp2_with fail
      refine (N.out _ _).mono ?_
      rintro e w1 ⟨rfl, rfl⟩
      go_wp2
      go_ret
      exact ⟨(by have e1 : ¬ x < y := (by omega); rw [R.out, if_neg e1, if_pos h2]; rfl), rfl⟩
    · go_enter Try.func33, Try.ntmps33
      go_wp2_with fail
      refine (N.out _ _).mono ?_
      rintro e w1 ⟨rfl, rfl⟩
      go_wp2_with fail
      refine (N.out _ _).mono ?_
      rintro e w1 ⟨rfl, rfl⟩
      go_wp2
      go_ret
      exact ⟨(by have e1 : ¬ x < y := (by omega); have e2 : ¬ y < x := (by omega); rw [R.out, if_neg e1, if_neg e2]; rfl), rfl⟩
/-- the first number that is not nought -/
def or3I (x y z : Int) : Int := if x = 0 then (if y = 0 then z else y) else x
theorem or3_any (b : Nat) (x y z : Int) (w : World) (h : At w b [.int .i64 x, .int .i64 y, .int .i64 z]) :
    Calls Try.prog 31 #[.slice (some ⟨b, 0, none⟩) 3 3] w fun e w' => e = .returned (.int .i64 (or3I x y z)) ∧ w = w' := by
  have R : Hid (or3I x y z = if x = 0 then (if y = 0 then z else y) else x) := rfl
  have c0 := h.cell 0 _ rfl
  have c1 := h.cell 1 _ rfl
  have c2 := h.cell 2 _ rfl
  have hb := h.lt
  clear h
  by_cases h1 : x = 0
  · subst h1
    by_cases h2 : y = 0
    · subst h2
      by_cases h3 : z = 0
      · subst h3
        go_enter Try.func31, Try.ntmps31
        go_wp2
        refine wp_loop_rounds 4 ?_
        rw [rounds_succ]
        go_wp2
        rw [rounds_succ]
        go_wp2
        rw [rounds_succ]
        go_wp2
        rw [rounds_succ]
        go_wp2
        go_ret
        exact ⟨by rw [R.out]; rfl, rfl⟩
      · go_enter Try.func31, Try.ntmps31
        go_wp2
        refine wp_loop_rounds 4 ?_
        rw [rounds_succ]
        go_wp2
        rw [rounds_succ]
        go_wp2
        rw [rounds_succ]
        go_wp2
        go_ret
        exact ⟨by rw [R.out]; rfl, rfl⟩
    · go_enter Try.func31, Try.ntmps31
      go_wp2
      refine wp_loop_rounds 4 ?_
      rw [rounds_succ]
      go_wp2
      rw [rounds_succ]
      go_wp2
      go_ret
      exact ⟨by rw [R.out, if_pos trivial, if_neg h2]; rfl, rfl⟩
  · go_enter Try.func31, Try.ntmps31
    go_wp2
    refine wp_loop_rounds 4 ?_
    rw [rounds_succ]
    go_wp2
    go_ret
    exact ⟨by rw [R.out, if_neg h1]; rfl, rfl⟩
/-- how a sample stands to another: by time, source, place -/
def cmpS (a2 a3 a4 b2 b3 b4 : Int) : Int := or3I (ordI a2 b2) (ordI a3 b3) (ordI a4 b4)
set_option maxHeartbeats 4000000 in
theorem lcompare_any (va vb : Value) (a1 a2 a3 a4 b1 b2 b3 b4 : Int) (w : World) :
    Calls Try.prog 17 #[.agg #[va, .int .i64 a1, .int .i64 a2, .int .i64 a3, .int .i64 a4], .agg #[vb, .int .i64 b1, .int .i64 b2, .int .i64 b3, .int .i64 b4]] w fun e w' => e = .returned (.int .i64 (cmpS a2 a3 a4 b2 b3 b4)) ∧ Below w.heap.size w w' := by
  have C := Lib.hid (fun x y W => (cmp64_any x y W).mono (fun e w' h => (⟨h.1, h.2 ▸ Below.refl _ _⟩ : e = .returned (.int .i64 (ordI x y)) ∧ Below W.heap.size W w')))
  have D := Lib.hid (fun x y W => (cmpI_any x y W).mono (fun e w' h => (⟨h.1, h.2 ▸ Below.refl _ _⟩ : e = .returned (.int .i64 (ordI x y)) ∧ Below W.heap.size W w')))
  have O := Lib.hid (fun x y z W => or3_any W.heap.size x y z (W.alloc (.cells #[.int .i64 x, .int .i64 y, .int .i64 z] 3)) (At.new W _ _))
  have R : Hid (cmpS a2 a3 a4 b2 b3 b4 = or3I (ordI a2 b2) (ordI a3 b3) (ordI a4 b4)) := rfl
  go_enter Try.func17, Try.ntmps17
  have DP : At (((w).alloc (.cells #[va, .int .i64 a1, .int .i64 a2, .int .i64 a3, .int .i64 a4] 50)).alloc (.cells #[vb, .int .i64 b1, .int .i64 b2, .int .i64 b3, .int .i64 b4] 50)) (w.heap.size) [va, .int .i64 a1, .int .i64 a2, .int .i64 a3, .int .i64 a4] := by have h := ((At.new (w) #[va, .int .i64 a1, .int .i64 a2, .int .i64 a3, .int .i64 a4] 50).alloc (.cells #[vb, .int .i64 b1, .int .i64 b2, .int .i64 b3, .int .i64 b4] 50)); simpa using h
  have DQ : At (((w).alloc (.cells #[va, .int .i64 a1, .int .i64 a2, .int .i64 a3, .int .i64 a4] 50)).alloc (.cells #[vb, .int .i64 b1, .int .i64 b2, .int .i64 b3, .int .i64 b4] 50)) (w.heap.size + 1) [vb, .int .i64 b1, .int .i64 b2, .int .i64 b3, .int .i64 b4] := by have h := (At.new ((w).alloc (.cells #[va, .int .i64 a1, .int .i64 a2, .int .i64 a3, .int .i64 a4] 50)) #[vb, .int .i64 b1, .int .i64 b2, .int .i64 b3, .int .i64 b4] 50); simpa using h
  have B : Below w.heap.size w (((w).alloc (.cells #[va, .int .i64 a1, .int .i64 a2, .int .i64 a3, .int .i64 a4] 50)).alloc (.cells #[vb, .int .i64 b1, .int .i64 b2, .int .i64 b3, .int .i64 b4] 50)) := below_new (below_new (Below.refl _ _) (.cells #[va, .int .i64 a1, .int .i64 a2, .int .i64 a3, .int .i64 a4] 50)) (.cells #[vb, .int .i64 b1, .int .i64 b2, .int .i64 b3, .int .i64 b4] 50)
  go_wp2_with fail
  generalize ((w).alloc (.cells #[va, .int .i64 a1, .int .i64 a2, .int .i64 a3, .int .i64 a4] 50)).alloc (.cells #[vb, .int .i64 b1, .int .i64 b2, .int .i64 b3, .int .i64 b4] 50) = W2 at *
  have aQ0 := DQ.cell 0 _ rfl
  have aQ1 := DQ.cell 1 _ rfl
  have aQ2 := DQ.cell 2 _ rfl
  have aQ3 := DQ.cell 3 _ rfl
  have aQ4 := DQ.cell 4 _ rfl
  have nQ := DQ.lt
  have aP0 := DP.cell 0 _ rfl
  have aP1 := DP.cell 1 _ rfl
  have aP2 := DP.cell 2 _ rfl
  have aP3 := DP.cell 3 _ rfl
  have aP4 := DP.cell 4 _ rfl
  have nP := DP.lt
  refine wp_region_held_drew (S := fun w' => w'.cell? ⟨w.heap.size + 1, 0, none⟩ = some (vb) ∧ w'.cell? ⟨w.heap.size + 1, 1, none⟩ = some (.int .i64 b1) ∧ w'.cell? ⟨w.heap.size + 1, 2, none⟩ = some (.int .i64 b2) ∧ w'.cell? ⟨w.heap.size + 1, 3, none⟩ = some (.int .i64 b3) ∧ w'.cell? ⟨w.heap.size + 1, 4, none⟩ = some (.int .i64 b4) ∧ w'.cell? ⟨w.heap.size, 0, none⟩ = some (va) ∧ w'.cell? ⟨w.heap.size, 1, none⟩ = some (.int .i64 a1) ∧ w'.cell? ⟨w.heap.size, 2, none⟩ = some (.int .i64 a2) ∧ w'.cell? ⟨w.heap.size, 3, none⟩ = some (.int .i64 a3) ∧ w'.cell? ⟨w.heap.size, 4, none⟩ = some (.int .i64 a4) ∧ Below w.heap.size w w') (by kernel_rfl) ?_ (fun hS => ?_)
  · (try dsimp only)
    (repeat' apply And.intro) <;> first | go_cell | exact B.drew
  refine' wpAnyH_take (i := 0) (oi := ?oiT0) (v := ?vT0) ?hiT0 (by kernel_rfl) (by kernel_rfl) (by kernel_rfl) ?hQT0 ?hyT0 hS ?restT0
  case hiT0 =>
    simp only [List.getElem?_toArray, List.getElem?_cons_succ, List.getElem?_cons_zero]
    exact rfl
  case hQT0 => exact fun _ _ _ h => h
  case hyT0 =>
    refine Or.inl ⟨by rfl, ?_⟩
    intro w hSw
    (try dsimp only at hSw)
    go_simp
    (try with_reducible rfl)
  (try simp only [Act.put, List.setIfInBounds_toArray, List.set_cons_zero, List.set_cons_succ])
  refine' wpAnyH_take (i := 1) (oi := ?oiT1) (v := ?vT1) ?hiT1 (by kernel_rfl) (by kernel_rfl) (by kernel_rfl) ?hQT1 ?hyT1 hS ?restT1
  case hiT1 =>
    simp only [List.getElem?_toArray, List.getElem?_cons_succ, List.getElem?_cons_zero]
    exact rfl
  case hQT1 => exact fun _ _ _ h => h
  case hyT1 =>
    refine Or.inl ⟨by rfl, ?_⟩
    intro w hSw
    (try dsimp only at hSw)
    go_simp
    (try with_reducible rfl)
  (try simp only [Act.put, List.setIfInBounds_toArray, List.set_cons_zero, List.set_cons_succ])
  refine' wpAnyH_take (i := 2) (oi := ?oiT2) (v := ?vT2) ?hiT2 (by kernel_rfl) (by kernel_rfl) (by kernel_rfl) ?hQT2 ?hyT2 hS ?restT2
  case hiT2 =>
    simp only [List.getElem?_toArray, List.getElem?_cons_succ, List.getElem?_cons_zero]
    exact rfl
  case hQT2 => exact fun _ _ _ h => h
  case hyT2 =>
    refine Or.inl ⟨by rfl, ?_⟩
    intro w hSw
    (try dsimp only at hSw)
    go_simp
    (try with_reducible rfl)
  (try simp only [Act.put, List.setIfInBounds_toArray, List.set_cons_zero, List.set_cons_succ])
  refine' wpAnyH_take (i := 3) (oi := ?oiT3) (v := ?vT3) ?hiT3 (by kernel_rfl) (by kernel_rfl) (by kernel_rfl) ?hQT3 ?hyT3 hS ?restT3
  case hiT3 =>
    simp only [List.getElem?_toArray, List.getElem?_cons_succ, List.getElem?_cons_zero]
    exact rfl
  case hQT3 => exact fun _ _ _ h => h
  case hyT3 =>
    refine Or.inl ⟨by rfl, ?_⟩
    intro w hSw
    (try dsimp only at hSw)
    go_simp
    (try with_reducible rfl)
  (try simp only [Act.put, List.setIfInBounds_toArray, List.set_cons_zero, List.set_cons_succ])
  refine' wpAnyH_take (i := 5) (oi := ?oiT5) (v := ?vT5) ?hiT5 (by kernel_rfl) (by kernel_rfl) (by kernel_rfl) ?hQT5 ?hyT5 hS ?restT5
  case hiT5 =>
    simp only [List.getElem?_toArray, List.getElem?_cons_succ, List.getElem?_cons_zero]
    exact rfl
  case hQT5 => exact fun _ _ _ h => h
  case hyT5 =>
    refine Or.inl ⟨by rfl, ?_⟩
    intro w hSw
    (try dsimp only at hSw)
    go_simp
    (try with_reducible rfl)
  (try simp only [Act.put, List.setIfInBounds_toArray, List.set_cons_zero, List.set_cons_succ])
  refine' wpAnyH_take (i := 6) (oi := ?oiT6) (v := ?vT6) ?hiT6 (by kernel_rfl) (by kernel_rfl) (by kernel_rfl) ?hQT6 ?hyT6 hS ?restT6
  case hiT6 =>
    simp only [List.getElem?_toArray, List.getElem?_cons_succ, List.getElem?_cons_zero]
    exact rfl
  case hQT6 => exact fun _ _ _ h => h
  case hyT6 =>
    refine Or.inl ⟨by rfl, ?_⟩
    intro w hSw
    (try dsimp only at hSw)
    go_simp
    (try with_reducible rfl)
  (try simp only [Act.put, List.setIfInBounds_toArray, List.set_cons_zero, List.set_cons_succ])
  refine' wpAnyH_take (i := 7) (oi := ?oiT7) (v := ?vT7) ?hiT7 (by kernel_rfl) (by kernel_rfl) (by kernel_rfl) ?hQT7 ?hyT7 hS ?restT7
  case hiT7 =>
    simp only [List.getElem?_toArray, List.getElem?_cons_succ, List.getElem?_cons_zero]
    exact rfl
  case hQT7 => exact fun _ _ _ h => h
  case hyT7 =>
    refine Or.inl ⟨by rfl, ?_⟩
    intro w hSw
    (try dsimp only at hSw)
    go_simp
    (try with_reducible rfl)
  (try simp only [Act.put, List.setIfInBounds_toArray, List.set_cons_zero, List.set_cons_succ])
  refine' wpAnyH_take (i := 8) (oi := ?oiT8) (v := ?vT8) ?hiT8 (by kernel_rfl) (by kernel_rfl) (by kernel_rfl) ?hQT8 ?hyT8 hS ?restT8
  case hiT8 =>
    simp only [List.getElem?_toArray, List.getElem?_cons_succ, List.getElem?_cons_zero]
    exact rfl
  case hQT8 => exact fun _ _ _ h => h
  case hyT8 =>
    refine Or.inl ⟨by rfl, ?_⟩
    intro w hSw
    (try dsimp only at hSw)
    go_simp
    (try with_reducible rfl)
  (try simp only [Act.put, List.setIfInBounds_toArray, List.set_cons_zero, List.set_cons_succ])
  refine' wpAnyH_take (i := 10) (oi := ?oiT10) (v := ?vT10) ?hiT10 (by kernel_rfl) (by kernel_rfl) (by kernel_rfl) ?hQT10 ?hyT10 hS ?restT10
  case hiT10 =>
    simp only [List.getElem?_toArray, List.getElem?_cons_succ, List.getElem?_cons_zero]
    exact rfl
  case hQT10 => exact fun _ _ _ h => h
  case hyT10 =>
    refine Or.inl ⟨by rfl, ?_⟩
    intro w hSw
    (try dsimp only at hSw)
    go_simp
    (try with_reducible rfl)
  (try simp only [Act.put, List.setIfInBounds_toArray, List.set_cons_zero, List.set_cons_succ])
  refine' wpAnyH_take (i := 11) (oi := ?oiT11) (v := ?vT11) ?hiT11 (by kernel_rfl) (by kernel_rfl) (by kernel_rfl) ?hQT11 ?hyT11 hS ?restT11
  case hiT11 =>
    simp only [List.getElem?_toArray, List.getElem?_cons_succ, List.getElem?_cons_zero]
    exact rfl
  case hQT11 => exact fun _ _ _ h => h
  case hyT11 =>
    refine Or.inl ⟨by rfl, ?_⟩
    intro w hSw
    (try dsimp only at hSw)
    go_simp
    (try with_reducible rfl)
  (try simp only [Act.put, List.setIfInBounds_toArray, List.set_cons_zero, List.set_cons_succ])
  refine' wpAnyH_take (i := 12) (oi := ?oiT12) (v := ?vT12) ?hiT12 (by kernel_rfl) (by kernel_rfl) (by kernel_rfl) ?hQT12 ?hyT12 hS ?restT12
  case hiT12 =>
    simp only [List.getElem?_toArray, List.getElem?_cons_succ, List.getElem?_cons_zero]
    exact rfl
  case hQT12 => exact fun _ _ _ h => h
  case hyT12 =>
    refine Or.inl ⟨by rfl, ?_⟩
    intro w hSw
    (try dsimp only at hSw)
    go_simp
    (try with_reducible rfl)
  (try simp only [Act.put, List.setIfInBounds_toArray, List.set_cons_zero, List.set_cons_succ])
  refine' wpAnyH_take (i := 13) (oi := ?oiT13) (v := ?vT13) ?hiT13 (by kernel_rfl) (by kernel_rfl) (by kernel_rfl) ?hQT13 ?hyT13 hS ?restT13
  case hiT13 =>
    simp only [List.getElem?_toArray, List.getElem?_cons_succ, List.getElem?_cons_zero]
    exact rfl
  case hQT13 => exact fun _ _ _ h => h
  case hyT13 =>
    refine Or.inl ⟨by rfl, ?_⟩
    intro w hSw
    (try dsimp only at hSw)
    go_simp
    (try with_reducible rfl)
  (try simp only [Act.put, List.setIfInBounds_toArray, List.set_cons_zero, List.set_cons_succ])
  refine wpAnyH_ready (rs := [4]) (by kernel_rfl) (by simp) ?_
  refine' AllReadyH.cons (o := ?ooC4) ?hoC4 (fun K hK => ?stepC4) AllReadyH.nil
  case hoC4 =>
    simp only [List.getElem?_toArray, List.getElem?_cons_succ, List.getElem?_cons_zero]
    exact rfl
  go_simp
  go_at_call 32
  refine (C.out a2 b2 _).mono ?_
  rintro e w1 ⟨rfl, hb1⟩
  go_wp2_with fail
  refine hK.out _ _ ?_ (fun hS => ?_)
  · (try dsimp only)
    go_split_ands
    (repeat' apply And.intro) <;> first | (refine cell_later hb1 ?_; with_reducible assumption) | (refine below_then ?_ hb1; with_reducible assumption)
  clear hK K hb1
  (try simp only [Act.put, List.setIfInBounds_toArray, List.set_cons_zero, List.set_cons_succ])
  refine wpAnyH_ready (rs := [9]) (by kernel_rfl) (by simp) ?_
  refine' AllReadyH.cons (o := ?ooC9) ?hoC9 (fun K hK => ?stepC9) AllReadyH.nil
  case hoC9 =>
    simp only [List.getElem?_toArray, List.getElem?_cons_succ, List.getElem?_cons_zero]
    exact rfl
  go_simp
  go_at_call 33
  refine (D.out a3 b3 _).mono ?_
  rintro e w1 ⟨rfl, hb1⟩
  go_wp2_with fail
  refine hK.out _ _ ?_ (fun hS => ?_)
  · (try dsimp only)
    go_split_ands
    (repeat' apply And.intro) <;> first | (refine cell_later hb1 ?_; with_reducible assumption) | (refine below_then ?_ hb1; with_reducible assumption)
  clear hK K hb1
  (try simp only [Act.put, List.setIfInBounds_toArray, List.set_cons_zero, List.set_cons_succ])
  refine wpAnyH_ready (rs := [14]) (by kernel_rfl) (by simp) ?_
  refine' AllReadyH.cons (o := ?ooC14) ?hoC14 (fun K hK => ?stepC14) AllReadyH.nil
  case hoC14 =>
    simp only [List.getElem?_toArray, List.getElem?_cons_succ, List.getElem?_cons_zero]
    exact rfl
  go_simp
  go_at_call 32
  refine (C.out a4 b4 _).mono ?_
  rintro e w1 ⟨rfl, hb1⟩
  go_wp2_with fail
  refine hK.out _ _ ?_ (fun hS => ?_)
  · (try dsimp only)
    go_split_ands
    (repeat' apply And.intro) <;> first | (refine cell_later hb1 ?_; with_reducible assumption) | (refine below_then ?_ hb1; with_reducible assumption)
  clear hK K hb1
  (try simp only [Act.put, List.setIfInBounds_toArray, List.set_cons_zero, List.set_cons_succ])
  refine wpAnyH_ready (rs := [15]) (by kernel_rfl) (by simp) ?_
  refine' AllReadyH.cons (o := ?oo15) ?ho15 (fun K hK => ?st15) AllReadyH.nil
  case ho15 =>
    simp only [List.getElem?_toArray, List.getElem?_cons_succ, List.getElem?_cons_zero]
    exact rfl
  go_simp
  refine hK.out _ _ ?_ (fun hS => ?_)
  · (try dsimp only)
    go_split_ands
    (repeat' apply And.intro) <;> first | (refine cell_later (below_cells _) ?_; with_reducible assumption) | (refine below_new ?_ _; with_reducible assumption)
  clear hK K
  (try simp only [Act.put, List.setIfInBounds_toArray, List.set_cons_zero, List.set_cons_succ])
  refine wpAnyH_ready (rs := [16]) (by kernel_rfl) (by simp) ?_
  refine' AllReadyH.cons (o := ?oo16) ?ho16 (fun K hK => ?st16) AllReadyH.nil
  case ho16 =>
    simp only [List.getElem?_toArray, List.getElem?_cons_succ, List.getElem?_cons_zero]
    exact rfl
  go_simp
  go_at_call 31
  refine (O.out _ _ _ w1).mono ?_
  rintro e w3 ⟨rfl, rfl⟩
  go_wp2_with fail
  refine hK.out _ _ hS (fun hS => ?_)
  clear hK K
  (try simp only [Act.put, List.setIfInBounds_toArray, List.set_cons_zero, List.set_cons_succ])
  refine' wpAnyH_take (i := 17) (oi := ?oi17) (v := ?v17) ?hi17 (by kernel_rfl) (by kernel_rfl) (by kernel_rfl) ?hQ17 ?hy17 hS ?rest17
  case hi17 =>
    simp only [List.getElem?_toArray, List.getElem?_cons_succ, List.getElem?_cons_zero]
    exact rfl
  case hQ17 => exact fun _ _ _ h => h
  case hy17 =>
    refine Or.inl ⟨by rfl, ?_⟩
    intro w hSw
    (try dsimp only at hSw)
    go_simp
    (try with_reducible rfl)
  (try simp only [Act.put, List.setIfInBounds_toArray, List.set_cons_zero, List.set_cons_succ])
  refine wpAnyH_done (by kernel_rfl) ?_ _
  have hB := hS.2.2.2.2.2.2.2.2.2.2
  clear hS
  go_wp2
  go_ret
  exact ⟨by rw [R.out]; rfl, hB⟩
end Go.Proofs.Ytkhlpbipkkbghaa
