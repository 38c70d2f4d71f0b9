/- The reference's Decimal, SampleText. -/
import Derived.Test.YtgldieboflmnhaaGreatDoorWdI
import Derived.Test.YtgldieboflmnhaaGreatDoorRefT
import Derived.Test.YtgldieboflmnhaaGreatDoorLParse2
namespace Go.Proofs.YtgldieboflmnhaaGreatDoor
open Go Go.Proofs Go.RowKit Go.Shelf
set_option maxRecDepth 100000
theorem rdec_any (x : Int) (hx : I64 x) (w : World) : Calls Tryz.prog 31 #[.int .i64 x] w fun e w' => e = .returned (.string ⟨(Lib.itoa x).toArray⟩) ∧ Below w.heap.size w w' := by
  have OF := Lib.hid (fun W => ref_of x hx W)
  have hv : val (x / 9223372036854775808) (x % 18446744073709551616) = x := by unfold val; unfold I64 at hx; omega
  have hi : InI (x / 9223372036854775808) (x % 18446744073709551616) := by unfold I64 at hx; exact ⟨by omega, by omega, by omega, by omega⟩
  have TX := Lib.hid (fun W => ref_text _ _ hi W)
  rw [hv] at TX
  clear hv hi hx
  go_enter Tryz.func31, Tryz.ntmps31
  go_wp2_with fail
  refine (OF.out _).mono ?_
  rintro e w1 ⟨rfl, hb1⟩
  go_wp2_with fail
  refine (TX.out _).mono ?_
  rintro e w2 ⟨rfl, hb2⟩
  go_wp2
  go_ret
  exact ⟨rfl, hb1.trans (hb2.mono hb1.size)⟩
set_option maxHeartbeats 4000000 in
theorem rline_any (a : Option Addr) (n cap : Nat) (zs : List SLab) (hreach : zs.length ≤ 100) (va tm sr sq : Int) (k0 : I64 va) (k1 : I64 tm) (k2 : I64 sr) (k3 : I64 sq) (w : World) (hI : Labs w.heap.size w (.slice a n cap) zs) :
    Calls Tryz.prog 14 #[.agg #[.slice a n cap, .int .i64 va, .int .i64 tm, .int .i64 sr, .int .i64 sq]] w fun e w' => e = .returned (.string ⟨(lineR zs va tm sr sq).toArray⟩) ∧ Below w.heap.size w w' := by
  obtain rfl : n = zs.length := hI.len
  have RT := Lib.hid (fun W (hW : Below w.heap.size w W) => rtext_any a zs.length cap zs hreach W (labs_on hI hW))
  have D0 := Lib.hid (fun W => rdec_any va k0 W)
  have D1 := Lib.hid (fun W => rdec_any tm k1 W)
  have D2 := Lib.hid (fun W => rdec_any sr k2 W)
  have D3 := Lib.hid (fun W => rdec_any sq k3 W)
  have l0 := Lib.itoa_length_le va k0.1 k0.2
  have l1 := Lib.itoa_length_le tm k1.1 k1.2
  have l2 := Lib.itoa_length_le sr k2.1 k2.2
  have l3 := Lib.itoa_length_le sq k3.1 k3.2
  have lt := text_len zs hreach
  have hE : lineR zs va tm sr sq = textL zs ++ [32] ++ Lib.itoa va ++ [32, 64] ++ Lib.itoa tm ++ [32, 35] ++ Lib.itoa sr ++ [47] ++ Lib.itoa sq := rfl
  rw [hE]
  clear hE hI k0 k1 k2 k3
  generalize textL zs = T at *
  generalize Lib.itoa va = s0 at *
  generalize Lib.itoa tm = s1 at *
  generalize Lib.itoa sr = s2 at *
  generalize Lib.itoa sq = s3 at *
  have g0 : ¬ 9223372036854775807 < T.length + 1 := by omega
  have g1 : ¬ 9223372036854775807 < T.length + 1 + s0.length := by omega
  have g2 : ¬ 9223372036854775807 < T.length + 1 + s0.length + 2 := by omega
  have g3 : ¬ 9223372036854775807 < T.length + 1 + s0.length + 2 + s1.length := by omega
  have g4 : ¬ 9223372036854775807 < T.length + 1 + s0.length + 2 + s1.length + 2 := by omega
  have g5 : ¬ 9223372036854775807 < T.length + 1 + s0.length + 2 + s1.length + 2 + s2.length := by omega
  have g6 : ¬ 9223372036854775807 < T.length + 1 + s0.length + 2 + s1.length + 2 + s2.length + 1 := by omega
  have g7 : ¬ 9223372036854775807 < T.length + 1 + s0.length + 2 + s1.length + 2 + s2.length + 1 + s3.length := by omega
  go_enter Tryz.func14, Tryz.ntmps14
  have DP : At ((w).alloc (.cells #[.slice a zs.length cap, .int .i64 va, .int .i64 tm, .int .i64 sr, .int .i64 sq] 31)) (w.heap.size) [.slice a zs.length cap, .int .i64 va, .int .i64 tm, .int .i64 sr, .int .i64 sq] := by have h := (At.new (w) #[.slice a zs.length cap, .int .i64 va, .int .i64 tm, .int .i64 sr, .int .i64 sq] 31); simpa using h
  have B : Below w.heap.size w ((w).alloc (.cells #[.slice a zs.length cap, .int .i64 va, .int .i64 tm, .int .i64 sr, .int .i64 sq] 31)) := below_new (Below.refl _ _) (.cells #[.slice a zs.length cap, .int .i64 va, .int .i64 tm, .int .i64 sr, .int .i64 sq] 31)
  go_wp2_with fail
  generalize (w).alloc (.cells #[.slice a zs.length cap, .int .i64 va, .int .i64 tm, .int .i64 sr, .int .i64 sq] 31) = W2 at *
  have aP0 := DP.cell 0 _ rfl
  have aP1 := DP.cell 1 _ rfl
  have aP2 := DP.cell 2 _ rfl
  have aP3 := DP.cell 3 _ rfl
  have aP4 := DP.cell 4 _ rfl
  have nP := DP.lt
  refine wp_region_held_drew (S := fun w' => w'.cell? ⟨w.heap.size, 0, none⟩ = some (.slice a zs.length cap) ∧ w'.cell? ⟨w.heap.size, 1, none⟩ = some (.int .i64 va) ∧ w'.cell? ⟨w.heap.size, 2, none⟩ = some (.int .i64 tm) ∧ w'.cell? ⟨w.heap.size, 3, none⟩ = some (.int .i64 sr) ∧ w'.cell? ⟨w.heap.size, 4, none⟩ = some (.int .i64 sq) ∧ Below w.heap.size w w') (by kernel_rfl) ?_ (fun hS => ?_)
  · (try dsimp only)
    (repeat' apply And.intro) <;> first | go_cell | exact B.drew
  refine' wpAnyH_take (i := 0) (oi := ?oiT0) (v := ?vT0) ?hiT0 (by kernel_rfl) (by kernel_rfl) (by kernel_rfl) ?hQT0 ?hyT0 hS ?restT0
  case hiT0 =>
    simp only [List.getElem?_toArray, List.getElem?_cons_succ, List.getElem?_cons_zero]
    exact rfl
  case hQT0 => exact fun _ _ _ h => h
  case hyT0 =>
    refine Or.inl ⟨by rfl, ?_⟩
    intro w hSw
    (try dsimp only at hSw)
    go_simp
    (try with_reducible rfl)
  (try simp only [Act.put, List.setIfInBounds_toArray, List.set_cons_zero, List.set_cons_succ])
  refine' wpAnyH_take (i := 1) (oi := ?oiT1) (v := ?vT1) ?hiT1 (by kernel_rfl) (by kernel_rfl) (by kernel_rfl) ?hQT1 ?hyT1 hS ?restT1
  case hiT1 =>
    simp only [List.getElem?_toArray, List.getElem?_cons_succ, List.getElem?_cons_zero]
    exact rfl
  case hQT1 => exact fun _ _ _ h => h
  case hyT1 =>
    refine Or.inl ⟨by rfl, ?_⟩
    intro w hSw
    (try dsimp only at hSw)
    go_simp
    (try with_reducible rfl)
  (try simp only [Act.put, List.setIfInBounds_toArray, List.set_cons_zero, List.set_cons_succ])
  refine' wpAnyH_take (i := 4) (oi := ?oiT4) (v := ?vT4) ?hiT4 (by kernel_rfl) (by kernel_rfl) (by kernel_rfl) ?hQT4 ?hyT4 hS ?restT4
  case hiT4 =>
    simp only [List.getElem?_toArray, List.getElem?_cons_succ, List.getElem?_cons_zero]
    exact rfl
  case hQT4 => exact fun _ _ _ h => h
  case hyT4 =>
    refine Or.inl ⟨by rfl, ?_⟩
    intro w hSw
    (try dsimp only at hSw)
    go_simp
    (try with_reducible rfl)
  (try simp only [Act.put, List.setIfInBounds_toArray, List.set_cons_zero, List.set_cons_succ])
  refine' wpAnyH_take (i := 5) (oi := ?oiT5) (v := ?vT5) ?hiT5 (by kernel_rfl) (by kernel_rfl) (by kernel_rfl) ?hQT5 ?hyT5 hS ?restT5
  case hiT5 =>
    simp only [List.getElem?_toArray, List.getElem?_cons_succ, List.getElem?_cons_zero]
    exact rfl
  case hQT5 => exact fun _ _ _ h => h
  case hyT5 =>
    refine Or.inl ⟨by rfl, ?_⟩
    intro w hSw
    (try dsimp only at hSw)
    go_simp
    (try with_reducible rfl)
  (try simp only [Act.put, List.setIfInBounds_toArray, List.set_cons_zero, List.set_cons_succ])
  refine' wpAnyH_take (i := 9) (oi := ?oiT9) (v := ?vT9) ?hiT9 (by kernel_rfl) (by kernel_rfl) (by kernel_rfl) ?hQT9 ?hyT9 hS ?restT9
  case hiT9 =>
    simp only [List.getElem?_toArray, List.getElem?_cons_succ, List.getElem?_cons_zero]
    exact rfl
  case hQT9 => exact fun _ _ _ h => h
  case hyT9 =>
    refine Or.inl ⟨by rfl, ?_⟩
    intro w hSw
    (try dsimp only at hSw)
    go_simp
    (try with_reducible rfl)
  (try simp only [Act.put, List.setIfInBounds_toArray, List.set_cons_zero, List.set_cons_succ])
  refine' wpAnyH_take (i := 10) (oi := ?oiT10) (v := ?vT10) ?hiT10 (by kernel_rfl) (by kernel_rfl) (by kernel_rfl) ?hQT10 ?hyT10 hS ?restT10
  case hiT10 =>
    simp only [List.getElem?_toArray, List.getElem?_cons_succ, List.getElem?_cons_zero]
    exact rfl
  case hQT10 => exact fun _ _ _ h => h
  case hyT10 =>
    refine Or.inl ⟨by rfl, ?_⟩
    intro w hSw
    (try dsimp only at hSw)
    go_simp
    (try with_reducible rfl)
  (try simp only [Act.put, List.setIfInBounds_toArray, List.set_cons_zero, List.set_cons_succ])
  refine' wpAnyH_take (i := 14) (oi := ?oiT14) (v := ?vT14) ?hiT14 (by kernel_rfl) (by kernel_rfl) (by kernel_rfl) ?hQT14 ?hyT14 hS ?restT14
  case hiT14 =>
    simp only [List.getElem?_toArray, List.getElem?_cons_succ, List.getElem?_cons_zero]
    exact rfl
  case hQT14 => exact fun _ _ _ h => h
  case hyT14 =>
    refine Or.inl ⟨by rfl, ?_⟩
    intro w hSw
    (try dsimp only at hSw)
    go_simp
    (try with_reducible rfl)
  (try simp only [Act.put, List.setIfInBounds_toArray, List.set_cons_zero, List.set_cons_succ])
  refine' wpAnyH_take (i := 15) (oi := ?oiT15) (v := ?vT15) ?hiT15 (by kernel_rfl) (by kernel_rfl) (by kernel_rfl) ?hQT15 ?hyT15 hS ?restT15
  case hiT15 =>
    simp only [List.getElem?_toArray, List.getElem?_cons_succ, List.getElem?_cons_zero]
    exact rfl
  case hQT15 => exact fun _ _ _ h => h
  case hyT15 =>
    refine Or.inl ⟨by rfl, ?_⟩
    intro w hSw
    (try dsimp only at hSw)
    go_simp
    (try with_reducible rfl)
  (try simp only [Act.put, List.setIfInBounds_toArray, List.set_cons_zero, List.set_cons_succ])
  refine' wpAnyH_take (i := 19) (oi := ?oiT19) (v := ?vT19) ?hiT19 (by kernel_rfl) (by kernel_rfl) (by kernel_rfl) ?hQT19 ?hyT19 hS ?restT19
  case hiT19 =>
    simp only [List.getElem?_toArray, List.getElem?_cons_succ, List.getElem?_cons_zero]
    exact rfl
  case hQT19 => exact fun _ _ _ h => h
  case hyT19 =>
    refine Or.inl ⟨by rfl, ?_⟩
    intro w hSw
    (try dsimp only at hSw)
    go_simp
    (try with_reducible rfl)
  (try simp only [Act.put, List.setIfInBounds_toArray, List.set_cons_zero, List.set_cons_succ])
  refine' wpAnyH_take (i := 20) (oi := ?oiT20) (v := ?vT20) ?hiT20 (by kernel_rfl) (by kernel_rfl) (by kernel_rfl) ?hQT20 ?hyT20 hS ?restT20
  case hiT20 =>
    simp only [List.getElem?_toArray, List.getElem?_cons_succ, List.getElem?_cons_zero]
    exact rfl
  case hQT20 => exact fun _ _ _ h => h
  case hyT20 =>
    refine Or.inl ⟨by rfl, ?_⟩
    intro w hSw
    (try dsimp only at hSw)
    go_simp
    (try with_reducible rfl)
  (try simp only [Act.put, List.setIfInBounds_toArray, List.set_cons_zero, List.set_cons_succ])
  refine wpAnyH_ready (rs := [2]) (by kernel_rfl) (by simp) ?_
  refine' AllReadyH.cons (o := ?ooC2) ?hoC2 (fun K hK => ?stepC2) AllReadyH.nil
  case hoC2 =>
    simp only [List.getElem?_toArray, List.getElem?_cons_succ, List.getElem?_cons_zero]
    exact rfl
  go_simp
  go_at_call 30
  refine (RT.out _ hS.2.2.2.2.2).mono ?_
  rintro e w1 ⟨rfl, hb1⟩
  go_wp2_with fail
  refine hK.out _ _ ?_ (fun hS => ?_)
  · (try dsimp only)
    go_split_ands
    (repeat' apply And.intro) <;> first | (refine cell_later hb1 ?_; with_reducible assumption) | (refine below_then ?_ hb1; with_reducible assumption)
  clear hK K hb1
  (try simp only [Act.put, List.setIfInBounds_toArray, List.set_cons_zero, List.set_cons_succ])
  refine' wpAnyH_take (i := 3) (oi := ?oiT3) (v := ?vT3) ?hiT3 (by kernel_rfl) (by kernel_rfl) (by kernel_rfl) ?hQT3 ?hyT3 hS ?restT3
  case hiT3 =>
    simp only [List.getElem?_toArray, List.getElem?_cons_succ, List.getElem?_cons_zero]
    exact rfl
  case hQT3 => exact fun _ _ _ h => h
  case hyT3 =>
    refine Or.inl ⟨by rfl, ?_⟩
    intro w hSw
    (try dsimp only at hSw)
    go_simp
    (try with_reducible rfl)
  (try simp only [Act.put, List.setIfInBounds_toArray, List.set_cons_zero, List.set_cons_succ])
  refine wpAnyH_ready (rs := [6]) (by kernel_rfl) (by simp) ?_
  refine' AllReadyH.cons (o := ?ooC6) ?hoC6 (fun K hK => ?stepC6) AllReadyH.nil
  case hoC6 =>
    simp only [List.getElem?_toArray, List.getElem?_cons_succ, List.getElem?_cons_zero]
    exact rfl
  go_simp
  go_at_call 31
  refine (D0.out _).mono ?_
  rintro e w1 ⟨rfl, hb1⟩
  go_wp2_with fail
  refine hK.out _ _ ?_ (fun hS => ?_)
  · (try dsimp only)
    go_split_ands
    (repeat' apply And.intro) <;> first | (refine cell_later hb1 ?_; with_reducible assumption) | (refine below_then ?_ hb1; with_reducible assumption)
  clear hK K hb1
  (try simp only [Act.put, List.setIfInBounds_toArray, List.set_cons_zero, List.set_cons_succ])
  refine' wpAnyH_take (i := 7) (oi := ?oiT7) (v := ?vT7) ?hiT7 (by kernel_rfl) (by kernel_rfl) (by kernel_rfl) ?hQT7 ?hyT7 hS ?restT7
  case hiT7 =>
    simp only [List.getElem?_toArray, List.getElem?_cons_succ, List.getElem?_cons_zero]
    exact rfl
  case hQT7 => exact fun _ _ _ h => h
  case hyT7 =>
    refine Or.inl ⟨by rfl, ?_⟩
    intro w hSw
    (try dsimp only at hSw)
    go_simp
    (try with_reducible rfl)
  (try simp only [Act.put, List.setIfInBounds_toArray, List.set_cons_zero, List.set_cons_succ])
  refine' wpAnyH_take (i := 8) (oi := ?oiT8) (v := ?vT8) ?hiT8 (by kernel_rfl) (by kernel_rfl) (by kernel_rfl) ?hQT8 ?hyT8 hS ?restT8
  case hiT8 =>
    simp only [List.getElem?_toArray, List.getElem?_cons_succ, List.getElem?_cons_zero]
    exact rfl
  case hQT8 => exact fun _ _ _ h => h
  case hyT8 =>
    refine Or.inl ⟨by rfl, ?_⟩
    intro w hSw
    (try dsimp only at hSw)
    go_simp
    (try with_reducible rfl)
  (try simp only [Act.put, List.setIfInBounds_toArray, List.set_cons_zero, List.set_cons_succ])
  refine wpAnyH_ready (rs := [11]) (by kernel_rfl) (by simp) ?_
  refine' AllReadyH.cons (o := ?ooC11) ?hoC11 (fun K hK => ?stepC11) AllReadyH.nil
  case hoC11 =>
    simp only [List.getElem?_toArray, List.getElem?_cons_succ, List.getElem?_cons_zero]
    exact rfl
  go_simp
  go_at_call 31
  refine (D1.out _).mono ?_
  rintro e w1 ⟨rfl, hb1⟩
  go_wp2_with fail
  refine hK.out _ _ ?_ (fun hS => ?_)
  · (try dsimp only)
    go_split_ands
    (repeat' apply And.intro) <;> first | (refine cell_later hb1 ?_; with_reducible assumption) | (refine below_then ?_ hb1; with_reducible assumption)
  clear hK K hb1
  (try simp only [Act.put, List.setIfInBounds_toArray, List.set_cons_zero, List.set_cons_succ])
  refine' wpAnyH_take (i := 12) (oi := ?oiT12) (v := ?vT12) ?hiT12 (by kernel_rfl) (by kernel_rfl) (by kernel_rfl) ?hQT12 ?hyT12 hS ?restT12
  case hiT12 =>
    simp only [List.getElem?_toArray, List.getElem?_cons_succ, List.getElem?_cons_zero]
    exact rfl
  case hQT12 => exact fun _ _ _ h => h
  case hyT12 =>
    refine Or.inl ⟨by rfl, ?_⟩
    intro w hSw
    (try dsimp only at hSw)
    go_simp
    (try with_reducible rfl)
  (try simp only [Act.put, List.setIfInBounds_toArray, List.set_cons_zero, List.set_cons_succ])
  refine' wpAnyH_take (i := 13) (oi := ?oiT13) (v := ?vT13) ?hiT13 (by kernel_rfl) (by kernel_rfl) (by kernel_rfl) ?hQT13 ?hyT13 hS ?restT13
  case hiT13 =>
    simp only [List.getElem?_toArray, List.getElem?_cons_succ, List.getElem?_cons_zero]
    exact rfl
  case hQT13 => exact fun _ _ _ h => h
  case hyT13 =>
    refine Or.inl ⟨by rfl, ?_⟩
    intro w hSw
    (try dsimp only at hSw)
    go_simp
    (try with_reducible rfl)
  (try simp only [Act.put, List.setIfInBounds_toArray, List.set_cons_zero, List.set_cons_succ])
  refine wpAnyH_ready (rs := [16]) (by kernel_rfl) (by simp) ?_
  refine' AllReadyH.cons (o := ?ooC16) ?hoC16 (fun K hK => ?stepC16) AllReadyH.nil
  case hoC16 =>
    simp only [List.getElem?_toArray, List.getElem?_cons_succ, List.getElem?_cons_zero]
    exact rfl
  go_simp
  go_at_call 31
  refine (D2.out _).mono ?_
  rintro e w1 ⟨rfl, hb1⟩
  go_wp2_with fail
  refine hK.out _ _ ?_ (fun hS => ?_)
  · (try dsimp only)
    go_split_ands
    (repeat' apply And.intro) <;> first | (refine cell_later hb1 ?_; with_reducible assumption) | (refine below_then ?_ hb1; with_reducible assumption)
  clear hK K hb1
  (try simp only [Act.put, List.setIfInBounds_toArray, List.set_cons_zero, List.set_cons_succ])
  refine' wpAnyH_take (i := 17) (oi := ?oiT17) (v := ?vT17) ?hiT17 (by kernel_rfl) (by kernel_rfl) (by kernel_rfl) ?hQT17 ?hyT17 hS ?restT17
  case hiT17 =>
    simp only [List.getElem?_toArray, List.getElem?_cons_succ, List.getElem?_cons_zero]
    exact rfl
  case hQT17 => exact fun _ _ _ h => h
  case hyT17 =>
    refine Or.inl ⟨by rfl, ?_⟩
    intro w hSw
    (try dsimp only at hSw)
    go_simp
    (try with_reducible rfl)
  (try simp only [Act.put, List.setIfInBounds_toArray, List.set_cons_zero, List.set_cons_succ])
  refine' wpAnyH_take (i := 18) (oi := ?oiT18) (v := ?vT18) ?hiT18 (by kernel_rfl) (by kernel_rfl) (by kernel_rfl) ?hQT18 ?hyT18 hS ?restT18
  case hiT18 =>
    simp only [List.getElem?_toArray, List.getElem?_cons_succ, List.getElem?_cons_zero]
    exact rfl
  case hQT18 => exact fun _ _ _ h => h
  case hyT18 =>
    refine Or.inl ⟨by rfl, ?_⟩
    intro w hSw
    (try dsimp only at hSw)
    go_simp
    (try with_reducible rfl)
  (try simp only [Act.put, List.setIfInBounds_toArray, List.set_cons_zero, List.set_cons_succ])
  refine wpAnyH_ready (rs := [21]) (by kernel_rfl) (by simp) ?_
  refine' AllReadyH.cons (o := ?ooC21) ?hoC21 (fun K hK => ?stepC21) AllReadyH.nil
  case hoC21 =>
    simp only [List.getElem?_toArray, List.getElem?_cons_succ, List.getElem?_cons_zero]
    exact rfl
  go_simp
  go_at_call 31
  refine (D3.out _).mono ?_
  rintro e w1 ⟨rfl, hb1⟩
  go_wp2_with fail
  refine hK.out _ _ ?_ (fun hS => ?_)
  · (try dsimp only)
    go_split_ands
    (repeat' apply And.intro) <;> first | (refine cell_later hb1 ?_; with_reducible assumption) | (refine below_then ?_ hb1; with_reducible assumption)
  clear hK K hb1
  (try simp only [Act.put, List.setIfInBounds_toArray, List.set_cons_zero, List.set_cons_succ])
  refine' wpAnyH_take (i := 22) (oi := ?oiT22) (v := ?vT22) ?hiT22 (by kernel_rfl) (by kernel_rfl) (by kernel_rfl) ?hQT22 ?hyT22 hS ?restT22
  case hiT22 =>
    simp only [List.getElem?_toArray, List.getElem?_cons_succ, List.getElem?_cons_zero]
    exact rfl
  case hQT22 => exact fun _ _ _ h => h
  case hyT22 =>
    refine Or.inl ⟨by rfl, ?_⟩
    intro w hSw
    (try dsimp only at hSw)
    go_simp
    (try with_reducible rfl)
  (try simp only [Act.put, List.setIfInBounds_toArray, List.set_cons_zero, List.set_cons_succ])
  refine' wpAnyH_take (i := 23) (oi := ?oiT23) (v := ?vT23) ?hiT23 (by kernel_rfl) (by kernel_rfl) (by kernel_rfl) ?hQT23 ?hyT23 hS ?restT23
  case hiT23 =>
    simp only [List.getElem?_toArray, List.getElem?_cons_succ, List.getElem?_cons_zero]
    exact rfl
  case hQT23 => exact fun _ _ _ h => h
  case hyT23 =>
    refine Or.inl ⟨by rfl, ?_⟩
    intro w hSw
    (try dsimp only at hSw)
    go_simp
    (try with_reducible rfl)
  (try simp only [Act.put, List.setIfInBounds_toArray, List.set_cons_zero, List.set_cons_succ])
  refine wpAnyH_done (by kernel_rfl) ?_ _
  have hB := hS.2.2.2.2.2
  clear hS
  go_wp2
  go_ret
  refine ⟨?_, hB⟩
  simp only [bapp0, bapp, show ∀ (a : List UInt8) (b : Array UInt8), (⟨a.toArray⟩ : ByteArray) ++ ⟨b⟩ = ⟨(a ++ b.toList).toArray⟩ from fun a b => by rw [← bapp]]
  rfl
end Go.Proofs.YtgldieboflmnhaaGreatDoor
