/- The law on texts, walked. -/
import Derived.Test.YtmggiclikbacjaaDoorTextB
namespace Go.Proofs.YtmggiclikbacjaaDoor
open Go Go.Proofs Go.RowKit
set_option maxRecDepth 100000
attribute [local go_sem] cell_set
set_option linter.unusedSimpArgs false in
set_option maxHeartbeats 16000000 in
theorem texts_law (s : ByteArray) (h1 l1 : Int) (i1 : InI h1 l1) (w : World) (ht : Tab w) :
    Calls Tryd.prog 5 #[.string s, .agg #[.int .i64 h1, .int .u64 l1]] w fun e w' => e = .returned (.bool true) ∧ Below w.heap.size w w' := by
  have K := Lib.hid known_any
  have HT := Lib.hid ht
  by_cases hs : s.size ≤ 200
  · obtain ⟨h, l, e0, PX, PR, he⟩ := parse_both s hs
    have T := Lib.hid (fun W ht => Text_any h1 l1 i1 W ht)
    have TR := Lib.hid (fun W => ref_text h1 l1 i1 W)
    have PA := Lib.hid (fun W => Parse_itoa h1 l1 i1 W)
    have OA := Lib.hid lawOf_any
    have hs2 : ¬ (200 : Int) < (s.size : Int) := by omega
    have hs3 : ¬ 200 < s.size := by omega
    generalize Lib.itoa (val h1 l1) = tx at *
    rcases he with ⟨rfl, i, hx⟩ | rfl | rfl
    · have tt := fun W ht => Text_any h l i W ht
      rw [hx] at tt
      have TX := Lib.hid tt
      clear tt hx i i1 ht hs
      go_enter Tryd.func5, Tryd.ntmps5
      go_wp2_with fail
      refine (K.out _ (HT.out.below (below_cells _))).mono ?_
      rintro e w1 ⟨rfl, hb1⟩
      have DA : At w1 (w.heap.size) [.int .i64 h1, .int .u64 l1] := by have h := (At.new (w) #[.int .i64 h1, .int .u64 l1] 24).below hb1; simpa using h
      have B : Below w.heap.size w w1 := below_then (below_new (Below.refl _ _) (.cells #[.int .i64 h1, .int .u64 l1] 24)) hb1
      clear hb1
      have aA0 := DA.cell 0 _ rfl
      have aA1 := DA.cell 1 _ rfl
      have nA := DA.lt
      go_wp2_with fail
      refine (PX.out _).mono ?_
      rintro e w2 ⟨rfl, hb2⟩
      clear aA0 aA1 nA
      have DA := DA.below hb2
      have B : Below w.heap.size w w2 := below_then (B) hb2
      clear hb2
      have aA0 := DA.cell 0 _ rfl
      have aA1 := DA.cell 1 _ rfl
      have nA := DA.lt
      go_wp2_with fail
      refine (PR.out _).mono ?_
      rintro e w3 ⟨rfl, hb3⟩
      clear aA0 aA1 nA
      have DA := (DA.alloc (.cells #[.int .i64 h, .int .u64 l] 24)).below hb3
      have DX : At w3 (w2.heap.size) [.int .i64 h, .int .u64 l] := by have h := (At.new (w2) #[.int .i64 h, .int .u64 l] 24).below hb3; simpa using h
      have B : Below w.heap.size w w3 := below_then (below_new (B) (.cells #[.int .i64 h, .int .u64 l] 24)) hb3
      clear hb3
      have aA0 := DA.cell 0 _ rfl
      have aA1 := DA.cell 1 _ rfl
      have nA := DA.lt
      have aX0 := DX.cell 0 _ rfl
      have aX1 := DX.cell 1 _ rfl
      have nX := DX.lt
      go_wp2_with fail
      refine (T.out _ (HT.out.below (by have q := below_new B (.cells #[.int .i64 h, .int .u64 l] 29); exact q))).mono ?_
      rintro e w4 ⟨rfl, hb4⟩
      clear aA0 aA1 nA aX0 aX1 nX
      have DA := (DA.alloc (.cells #[.int .i64 h, .int .u64 l] 29)).below hb4
      have DX := (DX.alloc (.cells #[.int .i64 h, .int .u64 l] 29)).below hb4
      have DY : At w4 (w3.heap.size) [.int .i64 h, .int .u64 l] := by have h := (At.new (w3) #[.int .i64 h, .int .u64 l] 29).below hb4; simpa using h
      have B : Below w.heap.size w w4 := below_then (below_new (B) (.cells #[.int .i64 h, .int .u64 l] 29)) hb4
      clear hb4
      have aA0 := DA.cell 0 _ rfl
      have aA1 := DA.cell 1 _ rfl
      have nA := DA.lt
      have aX0 := DX.cell 0 _ rfl
      have aX1 := DX.cell 1 _ rfl
      have nX := DX.lt
      have aY0 := DY.cell 0 _ rfl
      have aY1 := DY.cell 1 _ rfl
      have nY := DY.lt
      go_wp2_with fail
      refine (PA.out _).mono ?_
      rintro e w5 ⟨rfl, hb5⟩
      clear aA0 aA1 nA aX0 aX1 nX aY0 aY1 nY
      have DA := DA.below hb5
      have DX := DX.below hb5
      have DY := DY.below hb5
      have B : Below w.heap.size w w5 := below_then (B) hb5
      clear hb5
      have aA0 := DA.cell 0 _ rfl
      have aA1 := DA.cell 1 _ rfl
      have nA := DA.lt
      have aX0 := DX.cell 0 _ rfl
      have aX1 := DX.cell 1 _ rfl
      have nX := DX.lt
      have aY0 := DY.cell 0 _ rfl
      have aY1 := DY.cell 1 _ rfl
      have nY := DY.lt
      clear aA0 aA1 nA aX0 aX1 nX aY0 aY1 nY
      have DA := (DA.alloc (.cells #[.int .i64 h1, .int .u64 l1] 24))
      have DX := (DX.alloc (.cells #[.int .i64 h1, .int .u64 l1] 24))
      have DY := (DY.alloc (.cells #[.int .i64 h1, .int .u64 l1] 24))
      have DZ : At ((w5).alloc (.cells #[.int .i64 h1, .int .u64 l1] 24)) (w5.heap.size) [.int .i64 h1, .int .u64 l1] := by have h := (At.new (w5) #[.int .i64 h1, .int .u64 l1] 24); simpa using h
      have B : Below w.heap.size w ((w5).alloc (.cells #[.int .i64 h1, .int .u64 l1] 24)) := below_new (B) (.cells #[.int .i64 h1, .int .u64 l1] 24)
      go_wp2_with fail
      generalize (w5).alloc (.cells #[.int .i64 h1, .int .u64 l1] 24) = W9 at *
      generalize w5.heap.size = bZ at *
      have aA0 := DA.cell 0 _ rfl
      have aA1 := DA.cell 1 _ rfl
      have nA := DA.lt
      have aX0 := DX.cell 0 _ rfl
      have aX1 := DX.cell 1 _ rfl
      have nX := DX.lt
      have aY0 := DY.cell 0 _ rfl
      have aY1 := DY.cell 1 _ rfl
      have nY := DY.lt
      have aZ0 := DZ.cell 0 _ rfl
      have aZ1 := DZ.cell 1 _ rfl
      have nZ := DZ.lt
      clear DA DX DY DZ
      go_region_held3 (fun w' => w'.cell? ⟨w.heap.size, 0, none⟩ = some (.int .i64 h1) ∧ w'.cell? ⟨w.heap.size, 1, none⟩ = some (.int .u64 l1) ∧ w'.cell? ⟨w2.heap.size, 0, none⟩ = some (.int .i64 h) ∧ w'.cell? ⟨w2.heap.size, 1, none⟩ = some (.int .u64 l) ∧ w'.cell? ⟨w3.heap.size, 0, none⟩ = some (.int .i64 h) ∧ w'.cell? ⟨w3.heap.size, 1, none⟩ = some (.int .u64 l) ∧ w'.cell? ⟨bZ, 0, none⟩ = some (.int .i64 h1) ∧ w'.cell? ⟨bZ, 1, none⟩ = some (.int .u64 l1) ∧ Below w.heap.size w w')
        (first
          | ((repeat' apply And.intro) <;> first | go_cell | exact B.drew)
          | (go_split_ands
             (repeat' apply And.intro) <;> first | (refine cell_later hb1 ?_; with_reducible assumption) | (refine below_then ?_ hb1; with_reducible assumption)))
        (first
          | (go_at_call 12; (with_reducible refine (OA.out _ _ _).mono ?_); rintro e w1 ⟨rfl, hb1⟩)
          | (go_at_call 21; (with_reducible refine (TR.out _).mono ?_); rintro e w1 ⟨rfl, hb1⟩)
          | (go_at_call 19; go_split_ands; refine (TX.out _ (HT.out.below (by with_reducible assumption))).mono ?_; rintro e w1 ⟨rfl, hb1⟩))
      all_goals
        rename_i hH
        have hB := hH.2.2.2.2.2.2.2.2
        clear hH
        go_wp2
        go_ret
        exact ⟨rfl, hB⟩
    · clear i1 ht hs
      go_enter Tryd.func5, Tryd.ntmps5
      go_wp2_with fail
      refine (K.out _ (HT.out.below (below_cells _))).mono ?_
      rintro e w1 ⟨rfl, hb1⟩
      have DA : At w1 (w.heap.size) [.int .i64 h1, .int .u64 l1] := by have h := (At.new (w) #[.int .i64 h1, .int .u64 l1] 24).below hb1; simpa using h
      have B : Below w.heap.size w w1 := below_then (below_new (Below.refl _ _) (.cells #[.int .i64 h1, .int .u64 l1] 24)) hb1
      clear hb1
      have aA0 := DA.cell 0 _ rfl
      have aA1 := DA.cell 1 _ rfl
      have nA := DA.lt
      go_wp2_with fail
      refine (PX.out _).mono ?_
      rintro e w2 ⟨rfl, hb2⟩
      clear aA0 aA1 nA
      have DA := DA.below hb2
      have B : Below w.heap.size w w2 := below_then (B) hb2
      clear hb2
      have aA0 := DA.cell 0 _ rfl
      have aA1 := DA.cell 1 _ rfl
      have nA := DA.lt
      go_wp2_with fail
      refine (PR.out _).mono ?_
      rintro e w3 ⟨rfl, hb3⟩
      clear aA0 aA1 nA
      have DA := (DA.alloc (.cells #[.int .i64 h, .int .u64 l] 24)).below hb3
      have DX : At w3 (w2.heap.size) [.int .i64 h, .int .u64 l] := by have h := (At.new (w2) #[.int .i64 h, .int .u64 l] 24).below hb3; simpa using h
      have B : Below w.heap.size w w3 := below_then (below_new (B) (.cells #[.int .i64 h, .int .u64 l] 24)) hb3
      clear hb3
      have aA0 := DA.cell 0 _ rfl
      have aA1 := DA.cell 1 _ rfl
      have nA := DA.lt
      have aX0 := DX.cell 0 _ rfl
      have aX1 := DX.cell 1 _ rfl
      have nX := DX.lt
      go_wp2_with fail
      refine (T.out _ (HT.out.below (by have q := below_new B (.cells #[.int .i64 h, .int .u64 l] 29); exact q))).mono ?_
      rintro e w4 ⟨rfl, hb4⟩
      clear aA0 aA1 nA aX0 aX1 nX
      have DA := (DA.alloc (.cells #[.int .i64 h, .int .u64 l] 29)).below hb4
      have DX := (DX.alloc (.cells #[.int .i64 h, .int .u64 l] 29)).below hb4
      have DY : At w4 (w3.heap.size) [.int .i64 h, .int .u64 l] := by have h := (At.new (w3) #[.int .i64 h, .int .u64 l] 29).below hb4; simpa using h
      have B : Below w.heap.size w w4 := below_then (below_new (B) (.cells #[.int .i64 h, .int .u64 l] 29)) hb4
      clear hb4
      have aA0 := DA.cell 0 _ rfl
      have aA1 := DA.cell 1 _ rfl
      have nA := DA.lt
      have aX0 := DX.cell 0 _ rfl
      have aX1 := DX.cell 1 _ rfl
      have nX := DX.lt
      have aY0 := DY.cell 0 _ rfl
      have aY1 := DY.cell 1 _ rfl
      have nY := DY.lt
      go_wp2_with fail
      refine (PA.out _).mono ?_
      rintro e w5 ⟨rfl, hb5⟩
      clear aA0 aA1 nA aX0 aX1 nX aY0 aY1 nY
      have DA := DA.below hb5
      have DX := DX.below hb5
      have DY := DY.below hb5
      have B : Below w.heap.size w w5 := below_then (B) hb5
      clear hb5
      have aA0 := DA.cell 0 _ rfl
      have aA1 := DA.cell 1 _ rfl
      have nA := DA.lt
      have aX0 := DX.cell 0 _ rfl
      have aX1 := DX.cell 1 _ rfl
      have nX := DX.lt
      have aY0 := DY.cell 0 _ rfl
      have aY1 := DY.cell 1 _ rfl
      have nY := DY.lt
      clear aA0 aA1 nA aX0 aX1 nX aY0 aY1 nY
      have DA := (DA.alloc (.cells #[.int .i64 h1, .int .u64 l1] 24))
      have DX := (DX.alloc (.cells #[.int .i64 h1, .int .u64 l1] 24))
      have DY := (DY.alloc (.cells #[.int .i64 h1, .int .u64 l1] 24))
      have DZ : At ((w5).alloc (.cells #[.int .i64 h1, .int .u64 l1] 24)) (w5.heap.size) [.int .i64 h1, .int .u64 l1] := by have h := (At.new (w5) #[.int .i64 h1, .int .u64 l1] 24); simpa using h
      have B : Below w.heap.size w ((w5).alloc (.cells #[.int .i64 h1, .int .u64 l1] 24)) := below_new (B) (.cells #[.int .i64 h1, .int .u64 l1] 24)
      go_wp2_with fail
      generalize (w5).alloc (.cells #[.int .i64 h1, .int .u64 l1] 24) = W9 at *
      generalize w5.heap.size = bZ at *
      have aA0 := DA.cell 0 _ rfl
      have aA1 := DA.cell 1 _ rfl
      have nA := DA.lt
      have aX0 := DX.cell 0 _ rfl
      have aX1 := DX.cell 1 _ rfl
      have nX := DX.lt
      have aY0 := DY.cell 0 _ rfl
      have aY1 := DY.cell 1 _ rfl
      have nY := DY.lt
      have aZ0 := DZ.cell 0 _ rfl
      have aZ1 := DZ.cell 1 _ rfl
      have nZ := DZ.lt
      clear DA DX DY DZ
      refine wp_region_held_drew (S := fun w' => w'.cell? ⟨w.heap.size, 0, none⟩ = some (.int .i64 h1) ∧ w'.cell? ⟨w.heap.size, 1, none⟩ = some (.int .u64 l1) ∧ w'.cell? ⟨w2.heap.size, 0, none⟩ = some (.int .i64 h) ∧ w'.cell? ⟨w2.heap.size, 1, none⟩ = some (.int .u64 l) ∧ w'.cell? ⟨w3.heap.size, 0, none⟩ = some (.int .i64 h) ∧ w'.cell? ⟨w3.heap.size, 1, none⟩ = some (.int .u64 l) ∧ w'.cell? ⟨bZ, 0, none⟩ = some (.int .i64 h1) ∧ w'.cell? ⟨bZ, 1, none⟩ = some (.int .u64 l1) ∧ Below w.heap.size w w') (by kernel_rfl) ?_ (fun hS => ?_)
      · (try dsimp only)
        (repeat' apply And.intro) <;> first | go_cell | exact B.drew
      refine' wpAnyH_take (i := 0) (oi := ?oiT0p) (v := ?vT0p) ?hiT0p (by kernel_rfl) (by kernel_rfl) (by kernel_rfl) ?hQT0p ?hyT0p hS ?restT0p
      case hiT0p =>
        simp only [List.getElem?_toArray, List.getElem?_cons_succ, List.getElem?_cons_zero]
        exact rfl
      case hQT0p => exact fun _ _ _ h => h
      case hyT0p =>
        refine Or.inl ⟨by rfl, ?_⟩
        intro w hSw
        (try dsimp only at hSw)
        go_simp
        (try with_reducible rfl)
      (try simp only [Act.put, List.setIfInBounds_toArray, List.set_cons_zero, List.set_cons_succ])
      refine' wpAnyH_take (i := 1) (oi := ?oiT1p) (v := ?vT1p) ?hiT1p (by kernel_rfl) (by kernel_rfl) (by kernel_rfl) ?hQT1p ?hyT1p hS ?restT1p
      case hiT1p =>
        simp only [List.getElem?_toArray, List.getElem?_cons_succ, List.getElem?_cons_zero]
        exact rfl
      case hQT1p => exact fun _ _ _ h => h
      case hyT1p =>
        refine Or.inl ⟨by rfl, ?_⟩
        intro w hSw
        (try dsimp only at hSw)
        go_simp
        (try with_reducible rfl)
      (try simp only [Act.put, List.setIfInBounds_toArray, List.set_cons_zero, List.set_cons_succ])
      refine' wpAnyH_take (i := 2) (oi := ?oiT2p) (v := ?vT2p) ?hiT2p (by kernel_rfl) (by kernel_rfl) (by kernel_rfl) ?hQT2p ?hyT2p hS ?restT2p
      case hiT2p =>
        simp only [List.getElem?_toArray, List.getElem?_cons_succ, List.getElem?_cons_zero]
        exact rfl
      case hQT2p => exact fun _ _ _ h => h
      case hyT2p =>
        refine Or.inl ⟨by rfl, ?_⟩
        intro w hSw
        (try dsimp only at hSw)
        go_simp
        (try with_reducible rfl)
      (try simp only [Act.put, List.setIfInBounds_toArray, List.set_cons_zero, List.set_cons_succ])
      refine' wpAnyH_take (i := 3) (oi := ?oiT3p) (v := ?vT3p) ?hiT3p (by kernel_rfl) (by kernel_rfl) (by kernel_rfl) ?hQT3p ?hyT3p hS ?restT3p
      case hiT3p =>
        simp only [List.getElem?_toArray, List.getElem?_cons_succ, List.getElem?_cons_zero]
        exact rfl
      case hQT3p => exact fun _ _ _ h => h
      case hyT3p =>
        refine Or.inl ⟨by rfl, ?_⟩
        intro w hSw
        (try dsimp only at hSw)
        go_simp
        (try with_reducible rfl)
      (try simp only [Act.put, List.setIfInBounds_toArray, List.set_cons_zero, List.set_cons_succ])
      refine' wpAnyH_take (i := 4) (oi := ?oiT4p) (v := ?vT4p) ?hiT4p (by kernel_rfl) (by kernel_rfl) (by kernel_rfl) ?hQT4p ?hyT4p hS ?restT4p
      case hiT4p =>
        simp only [List.getElem?_toArray, List.getElem?_cons_succ, List.getElem?_cons_zero]
        exact rfl
      case hQT4p => exact fun _ _ _ h => h
      case hyT4p =>
        refine Or.inl ⟨by rfl, ?_⟩
        intro w hSw
        (try dsimp only at hSw)
        go_simp
        (try with_reducible rfl)
      (try simp only [Act.put, List.setIfInBounds_toArray, List.set_cons_zero, List.set_cons_succ])
      refine' wpAnyH_take (i := 6) (oi := ?oiT6p) (v := ?vT6p) ?hiT6p (by kernel_rfl) (by kernel_rfl) (by kernel_rfl) ?hQT6p ?hyT6p hS ?restT6p
      case hiT6p =>
        simp only [List.getElem?_toArray, List.getElem?_cons_succ, List.getElem?_cons_zero]
        exact rfl
      case hQT6p => exact fun _ _ _ h => h
      case hyT6p =>
        refine Or.inl ⟨by rfl, ?_⟩
        intro w hSw
        (try dsimp only at hSw)
        go_simp
        (try with_reducible rfl)
      (try simp only [Act.put, List.setIfInBounds_toArray, List.set_cons_zero, List.set_cons_succ])
      refine wpAnyH_ready (rs := [5]) (by kernel_rfl) (by simp) ?_
      refine' AllReadyH.cons (o := ?ooC5p) ?hoC5p (fun K hK => ?stepC5p) AllReadyH.nil
      case hoC5p =>
        simp only [List.getElem?_toArray, List.getElem?_cons_succ, List.getElem?_cons_zero]
        exact rfl
      go_simp
      go_at_call 12
      refine (OA.out _ _ _).mono ?_
      rintro e w1 ⟨rfl, hb1⟩
      go_wp2_with fail
      refine hK.out _ _ ?_ (fun hS => ?_)
      · (try dsimp only)
        go_split_ands
        (repeat' apply And.intro) <;> first | (refine cell_later hb1 ?_; with_reducible assumption) | (refine below_then ?_ hb1; with_reducible assumption)
      clear hK K hb1
      (try simp only [Act.put, List.setIfInBounds_toArray, List.set_cons_zero, List.set_cons_succ])
      refine' wpAnyH_take (i := 7) (oi := ?oiT7p) (v := ?vT7p) ?hiT7p (by kernel_rfl) (by kernel_rfl) (by kernel_rfl) ?hQT7p ?hyT7p hS ?restT7p
      case hiT7p =>
        simp only [List.getElem?_toArray, List.getElem?_cons_succ, List.getElem?_cons_zero]
        exact rfl
      case hQT7p => exact fun _ _ _ h => h
      case hyT7p =>
        refine Or.inl ⟨by rfl, ?_⟩
        intro w hSw
        (try dsimp only at hSw)
        go_simp
        (try with_reducible rfl)
      (try simp only [Act.put, List.setIfInBounds_toArray, List.set_cons_zero, List.set_cons_succ])
      refine' wpAnyH_take (i := 8) (oi := ?oiT8p) (v := ?vT8p) ?hiT8p (by kernel_rfl) (by kernel_rfl) (by kernel_rfl) ?hQT8p ?hyT8p hS ?restT8p
      case hiT8p =>
        simp only [List.getElem?_toArray, List.getElem?_cons_succ, List.getElem?_cons_zero]
        exact rfl
      case hQT8p => exact fun _ _ _ h => h
      case hyT8p =>
        refine Or.inl ⟨by rfl, ?_⟩
        intro w hSw
        (try dsimp only at hSw)
        go_simp
        (try with_reducible rfl)
      (try simp only [Act.put, List.setIfInBounds_toArray, List.set_cons_zero, List.set_cons_succ])
      refine' wpAnyH_take (i := 9) (oi := ?oiT9p) (v := ?vT9p) ?hiT9p (by kernel_rfl) (by kernel_rfl) (by kernel_rfl) ?hQT9p ?hyT9p hS ?restT9p
      case hiT9p =>
        simp only [List.getElem?_toArray, List.getElem?_cons_succ, List.getElem?_cons_zero]
        exact rfl
      case hQT9p => exact fun _ _ _ h => h
      case hyT9p =>
        refine Or.inl ⟨by rfl, ?_⟩
        intro w hSw
        (try dsimp only at hSw)
        go_simp
        (try with_reducible rfl)
      (try simp only [Act.put, List.setIfInBounds_toArray, List.set_cons_zero, List.set_cons_succ])
      refine' wpAnyH_take (i := 10) (oi := ?oiT10p) (v := ?vT10p) ?hiT10p (by kernel_rfl) (by kernel_rfl) (by kernel_rfl) ?hQT10p ?hyT10p hS ?restT10p
      case hiT10p =>
        simp only [List.getElem?_toArray, List.getElem?_cons_succ, List.getElem?_cons_zero]
        exact rfl
      case hQT10p => exact fun _ _ _ h => h
      case hyT10p =>
        refine Or.inl ⟨by rfl, ?_⟩
        intro w hSw
        (try dsimp only at hSw)
        go_simp
        (try with_reducible rfl)
      (try simp only [Act.put, List.setIfInBounds_toArray, List.set_cons_zero, List.set_cons_succ])
      refine' wpAnyH_take (i := 11) (oi := ?oiT11p) (v := ?vT11p) ?hiT11p (by kernel_rfl) (by kernel_rfl) (by kernel_rfl) ?hQT11p ?hyT11p hS ?restT11p
      case hiT11p =>
        simp only [List.getElem?_toArray, List.getElem?_cons_succ, List.getElem?_cons_zero]
        exact rfl
      case hQT11p => exact fun _ _ _ h => h
      case hyT11p =>
        refine Or.inl ⟨by rfl, ?_⟩
        intro w hSw
        (try dsimp only at hSw)
        go_simp
        (try with_reducible rfl)
      (try simp only [Act.put, List.setIfInBounds_toArray, List.set_cons_zero, List.set_cons_succ])
      refine wpAnyH_ready (rs := [12]) (by kernel_rfl) (by simp) ?_
      refine' AllReadyH.cons (o := ?ooC12p) ?hoC12p (fun K hK => ?stepC12p) AllReadyH.nil
      case hoC12p =>
        simp only [List.getElem?_toArray, List.getElem?_cons_succ, List.getElem?_cons_zero]
        exact rfl
      go_simp
      go_at_call 12
      refine (OA.out _ _ _).mono ?_
      rintro e w1 ⟨rfl, hb1⟩
      go_wp2_with fail
      refine hK.out _ _ ?_ (fun hS => ?_)
      · (try dsimp only)
        go_split_ands
        (repeat' apply And.intro) <;> first | (refine cell_later hb1 ?_; with_reducible assumption) | (refine below_then ?_ hb1; with_reducible assumption)
      clear hK K hb1
      (try simp only [Act.put, List.setIfInBounds_toArray, List.set_cons_zero, List.set_cons_succ])
      refine wpAnyH_ready (rs := [13]) (by kernel_rfl) (by simp) ?_
      refine' AllReadyH.cons (o := ?ooC13p) ?hoC13p (fun K hK => ?stepC13p) AllReadyH.nil
      case hoC13p =>
        simp only [List.getElem?_toArray, List.getElem?_cons_succ, List.getElem?_cons_zero]
        exact rfl
      go_simp
      go_at_call 21
      refine (TR.out _).mono ?_
      rintro e w1 ⟨rfl, hb1⟩
      go_wp2_with fail
      refine hK.out _ _ ?_ (fun hS => ?_)
      · (try dsimp only)
        go_split_ands
        (repeat' apply And.intro) <;> first | (refine cell_later hb1 ?_; with_reducible assumption) | (refine below_then ?_ hb1; with_reducible assumption)
      clear hK K hb1
      (try simp only [Act.put, List.setIfInBounds_toArray, List.set_cons_zero, List.set_cons_succ])
      refine' wpAnyH_take (i := 14) (oi := ?oiT14p) (v := ?vT14p) ?hiT14p (by kernel_rfl) (by kernel_rfl) (by kernel_rfl) ?hQT14p ?hyT14p hS ?restT14p
      case hiT14p =>
        simp only [List.getElem?_toArray, List.getElem?_cons_succ, List.getElem?_cons_zero]
        exact rfl
      case hQT14p => exact fun _ _ _ h => h
      case hyT14p =>
        refine Or.inl ⟨by rfl, ?_⟩
        intro w hSw
        (try dsimp only at hSw)
        go_simp
        (try with_reducible rfl)
      (try simp only [Act.put, List.setIfInBounds_toArray, List.set_cons_zero, List.set_cons_succ])
      refine' wpAnyH_take (i := 15) (oi := ?oiT15p) (v := ?vT15p) ?hiT15p (by kernel_rfl) (by kernel_rfl) (by kernel_rfl) ?hQT15p ?hyT15p hS ?restT15p
      case hiT15p =>
        simp only [List.getElem?_toArray, List.getElem?_cons_succ, List.getElem?_cons_zero]
        exact rfl
      case hQT15p => exact fun _ _ _ h => h
      case hyT15p =>
        refine Or.inl ⟨by rfl, ?_⟩
        intro w hSw
        (try dsimp only at hSw)
        go_simp
        (try with_reducible rfl)
      (try simp only [Act.put, List.setIfInBounds_toArray, List.set_cons_zero, List.set_cons_succ])
      refine' wpAnyH_take (i := 16) (oi := ?oiT16p) (v := ?vT16p) ?hiT16p (by kernel_rfl) (by kernel_rfl) (by kernel_rfl) ?hQT16p ?hyT16p hS ?restT16p
      case hiT16p =>
        simp only [List.getElem?_toArray, List.getElem?_cons_succ, List.getElem?_cons_zero]
        exact rfl
      case hQT16p => exact fun _ _ _ h => h
      case hyT16p =>
        refine Or.inl ⟨by rfl, ?_⟩
        intro w hSw
        (try dsimp only at hSw)
        go_simp
        (try with_reducible rfl)
      (try simp only [Act.put, List.setIfInBounds_toArray, List.set_cons_zero, List.set_cons_succ])
      refine' wpAnyH_take (i := 17) (oi := ?oiT17p) (v := ?vT17p) ?hiT17p (by kernel_rfl) (by kernel_rfl) (by kernel_rfl) ?hQT17p ?hyT17p hS ?restT17p
      case hiT17p =>
        simp only [List.getElem?_toArray, List.getElem?_cons_succ, List.getElem?_cons_zero]
        exact rfl
      case hQT17p => exact fun _ _ _ h => h
      case hyT17p =>
        refine Or.inl ⟨by rfl, ?_⟩
        intro w hSw
        (try dsimp only at hSw)
        go_simp
        (try with_reducible rfl)
      (try simp only [Act.put, List.setIfInBounds_toArray, List.set_cons_zero, List.set_cons_succ])
      refine' wpAnyH_take (i := 18) (oi := ?oiT18p) (v := ?vT18p) ?hiT18p (by kernel_rfl) (by kernel_rfl) (by kernel_rfl) ?hQT18p ?hyT18p hS ?restT18p
      case hiT18p =>
        simp only [List.getElem?_toArray, List.getElem?_cons_succ, List.getElem?_cons_zero]
        exact rfl
      case hQT18p => exact fun _ _ _ h => h
      case hyT18p =>
        refine Or.inl ⟨by rfl, ?_⟩
        intro w hSw
        (try dsimp only at hSw)
        go_simp
        (try with_reducible rfl)
      (try simp only [Act.put, List.setIfInBounds_toArray, List.set_cons_zero, List.set_cons_succ])
      refine' wpAnyH_take (i := 19) (oi := ?oiT19p) (v := ?vT19p) ?hiT19p (by kernel_rfl) (by kernel_rfl) (by kernel_rfl) ?hQT19p ?hyT19p hS ?restT19p
      case hiT19p =>
        simp only [List.getElem?_toArray, List.getElem?_cons_succ, List.getElem?_cons_zero]
        exact rfl
      case hQT19p => exact fun _ _ _ h => h
      case hyT19p =>
        refine Or.inl ⟨by rfl, ?_⟩
        intro w hSw
        (try dsimp only at hSw)
        go_simp
        (try with_reducible rfl)
      (try simp only [Act.put, List.setIfInBounds_toArray, List.set_cons_zero, List.set_cons_succ])
      refine' wpAnyH_take (i := 20) (oi := ?oiT20p) (v := ?vT20p) ?hiT20p (by kernel_rfl) (by kernel_rfl) (by kernel_rfl) ?hQT20p ?hyT20p hS ?restT20p
      case hiT20p =>
        simp only [List.getElem?_toArray, List.getElem?_cons_succ, List.getElem?_cons_zero]
        exact rfl
      case hQT20p => exact fun _ _ _ h => h
      case hyT20p =>
        refine Or.inl ⟨by rfl, ?_⟩
        intro w hSw
        (try dsimp only at hSw)
        go_simp
        (try with_reducible rfl)
      (try simp only [Act.put, List.setIfInBounds_toArray, List.set_cons_zero, List.set_cons_succ])
      refine' wpAnyH_take (i := 21) (oi := ?oiT21p) (v := ?vT21p) ?hiT21p (by kernel_rfl) (by kernel_rfl) (by kernel_rfl) ?hQT21p ?hyT21p hS ?restT21p
      case hiT21p =>
        simp only [List.getElem?_toArray, List.getElem?_cons_succ, List.getElem?_cons_zero]
        exact rfl
      case hQT21p => exact fun _ _ _ h => h
      case hyT21p =>
        refine Or.inl ⟨by rfl, ?_⟩
        intro w hSw
        (try dsimp only at hSw)
        go_simp
        (try with_reducible rfl)
      (try simp only [Act.put, List.setIfInBounds_toArray, List.set_cons_zero, List.set_cons_succ])
      refine' wpAnyH_take (i := 22) (oi := ?oiT22p) (v := ?vT22p) ?hiT22p (by kernel_rfl) (by kernel_rfl) (by kernel_rfl) ?hQT22p ?hyT22p hS ?restT22p
      case hiT22p =>
        simp only [List.getElem?_toArray, List.getElem?_cons_succ, List.getElem?_cons_zero]
        exact rfl
      case hQT22p => exact fun _ _ _ h => h
      case hyT22p =>
        refine Or.inl ⟨by rfl, ?_⟩
        intro w hSw
        (try dsimp only at hSw)
        go_simp
        (try with_reducible rfl)
      (try simp only [Act.put, List.setIfInBounds_toArray, List.set_cons_zero, List.set_cons_succ])
      refine' wpAnyH_take (i := 23) (oi := ?oiT23p) (v := ?vT23p) ?hiT23p (by kernel_rfl) (by kernel_rfl) (by kernel_rfl) ?hQT23p ?hyT23p hS ?restT23p
      case hiT23p =>
        simp only [List.getElem?_toArray, List.getElem?_cons_succ, List.getElem?_cons_zero]
        exact rfl
      case hQT23p => exact fun _ _ _ h => h
      case hyT23p =>
        refine Or.inl ⟨by rfl, ?_⟩
        intro w hSw
        (try dsimp only at hSw)
        go_simp
        (try with_reducible rfl)
      (try simp only [Act.put, List.setIfInBounds_toArray, List.set_cons_zero, List.set_cons_succ])
      refine' wpAnyH_take (i := 24) (oi := ?oiT24p) (v := ?vT24p) ?hiT24p (by kernel_rfl) (by kernel_rfl) (by kernel_rfl) ?hQT24p ?hyT24p hS ?restT24p
      case hiT24p =>
        simp only [List.getElem?_toArray, List.getElem?_cons_succ, List.getElem?_cons_zero]
        exact rfl
      case hQT24p => exact fun _ _ _ h => h
      case hyT24p =>
        refine Or.inl ⟨by rfl, ?_⟩
        intro w hSw
        (try dsimp only at hSw)
        go_simp
        (try with_reducible rfl)
      (try simp only [Act.put, List.setIfInBounds_toArray, List.set_cons_zero, List.set_cons_succ])
      refine' wpAnyH_take (i := 25) (oi := ?oiT25p) (v := ?vT25p) ?hiT25p (by kernel_rfl) (by kernel_rfl) (by kernel_rfl) ?hQT25p ?hyT25p hS ?restT25p
      case hiT25p =>
        simp only [List.getElem?_toArray, List.getElem?_cons_succ, List.getElem?_cons_zero]
        exact rfl
      case hQT25p => exact fun _ _ _ h => h
      case hyT25p =>
        refine Or.inl ⟨by rfl, ?_⟩
        intro w hSw
        (try dsimp only at hSw)
        go_simp
        (try with_reducible rfl)
      (try simp only [Act.put, List.setIfInBounds_toArray, List.set_cons_zero, List.set_cons_succ])
      refine' wpAnyH_take (i := 26) (oi := ?oiT26p) (v := ?vT26p) ?hiT26p (by kernel_rfl) (by kernel_rfl) (by kernel_rfl) ?hQT26p ?hyT26p hS ?restT26p
      case hiT26p =>
        simp only [List.getElem?_toArray, List.getElem?_cons_succ, List.getElem?_cons_zero]
        exact rfl
      case hQT26p => exact fun _ _ _ h => h
      case hyT26p =>
        refine Or.inl ⟨by rfl, ?_⟩
        intro w hSw
        (try dsimp only at hSw)
        go_simp
        (try with_reducible rfl)
      (try simp only [Act.put, List.setIfInBounds_toArray, List.set_cons_zero, List.set_cons_succ])
      refine' wpAnyH_take (i := 27) (oi := ?oiT27p) (v := ?vT27p) ?hiT27p (by kernel_rfl) (by kernel_rfl) (by kernel_rfl) ?hQT27p ?hyT27p hS ?restT27p
      case hiT27p =>
        simp only [List.getElem?_toArray, List.getElem?_cons_succ, List.getElem?_cons_zero]
        exact rfl
      case hQT27p => exact fun _ _ _ h => h
      case hyT27p =>
        refine Or.inl ⟨by rfl, ?_⟩
        intro w hSw
        (try dsimp only at hSw)
        go_simp
        (try with_reducible rfl)
      (try simp only [Act.put, List.setIfInBounds_toArray, List.set_cons_zero, List.set_cons_succ])
      refine' wpAnyH_take (i := 28) (oi := ?oiT28p) (v := ?vT28p) ?hiT28p (by kernel_rfl) (by kernel_rfl) (by kernel_rfl) ?hQT28p ?hyT28p hS ?restT28p
      case hiT28p =>
        simp only [List.getElem?_toArray, List.getElem?_cons_succ, List.getElem?_cons_zero]
        exact rfl
      case hQT28p => exact fun _ _ _ h => h
      case hyT28p =>
        refine Or.inl ⟨by rfl, ?_⟩
        intro w hSw
        (try dsimp only at hSw)
        go_simp
        (try with_reducible rfl)
      (try simp only [Act.put, List.setIfInBounds_toArray, List.set_cons_zero, List.set_cons_succ])
      refine' wpAnyH_take (i := 29) (oi := ?oiS29p) (v := undef) ?hiS29p (by kernel_rfl) (by kernel_rfl) (by kernel_rfl) ?hQS29p ?hyS29p hS ?restS29p
      case hiS29p =>
        simp only [List.getElem?_toArray, List.getElem?_cons_succ, List.getElem?_cons_zero]
        exact rfl
      case hQS29p => exact fun _ _ _ h => h
      case hyS29p => exact Or.inr ⟨by rfl, rfl⟩
      (try simp only [Act.put, List.setIfInBounds_toArray, List.set_cons_zero, List.set_cons_succ])
      refine' wpAnyH_take (i := 30) (oi := ?oiS30p) (v := undef) ?hiS30p (by kernel_rfl) (by kernel_rfl) (by kernel_rfl) ?hQS30p ?hyS30p hS ?restS30p
      case hiS30p =>
        simp only [List.getElem?_toArray, List.getElem?_cons_succ, List.getElem?_cons_zero]
        exact rfl
      case hQS30p => exact fun _ _ _ h => h
      case hyS30p => exact Or.inr ⟨by rfl, rfl⟩
      (try simp only [Act.put, List.setIfInBounds_toArray, List.set_cons_zero, List.set_cons_succ])
      refine' wpAnyH_take (i := 31) (oi := ?oiS31p) (v := undef) ?hiS31p (by kernel_rfl) (by kernel_rfl) (by kernel_rfl) ?hQS31p ?hyS31p hS ?restS31p
      case hiS31p =>
        simp only [List.getElem?_toArray, List.getElem?_cons_succ, List.getElem?_cons_zero]
        exact rfl
      case hQS31p => exact fun _ _ _ h => h
      case hyS31p => exact Or.inr ⟨by rfl, rfl⟩
      (try simp only [Act.put, List.setIfInBounds_toArray, List.set_cons_zero, List.set_cons_succ])
      refine' wpAnyH_take (i := 32) (oi := ?oiS32p) (v := undef) ?hiS32p (by kernel_rfl) (by kernel_rfl) (by kernel_rfl) ?hQS32p ?hyS32p hS ?restS32p
      case hiS32p =>
        simp only [List.getElem?_toArray, List.getElem?_cons_succ, List.getElem?_cons_zero]
        exact rfl
      case hQS32p => exact fun _ _ _ h => h
      case hyS32p => exact Or.inr ⟨by rfl, rfl⟩
      (try simp only [Act.put, List.setIfInBounds_toArray, List.set_cons_zero, List.set_cons_succ])
      refine' wpAnyH_take (i := 33) (oi := ?oiT33p) (v := ?vT33p) ?hiT33p (by kernel_rfl) (by kernel_rfl) (by kernel_rfl) ?hQT33p ?hyT33p hS ?restT33p
      case hiT33p =>
        simp only [List.getElem?_toArray, List.getElem?_cons_succ, List.getElem?_cons_zero]
        exact rfl
      case hQT33p => exact fun _ _ _ h => h
      case hyT33p =>
        refine Or.inl ⟨by rfl, ?_⟩
        intro w hSw
        (try dsimp only at hSw)
        go_simp
        (try with_reducible rfl)
      (try simp only [Act.put, List.setIfInBounds_toArray, List.set_cons_zero, List.set_cons_succ])
      refine' wpAnyH_take (i := 34) (oi := ?oiT34p) (v := ?vT34p) ?hiT34p (by kernel_rfl) (by kernel_rfl) (by kernel_rfl) ?hQT34p ?hyT34p hS ?restT34p
      case hiT34p =>
        simp only [List.getElem?_toArray, List.getElem?_cons_succ, List.getElem?_cons_zero]
        exact rfl
      case hQT34p => exact fun _ _ _ h => h
      case hyT34p =>
        refine Or.inl ⟨by rfl, ?_⟩
        intro w hSw
        (try dsimp only at hSw)
        go_simp
        (try with_reducible rfl)
      (try simp only [Act.put, List.setIfInBounds_toArray, List.set_cons_zero, List.set_cons_succ])
      refine' wpAnyH_take (i := 35) (oi := ?oiT35p) (v := ?vT35p) ?hiT35p (by kernel_rfl) (by kernel_rfl) (by kernel_rfl) ?hQT35p ?hyT35p hS ?restT35p
      case hiT35p =>
        simp only [List.getElem?_toArray, List.getElem?_cons_succ, List.getElem?_cons_zero]
        exact rfl
      case hQT35p => exact fun _ _ _ h => h
      case hyT35p =>
        refine Or.inl ⟨by rfl, ?_⟩
        intro w hSw
        (try dsimp only at hSw)
        go_simp
        (try with_reducible rfl)
      (try simp only [Act.put, List.setIfInBounds_toArray, List.set_cons_zero, List.set_cons_succ])
      refine wpAnyH_done (by kernel_rfl) ?_ _
      have hB := hS.2.2.2.2.2.2.2.2
      clear hS
      go_wp2
      go_ret
      exact ⟨rfl, hB⟩
    · clear i1 ht hs
      go_enter Tryd.func5, Tryd.ntmps5
      go_wp2_with fail
      refine (K.out _ (HT.out.below (below_cells _))).mono ?_
      rintro e w1 ⟨rfl, hb1⟩
      have DA : At w1 (w.heap.size) [.int .i64 h1, .int .u64 l1] := by have h := (At.new (w) #[.int .i64 h1, .int .u64 l1] 24).below hb1; simpa using h
      have B : Below w.heap.size w w1 := below_then (below_new (Below.refl _ _) (.cells #[.int .i64 h1, .int .u64 l1] 24)) hb1
      clear hb1
      have aA0 := DA.cell 0 _ rfl
      have aA1 := DA.cell 1 _ rfl
      have nA := DA.lt
      go_wp2_with fail
      refine (PX.out _).mono ?_
      rintro e w2 ⟨rfl, hb2⟩
      clear aA0 aA1 nA
      have DA := DA.below hb2
      have B : Below w.heap.size w w2 := below_then (B) hb2
      clear hb2
      have aA0 := DA.cell 0 _ rfl
      have aA1 := DA.cell 1 _ rfl
      have nA := DA.lt
      go_wp2_with fail
      refine (PR.out _).mono ?_
      rintro e w3 ⟨rfl, hb3⟩
      clear aA0 aA1 nA
      have DA := (DA.alloc (.cells #[.int .i64 h, .int .u64 l] 24)).below hb3
      have DX : At w3 (w2.heap.size) [.int .i64 h, .int .u64 l] := by have h := (At.new (w2) #[.int .i64 h, .int .u64 l] 24).below hb3; simpa using h
      have B : Below w.heap.size w w3 := below_then (below_new (B) (.cells #[.int .i64 h, .int .u64 l] 24)) hb3
      clear hb3
      have aA0 := DA.cell 0 _ rfl
      have aA1 := DA.cell 1 _ rfl
      have nA := DA.lt
      have aX0 := DX.cell 0 _ rfl
      have aX1 := DX.cell 1 _ rfl
      have nX := DX.lt
      go_wp2_with fail
      refine (T.out _ (HT.out.below (by have q := below_new B (.cells #[.int .i64 h, .int .u64 l] 29); exact q))).mono ?_
      rintro e w4 ⟨rfl, hb4⟩
      clear aA0 aA1 nA aX0 aX1 nX
      have DA := (DA.alloc (.cells #[.int .i64 h, .int .u64 l] 29)).below hb4
      have DX := (DX.alloc (.cells #[.int .i64 h, .int .u64 l] 29)).below hb4
      have DY : At w4 (w3.heap.size) [.int .i64 h, .int .u64 l] := by have h := (At.new (w3) #[.int .i64 h, .int .u64 l] 29).below hb4; simpa using h
      have B : Below w.heap.size w w4 := below_then (below_new (B) (.cells #[.int .i64 h, .int .u64 l] 29)) hb4
      clear hb4
      have aA0 := DA.cell 0 _ rfl
      have aA1 := DA.cell 1 _ rfl
      have nA := DA.lt
      have aX0 := DX.cell 0 _ rfl
      have aX1 := DX.cell 1 _ rfl
      have nX := DX.lt
      have aY0 := DY.cell 0 _ rfl
      have aY1 := DY.cell 1 _ rfl
      have nY := DY.lt
      go_wp2_with fail
      refine (PA.out _).mono ?_
      rintro e w5 ⟨rfl, hb5⟩
      clear aA0 aA1 nA aX0 aX1 nX aY0 aY1 nY
      have DA := DA.below hb5
      have DX := DX.below hb5
      have DY := DY.below hb5
      have B : Below w.heap.size w w5 := below_then (B) hb5
      clear hb5
      have aA0 := DA.cell 0 _ rfl
      have aA1 := DA.cell 1 _ rfl
      have nA := DA.lt
      have aX0 := DX.cell 0 _ rfl
      have aX1 := DX.cell 1 _ rfl
      have nX := DX.lt
      have aY0 := DY.cell 0 _ rfl
      have aY1 := DY.cell 1 _ rfl
      have nY := DY.lt
      clear aA0 aA1 nA aX0 aX1 nX aY0 aY1 nY
      have DA := (DA.alloc (.cells #[.int .i64 h1, .int .u64 l1] 24))
      have DX := (DX.alloc (.cells #[.int .i64 h1, .int .u64 l1] 24))
      have DY := (DY.alloc (.cells #[.int .i64 h1, .int .u64 l1] 24))
      have DZ : At ((w5).alloc (.cells #[.int .i64 h1, .int .u64 l1] 24)) (w5.heap.size) [.int .i64 h1, .int .u64 l1] := by have h := (At.new (w5) #[.int .i64 h1, .int .u64 l1] 24); simpa using h
      have B : Below w.heap.size w ((w5).alloc (.cells #[.int .i64 h1, .int .u64 l1] 24)) := below_new (B) (.cells #[.int .i64 h1, .int .u64 l1] 24)
      go_wp2_with fail
      generalize (w5).alloc (.cells #[.int .i64 h1, .int .u64 l1] 24) = W9 at *
      generalize w5.heap.size = bZ at *
      have aA0 := DA.cell 0 _ rfl
      have aA1 := DA.cell 1 _ rfl
      have nA := DA.lt
      have aX0 := DX.cell 0 _ rfl
      have aX1 := DX.cell 1 _ rfl
      have nX := DX.lt
      have aY0 := DY.cell 0 _ rfl
      have aY1 := DY.cell 1 _ rfl
      have nY := DY.lt
      have aZ0 := DZ.cell 0 _ rfl
      have aZ1 := DZ.cell 1 _ rfl
      have nZ := DZ.lt
      clear DA DX DY DZ
      refine wp_region_held_drew (S := fun w' => w'.cell? ⟨w.heap.size, 0, none⟩ = some (.int .i64 h1) ∧ w'.cell? ⟨w.heap.size, 1, none⟩ = some (.int .u64 l1) ∧ w'.cell? ⟨w2.heap.size, 0, none⟩ = some (.int .i64 h) ∧ w'.cell? ⟨w2.heap.size, 1, none⟩ = some (.int .u64 l) ∧ w'.cell? ⟨w3.heap.size, 0, none⟩ = some (.int .i64 h) ∧ w'.cell? ⟨w3.heap.size, 1, none⟩ = some (.int .u64 l) ∧ w'.cell? ⟨bZ, 0, none⟩ = some (.int .i64 h1) ∧ w'.cell? ⟨bZ, 1, none⟩ = some (.int .u64 l1) ∧ Below w.heap.size w w') (by kernel_rfl) ?_ (fun hS => ?_)
      · (try dsimp only)
        (repeat' apply And.intro) <;> first | go_cell | exact B.drew
      refine' wpAnyH_take (i := 0) (oi := ?oiT0q) (v := ?vT0q) ?hiT0q (by kernel_rfl) (by kernel_rfl) (by kernel_rfl) ?hQT0q ?hyT0q hS ?restT0q
      case hiT0q =>
        simp only [List.getElem?_toArray, List.getElem?_cons_succ, List.getElem?_cons_zero]
        exact rfl
      case hQT0q => exact fun _ _ _ h => h
      case hyT0q =>
        refine Or.inl ⟨by rfl, ?_⟩
        intro w hSw
        (try dsimp only at hSw)
        go_simp
        (try with_reducible rfl)
      (try simp only [Act.put, List.setIfInBounds_toArray, List.set_cons_zero, List.set_cons_succ])
      refine' wpAnyH_take (i := 1) (oi := ?oiT1q) (v := ?vT1q) ?hiT1q (by kernel_rfl) (by kernel_rfl) (by kernel_rfl) ?hQT1q ?hyT1q hS ?restT1q
      case hiT1q =>
        simp only [List.getElem?_toArray, List.getElem?_cons_succ, List.getElem?_cons_zero]
        exact rfl
      case hQT1q => exact fun _ _ _ h => h
      case hyT1q =>
        refine Or.inl ⟨by rfl, ?_⟩
        intro w hSw
        (try dsimp only at hSw)
        go_simp
        (try with_reducible rfl)
      (try simp only [Act.put, List.setIfInBounds_toArray, List.set_cons_zero, List.set_cons_succ])
      refine' wpAnyH_take (i := 2) (oi := ?oiT2q) (v := ?vT2q) ?hiT2q (by kernel_rfl) (by kernel_rfl) (by kernel_rfl) ?hQT2q ?hyT2q hS ?restT2q
      case hiT2q =>
        simp only [List.getElem?_toArray, List.getElem?_cons_succ, List.getElem?_cons_zero]
        exact rfl
      case hQT2q => exact fun _ _ _ h => h
      case hyT2q =>
        refine Or.inl ⟨by rfl, ?_⟩
        intro w hSw
        (try dsimp only at hSw)
        go_simp
        (try with_reducible rfl)
      (try simp only [Act.put, List.setIfInBounds_toArray, List.set_cons_zero, List.set_cons_succ])
      refine' wpAnyH_take (i := 3) (oi := ?oiT3q) (v := ?vT3q) ?hiT3q (by kernel_rfl) (by kernel_rfl) (by kernel_rfl) ?hQT3q ?hyT3q hS ?restT3q
      case hiT3q =>
        simp only [List.getElem?_toArray, List.getElem?_cons_succ, List.getElem?_cons_zero]
        exact rfl
      case hQT3q => exact fun _ _ _ h => h
      case hyT3q =>
        refine Or.inl ⟨by rfl, ?_⟩
        intro w hSw
        (try dsimp only at hSw)
        go_simp
        (try with_reducible rfl)
      (try simp only [Act.put, List.setIfInBounds_toArray, List.set_cons_zero, List.set_cons_succ])
      refine' wpAnyH_take (i := 4) (oi := ?oiT4q) (v := ?vT4q) ?hiT4q (by kernel_rfl) (by kernel_rfl) (by kernel_rfl) ?hQT4q ?hyT4q hS ?restT4q
      case hiT4q =>
        simp only [List.getElem?_toArray, List.getElem?_cons_succ, List.getElem?_cons_zero]
        exact rfl
      case hQT4q => exact fun _ _ _ h => h
      case hyT4q =>
        refine Or.inl ⟨by rfl, ?_⟩
        intro w hSw
        (try dsimp only at hSw)
        go_simp
        (try with_reducible rfl)
      (try simp only [Act.put, List.setIfInBounds_toArray, List.set_cons_zero, List.set_cons_succ])
      refine' wpAnyH_take (i := 6) (oi := ?oiT6q) (v := ?vT6q) ?hiT6q (by kernel_rfl) (by kernel_rfl) (by kernel_rfl) ?hQT6q ?hyT6q hS ?restT6q
      case hiT6q =>
        simp only [List.getElem?_toArray, List.getElem?_cons_succ, List.getElem?_cons_zero]
        exact rfl
      case hQT6q => exact fun _ _ _ h => h
      case hyT6q =>
        refine Or.inl ⟨by rfl, ?_⟩
        intro w hSw
        (try dsimp only at hSw)
        go_simp
        (try with_reducible rfl)
      (try simp only [Act.put, List.setIfInBounds_toArray, List.set_cons_zero, List.set_cons_succ])
      refine wpAnyH_ready (rs := [5]) (by kernel_rfl) (by simp) ?_
      refine' AllReadyH.cons (o := ?ooC5q) ?hoC5q (fun K hK => ?stepC5q) AllReadyH.nil
      case hoC5q =>
        simp only [List.getElem?_toArray, List.getElem?_cons_succ, List.getElem?_cons_zero]
        exact rfl
      go_simp
      go_at_call 12
      refine (OA.out _ _ _).mono ?_
      rintro e w1 ⟨rfl, hb1⟩
      go_wp2_with fail
      refine hK.out _ _ ?_ (fun hS => ?_)
      · (try dsimp only)
        go_split_ands
        (repeat' apply And.intro) <;> first | (refine cell_later hb1 ?_; with_reducible assumption) | (refine below_then ?_ hb1; with_reducible assumption)
      clear hK K hb1
      (try simp only [Act.put, List.setIfInBounds_toArray, List.set_cons_zero, List.set_cons_succ])
      refine' wpAnyH_take (i := 7) (oi := ?oiT7q) (v := ?vT7q) ?hiT7q (by kernel_rfl) (by kernel_rfl) (by kernel_rfl) ?hQT7q ?hyT7q hS ?restT7q
      case hiT7q =>
        simp only [List.getElem?_toArray, List.getElem?_cons_succ, List.getElem?_cons_zero]
        exact rfl
      case hQT7q => exact fun _ _ _ h => h
      case hyT7q =>
        refine Or.inl ⟨by rfl, ?_⟩
        intro w hSw
        (try dsimp only at hSw)
        go_simp
        (try with_reducible rfl)
      (try simp only [Act.put, List.setIfInBounds_toArray, List.set_cons_zero, List.set_cons_succ])
      refine' wpAnyH_take (i := 8) (oi := ?oiT8q) (v := ?vT8q) ?hiT8q (by kernel_rfl) (by kernel_rfl) (by kernel_rfl) ?hQT8q ?hyT8q hS ?restT8q
      case hiT8q =>
        simp only [List.getElem?_toArray, List.getElem?_cons_succ, List.getElem?_cons_zero]
        exact rfl
      case hQT8q => exact fun _ _ _ h => h
      case hyT8q =>
        refine Or.inl ⟨by rfl, ?_⟩
        intro w hSw
        (try dsimp only at hSw)
        go_simp
        (try with_reducible rfl)
      (try simp only [Act.put, List.setIfInBounds_toArray, List.set_cons_zero, List.set_cons_succ])
      refine' wpAnyH_take (i := 9) (oi := ?oiT9q) (v := ?vT9q) ?hiT9q (by kernel_rfl) (by kernel_rfl) (by kernel_rfl) ?hQT9q ?hyT9q hS ?restT9q
      case hiT9q =>
        simp only [List.getElem?_toArray, List.getElem?_cons_succ, List.getElem?_cons_zero]
        exact rfl
      case hQT9q => exact fun _ _ _ h => h
      case hyT9q =>
        refine Or.inl ⟨by rfl, ?_⟩
        intro w hSw
        (try dsimp only at hSw)
        go_simp
        (try with_reducible rfl)
      (try simp only [Act.put, List.setIfInBounds_toArray, List.set_cons_zero, List.set_cons_succ])
      refine' wpAnyH_take (i := 10) (oi := ?oiT10q) (v := ?vT10q) ?hiT10q (by kernel_rfl) (by kernel_rfl) (by kernel_rfl) ?hQT10q ?hyT10q hS ?restT10q
      case hiT10q =>
        simp only [List.getElem?_toArray, List.getElem?_cons_succ, List.getElem?_cons_zero]
        exact rfl
      case hQT10q => exact fun _ _ _ h => h
      case hyT10q =>
        refine Or.inl ⟨by rfl, ?_⟩
        intro w hSw
        (try dsimp only at hSw)
        go_simp
        (try with_reducible rfl)
      (try simp only [Act.put, List.setIfInBounds_toArray, List.set_cons_zero, List.set_cons_succ])
      refine' wpAnyH_take (i := 11) (oi := ?oiT11q) (v := ?vT11q) ?hiT11q (by kernel_rfl) (by kernel_rfl) (by kernel_rfl) ?hQT11q ?hyT11q hS ?restT11q
      case hiT11q =>
        simp only [List.getElem?_toArray, List.getElem?_cons_succ, List.getElem?_cons_zero]
        exact rfl
      case hQT11q => exact fun _ _ _ h => h
      case hyT11q =>
        refine Or.inl ⟨by rfl, ?_⟩
        intro w hSw
        (try dsimp only at hSw)
        go_simp
        (try with_reducible rfl)
      (try simp only [Act.put, List.setIfInBounds_toArray, List.set_cons_zero, List.set_cons_succ])
      refine wpAnyH_ready (rs := [12]) (by kernel_rfl) (by simp) ?_
      refine' AllReadyH.cons (o := ?ooC12q) ?hoC12q (fun K hK => ?stepC12q) AllReadyH.nil
      case hoC12q =>
        simp only [List.getElem?_toArray, List.getElem?_cons_succ, List.getElem?_cons_zero]
        exact rfl
      go_simp
      go_at_call 12
      refine (OA.out _ _ _).mono ?_
      rintro e w1 ⟨rfl, hb1⟩
      go_wp2_with fail
      refine hK.out _ _ ?_ (fun hS => ?_)
      · (try dsimp only)
        go_split_ands
        (repeat' apply And.intro) <;> first | (refine cell_later hb1 ?_; with_reducible assumption) | (refine below_then ?_ hb1; with_reducible assumption)
      clear hK K hb1
      (try simp only [Act.put, List.setIfInBounds_toArray, List.set_cons_zero, List.set_cons_succ])
      refine wpAnyH_ready (rs := [13]) (by kernel_rfl) (by simp) ?_
      refine' AllReadyH.cons (o := ?ooC13q) ?hoC13q (fun K hK => ?stepC13q) AllReadyH.nil
      case hoC13q =>
        simp only [List.getElem?_toArray, List.getElem?_cons_succ, List.getElem?_cons_zero]
        exact rfl
      go_simp
      go_at_call 21
      refine (TR.out _).mono ?_
      rintro e w1 ⟨rfl, hb1⟩
      go_wp2_with fail
      refine hK.out _ _ ?_ (fun hS => ?_)
      · (try dsimp only)
        go_split_ands
        (repeat' apply And.intro) <;> first | (refine cell_later hb1 ?_; with_reducible assumption) | (refine below_then ?_ hb1; with_reducible assumption)
      clear hK K hb1
      (try simp only [Act.put, List.setIfInBounds_toArray, List.set_cons_zero, List.set_cons_succ])
      refine' wpAnyH_take (i := 14) (oi := ?oiT14q) (v := ?vT14q) ?hiT14q (by kernel_rfl) (by kernel_rfl) (by kernel_rfl) ?hQT14q ?hyT14q hS ?restT14q
      case hiT14q =>
        simp only [List.getElem?_toArray, List.getElem?_cons_succ, List.getElem?_cons_zero]
        exact rfl
      case hQT14q => exact fun _ _ _ h => h
      case hyT14q =>
        refine Or.inl ⟨by rfl, ?_⟩
        intro w hSw
        (try dsimp only at hSw)
        go_simp
        (try with_reducible rfl)
      (try simp only [Act.put, List.setIfInBounds_toArray, List.set_cons_zero, List.set_cons_succ])
      refine' wpAnyH_take (i := 15) (oi := ?oiT15q) (v := ?vT15q) ?hiT15q (by kernel_rfl) (by kernel_rfl) (by kernel_rfl) ?hQT15q ?hyT15q hS ?restT15q
      case hiT15q =>
        simp only [List.getElem?_toArray, List.getElem?_cons_succ, List.getElem?_cons_zero]
        exact rfl
      case hQT15q => exact fun _ _ _ h => h
      case hyT15q =>
        refine Or.inl ⟨by rfl, ?_⟩
        intro w hSw
        (try dsimp only at hSw)
        go_simp
        (try with_reducible rfl)
      (try simp only [Act.put, List.setIfInBounds_toArray, List.set_cons_zero, List.set_cons_succ])
      refine' wpAnyH_take (i := 16) (oi := ?oiT16q) (v := ?vT16q) ?hiT16q (by kernel_rfl) (by kernel_rfl) (by kernel_rfl) ?hQT16q ?hyT16q hS ?restT16q
      case hiT16q =>
        simp only [List.getElem?_toArray, List.getElem?_cons_succ, List.getElem?_cons_zero]
        exact rfl
      case hQT16q => exact fun _ _ _ h => h
      case hyT16q =>
        refine Or.inl ⟨by rfl, ?_⟩
        intro w hSw
        (try dsimp only at hSw)
        go_simp
        (try with_reducible rfl)
      (try simp only [Act.put, List.setIfInBounds_toArray, List.set_cons_zero, List.set_cons_succ])
      refine' wpAnyH_take (i := 17) (oi := ?oiT17q) (v := ?vT17q) ?hiT17q (by kernel_rfl) (by kernel_rfl) (by kernel_rfl) ?hQT17q ?hyT17q hS ?restT17q
      case hiT17q =>
        simp only [List.getElem?_toArray, List.getElem?_cons_succ, List.getElem?_cons_zero]
        exact rfl
      case hQT17q => exact fun _ _ _ h => h
      case hyT17q =>
        refine Or.inl ⟨by rfl, ?_⟩
        intro w hSw
        (try dsimp only at hSw)
        go_simp
        (try with_reducible rfl)
      (try simp only [Act.put, List.setIfInBounds_toArray, List.set_cons_zero, List.set_cons_succ])
      refine' wpAnyH_take (i := 18) (oi := ?oiT18q) (v := ?vT18q) ?hiT18q (by kernel_rfl) (by kernel_rfl) (by kernel_rfl) ?hQT18q ?hyT18q hS ?restT18q
      case hiT18q =>
        simp only [List.getElem?_toArray, List.getElem?_cons_succ, List.getElem?_cons_zero]
        exact rfl
      case hQT18q => exact fun _ _ _ h => h
      case hyT18q =>
        refine Or.inl ⟨by rfl, ?_⟩
        intro w hSw
        (try dsimp only at hSw)
        go_simp
        (try with_reducible rfl)
      (try simp only [Act.put, List.setIfInBounds_toArray, List.set_cons_zero, List.set_cons_succ])
      refine' wpAnyH_take (i := 19) (oi := ?oiT19q) (v := ?vT19q) ?hiT19q (by kernel_rfl) (by kernel_rfl) (by kernel_rfl) ?hQT19q ?hyT19q hS ?restT19q
      case hiT19q =>
        simp only [List.getElem?_toArray, List.getElem?_cons_succ, List.getElem?_cons_zero]
        exact rfl
      case hQT19q => exact fun _ _ _ h => h
      case hyT19q =>
        refine Or.inl ⟨by rfl, ?_⟩
        intro w hSw
        (try dsimp only at hSw)
        go_simp
        (try with_reducible rfl)
      (try simp only [Act.put, List.setIfInBounds_toArray, List.set_cons_zero, List.set_cons_succ])
      refine' wpAnyH_take (i := 20) (oi := ?oiT20q) (v := ?vT20q) ?hiT20q (by kernel_rfl) (by kernel_rfl) (by kernel_rfl) ?hQT20q ?hyT20q hS ?restT20q
      case hiT20q =>
        simp only [List.getElem?_toArray, List.getElem?_cons_succ, List.getElem?_cons_zero]
        exact rfl
      case hQT20q => exact fun _ _ _ h => h
      case hyT20q =>
        refine Or.inl ⟨by rfl, ?_⟩
        intro w hSw
        (try dsimp only at hSw)
        go_simp
        (try with_reducible rfl)
      (try simp only [Act.put, List.setIfInBounds_toArray, List.set_cons_zero, List.set_cons_succ])
      refine' wpAnyH_take (i := 21) (oi := ?oiT21q) (v := ?vT21q) ?hiT21q (by kernel_rfl) (by kernel_rfl) (by kernel_rfl) ?hQT21q ?hyT21q hS ?restT21q
      case hiT21q =>
        simp only [List.getElem?_toArray, List.getElem?_cons_succ, List.getElem?_cons_zero]
        exact rfl
      case hQT21q => exact fun _ _ _ h => h
      case hyT21q =>
        refine Or.inl ⟨by rfl, ?_⟩
        intro w hSw
        (try dsimp only at hSw)
        go_simp
        (try with_reducible rfl)
      (try simp only [Act.put, List.setIfInBounds_toArray, List.set_cons_zero, List.set_cons_succ])
      refine' wpAnyH_take (i := 22) (oi := ?oiT22q) (v := ?vT22q) ?hiT22q (by kernel_rfl) (by kernel_rfl) (by kernel_rfl) ?hQT22q ?hyT22q hS ?restT22q
      case hiT22q =>
        simp only [List.getElem?_toArray, List.getElem?_cons_succ, List.getElem?_cons_zero]
        exact rfl
      case hQT22q => exact fun _ _ _ h => h
      case hyT22q =>
        refine Or.inl ⟨by rfl, ?_⟩
        intro w hSw
        (try dsimp only at hSw)
        go_simp
        (try with_reducible rfl)
      (try simp only [Act.put, List.setIfInBounds_toArray, List.set_cons_zero, List.set_cons_succ])
      refine' wpAnyH_take (i := 23) (oi := ?oiT23q) (v := ?vT23q) ?hiT23q (by kernel_rfl) (by kernel_rfl) (by kernel_rfl) ?hQT23q ?hyT23q hS ?restT23q
      case hiT23q =>
        simp only [List.getElem?_toArray, List.getElem?_cons_succ, List.getElem?_cons_zero]
        exact rfl
      case hQT23q => exact fun _ _ _ h => h
      case hyT23q =>
        refine Or.inl ⟨by rfl, ?_⟩
        intro w hSw
        (try dsimp only at hSw)
        go_simp
        (try with_reducible rfl)
      (try simp only [Act.put, List.setIfInBounds_toArray, List.set_cons_zero, List.set_cons_succ])
      refine' wpAnyH_take (i := 24) (oi := ?oiT24q) (v := ?vT24q) ?hiT24q (by kernel_rfl) (by kernel_rfl) (by kernel_rfl) ?hQT24q ?hyT24q hS ?restT24q
      case hiT24q =>
        simp only [List.getElem?_toArray, List.getElem?_cons_succ, List.getElem?_cons_zero]
        exact rfl
      case hQT24q => exact fun _ _ _ h => h
      case hyT24q =>
        refine Or.inl ⟨by rfl, ?_⟩
        intro w hSw
        (try dsimp only at hSw)
        go_simp
        (try with_reducible rfl)
      (try simp only [Act.put, List.setIfInBounds_toArray, List.set_cons_zero, List.set_cons_succ])
      refine' wpAnyH_take (i := 25) (oi := ?oiT25q) (v := ?vT25q) ?hiT25q (by kernel_rfl) (by kernel_rfl) (by kernel_rfl) ?hQT25q ?hyT25q hS ?restT25q
      case hiT25q =>
        simp only [List.getElem?_toArray, List.getElem?_cons_succ, List.getElem?_cons_zero]
        exact rfl
      case hQT25q => exact fun _ _ _ h => h
      case hyT25q =>
        refine Or.inl ⟨by rfl, ?_⟩
        intro w hSw
        (try dsimp only at hSw)
        go_simp
        (try with_reducible rfl)
      (try simp only [Act.put, List.setIfInBounds_toArray, List.set_cons_zero, List.set_cons_succ])
      refine' wpAnyH_take (i := 26) (oi := ?oiT26q) (v := ?vT26q) ?hiT26q (by kernel_rfl) (by kernel_rfl) (by kernel_rfl) ?hQT26q ?hyT26q hS ?restT26q
      case hiT26q =>
        simp only [List.getElem?_toArray, List.getElem?_cons_succ, List.getElem?_cons_zero]
        exact rfl
      case hQT26q => exact fun _ _ _ h => h
      case hyT26q =>
        refine Or.inl ⟨by rfl, ?_⟩
        intro w hSw
        (try dsimp only at hSw)
        go_simp
        (try with_reducible rfl)
      (try simp only [Act.put, List.setIfInBounds_toArray, List.set_cons_zero, List.set_cons_succ])
      refine' wpAnyH_take (i := 27) (oi := ?oiT27q) (v := ?vT27q) ?hiT27q (by kernel_rfl) (by kernel_rfl) (by kernel_rfl) ?hQT27q ?hyT27q hS ?restT27q
      case hiT27q =>
        simp only [List.getElem?_toArray, List.getElem?_cons_succ, List.getElem?_cons_zero]
        exact rfl
      case hQT27q => exact fun _ _ _ h => h
      case hyT27q =>
        refine Or.inl ⟨by rfl, ?_⟩
        intro w hSw
        (try dsimp only at hSw)
        go_simp
        (try with_reducible rfl)
      (try simp only [Act.put, List.setIfInBounds_toArray, List.set_cons_zero, List.set_cons_succ])
      refine' wpAnyH_take (i := 28) (oi := ?oiT28q) (v := ?vT28q) ?hiT28q (by kernel_rfl) (by kernel_rfl) (by kernel_rfl) ?hQT28q ?hyT28q hS ?restT28q
      case hiT28q =>
        simp only [List.getElem?_toArray, List.getElem?_cons_succ, List.getElem?_cons_zero]
        exact rfl
      case hQT28q => exact fun _ _ _ h => h
      case hyT28q =>
        refine Or.inl ⟨by rfl, ?_⟩
        intro w hSw
        (try dsimp only at hSw)
        go_simp
        (try with_reducible rfl)
      (try simp only [Act.put, List.setIfInBounds_toArray, List.set_cons_zero, List.set_cons_succ])
      refine' wpAnyH_take (i := 29) (oi := ?oiS29q) (v := undef) ?hiS29q (by kernel_rfl) (by kernel_rfl) (by kernel_rfl) ?hQS29q ?hyS29q hS ?restS29q
      case hiS29q =>
        simp only [List.getElem?_toArray, List.getElem?_cons_succ, List.getElem?_cons_zero]
        exact rfl
      case hQS29q => exact fun _ _ _ h => h
      case hyS29q => exact Or.inr ⟨by rfl, rfl⟩
      (try simp only [Act.put, List.setIfInBounds_toArray, List.set_cons_zero, List.set_cons_succ])
      refine' wpAnyH_take (i := 30) (oi := ?oiS30q) (v := undef) ?hiS30q (by kernel_rfl) (by kernel_rfl) (by kernel_rfl) ?hQS30q ?hyS30q hS ?restS30q
      case hiS30q =>
        simp only [List.getElem?_toArray, List.getElem?_cons_succ, List.getElem?_cons_zero]
        exact rfl
      case hQS30q => exact fun _ _ _ h => h
      case hyS30q => exact Or.inr ⟨by rfl, rfl⟩
      (try simp only [Act.put, List.setIfInBounds_toArray, List.set_cons_zero, List.set_cons_succ])
      refine' wpAnyH_take (i := 31) (oi := ?oiS31q) (v := undef) ?hiS31q (by kernel_rfl) (by kernel_rfl) (by kernel_rfl) ?hQS31q ?hyS31q hS ?restS31q
      case hiS31q =>
        simp only [List.getElem?_toArray, List.getElem?_cons_succ, List.getElem?_cons_zero]
        exact rfl
      case hQS31q => exact fun _ _ _ h => h
      case hyS31q => exact Or.inr ⟨by rfl, rfl⟩
      (try simp only [Act.put, List.setIfInBounds_toArray, List.set_cons_zero, List.set_cons_succ])
      refine' wpAnyH_take (i := 32) (oi := ?oiS32q) (v := undef) ?hiS32q (by kernel_rfl) (by kernel_rfl) (by kernel_rfl) ?hQS32q ?hyS32q hS ?restS32q
      case hiS32q =>
        simp only [List.getElem?_toArray, List.getElem?_cons_succ, List.getElem?_cons_zero]
        exact rfl
      case hQS32q => exact fun _ _ _ h => h
      case hyS32q => exact Or.inr ⟨by rfl, rfl⟩
      (try simp only [Act.put, List.setIfInBounds_toArray, List.set_cons_zero, List.set_cons_succ])
      refine' wpAnyH_take (i := 33) (oi := ?oiT33q) (v := ?vT33q) ?hiT33q (by kernel_rfl) (by kernel_rfl) (by kernel_rfl) ?hQT33q ?hyT33q hS ?restT33q
      case hiT33q =>
        simp only [List.getElem?_toArray, List.getElem?_cons_succ, List.getElem?_cons_zero]
        exact rfl
      case hQT33q => exact fun _ _ _ h => h
      case hyT33q =>
        refine Or.inl ⟨by rfl, ?_⟩
        intro w hSw
        (try dsimp only at hSw)
        go_simp
        (try with_reducible rfl)
      (try simp only [Act.put, List.setIfInBounds_toArray, List.set_cons_zero, List.set_cons_succ])
      refine' wpAnyH_take (i := 34) (oi := ?oiT34q) (v := ?vT34q) ?hiT34q (by kernel_rfl) (by kernel_rfl) (by kernel_rfl) ?hQT34q ?hyT34q hS ?restT34q
      case hiT34q =>
        simp only [List.getElem?_toArray, List.getElem?_cons_succ, List.getElem?_cons_zero]
        exact rfl
      case hQT34q => exact fun _ _ _ h => h
      case hyT34q =>
        refine Or.inl ⟨by rfl, ?_⟩
        intro w hSw
        (try dsimp only at hSw)
        go_simp
        (try with_reducible rfl)
      (try simp only [Act.put, List.setIfInBounds_toArray, List.set_cons_zero, List.set_cons_succ])
      refine' wpAnyH_take (i := 35) (oi := ?oiT35q) (v := ?vT35q) ?hiT35q (by kernel_rfl) (by kernel_rfl) (by kernel_rfl) ?hQT35q ?hyT35q hS ?restT35q
      case hiT35q =>
        simp only [List.getElem?_toArray, List.getElem?_cons_succ, List.getElem?_cons_zero]
        exact rfl
      case hQT35q => exact fun _ _ _ h => h
      case hyT35q =>
        refine Or.inl ⟨by rfl, ?_⟩
        intro w hSw
        (try dsimp only at hSw)
        go_simp
        (try with_reducible rfl)
      (try simp only [Act.put, List.setIfInBounds_toArray, List.set_cons_zero, List.set_cons_succ])
      refine wpAnyH_done (by kernel_rfl) ?_ _
      have hB := hS.2.2.2.2.2.2.2.2
      clear hS
      go_wp2
      go_ret
      exact ⟨rfl, hB⟩
  · have hs2 : (200 : Int) < (s.size : Int) := by omega
    have hs3 : 200 < s.size := by omega
    clear i1 ht hs
    go_enter Tryd.func5, Tryd.ntmps5
    go_wp2_with fail
    refine (K.out _ (HT.out.below (below_cells _))).mono ?_
    rintro e w1 ⟨rfl, hb1⟩
    have DA : At w1 (w.heap.size) [.int .i64 h1, .int .u64 l1] := by have h := (At.new (w) #[.int .i64 h1, .int .u64 l1] 24).below hb1; simpa using h
    have B : Below w.heap.size w w1 := below_then (below_new (Below.refl _ _) (.cells #[.int .i64 h1, .int .u64 l1] 24)) hb1
    clear hb1
    have aA0 := DA.cell 0 _ rfl
    have aA1 := DA.cell 1 _ rfl
    have nA := DA.lt
    go_wp2
    go_ret
    exact ⟨rfl, by go_grown⟩
end Go.Proofs.YtmggiclikbacjaaDoor
