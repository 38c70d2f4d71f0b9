/- The reference's SpanText. -/
import Derived.Test.YtmiahbaadlddjaaDoorLawSpanParts
namespace Go.Proofs.YtmiahbaadlddjaaDoor
open Go Go.Proofs Go.RowKit Go.Shelf
set_option maxRecDepth 100000
theorem tRun_all (d : Nat) : (tRun d [0, 1, 2, 3, 4]).1 = tx [0, 1, 2, 3, 4] d := by
  unfold tRun; rw [tRun_tx, List.nil_append]
set_option maxHeartbeats 4000000 in
theorem spanOf_any (d : Nat) (hd : d < 9223372036854775808) (w : World) :
    Calls Tryd.prog 32 #[.int .u64 (d : Int)] w fun e w' => e = .returned (.string ⟨(textR d).toArray⟩) ∧ Below w.heap.size w w' := by
  have U := Lib.hid (fun W => units_any W)
  have HD := Lib.hid hd
  clear hd
  go_enter Tryd.func32, Tryd.ntmps32
  go_wp2_with fail
  refine (U.out _).mono ?_
  rintro e w2 ⟨rfl, a1, a2, hb2⟩
  have A1 := Lib.hid a1
  have A2 := Lib.hid a2
  clear a1 a2
  go_wp2
  go_loopw [0, 5, 6] (fun dd t i wr => ∃ k : Nat, k ≤ 5 ∧ i = .int .i64 k ∧ t = .string ⟨(tRun d (([0, 1, 2, 3, 4] : List (Fin 5)).take k)).1.toArray⟩ ∧ dd = .int .u64 ((tRun d (([0, 1, 2, 3, 4] : List (Fin 5)).take k)).2 : Int) ∧ Below w2.heap.size w2 wr) (fun _ _ i _ => 5 - (intOf i).toNat)
  case atStart => exact ⟨0, Nat.zero_le _, rfl, rfl, rfl, Below.refl _ _⟩
  case round =>
    obtain ⟨k, hk, rfl, rfl, rfl, hB3⟩ := hrel
    by_cases hlt : k < 5
    · have x1 := at_cell A1.out hB3 k _ (size_at ⟨k, hlt⟩)
      have x2 := at_cell A2.out hB3 k _ (word_at ⟨k, hlt⟩)
      have sT := tRun_snoc d (([0, 1, 2, 3, 4] : List (Fin 5)).take k) ⟨k, hlt⟩
      rw [← five_take k hlt] at sT
      have lS := tRun_le d (([0, 1, 2, 3, 4] : List (Fin 5)).take k)
      have lT := tRun_len d HD.out (([0, 1, 2, 3, 4] : List (Fin 5)).take k)
      rw [List.length_take] at lT
      obtain ⟨z1, z2⟩ := unitSize_bd ⟨k, hlt⟩
      have hwl := unitWord_len ⟨k, hlt⟩
      have hlt' : (k : Int) < 5 := by omega
      have hdd := HD.out
      generalize (tRun d (([0, 1, 2, 3, 4] : List (Fin 5)).take k)).1 = P at *
      generalize (tRun d (([0, 1, 2, 3, 4] : List (Fin 5)).take k)).2 = R at *
      generalize unitSize ⟨k, hlt⟩ = z at *
      generalize unitWord ⟨k, hlt⟩ = wd at *
      have hlP : P.length ≤ 110 := by simp at lT; omega
      have hR1 : R < 9223372036854775808 := by omega
      obtain ⟨Q, hQ⟩ : ∃ Q, R / z = Q := ⟨_, rfl⟩
      obtain ⟨M, hM⟩ : ∃ M, R % z = M := ⟨_, rfl⟩
      rw [hQ, hM] at sT
      have hQR : Q ≤ R := by rw [← hQ]; exact Nat.div_le_self _ _
      have hMR : M ≤ R := by rw [← hM]; exact Nat.mod_le _ _
      have hMz : M < z := by rw [← hM]; exact Nat.mod_lt _ (by omega)
      have hMeq : R < z → M = R := fun h => by rw [← hM]; exact Nat.mod_eq_of_lt h
      have c1 : IntKind.u64.wrap (z : Int) = (z : Int) := by rw [IntKind.wrap_u64]; omega
      have c2 : (R : Int) / (z : Int) = (Q : Int) := by rw [← hQ, Int.natCast_ediv]
      have c3 : (R : Int) % (z : Int) = (M : Int) := by rw [← hM, Int.natCast_emod]
      have c4 : ¬ (z : Int) = 0 := by omega
      have c5 : ((z : Int) == 0) = false := by rw [beq_eq_false_iff_ne]; exact c4
      have c6 : ¬ z = 0 := by omega
      have c7 : (z == 0) = false := by rw [beq_eq_false_iff_ne]; exact c6
      have c8 : IntKind.u64.wrap (Q : Int) = (Q : Int) := by rw [IntKind.wrap_u64]; omega
      have c9 : IntKind.i64.wrap (Q : Int) = (Q : Int) := by rw [IntKind.wrap_i64]; omega
      have hq0 : 0 < Q ↔ z ≤ R := by rw [← hQ]; exact ⟨fun h => by
        rcases Nat.lt_or_ge R z with h' | h'
        · rw [Nat.div_eq_of_lt h'] at h; omega
        · exact h', fun h => Nat.div_pos h (by omega)⟩
      have ST := Lib.hid sT
      clear sT lT hQ hM lS hdd
      by_cases h0 : 0 < Q
      · have hzR : (z : Int) ≤ (R : Int) := by have := hq0.1 h0; omega
        have D := Lib.hid (fun W => ref_decimal Q (by omega) W)
        have hdl := decLen Q (by omega)
        generalize Lib.decDigits Q = dq at *
        have g1 : ¬ 9223372036854775807 < P.length + dq.length := by omega
        have g2 : ¬ 9223372036854775807 < P.length + dq.length + wd.length := by omega
        have g3 : P.length + dq.length ≤ 9223372036854775807 := by omega
        have g4 : P.length + dq.length + wd.length ≤ 9223372036854775807 := by omega
        clear hq0 hMeq
        go_wp2
        refine wp_region_held_drew (S := fun w' => w'.cell? ⟨w.heap.size, k, none⟩ = some (.int .i64 (z : Int)) ∧ w'.cell? ⟨w.heap.size + 1, k, none⟩ = some (.string ⟨wd.toArray⟩) ∧ Below w2.heap.size w2 w') (by kernel_rfl) ?_ (fun hS => ?_)
        · (try dsimp only)
          (repeat' apply And.intro) <;> first | go_cell | exact hB3.drew
        refine' wpAnyH_take (i := 0) (oi := ?oiT0p) (v := ?vT0p) ?hiT0p (by kernel_rfl) (by kernel_rfl) (by kernel_rfl) ?hQT0p ?hyT0p hS ?restT0p
        case hiT0p =>
          simp only [List.getElem?_toArray, List.getElem?_cons_succ, List.getElem?_cons_zero]
          exact rfl
        case hQT0p => exact fun _ _ _ h => h
        case hyT0p =>
          refine Or.inl ⟨by rfl, ?_⟩
          intro w hSw
          (try dsimp only at hSw)
          go_simp
          (try with_reducible rfl)
        (try simp only [Act.put, List.setIfInBounds_toArray, List.set_cons_zero, List.set_cons_succ])
        refine' wpAnyH_take (i := 1) (oi := ?oiT1p) (v := ?vT1p) ?hiT1p (by kernel_rfl) (by kernel_rfl) (by kernel_rfl) ?hQT1p ?hyT1p hS ?restT1p
        case hiT1p =>
          simp only [List.getElem?_toArray, List.getElem?_cons_succ, List.getElem?_cons_zero]
          exact rfl
        case hQT1p => exact fun _ _ _ h => h
        case hyT1p =>
          refine Or.inl ⟨by rfl, ?_⟩
          intro w hSw
          (try dsimp only at hSw)
          go_simp
          (try with_reducible rfl)
        (try simp only [Act.put, List.setIfInBounds_toArray, List.set_cons_zero, List.set_cons_succ])
        refine' wpAnyH_take (i := 2) (oi := ?oiT2p) (v := ?vT2p) ?hiT2p (by kernel_rfl) (by kernel_rfl) (by kernel_rfl) ?hQT2p ?hyT2p hS ?restT2p
        case hiT2p =>
          simp only [List.getElem?_toArray, List.getElem?_cons_succ, List.getElem?_cons_zero]
          exact rfl
        case hQT2p => exact fun _ _ _ h => h
        case hyT2p =>
          refine Or.inl ⟨by rfl, ?_⟩
          intro w hSw
          (try dsimp only at hSw)
          go_simp
          (try with_reducible rfl)
        (try simp only [Act.put, List.setIfInBounds_toArray, List.set_cons_zero, List.set_cons_succ])
        refine' wpAnyH_take (i := 3) (oi := ?oiT3p) (v := ?vT3p) ?hiT3p (by kernel_rfl) (by kernel_rfl) (by kernel_rfl) ?hQT3p ?hyT3p hS ?restT3p
        case hiT3p =>
          simp only [List.getElem?_toArray, List.getElem?_cons_succ, List.getElem?_cons_zero]
          exact rfl
        case hQT3p => exact fun _ _ _ h => h
        case hyT3p =>
          refine Or.inl ⟨by rfl, ?_⟩
          intro w hSw
          (try dsimp only at hSw)
          go_simp
          (try with_reducible rfl)
        (try simp only [Act.put, List.setIfInBounds_toArray, List.set_cons_zero, List.set_cons_succ])
        refine' wpAnyH_take (i := 4) (oi := ?oiT4p) (v := ?vT4p) ?hiT4p (by kernel_rfl) (by kernel_rfl) (by kernel_rfl) ?hQT4p ?hyT4p hS ?restT4p
        case hiT4p =>
          simp only [List.getElem?_toArray, List.getElem?_cons_succ, List.getElem?_cons_zero]
          exact rfl
        case hQT4p => exact fun _ _ _ h => h
        case hyT4p =>
          refine Or.inl ⟨by rfl, ?_⟩
          intro w hSw
          (try dsimp only at hSw)
          go_simp
          (try with_reducible rfl)
        (try simp only [Act.put, List.setIfInBounds_toArray, List.set_cons_zero, List.set_cons_succ])
        refine' wpAnyH_take (i := 5) (oi := ?oiT5p) (v := ?vT5p) ?hiT5p (by kernel_rfl) (by kernel_rfl) (by kernel_rfl) ?hQT5p ?hyT5p hS ?restT5p
        case hiT5p =>
          simp only [List.getElem?_toArray, List.getElem?_cons_succ, List.getElem?_cons_zero]
          exact rfl
        case hQT5p => exact fun _ _ _ h => h
        case hyT5p =>
          refine Or.inl ⟨by rfl, ?_⟩
          intro w hSw
          (try dsimp only at hSw)
          go_simp
          (try with_reducible rfl)
        (try simp only [Act.put, List.setIfInBounds_toArray, List.set_cons_zero, List.set_cons_succ])
        refine' wpAnyH_take (i := 6) (oi := ?oiT6p) (v := ?vT6p) ?hiT6p (by kernel_rfl) (by kernel_rfl) (by kernel_rfl) ?hQT6p ?hyT6p hS ?restT6p
        case hiT6p =>
          simp only [List.getElem?_toArray, List.getElem?_cons_succ, List.getElem?_cons_zero]
          exact rfl
        case hQT6p => exact fun _ _ _ h => h
        case hyT6p =>
          refine Or.inl ⟨by rfl, ?_⟩
          intro w hSw
          (try dsimp only at hSw)
          go_simp
          (try with_reducible rfl)
        (try simp only [Act.put, List.setIfInBounds_toArray, List.set_cons_zero, List.set_cons_succ])
        refine' wpAnyH_take (i := 7) (oi := ?oiT7p) (v := ?vT7p) ?hiT7p (by kernel_rfl) (by kernel_rfl) (by kernel_rfl) ?hQT7p ?hyT7p hS ?restT7p
        case hiT7p =>
          simp only [List.getElem?_toArray, List.getElem?_cons_succ, List.getElem?_cons_zero]
          exact rfl
        case hQT7p => exact fun _ _ _ h => h
        case hyT7p =>
          refine Or.inl ⟨by rfl, ?_⟩
          intro w hSw
          (try dsimp only at hSw)
          go_simp
          (try with_reducible rfl)
        (try simp only [Act.put, List.setIfInBounds_toArray, List.set_cons_zero, List.set_cons_succ])
        refine' wpAnyH_take (i := 8) (oi := ?oiT8p) (v := ?vT8p) ?hiT8p (by kernel_rfl) (by kernel_rfl) (by kernel_rfl) ?hQT8p ?hyT8p hS ?restT8p
        case hiT8p =>
          simp only [List.getElem?_toArray, List.getElem?_cons_succ, List.getElem?_cons_zero]
          exact rfl
        case hQT8p => exact fun _ _ _ h => h
        case hyT8p =>
          refine Or.inl ⟨by rfl, ?_⟩
          intro w hSw
          (try dsimp only at hSw)
          go_simp
          (try with_reducible rfl)
        (try simp only [Act.put, List.setIfInBounds_toArray, List.set_cons_zero, List.set_cons_succ])
        refine' wpAnyH_take (i := 11) (oi := ?oiT11p) (v := ?vT11p) ?hiT11p (by kernel_rfl) (by kernel_rfl) (by kernel_rfl) ?hQT11p ?hyT11p hS ?restT11p
        case hiT11p =>
          simp only [List.getElem?_toArray, List.getElem?_cons_succ, List.getElem?_cons_zero]
          exact rfl
        case hQT11p => exact fun _ _ _ h => h
        case hyT11p =>
          refine Or.inl ⟨by rfl, ?_⟩
          intro w hSw
          (try dsimp only at hSw)
          go_simp
          (try with_reducible rfl)
        (try simp only [Act.put, List.setIfInBounds_toArray, List.set_cons_zero, List.set_cons_succ])
        refine' wpAnyH_take (i := 12) (oi := ?oiT12p) (v := ?vT12p) ?hiT12p (by kernel_rfl) (by kernel_rfl) (by kernel_rfl) ?hQT12p ?hyT12p hS ?restT12p
        case hiT12p =>
          simp only [List.getElem?_toArray, List.getElem?_cons_succ, List.getElem?_cons_zero]
          exact rfl
        case hQT12p => exact fun _ _ _ h => h
        case hyT12p =>
          refine Or.inl ⟨by rfl, ?_⟩
          intro w hSw
          (try dsimp only at hSw)
          go_simp
          (try with_reducible rfl)
        (try simp only [Act.put, List.setIfInBounds_toArray, List.set_cons_zero, List.set_cons_succ])
        refine' wpAnyH_take (i := 13) (oi := ?oiT13p) (v := ?vT13p) ?hiT13p (by kernel_rfl) (by kernel_rfl) (by kernel_rfl) ?hQT13p ?hyT13p hS ?restT13p
        case hiT13p =>
          simp only [List.getElem?_toArray, List.getElem?_cons_succ, List.getElem?_cons_zero]
          exact rfl
        case hQT13p => exact fun _ _ _ h => h
        case hyT13p =>
          refine Or.inl ⟨by rfl, ?_⟩
          intro w hSw
          (try dsimp only at hSw)
          go_simp
          (try with_reducible rfl)
        (try simp only [Act.put, List.setIfInBounds_toArray, List.set_cons_zero, List.set_cons_succ])
        refine' wpAnyH_take (i := 14) (oi := ?oiT14p) (v := ?vT14p) ?hiT14p (by kernel_rfl) (by kernel_rfl) (by kernel_rfl) ?hQT14p ?hyT14p hS ?restT14p
        case hiT14p =>
          simp only [List.getElem?_toArray, List.getElem?_cons_succ, List.getElem?_cons_zero]
          exact rfl
        case hQT14p => exact fun _ _ _ h => h
        case hyT14p =>
          refine Or.inl ⟨by rfl, ?_⟩
          intro w hSw
          (try dsimp only at hSw)
          go_simp
          (try with_reducible rfl)
        (try simp only [Act.put, List.setIfInBounds_toArray, List.set_cons_zero, List.set_cons_succ])
        refine wpAnyH_ready (rs := [9]) (by kernel_rfl) (by simp) ?_
        refine' AllReadyH.cons (o := ?ooC9p) ?hoC9p (fun K hK => ?stepC9p) AllReadyH.nil
        case hoC9p =>
          simp only [List.getElem?_toArray, List.getElem?_cons_succ, List.getElem?_cons_zero]
          exact rfl
        go_simp
        go_at_call 24
        refine (D.out _).mono ?_
        rintro e w1 ⟨rfl, hb1⟩
        go_wp2_with fail
        refine hK.out _ _ ?_ (fun hS => ?_)
        · (try dsimp only)
          go_split_ands
          (repeat' apply And.intro) <;> first | (refine cell_later hb1 ?_; with_reducible assumption) | (refine below_then ?_ hb1; with_reducible assumption)
        clear hK K hb1
        (try simp only [Act.put, List.setIfInBounds_toArray, List.set_cons_zero, List.set_cons_succ])
        refine' wpAnyH_take (i := 10) (oi := ?oiT10p) (v := ?vT10p) ?hiT10p (by kernel_rfl) (by kernel_rfl) (by kernel_rfl) ?hQT10p ?hyT10p hS ?restT10p
        case hiT10p =>
          simp only [List.getElem?_toArray, List.getElem?_cons_succ, List.getElem?_cons_zero]
          exact rfl
        case hQT10p => exact fun _ _ _ h => h
        case hyT10p =>
          refine Or.inl ⟨by rfl, ?_⟩
          intro w hSw
          (try dsimp only at hSw)
          go_simp
          (try with_reducible rfl)
        (try simp only [Act.put, List.setIfInBounds_toArray, List.set_cons_zero, List.set_cons_succ])
        refine' wpAnyH_take (i := 15) (oi := ?oiT15p) (v := ?vT15p) ?hiT15p (by kernel_rfl) (by kernel_rfl) (by kernel_rfl) ?hQT15p ?hyT15p hS ?restT15p
        case hiT15p =>
          simp only [List.getElem?_toArray, List.getElem?_cons_succ, List.getElem?_cons_zero]
          exact rfl
        case hQT15p => exact fun _ _ _ h => h
        case hyT15p =>
          refine Or.inl ⟨by rfl, ?_⟩
          intro w hSw
          (try dsimp only at hSw)
          go_simp
          (try with_reducible rfl)
        (try simp only [Act.put, List.setIfInBounds_toArray, List.set_cons_zero, List.set_cons_succ])
        refine' wpAnyH_take (i := 16) (oi := ?oiT16p) (v := ?vT16p) ?hiT16p (by kernel_rfl) (by kernel_rfl) (by kernel_rfl) ?hQT16p ?hyT16p hS ?restT16p
        case hiT16p =>
          simp only [List.getElem?_toArray, List.getElem?_cons_succ, List.getElem?_cons_zero]
          exact rfl
        case hQT16p => exact fun _ _ _ h => h
        case hyT16p =>
          refine Or.inl ⟨by rfl, ?_⟩
          intro w hSw
          (try dsimp only at hSw)
          go_simp
          (try with_reducible rfl)
        (try simp only [Act.put, List.setIfInBounds_toArray, List.set_cons_zero, List.set_cons_succ])
        refine wpAnyH_done (by kernel_rfl) ?_ _
        have hB4 := hS.2.2
        have y1 := hS.1
        have y2 := hS.2.1
        clear hS x1 x2 hB3 D
        go_wp2
        go_roundw
        case rel => exact ⟨k + 1, by omega, by go_num, by rw [ST.out, if_pos h0, bapp, bapp, List.append_assoc], by rw [ST.out, c3], hB4⟩
        case measure => simp [intOf]; omega
      · have hzR : (R : Int) < (z : Int) := by have := (not_congr hq0).1 h0; omega
        have hMe := hMeq (by omega)
        obtain rfl : Q = 0 := by omega
        clear hMeq
        clear hq0 h0
        go_wp2
        go_roundw
        case rel => exact ⟨k + 1, by omega, by go_num, by rw [ST.out, if_neg (by omega)], by rw [ST.out, hMe], hB3⟩
        case measure => simp [intOf]; omega
    · obtain rfl : k = 5 := by omega
      rw [show ([0, 1, 2, 3, 4] : List (Fin 5)).take 5 = [0, 1, 2, 3, 4] from rfl, tRun_all]
      have PT := textR_tx d
      have hBr := hb2.trans (hB3.mono hb2.size)
      clear A1 A2 U hB3 hb2 hlt hk HD
      by_cases h0 : d = 0
      · rw [if_pos h0] at PT
        have PH := Lib.hid PT
        clear PT
        have e : tx [0, 1, 2, 3, 4] d = [] := by rw [h0]; rfl
        rw [e]
        clear e h0
        go_wp2
        go_ret
        exact ⟨by rw [PH.out] <;> rfl, hBr⟩
      · rw [if_neg h0] at PT
        obtain ⟨c, t, e, _⟩ := tx_pos d (by omega)
        have hne : (tx [0, 1, 2, 3, 4] d).isEmpty = false := by rw [e]; rfl
        clear e h0
        generalize tx [0, 1, 2, 3, 4] d = l at *
        have PH := Lib.hid PT
        clear PT
        go_wp2
        go_ret
        exact ⟨by rw [PH.out] <;> rfl, hBr⟩
theorem spanText_any (d : Nat) (hd : d < 9223372036854775808) (w : World) :
    Calls Tryd.prog 22 #[.int .i64 (d : Int)] w fun e w' => e = .returned (.string ⟨(textR d).toArray⟩) ∧ Below w.heap.size w w' := by
  have S := Lib.hid (fun W => spanOf_any d hd W)
  have c8 : IntKind.u64.wrap (d : Int) = (d : Int) := by rw [IntKind.wrap_u64]; omega
  go_enter Tryd.func22, Tryd.ntmps22
  go_wp2_with fail
  refine (S.out _).mono ?_
  rintro e w1 ⟨rfl, hb1⟩
  go_wp2
  go_ret
  exact ⟨rfl, hb1⟩
end Go.Proofs.YtmiahbaadlddjaaDoor
