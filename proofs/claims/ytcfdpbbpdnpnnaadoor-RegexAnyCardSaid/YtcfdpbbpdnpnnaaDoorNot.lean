/- regex's sets: not. -/
import Derived.Test.YtcfdpbbpdnpnnaaDoorOr
import Derived.Test.YtcfdpbbpdnpnnaaDoorPars
namespace Go.Proofs.YtcfdpbbpdnpnnaaDoor
open Go Go.Proofs Go.RowKit Go.Shelf
set_option maxRecDepth 100000
attribute [local go_sem] cell_set
theorem wordN_not (m : Nat) (hm : m < 2 ^ 256) (i : Nat) (hi : i < 4) : wordN (Rx.fullM - m) i = 18446744073709551615 - wordN m i := by
  have e : 18446744073709551615 - wordN m i = 2 ^ 64 - (wordN m i + 1) := by
    have := wordN_lt m i
    have h2 : (2 : Nat) ^ 64 = 18446744073709551616 := by decide
    omega
  have e2 : Rx.fullM - m = 2 ^ 256 - (m + 1) := by unfold Rx.fullM; omega
  rw [e, e2]
  apply Nat.eq_of_testBit_eq
  intro j
  rw [Nat.testBit_two_pow_sub_succ (wordN_lt m i)]
  by_cases hj : j < 64
  · rw [wordN_bit _ _ _ hj, Nat.testBit_two_pow_sub_succ hm, wordN_bit _ _ _ hj, decide_eq_true hj, decide_eq_true (by omega)]
  · rw [decide_eq_false hj, Bool.false_and]
    exact Nat.testBit_lt_two_pow (Nat.lt_of_lt_of_le (show _ < 2 ^ 64 from wordN_lt _ _) (Nat.pow_le_pow_right (by decide) (by omega)))
theorem word_not (m : Nat) (hm : m < 2 ^ 256) (i : Nat) (hi : i < 4) : bits BinOp.xor IntKind.u64 (if IntKind.u64.signed = true then -1 else IntKind.u64.max) (word m i) = word (Rx.fullM - m) i := by
  have h := wordN_lt m i
  have e : (if IntKind.u64.signed = true then -1 else IntKind.u64.max) = ((18446744073709551615 : Nat) : Int) := rfl
  rw [e]
  unfold word
  rw [wordN_not m hm i hi, bits_xor_u64_nat _ _ (by decide) h]
  congr 1
  have e2 : 18446744073709551615 - wordN m i = 2 ^ 64 - (wordN m i + 1) := by
    have h2 : (2 : Nat) ^ 64 = 18446744073709551616 := by decide
    omega
  rw [e2, show 18446744073709551615 = 2 ^ 64 - 1 from by decide]
  apply Nat.eq_of_testBit_eq
  intro j
  rw [Nat.testBit_two_pow_sub_succ h, Nat.testBit_xor, Nat.testBit_two_pow_sub_one]
  by_cases hj : j < 64
  · rw [decide_eq_true hj, Bool.true_xor, Bool.true_and]
  · rw [decide_eq_false hj, Bool.false_xor, Bool.false_and]
    exact Nat.testBit_lt_two_pow (Nat.lt_of_lt_of_le (show _ < 2 ^ 64 from h) (Nat.pow_le_pow_right (by decide) (by omega)))
set_option maxHeartbeats 1000000 in
theorem bnot_any (m : Nat) (hm : m < 2 ^ 256) (w : World) :
    Calls Tryd.prog 61 #[setV m] w fun e w' => e = .returned (setV (Rx.fullM - m)) ∧ Below w.heap.size w w' := by
  have BO := Lib.hid (word_not m hm)
  generalize Rx.fullM - m = m' at *
  clear hm
  unfold setV
  go_enter Tryd.func61, Tryd.ntmps61
  go_wp2
  obtain ⟨W0, hW0⟩ : ∃ W0, ((w.alloc (.cells #[.int .u64 (word m 0), .int .u64 (word m 1), .int .u64 (word m 2), .int .u64 (word m 3)] 44)).alloc (.cells #[.int .u64 0, .int .u64 0, .int .u64 0, .int .u64 0] 44)) = W0 := ⟨_, rfl⟩
  have hB : Below w.heap.size w W0 := by rw [← hW0]; go_grown
  have DA : At W0 w.heap.size [mixW m m' 0 0, mixW m m' 0 1, mixW m m' 0 2, mixW m m' 0 3] := by
    rw [← hW0]; exact (At.new _ _ _).alloc _
  have DC : At W0 (w.heap.size + 1) [.int .u64 0, .int .u64 0, .int .u64 0, .int .u64 0] := by
    rw [← hW0]; have h := At.new (w.alloc (.cells #[.int .u64 (word m 0), .int .u64 (word m 1), .int .u64 (word m 2), .int .u64 (word m 3)] 44)) #[.int .u64 0, .int .u64 0, .int .u64 0, .int .u64 0] 44
    simpa using h
  rw [hW0]
  clear hW0
  go_loopw [3, 4] (fun _ i wr => ∃ k : Nat, k ≤ 4 ∧ i = .int .i64 (k : Int) ∧ At wr w.heap.size [mixW m m' k 0, mixW m m' k 1, mixW m m' k 2, mixW m m' k 3] ∧ At wr (w.heap.size + 1) [.int .u64 0, .int .u64 0, .int .u64 0, .int .u64 0] ∧ Below w.heap.size w wr) (fun _ i _ => 4 - (RowKit.intOf i).toNat)
  case atStart => exact ⟨0, by omega, rfl, DA, DC, hB⟩
  case round =>
    obtain ⟨k, hk, rfl, EA, EC, hB⟩ := hrel
    have hc : k = 0 ∨ k = 1 ∨ k = 2 ∨ k = 3 ∨ k = 4 := by omega
    clear DA DC
    rcases hc with rfl | rfl | rfl | rfl | rfl
    · have xa := EA.cell 0 _ rfl
      have ya := EA.free 0 _ rfl
      simp only [mixW, Nat.lt_irrefl, if_false] at xa
      have FA : At (wr.setCell ⟨w.heap.size, 0, none⟩ (.int .u64 (word m' 0))) w.heap.size [mixW m m' 1 0, mixW m m' 1 1, mixW m m' 1 2, mixW m m' 1 3] := EA.set 0 _
      have FC := EC.far (b' := w.heap.size) (j := 0) (by omega) (.int .u64 (word m' 0))
      have FD := hB.setCell (p := ⟨w.heap.size, 0, none⟩) (Nat.le_refl _) (.int .u64 (word m' 0))
      have BK := BO.out 0 (by omega)
      have sz : w.heap.size < wr.heap.size := EA.lt
      have FA := Lib.hid FA
      have FC := Lib.hid FC
      have FD := Lib.hid FD
      clear EA EC hB
      go_wp2
      go_roundw
      case rel => exact ⟨1, by omega, by go_num, FA.out, FC.out, FD.out⟩
      case measure => simp [RowKit.intOf]
    · have xa := EA.cell 1 _ rfl
      have ya := EA.free 1 _ rfl
      simp only [mixW, Nat.lt_irrefl, if_false] at xa
      have FA : At (wr.setCell ⟨w.heap.size, 1, none⟩ (.int .u64 (word m' 1))) w.heap.size [mixW m m' 2 0, mixW m m' 2 1, mixW m m' 2 2, mixW m m' 2 3] := EA.set 1 _
      have FC := EC.far (b' := w.heap.size) (j := 1) (by omega) (.int .u64 (word m' 1))
      have FD := hB.setCell (p := ⟨w.heap.size, 1, none⟩) (Nat.le_refl _) (.int .u64 (word m' 1))
      have BK := BO.out 1 (by omega)
      have sz : w.heap.size < wr.heap.size := EA.lt
      have FA := Lib.hid FA
      have FC := Lib.hid FC
      have FD := Lib.hid FD
      clear EA EC hB
      go_wp2
      go_roundw
      case rel => exact ⟨2, by omega, by go_num, FA.out, FC.out, FD.out⟩
      case measure => simp [RowKit.intOf]
    · have xa := EA.cell 2 _ rfl
      have ya := EA.free 2 _ rfl
      simp only [mixW, Nat.lt_irrefl, if_false] at xa
      have FA : At (wr.setCell ⟨w.heap.size, 2, none⟩ (.int .u64 (word m' 2))) w.heap.size [mixW m m' 3 0, mixW m m' 3 1, mixW m m' 3 2, mixW m m' 3 3] := EA.set 2 _
      have FC := EC.far (b' := w.heap.size) (j := 2) (by omega) (.int .u64 (word m' 2))
      have FD := hB.setCell (p := ⟨w.heap.size, 2, none⟩) (Nat.le_refl _) (.int .u64 (word m' 2))
      have BK := BO.out 2 (by omega)
      have sz : w.heap.size < wr.heap.size := EA.lt
      have FA := Lib.hid FA
      have FC := Lib.hid FC
      have FD := Lib.hid FD
      clear EA EC hB
      go_wp2
      go_roundw
      case rel => exact ⟨3, by omega, by go_num, FA.out, FC.out, FD.out⟩
      case measure => simp [RowKit.intOf]
    · have xa := EA.cell 3 _ rfl
      have ya := EA.free 3 _ rfl
      simp only [mixW, Nat.lt_irrefl, if_false] at xa
      have FA : At (wr.setCell ⟨w.heap.size, 3, none⟩ (.int .u64 (word m' 3))) w.heap.size [mixW m m' 4 0, mixW m m' 4 1, mixW m m' 4 2, mixW m m' 4 3] := EA.set 3 _
      have FC := EC.far (b' := w.heap.size) (j := 3) (by omega) (.int .u64 (word m' 3))
      have FD := hB.setCell (p := ⟨w.heap.size, 3, none⟩) (Nat.le_refl _) (.int .u64 (word m' 3))
      have BK := BO.out 3 (by omega)
      have sz : w.heap.size < wr.heap.size := EA.lt
      have FA := Lib.hid FA
      have FC := Lib.hid FC
      have FD := Lib.hid FD
      clear EA EC hB
      go_wp2
      go_roundw
      case rel => exact ⟨4, by omega, by go_num, FA.out, FC.out, FD.out⟩
      case measure => simp [RowKit.intOf]
    · have x0 := EA.cell 0 _ rfl
      have x1 := EA.cell 1 _ rfl
      have x2 := EA.cell 2 _ rfl
      have x3 := EA.cell 3 _ rfl
      have y0 := EC.cell 0 _ rfl
      have y1 := EC.cell 1 _ rfl
      have y2 := EC.cell 2 _ rfl
      have y3 := EC.cell 3 _ rfl
      have z0 := EC.free 0 _ rfl
      have z1 := EC.free 1 _ rfl
      have z2 := EC.free 2 _ rfl
      have z3 := EC.free 3 _ rfl
      have nc := EC.lt
      simp only [mixW] at x0 x1 x2 x3
      simp only [show (0 : Nat) < 4 from by decide, show (1 : Nat) < 4 from by decide, show (2 : Nat) < 4 from by decide, show (3 : Nat) < 4 from by decide, if_true] at x0 x1 x2 x3
      clear EA EC
      go_wp2
      refine bodyPost_ret (by simp [results, Tryd.results61, go_sem, y0, y1, y2, y3, z0, z1, z2, z3, nc]; try rfl) rfl ?_
      exact ⟨rfl, by go_grown⟩
end Go.Proofs.YtcfdpbbpdnpnnaaDoor
