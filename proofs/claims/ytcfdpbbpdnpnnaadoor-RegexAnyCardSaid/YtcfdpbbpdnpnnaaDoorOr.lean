/- regex's sets: or, not. -/
import Derived.Test.YtcfdpbbpdnpnnaaDoorSet
import Derived.Test.YtcfdpbbpdnpnnaaDoorReader
import Derived.BigRegion
namespace Go.Proofs.YtcfdpbbpdnpnnaaDoor
open Go Go.Proofs Go.RowKit Go.Shelf
set_option maxRecDepth 100000
theorem cell_set {w : World} {p : Addr} {v : Value} (h : (w.cell? p).isSome = true) : (w.setCell p v).cell? p = some v := by
 obtain ⟨u, hu⟩ := Option.isSome_iff_exists.1 h
 exact World.cell?_setCell_same _ _ _ hu
attribute [local go_sem] cell_set
attribute [local go_sem] cell_set
theorem wordN_or (a b i : Nat) : wordN (a ||| b) i = wordN a i ||| wordN b i := by
 apply Nat.eq_of_testBit_eq
 intro j
 by_cases hj : j < 64
 ·
  rw [wordN_bit _ _ _ hj, Nat.testBit_or, Nat.testBit_or, wordN_bit _ _ _ hj, wordN_bit _ _ _ hj]
 ·
  have big : ∀ a : Nat, a < 2 ^ 64 → a.testBit j = false := fun a ha => Nat.testBit_lt_two_pow (Nat.lt_of_lt_of_le ha (Nat.pow_le_pow_right (by decide) (by omega)))
  rw [big _ (wordN_lt _ _), big _ (Nat.or_lt_two_pow (wordN_lt a i) (wordN_lt b i))]
theorem bits_or (a b i : Nat) : bits BinOp.or IntKind.u64 (word a i) (word b i) = word (a ||| b) i := by
 unfold word
 rw [bits_or_u64_nat _ _ (wordN_lt _ _) (wordN_lt _ _), wordN_or]
/-- the words of a set, the first k of another one's -/
def mixW (a b k i : Nat) : Value := .int .u64 (if i < k then word b i else word a i)
set_option maxHeartbeats 1000000 in
theorem sor_any (a b : Nat) (w : World) :
  Calls Tryd.prog 41 #[setV a, setV b] w fun e w' => e = .returned (setV (a ||| b)) ∧ Below w.heap.size w w' := by
 have BO := Lib.hid (bits_or a b)
 unfold setV
 go_enter Tryd.func41, Tryd.ntmps41
 go_wp2
 obtain ⟨W0, hW0⟩ : ∃ W0, (((w.alloc (.cells #[.int .u64 (word a 0), .int .u64 (word a 1), .int .u64 (word a 2), .int .u64 (word a 3)] 45)).alloc (.cells #[.int .u64 (word b 0), .int .u64 (word b 1), .int .u64 (word b 2), .int .u64 (word b 3)] 45)).alloc (.cells #[.int .u64 0, .int .u64 0, .int .u64 0, .int .u64 0] 45)) = W0 := ⟨_, rfl⟩
 have hB : Below w.heap.size w W0 := by rw [← hW0]; go_grown
 have DA : At W0 w.heap.size [mixW a (a ||| b) 0 0, mixW a (a ||| b) 0 1, mixW a (a ||| b) 0 2, mixW a (a ||| b) 0 3] := by
  rw [← hW0]; exact ((At.new _ _ _).alloc _).alloc _
 have DB : At W0 (w.heap.size + 1) [.int .u64 (word b 0), .int .u64 (word b 1), .int .u64 (word b 2), .int .u64 (word b 3)] := by
  rw [← hW0]; have h := (At.new (w.alloc (.cells #[.int .u64 (word a 0), .int .u64 (word a 1), .int .u64 (word a 2), .int .u64 (word a 3)] 45)) #[.int .u64 (word b 0), .int .u64 (word b 1), .int .u64 (word b 2), .int .u64 (word b 3)] 45).alloc (.cells #[.int .u64 0, .int .u64 0, .int .u64 0, .int .u64 0] 45)
  simpa using h
 have DC : At W0 (w.heap.size + 1 + 1) [.int .u64 0, .int .u64 0, .int .u64 0, .int .u64 0] := by
  rw [← hW0]; have h := At.new ((w.alloc (.cells #[.int .u64 (word a 0), .int .u64 (word a 1), .int .u64 (word a 2), .int .u64 (word a 3)] 45)).alloc (.cells #[.int .u64 (word b 0), .int .u64 (word b 1), .int .u64 (word b 2), .int .u64 (word b 3)] 45)) #[.int .u64 0, .int .u64 0, .int .u64 0, .int .u64 0] 45
  simpa using h
 rw [hW0]
 clear hW0
 go_loopw [5, 6] (fun _ i wr => ∃ k : Nat, k ≤ 4 ∧ i = .int .i64 (k : Int) ∧ At wr w.heap.size [mixW a (a ||| b) k 0, mixW a (a ||| b) k 1, mixW a (a ||| b) k 2, mixW a (a ||| b) k 3] ∧ At wr (w.heap.size + 1) [.int .u64 (word b 0), .int .u64 (word b 1), .int .u64 (word b 2), .int .u64 (word b 3)] ∧ At wr (w.heap.size + 1 + 1) [.int .u64 0, .int .u64 0, .int .u64 0, .int .u64 0] ∧ Below w.heap.size w wr) (fun _ i _ => 4 - (RowKit.intOf i).toNat)
 case atStart => exact ⟨0, by omega, rfl, DA, DB, DC, hB⟩
 case round =>
  obtain ⟨k, hk, rfl, EA, EB, EC, hB⟩ := hrel
  have hc : k = 0 ∨ k = 1 ∨ k = 2 ∨ k = 3 ∨ k = 4 := by omega
  clear DA DB DC
  rcases hc with rfl | rfl | rfl | rfl | rfl
  ·
   have xa := EA.cell 0 _ rfl
   have ya := EA.free 0 _ rfl
   have xb := EB.cell 0 _ rfl
   simp only [mixW, Nat.lt_irrefl, if_false] at xa
   have FA : At (wr.drew.setCell ⟨w.heap.size, 0, none⟩ (.int .u64 (word (a ||| b) 0))) w.heap.size [mixW a (a ||| b) 1 0, mixW a (a ||| b) 1 1, mixW a (a ||| b) 1 2, mixW a (a ||| b) 1 3] := EA.drew.set 0 _
   have FB := EB.drew.far (b' := w.heap.size) (j := 0) (by omega) (.int .u64 (word (a ||| b) 0))
   have FC := EC.drew.far (b' := w.heap.size) (j := 0) (by omega) (.int .u64 (word (a ||| b) 0))
   have FD := hB.drew.setCell (p := ⟨w.heap.size, 0, none⟩) (Nat.le_refl _) (.int .u64 (word (a ||| b) 0))
   have BK := BO.out 0
   have sz : w.heap.size < wr.heap.size := EA.lt
   have FA := Lib.hid FA
   have FB := Lib.hid FB
   have FC := Lib.hid FC
   have FD := Lib.hid FD
   clear EA EB EC hB
   go_wp2
   go_region
   all_goals
    go_wp2
    go_roundw
    case rel => exact ⟨1, by omega, by go_num, FA.out, FB.out, FC.out, FD.out⟩
    case measure => simp [RowKit.intOf]
  ·
   have xa := EA.cell 1 _ rfl
   have ya := EA.free 1 _ rfl
   have xb := EB.cell 1 _ rfl
   simp only [mixW, Nat.lt_irrefl, if_false] at xa
   have FA : At (wr.drew.setCell ⟨w.heap.size, 1, none⟩ (.int .u64 (word (a ||| b) 1))) w.heap.size [mixW a (a ||| b) 2 0, mixW a (a ||| b) 2 1, mixW a (a ||| b) 2 2, mixW a (a ||| b) 2 3] := EA.drew.set 1 _
   have FB := EB.drew.far (b' := w.heap.size) (j := 1) (by omega) (.int .u64 (word (a ||| b) 1))
   have FC := EC.drew.far (b' := w.heap.size) (j := 1) (by omega) (.int .u64 (word (a ||| b) 1))
   have FD := hB.drew.setCell (p := ⟨w.heap.size, 1, none⟩) (Nat.le_refl _) (.int .u64 (word (a ||| b) 1))
   have BK := BO.out 1
   have sz : w.heap.size < wr.heap.size := EA.lt
   have FA := Lib.hid FA
   have FB := Lib.hid FB
   have FC := Lib.hid FC
   have FD := Lib.hid FD
   clear EA EB EC hB
   go_wp2
   go_region
   all_goals
    go_wp2
    go_roundw
    case rel => exact ⟨2, by omega, by go_num, FA.out, FB.out, FC.out, FD.out⟩
    case measure => simp [RowKit.intOf]
  ·
   have xa := EA.cell 2 _ rfl
   have ya := EA.free 2 _ rfl
   have xb := EB.cell 2 _ rfl
   simp only [mixW, Nat.lt_irrefl, if_false] at xa
   have FA : At (wr.drew.setCell ⟨w.heap.size, 2, none⟩ (.int .u64 (word (a ||| b) 2))) w.heap.size [mixW a (a ||| b) 3 0, mixW a (a ||| b) 3 1, mixW a (a ||| b) 3 2, mixW a (a ||| b) 3 3] := EA.drew.set 2 _
   have FB := EB.drew.far (b' := w.heap.size) (j := 2) (by omega) (.int .u64 (word (a ||| b) 2))
   have FC := EC.drew.far (b' := w.heap.size) (j := 2) (by omega) (.int .u64 (word (a ||| b) 2))
   have FD := hB.drew.setCell (p := ⟨w.heap.size, 2, none⟩) (Nat.le_refl _) (.int .u64 (word (a ||| b) 2))
   have BK := BO.out 2
   have sz : w.heap.size < wr.heap.size := EA.lt
   have FA := Lib.hid FA
   have FB := Lib.hid FB
   have FC := Lib.hid FC
   have FD := Lib.hid FD
   clear EA EB EC hB
   go_wp2
   go_region
   all_goals
    go_wp2
    go_roundw
    case rel => exact ⟨3, by omega, by go_num, FA.out, FB.out, FC.out, FD.out⟩
    case measure => simp [RowKit.intOf]
  ·
   have xa := EA.cell 3 _ rfl
   have ya := EA.free 3 _ rfl
   have xb := EB.cell 3 _ rfl
   simp only [mixW, Nat.lt_irrefl, if_false] at xa
   have FA : At (wr.drew.setCell ⟨w.heap.size, 3, none⟩ (.int .u64 (word (a ||| b) 3))) w.heap.size [mixW a (a ||| b) 4 0, mixW a (a ||| b) 4 1, mixW a (a ||| b) 4 2, mixW a (a ||| b) 4 3] := EA.drew.set 3 _
   have FB := EB.drew.far (b' := w.heap.size) (j := 3) (by omega) (.int .u64 (word (a ||| b) 3))
   have FC := EC.drew.far (b' := w.heap.size) (j := 3) (by omega) (.int .u64 (word (a ||| b) 3))
   have FD := hB.drew.setCell (p := ⟨w.heap.size, 3, none⟩) (Nat.le_refl _) (.int .u64 (word (a ||| b) 3))
   have BK := BO.out 3
   have sz : w.heap.size < wr.heap.size := EA.lt
   have FA := Lib.hid FA
   have FB := Lib.hid FB
   have FC := Lib.hid FC
   have FD := Lib.hid FD
   clear EA EB EC hB
   go_wp2
   go_region
   all_goals
    go_wp2
    go_roundw
    case rel => exact ⟨4, by omega, by go_num, FA.out, FB.out, FC.out, FD.out⟩
    case measure => simp [RowKit.intOf]
  ·
   have x0 := EA.cell 0 _ rfl
   have x1 := EA.cell 1 _ rfl
   have x2 := EA.cell 2 _ rfl
   have x3 := EA.cell 3 _ rfl
   have y0 := EC.cell 0 _ rfl
   have y1 := EC.cell 1 _ rfl
   have y2 := EC.cell 2 _ rfl
   have y3 := EC.cell 3 _ rfl
   have z0 := EC.free 0 _ rfl
   have z1 := EC.free 1 _ rfl
   have z2 := EC.free 2 _ rfl
   have z3 := EC.free 3 _ rfl
   have nc := EC.lt
   simp only [mixW] at x0 x1 x2 x3
   simp only [show (0 : Nat) < 4 from by decide, show (1 : Nat) < 4 from by decide, show (2 : Nat) < 4 from by decide, show (3 : Nat) < 4 from by decide, if_true] at x0 x1 x2 x3
   clear EA EB EC
   go_wp2
   refine bodyPost_ret (by simp [results, Tryd.results41, go_sem, y0, y1, y2, y3, z0, z1, z2, z3, nc]; try rfl) rfl ?_
   exact ⟨rfl, by go_grown⟩
set_option maxHeartbeats 1000000 in
theorem bor_any (a b : Nat) (w : World) :
  Calls Tryd.prog 65 #[setV a, setV b] w fun e w' => e = .returned (setV (a ||| b)) ∧ Below w.heap.size w w' := by
 have BO := Lib.hid (bits_or a b)
 unfold setV
 go_enter Tryd.func65, Tryd.ntmps65
 go_wp2
 obtain ⟨W0, hW0⟩ : ∃ W0, (((w.alloc (.cells #[.int .u64 (word a 0), .int .u64 (word a 1), .int .u64 (word a 2), .int .u64 (word a 3)] 44)).alloc (.cells #[.int .u64 (word b 0), .int .u64 (word b 1), .int .u64 (word b 2), .int .u64 (word b 3)] 44)).alloc (.cells #[.int .u64 0, .int .u64 0, .int .u64 0, .int .u64 0] 44)) = W0 := ⟨_, rfl⟩
 have hB : Below w.heap.size w W0 := by rw [← hW0]; go_grown
 have DA : At W0 w.heap.size [mixW a (a ||| b) 0 0, mixW a (a ||| b) 0 1, mixW a (a ||| b) 0 2, mixW a (a ||| b) 0 3] := by
  rw [← hW0]; exact ((At.new _ _ _).alloc _).alloc _
 have DB : At W0 (w.heap.size + 1) [.int .u64 (word b 0), .int .u64 (word b 1), .int .u64 (word b 2), .int .u64 (word b 3)] := by
  rw [← hW0]; have h := (At.new (w.alloc (.cells #[.int .u64 (word a 0), .int .u64 (word a 1), .int .u64 (word a 2), .int .u64 (word a 3)] 44)) #[.int .u64 (word b 0), .int .u64 (word b 1), .int .u64 (word b 2), .int .u64 (word b 3)] 44).alloc (.cells #[.int .u64 0, .int .u64 0, .int .u64 0, .int .u64 0] 44)
  simpa using h
 have DC : At W0 (w.heap.size + 1 + 1) [.int .u64 0, .int .u64 0, .int .u64 0, .int .u64 0] := by
  rw [← hW0]; have h := At.new ((w.alloc (.cells #[.int .u64 (word a 0), .int .u64 (word a 1), .int .u64 (word a 2), .int .u64 (word a 3)] 44)).alloc (.cells #[.int .u64 (word b 0), .int .u64 (word b 1), .int .u64 (word b 2), .int .u64 (word b 3)] 44)) #[.int .u64 0, .int .u64 0, .int .u64 0, .int .u64 0] 44
  simpa using h
 rw [hW0]
 clear hW0
 go_loopw [5, 6] (fun _ i wr => ∃ k : Nat, k ≤ 4 ∧ i = .int .i64 (k : Int) ∧ At wr w.heap.size [mixW a (a ||| b) k 0, mixW a (a ||| b) k 1, mixW a (a ||| b) k 2, mixW a (a ||| b) k 3] ∧ At wr (w.heap.size + 1) [.int .u64 (word b 0), .int .u64 (word b 1), .int .u64 (word b 2), .int .u64 (word b 3)] ∧ At wr (w.heap.size + 1 + 1) [.int .u64 0, .int .u64 0, .int .u64 0, .int .u64 0] ∧ Below w.heap.size w wr) (fun _ i _ => 4 - (RowKit.intOf i).toNat)
 case atStart => exact ⟨0, by omega, rfl, DA, DB, DC, hB⟩
 case round =>
  obtain ⟨k, hk, rfl, EA, EB, EC, hB⟩ := hrel
  have hc : k = 0 ∨ k = 1 ∨ k = 2 ∨ k = 3 ∨ k = 4 := by omega
  clear DA DB DC
  rcases hc with rfl | rfl | rfl | rfl | rfl
  ·
   have xa := EA.cell 0 _ rfl
   have ya := EA.free 0 _ rfl
   have xb := EB.cell 0 _ rfl
   simp only [mixW, Nat.lt_irrefl, if_false] at xa
   have FA : At (wr.drew.setCell ⟨w.heap.size, 0, none⟩ (.int .u64 (word (a ||| b) 0))) w.heap.size [mixW a (a ||| b) 1 0, mixW a (a ||| b) 1 1, mixW a (a ||| b) 1 2, mixW a (a ||| b) 1 3] := EA.drew.set 0 _
   have FB := EB.drew.far (b' := w.heap.size) (j := 0) (by omega) (.int .u64 (word (a ||| b) 0))
   have FC := EC.drew.far (b' := w.heap.size) (j := 0) (by omega) (.int .u64 (word (a ||| b) 0))
   have FD := hB.drew.setCell (p := ⟨w.heap.size, 0, none⟩) (Nat.le_refl _) (.int .u64 (word (a ||| b) 0))
   have BK := BO.out 0
   have sz : w.heap.size < wr.heap.size := EA.lt
   have FA := Lib.hid FA
   have FB := Lib.hid FB
   have FC := Lib.hid FC
   have FD := Lib.hid FD
   clear EA EB EC hB
   go_wp2
   go_region
   all_goals
    go_wp2
    go_roundw
    case rel => exact ⟨1, by omega, by go_num, FA.out, FB.out, FC.out, FD.out⟩
    case measure => simp [RowKit.intOf]
  ·
   have xa := EA.cell 1 _ rfl
   have ya := EA.free 1 _ rfl
   have xb := EB.cell 1 _ rfl
   simp only [mixW, Nat.lt_irrefl, if_false] at xa
   have FA : At (wr.drew.setCell ⟨w.heap.size, 1, none⟩ (.int .u64 (word (a ||| b) 1))) w.heap.size [mixW a (a ||| b) 2 0, mixW a (a ||| b) 2 1, mixW a (a ||| b) 2 2, mixW a (a ||| b) 2 3] := EA.drew.set 1 _
   have FB := EB.drew.far (b' := w.heap.size) (j := 1) (by omega) (.int .u64 (word (a ||| b) 1))
   have FC := EC.drew.far (b' := w.heap.size) (j := 1) (by omega) (.int .u64 (word (a ||| b) 1))
   have FD := hB.drew.setCell (p := ⟨w.heap.size, 1, none⟩) (Nat.le_refl _) (.int .u64 (word (a ||| b) 1))
   have BK := BO.out 1
   have sz : w.heap.size < wr.heap.size := EA.lt
   have FA := Lib.hid FA
   have FB := Lib.hid FB
   have FC := Lib.hid FC
   have FD := Lib.hid FD
   clear EA EB EC hB
   go_wp2
   go_region
   all_goals
    go_wp2
    go_roundw
    case rel => exact ⟨2, by omega, by go_num, FA.out, FB.out, FC.out, FD.out⟩
    case measure => simp [RowKit.intOf]
  ·
   have xa := EA.cell 2 _ rfl
   have ya := EA.free 2 _ rfl
   have xb := EB.cell 2 _ rfl
   simp only [mixW, Nat.lt_irrefl, if_false] at xa
   have FA : At (wr.drew.setCell ⟨w.heap.size, 2, none⟩ (.int .u64 (word (a ||| b) 2))) w.heap.size [mixW a (a ||| b) 3 0, mixW a (a ||| b) 3 1, mixW a (a ||| b) 3 2, mixW a (a ||| b) 3 3] := EA.drew.set 2 _
   have FB := EB.drew.far (b' := w.heap.size) (j := 2) (by omega) (.int .u64 (word (a ||| b) 2))
   have FC := EC.drew.far (b' := w.heap.size) (j := 2) (by omega) (.int .u64 (word (a ||| b) 2))
   have FD := hB.drew.setCell (p := ⟨w.heap.size, 2, none⟩) (Nat.le_refl _) (.int .u64 (word (a ||| b) 2))
   have BK := BO.out 2
   have sz : w.heap.size < wr.heap.size := EA.lt
   have FA := Lib.hid FA
   have FB := Lib.hid FB
   have FC := Lib.hid FC
   have FD := Lib.hid FD
   clear EA EB EC hB
   go_wp2
   go_region
   all_goals
    go_wp2
    go_roundw
    case rel => exact ⟨3, by omega, by go_num, FA.out, FB.out, FC.out, FD.out⟩
    case measure => simp [RowKit.intOf]
  ·
   have xa := EA.cell 3 _ rfl
   have ya := EA.free 3 _ rfl
   have xb := EB.cell 3 _ rfl
   simp only [mixW, Nat.lt_irrefl, if_false] at xa
   have FA : At (wr.drew.setCell ⟨w.heap.size, 3, none⟩ (.int .u64 (word (a ||| b) 3))) w.heap.size [mixW a (a ||| b) 4 0, mixW a (a ||| b) 4 1, mixW a (a ||| b) 4 2, mixW a (a ||| b) 4 3] := EA.drew.set 3 _
   have FB := EB.drew.far (b' := w.heap.size) (j := 3) (by omega) (.int .u64 (word (a ||| b) 3))
   have FC := EC.drew.far (b' := w.heap.size) (j := 3) (by omega) (.int .u64 (word (a ||| b) 3))
   have FD := hB.drew.setCell (p := ⟨w.heap.size, 3, none⟩) (Nat.le_refl _) (.int .u64 (word (a ||| b) 3))
   have BK := BO.out 3
   have sz : w.heap.size < wr.heap.size := EA.lt
   have FA := Lib.hid FA
   have FB := Lib.hid FB
   have FC := Lib.hid FC
   have FD := Lib.hid FD
   clear EA EB EC hB
   go_wp2
   go_region
   all_goals
    go_wp2
    go_roundw
    case rel => exact ⟨4, by omega, by go_num, FA.out, FB.out, FC.out, FD.out⟩
    case measure => simp [RowKit.intOf]
  ·
   have x0 := EA.cell 0 _ rfl
   have x1 := EA.cell 1 _ rfl
   have x2 := EA.cell 2 _ rfl
   have x3 := EA.cell 3 _ rfl
   have y0 := EC.cell 0 _ rfl
   have y1 := EC.cell 1 _ rfl
   have y2 := EC.cell 2 _ rfl
   have y3 := EC.cell 3 _ rfl
   have z0 := EC.free 0 _ rfl
   have z1 := EC.free 1 _ rfl
   have z2 := EC.free 2 _ rfl
   have z3 := EC.free 3 _ rfl
   have nc := EC.lt
   simp only [mixW] at x0 x1 x2 x3
   simp only [show (0 : Nat) < 4 from by decide, show (1 : Nat) < 4 from by decide, show (2 : Nat) < 4 from by decide, show (3 : Nat) < 4 from by decide, if_true] at x0 x1 x2 x3
   clear EA EB EC
   go_wp2
   refine bodyPost_ret (by simp [results, Tryd.results65, go_sem, y0, y1, y2, y3, z0, z1, z2, z3, nc]; try rfl) rfl ?_
   exact ⟨rfl, by go_grown⟩
end Go.Proofs.YtcfdpbbpdnpnnaaDoor
