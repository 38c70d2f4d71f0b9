/- The layer's known examples: each of package span's functions at fixed arguments. -/
import Derived.Test.YtmiahbaadlddjaaDoorParse
import Derived.Test.YtmiahbaadlddjaaDoorSteps
import Derived.Handy
namespace Go.Proofs.YtmiahbaadlddjaaDoor
open Go Go.Proofs Go.RowKit Go.Shelf
set_option maxRecDepth 100000
/-- what Parse answers -/
def parseR (l : List UInt8) : Int × Int := if l = [48] then (0, 0) else parseP l
theorem parse_zero (w : World) : Calls Tryd.prog 19 #[.string ⟨#[48]⟩] w fun e w' => e = .returned (Two (0, 0)) ∧ Below w.heap.size w w' := by
  go_enter Tryd.func19, Tryd.ntmps19
  go_wp2
  go_ret2
  exact ⟨rfl, by go_grown⟩
theorem parse_any (l : List UInt8) (hl : l.length ≤ 1000) (w : World) (hix : ∀ k, IxOk (l.drop k)) (hpu : ∀ k W, Below w.heap.size w W → PuOk W (l.drop k)) :
    Calls Tryd.prog 19 #[.string ⟨l.toArray⟩] w fun e w' => e = .returned (Two (parseR l)) ∧ Below w.heap.size w w' := by
  unfold parseR
  by_cases h : l = [48]
  · subst h; rw [if_pos rfl]; exact parse_zero w
  · rw [if_neg h]
    exact parse_loop l hl w (by rw [beq_eq_false_iff_ne]; exact h) hix hpu
theorem dval_snoc (l : List UInt8) (c : UInt8) : dval (l ++ [c]) = dval l * 10 + (c.toNat - 48) := by unfold dval; rw [List.foldl_append]; rfl
theorem dval_lt : ∀ (l : List UInt8) (a : Nat), l.all dB = true → l.foldl dstep a < (a + 1) * 10 ^ l.length := by
  intro l
  induction l with
  | nil => intro a _; simp
  | cons c t ih =>
    intro a h
    rw [List.all_cons, Bool.and_eq_true] at h
    have hc := (dB_iff c).1 h.1
    have h1 := ih (dstep a c) h.2
    rw [List.foldl_cons, List.length_cons, Nat.pow_succ]
    have h2 : dstep a c + 1 ≤ (a + 1) * 10 := by unfold dstep; omega
    have h3 := Nat.mul_le_mul_right (10 ^ t.length) h2
    rw [Nat.mul_assoc, Nat.mul_comm 10] at h3
    omega
theorem dval_short (l : List UInt8) (h : l.all dB = true) (hl : l.length ≤ 19) : dval l ≤ 18446744073709551615 := by
  have h1 := dval_lt l 0 h
  have h2 : 10 ^ l.length ≤ 10 ^ 19 := Nat.pow_le_pow_right (by omega) hl
  have h3 : (10 : Nat) ^ 19 = 10000000000000000000 := by decide
  unfold dval
  omega
theorem parse_short (l : List UInt8) (hl : l.length ≤ 19) (ha : l.all (fun b => decide (b.toNat < 128)) = true) (r : Int × Int) (hr : parseR l = r) (w : World) :
    Calls Tryd.prog 19 #[.string ⟨l.toArray⟩] w fun e w' => e = .returned (.tuple #[.int .i64 r.1, .int .i64 r.2]) ∧ Below w.heap.size w w' := by
  have := parse_any l (by omega) w (fun k => ix_ascii _ (by rw [List.length_drop]; omega) (by
    rw [List.all_eq_true] at ha ⊢
    exact fun x hx => ha x (List.mem_of_mem_drop hx))) (fun k W _ => pu_ok W _ (by rw [List.length_drop]; omega) (dval_short _ (tw_all _ _) (by have := tw_le dB (l.drop k); rw [List.length_drop] at this; omega)))
  rw [hr] at this
  exact this
theorem kt1 : textR 93603004 = [49, 100, 50, 104, 51, 115, 52, 109, 115] := by
  simp [textR, tRun, tStep, unitSize, unitWord, Lib.decDigits]
theorem kp1 : parseR [49, 100, 50, 104, 51, 115, 52, 109, 115] = (93603004, 0) := by decide +kernel
theorem kp2 : parseR [54, 48, 115] = (0, 2) := by decide +kernel
set_option maxHeartbeats 4000000 in
theorem known_any (w : World) (ht : Tab w) :
    Calls Tryd.prog 8 #[] w fun e w' => e = .returned (.bool true) ∧ Below w.heap.size w w' := by
  have P1 := Lib.hid (fun W => parse_short [49, 100, 50, 104, 51, 115, 52, 109, 115] (by decide) (by decide) _ kp1 W)
  have P2 := Lib.hid (fun W => parse_short [54, 48, 115] (by decide) (by decide) _ kp2 W)
  have F : Hid (∀ W, Calls Tryd.prog 11 #[.int .i64 25, .int .i64 10] W fun e w' => e = .returned (.tuple #[.int .i64 20, .int .i64 0]) ∧ W = w') := Lib.hid (fun W => floor_any 25 10 W)
  have N : Hid (∀ W, Calls Tryd.prog 13 #[.int .i64 20, .int .i64 10] W fun e w' => e = .returned (.tuple #[.int .i64 30, .int .i64 0]) ∧ W = w') := Lib.hid (fun W => next_any 20 10 W)
  have S := Lib.hid (fun W => steps_good (-1) 20 10 3 (by decide) (by decide) (by decide) (by decide) (by decide) W)
  have A : Hid (∀ W, Calls Tryd.prog 9 #[.int .i64 4398046511104, .int .i64 1] W fun e w' => e = .returned (.tuple #[.int .i64 0, .int .i64 7]) ∧ W = w') := Lib.hid (fun W => add_any 4398046511104 1 W)
  have T : Hid (∀ W, Tab W → Calls Tryd.prog 21 #[.int .i64 93603004] W fun e w' => e = .returned (.string ⟨#[49, 100, 50, 104, 51, 115, 52, 109, 115]⟩) ∧ Below W.heap.size W w') := Lib.hid (fun W h => by have := text_any 93603004 (by omega) W h; rw [kt1] at this; exact this)
  have Z := Lib.hid (fun W => text_zero W)
  have C : Hid (∀ W, Calls Tryd.prog 15 #[.int .i64 (-1)] W fun e w' => e = .returned (.int .i64 1) ∧ W = w') := Lib.hid (fun W => check_any (-1) W)
  have HT := Lib.hid ht
  clear ht
  go_enter Tryd.func8, Tryd.ntmps8
  go_wp2_with fail
  refine (P1.out _).mono ?_
  rintro e w1 ⟨rfl, hb1⟩
  go_wp2_with fail
  refine (P2.out _).mono ?_
  rintro e w2 ⟨rfl, hb2⟩
  have B2 : Below w.heap.size w w2 := hb1.trans (hb2.mono hb1.size)
  clear hb1 hb2
  go_wp2_with fail
  refine (F.out _).mono ?_
  rintro e u ⟨rfl, rfl⟩
  go_wp2_with fail
  refine (N.out _).mono ?_
  rintro e u ⟨rfl, rfl⟩
  go_wp2_with fail
  refine (S.out _).mono ?_
  rintro e w3 ⟨rfl, ho, hb3⟩
  have c3 : w3.cell? ⟨w2.heap.size, 2, none⟩ = some (.int .i64 20) := ho.cellAt 2 (by omega)
  have l3 : w2.heap.size < w3.heap.size := Lib.lt_of_cell c3
  have B3 := B2.trans (hb3.mono B2.size)
  have T3 := Lib.hid (HT.out.below B3)
  clear ho hb3 B2
  go_wp2_with fail
  refine (A.out _).mono ?_
  rintro e u ⟨rfl, rfl⟩
  go_wp2_with fail
  refine (T.out _ T3.out).mono ?_
  rintro e w4 ⟨rfl, hb4⟩
  have c4 : w4.cell? ⟨w2.heap.size, 2, none⟩ = some (.int .i64 20) := (hb4.cell (p := ⟨w2.heap.size, 2, none⟩) l3).trans c3
  have B4 := B3.trans (hb4.mono B3.size)
  have l4 : w2.heap.size < w4.heap.size := Lib.lt_of_cell c4
  clear hb4 c3 B3
  go_wp2_with fail
  refine (Z.out _).mono ?_
  rintro e w5 ⟨rfl, hb5⟩
  have c5 : w5.cell? ⟨w2.heap.size, 2, none⟩ = some (.int .i64 20) := (hb5.cell (p := ⟨w2.heap.size, 2, none⟩) l4).trans c4
  have B5 := B4.trans (hb5.mono B4.size)
  clear hb5 c4 B4
  go_wp2_with fail
  refine (C.out _).mono ?_
  rintro e u ⟨rfl, rfl⟩
  go_wp2
  go_ret
  exact ⟨rfl, B5⟩
end Go.Proofs.YtmiahbaadlddjaaDoor
