/- scale: three limbs by one number. -/
import Derived.Test.YtkhlpbipkkbghaaWalkA
import Derived.Test.YtkhlpbipkkbghaaAt
import Derived.Test.YtkhlpbipkkbghaaMath
import Derived.Lib.Hide
namespace Go.Proofs.Ytkhlpbipkkbghaa
open Go Go.Proofs Go.RowKit
set_option maxRecDepth 100000

theorem mul64_any (x y : Int) (hx : 0 ≤ x ∧ x < 18446744073709551616) (hy : 0 ≤ y ∧ y < 18446744073709551616) (w : World) :
    Calls Try.prog 52 #[.int .u64 x, .int .u64 y] w fun e w' => e = .returned (.tuple #[.int .u64 (x * y / 18446744073709551616), .int .u64 (x * y % 18446744073709551616)]) ∧ w = w' := by
  obtain ⟨x, rfl⟩ := Int.eq_ofNat_of_zero_le hx.1
  obtain ⟨y, rfl⟩ := Int.eq_ofNat_of_zero_le hy.1
  refine (Try.bits_Mul64 x y (by omega) (by omega) w).mono fun e w' h => ⟨h.1.trans ?_, h.2.symm⟩
  simp

theorem mul_bd (x f : Int) (hx : 0 ≤ x ∧ x < 18446744073709551616) (hf : 0 ≤ f ∧ f < 18446744073709551616) : 0 ≤ x * f ∧ x * f ≤ 18446744073709551615 * 18446744073709551615 := by
  refine ⟨Int.mul_nonneg hx.1 hf.1, ?_⟩
  exact Int.mul_le_mul (by omega) (by omega) hf.1 (by omega)

theorem scale_lo (x f c : Int) (hx : 0 ≤ x ∧ x < 18446744073709551616) (hf : 0 ≤ f ∧ f < 18446744073709551616) (hc : 0 ≤ c ∧ c < 18446744073709551616) :
    (x * f % 18446744073709551616 + c) % 18446744073709551616 = (x * f + c) % 18446744073709551616 ∧
    IntKind.u64.wrap (x * f / 18446744073709551616 + (x * f % 18446744073709551616 + c) / 18446744073709551616) = (x * f + c) / 18446744073709551616 ∧ 0 ≤ (x * f + c) / 18446744073709551616 ∧ (x * f + c) / 18446744073709551616 < 18446744073709551616 := by
  obtain ⟨h1, h2⟩ := mul_bd x f hx hf
  rw [IntKind.wrap_u64]
  generalize x * f = p at *
  omega

theorem scaleStep_any (fb : Nat) (m0 m1 m2 c x f : Int) (hx : 0 ≤ x ∧ x < 18446744073709551616) (hf : 0 ≤ f ∧ f < 18446744073709551616) (hc : 0 ≤ c ∧ c < 18446744073709551616) (w : World) (hF : At w fb [.int .u64 f]) :
    Calls Try.prog 51 #[.agg #[.int .u64 m0, .int .u64 m1, .int .u64 m2, .int .u64 c], .int .u64 x, .pointer (some ⟨fb, 0, none⟩)] w fun e w' =>
      e = .returned (.agg #[.int .u64 m1, .int .u64 m2, .int .u64 ((x * f + c) % 18446744073709551616), .int .u64 ((x * f + c) / 18446744073709551616)]) ∧ Below w.heap.size w w' := by
  have hs := scale_lo x f c hx hf hc
  have hm := mul64_any x f hx hf
  have hp : 0 ≤ x * f % 18446744073709551616 := by omega
  have h64 := fun w' => add64_any (x * f % 18446744073709551616) c 0 hp hc.1 (Int.le_refl 0) (by decide) w'
  simp only [Int.add_zero] at h64
  have H1 := Lib.hid hs
  have HM := Lib.hid hm
  have hf0 := hF.cell 0 _ rfl
  have hlt := hF.lt
  clear hx hf hc hp hs hm
  go_enter Try.func51, Try.ntmps51
  go_wp2_with (first | (go_at_call 52; refine (HM.out _).mono ?_; rintro e w1 ⟨rfl, rfl⟩) | go_in)
  refine bodyPost_ret (v := .agg #[.int .u64 m1, .int .u64 m2, .int .u64 ((x * f % 18446744073709551616 + c) % 18446744073709551616), .int .u64 (IntKind.u64.wrap (x * f / 18446744073709551616 + (x * f % 18446744073709551616 + c) / 18446744073709551616))]) (by simp [results, Try.results51, go_sem]) rfl ⟨?_, by go_grown⟩
  rw [H1.out.1, H1.out.2.1]

set_option maxHeartbeats 1000000 in
theorem foldScale_any (B fb : Nat) (m0 m1 m2 c x0 x1 x2 f : Int) (w : World) (hc : 0 ≤ c ∧ c < 18446744073709551616) (hf : 0 ≤ f ∧ f < 18446744073709551616)
    (hx0 : 0 ≤ x0 ∧ x0 < 18446744073709551616) (hx1 : 0 ≤ x1 ∧ x1 < 18446744073709551616) (hx2 : 0 ≤ x2 ∧ x2 < 18446744073709551616) (hX : At w B [.int .u64 x0, .int .u64 x1, .int .u64 x2]) (hF : At w fb [.int .u64 f]) :
    Calls Try.prog 50 #[.slice (some ⟨B, 0, none⟩) 3 3, .agg #[.int .u64 m0, .int .u64 m1, .int .u64 m2, .int .u64 c], .func (.func 51) #[] #[.pointer (some ⟨fb, 0, none⟩)]] w fun e w' =>
      e = .returned (.agg #[.int .u64 ((x0 * f + c) % 18446744073709551616), .int .u64 ((x1 * f + ((x0 * f + c) / 18446744073709551616)) % 18446744073709551616), .int .u64 ((x2 * f + ((x1 * f + ((x0 * f + c) / 18446744073709551616)) / 18446744073709551616)) % 18446744073709551616), .int .u64 ((x2 * f + ((x1 * f + ((x0 * f + c) / 18446744073709551616)) / 18446744073709551616)) / 18446744073709551616)]) ∧ Below w.heap.size w w' := by
  have hlt := hX.lt
  have k1 := (scale_lo x0 f c hx0 hf hc).2.2
  have k2 := (scale_lo x1 f _ hx1 hf k1).2.2
  have S0 := Lib.hid (fun (wx : World) => scaleStep_any fb m0 m1 m2 c x0 f hx0 hf hc wx)
  have S1 := Lib.hid (fun (wx : World) => scaleStep_any fb m1 m2 ((x0 * f + c) % 18446744073709551616) ((x0 * f + c) / 18446744073709551616) x1 f hx1 hf k1 wx)
  have S2 := Lib.hid (fun (wx : World) => scaleStep_any fb m2 ((x0 * f + c) % 18446744073709551616) ((x1 * f + ((x0 * f + c) / 18446744073709551616)) % 18446744073709551616) ((x1 * f + ((x0 * f + c) / 18446744073709551616)) / 18446744073709551616) x2 f hx2 hf k2 wx)
  clear hc hf hx0 hx1 hx2 k1 k2
  have y0 := hX.cell 0 _ rfl
  go_enter Try.func50, Try.ntmps50
  go_wp2_with fail
  refine wp_loop_rounds 4 ?_
  rw [rounds_succ]
  go_wp2_with fail
  refine (S0.out _ ((hF.alloc _).alloc _)).mono ?_
  rintro e w1 ⟨rfl, hb⟩
  have hA : At w1 w.heap.size [.int .u64 m0, .int .u64 m1, .int .u64 m2, .int .u64 c] := ((At.new w #[.int .u64 m0, .int .u64 m1, .int .u64 m2, .int .u64 c] 100).alloc _).below hb
  have hR : At w1 (w.heap.size + 1) [.int .u64 0, .int .u64 0, .int .u64 0, .int .u64 0] := by
    have h := (At.new (w.alloc (.cells #[.int .u64 m0, .int .u64 m1, .int .u64 m2, .int .u64 c] 100)) #[.int .u64 0, .int .u64 0, .int .u64 0, .int .u64 0] 100).below hb
    simpa using h
  have hB : Below w.heap.size w w1 := Below.trans (by go_grown) (hb.mono (by simp; omega))
  clear hb y0
  have c0 := hA.cell 0 _ rfl
  have cf0 := hA.free 0 _ rfl
  have c1 := hA.cell 1 _ rfl
  have cf1 := hA.free 1 _ rfl
  have c2 := hA.cell 2 _ rfl
  have cf2 := hA.free 2 _ rfl
  have c3 := hA.cell 3 _ rfl
  have cf3 := hA.free 3 _ rfl
  go_wp2_with fail
  have hA' : At ((((w1.setCell ⟨w.heap.size, 0, none⟩ (.int .u64 m1)).setCell ⟨w.heap.size, 1, none⟩ (.int .u64 m2)).setCell ⟨w.heap.size, 2, none⟩ (.int .u64 ((x0 * f + c) % 18446744073709551616))).setCell ⟨w.heap.size, 3, none⟩ (.int .u64 ((x0 * f + c) / 18446744073709551616))) w.heap.size [.int .u64 m1, .int .u64 m2, .int .u64 ((x0 * f + c) % 18446744073709551616), .int .u64 ((x0 * f + c) / 18446744073709551616)] := (((hA.set 0 _).set 1 _).set 2 _).set 3 _
  have hR' : At ((((w1.setCell ⟨w.heap.size, 0, none⟩ (.int .u64 m1)).setCell ⟨w.heap.size, 1, none⟩ (.int .u64 m2)).setCell ⟨w.heap.size, 2, none⟩ (.int .u64 ((x0 * f + c) % 18446744073709551616))).setCell ⟨w.heap.size, 3, none⟩ (.int .u64 ((x0 * f + c) / 18446744073709551616))) (w.heap.size + 1) [.int .u64 0, .int .u64 0, .int .u64 0, .int .u64 0] := (((hR.far (by omega) _).far (by omega) _).far (by omega) _).far (by omega) _
  have hB' : Below w.heap.size w ((((w1.setCell ⟨w.heap.size, 0, none⟩ (.int .u64 m1)).setCell ⟨w.heap.size, 1, none⟩ (.int .u64 m2)).setCell ⟨w.heap.size, 2, none⟩ (.int .u64 ((x0 * f + c) % 18446744073709551616))).setCell ⟨w.heap.size, 3, none⟩ (.int .u64 ((x0 * f + c) / 18446744073709551616))) := (((hB.setCell (by simp) _).setCell (by simp) _).setCell (by simp) _).setCell (by simp) _
  generalize ((((w1.setCell ⟨w.heap.size, 0, none⟩ (.int .u64 m1)).setCell ⟨w.heap.size, 1, none⟩ (.int .u64 m2)).setCell ⟨w.heap.size, 2, none⟩ (.int .u64 ((x0 * f + c) % 18446744073709551616))).setCell ⟨w.heap.size, 3, none⟩ (.int .u64 ((x0 * f + c) / 18446744073709551616))) = W1 at *
  clear c0 c1 c2 c3 cf0 cf1 cf2 cf3
  clear hA hR hB
  have hltW : B < W1.heap.size := Nat.lt_of_lt_of_le hlt hB'.size
  have hltA := hA'.lt
  have hF' := hF.below hB'
  have c0 := hA'.cell 0 _ rfl
  have c1 := hA'.cell 1 _ rfl
  have c2 := hA'.cell 2 _ rfl
  have c3 := hA'.cell 3 _ rfl
  have y0 := below_cell (hX.cell 1 _ rfl) hB' rfl
  rw [rounds_succ]
  go_wp2_with fail
  refine (S1.out _ hF').mono ?_
  rintro e w2 ⟨rfl, hb⟩
  have hA : At w2 w.heap.size [.int .u64 m1, .int .u64 m2, .int .u64 ((x0 * f + c) % 18446744073709551616), .int .u64 ((x0 * f + c) / 18446744073709551616)] := hA'.below hb
  have hR : At w2 (w.heap.size + 1) [.int .u64 0, .int .u64 0, .int .u64 0, .int .u64 0] := hR'.below hb
  have hB : Below w.heap.size w w2 := Below.trans hB' (hb.mono hB'.size)
  clear hb hA' hR' hB' hF' y0 hltW hltA
  clear c0 c1 c2 c3
  have c0 := hA.cell 0 _ rfl
  have cf0 := hA.free 0 _ rfl
  have c1 := hA.cell 1 _ rfl
  have cf1 := hA.free 1 _ rfl
  have c2 := hA.cell 2 _ rfl
  have cf2 := hA.free 2 _ rfl
  have c3 := hA.cell 3 _ rfl
  have cf3 := hA.free 3 _ rfl
  go_wp2_with fail
  have hA' : At ((((w2.setCell ⟨w.heap.size, 0, none⟩ (.int .u64 m2)).setCell ⟨w.heap.size, 1, none⟩ (.int .u64 ((x0 * f + c) % 18446744073709551616))).setCell ⟨w.heap.size, 2, none⟩ (.int .u64 ((x1 * f + ((x0 * f + c) / 18446744073709551616)) % 18446744073709551616))).setCell ⟨w.heap.size, 3, none⟩ (.int .u64 ((x1 * f + ((x0 * f + c) / 18446744073709551616)) / 18446744073709551616))) w.heap.size [.int .u64 m2, .int .u64 ((x0 * f + c) % 18446744073709551616), .int .u64 ((x1 * f + ((x0 * f + c) / 18446744073709551616)) % 18446744073709551616), .int .u64 ((x1 * f + ((x0 * f + c) / 18446744073709551616)) / 18446744073709551616)] := (((hA.set 0 _).set 1 _).set 2 _).set 3 _
  have hR' : At ((((w2.setCell ⟨w.heap.size, 0, none⟩ (.int .u64 m2)).setCell ⟨w.heap.size, 1, none⟩ (.int .u64 ((x0 * f + c) % 18446744073709551616))).setCell ⟨w.heap.size, 2, none⟩ (.int .u64 ((x1 * f + ((x0 * f + c) / 18446744073709551616)) % 18446744073709551616))).setCell ⟨w.heap.size, 3, none⟩ (.int .u64 ((x1 * f + ((x0 * f + c) / 18446744073709551616)) / 18446744073709551616))) (w.heap.size + 1) [.int .u64 0, .int .u64 0, .int .u64 0, .int .u64 0] := (((hR.far (by omega) _).far (by omega) _).far (by omega) _).far (by omega) _
  have hB' : Below w.heap.size w ((((w2.setCell ⟨w.heap.size, 0, none⟩ (.int .u64 m2)).setCell ⟨w.heap.size, 1, none⟩ (.int .u64 ((x0 * f + c) % 18446744073709551616))).setCell ⟨w.heap.size, 2, none⟩ (.int .u64 ((x1 * f + ((x0 * f + c) / 18446744073709551616)) % 18446744073709551616))).setCell ⟨w.heap.size, 3, none⟩ (.int .u64 ((x1 * f + ((x0 * f + c) / 18446744073709551616)) / 18446744073709551616))) := (((hB.setCell (by simp) _).setCell (by simp) _).setCell (by simp) _).setCell (by simp) _
  generalize ((((w2.setCell ⟨w.heap.size, 0, none⟩ (.int .u64 m2)).setCell ⟨w.heap.size, 1, none⟩ (.int .u64 ((x0 * f + c) % 18446744073709551616))).setCell ⟨w.heap.size, 2, none⟩ (.int .u64 ((x1 * f + ((x0 * f + c) / 18446744073709551616)) % 18446744073709551616))).setCell ⟨w.heap.size, 3, none⟩ (.int .u64 ((x1 * f + ((x0 * f + c) / 18446744073709551616)) / 18446744073709551616))) = W2 at *
  clear c0 c1 c2 c3 cf0 cf1 cf2 cf3
  clear hA hR hB
  have hltW : B < W2.heap.size := Nat.lt_of_lt_of_le hlt hB'.size
  have hltA := hA'.lt
  have hF' := hF.below hB'
  have c0 := hA'.cell 0 _ rfl
  have c1 := hA'.cell 1 _ rfl
  have c2 := hA'.cell 2 _ rfl
  have c3 := hA'.cell 3 _ rfl
  have y0 := below_cell (hX.cell 2 _ rfl) hB' rfl
  rw [rounds_succ]
  go_wp2_with fail
  refine (S2.out _ hF').mono ?_
  rintro e w3 ⟨rfl, hb⟩
  have hA : At w3 w.heap.size [.int .u64 m2, .int .u64 ((x0 * f + c) % 18446744073709551616), .int .u64 ((x1 * f + ((x0 * f + c) / 18446744073709551616)) % 18446744073709551616), .int .u64 ((x1 * f + ((x0 * f + c) / 18446744073709551616)) / 18446744073709551616)] := hA'.below hb
  have hR : At w3 (w.heap.size + 1) [.int .u64 0, .int .u64 0, .int .u64 0, .int .u64 0] := hR'.below hb
  have hB : Below w.heap.size w w3 := Below.trans hB' (hb.mono hB'.size)
  clear hb hA' hR' hB' hF' y0 hltW hltA
  clear c0 c1 c2 c3
  have c0 := hA.cell 0 _ rfl
  have cf0 := hA.free 0 _ rfl
  have c1 := hA.cell 1 _ rfl
  have cf1 := hA.free 1 _ rfl
  have c2 := hA.cell 2 _ rfl
  have cf2 := hA.free 2 _ rfl
  have c3 := hA.cell 3 _ rfl
  have cf3 := hA.free 3 _ rfl
  go_wp2_with fail
  have hA' : At ((((w3.setCell ⟨w.heap.size, 0, none⟩ (.int .u64 ((x0 * f + c) % 18446744073709551616))).setCell ⟨w.heap.size, 1, none⟩ (.int .u64 ((x1 * f + ((x0 * f + c) / 18446744073709551616)) % 18446744073709551616))).setCell ⟨w.heap.size, 2, none⟩ (.int .u64 ((x2 * f + ((x1 * f + ((x0 * f + c) / 18446744073709551616)) / 18446744073709551616)) % 18446744073709551616))).setCell ⟨w.heap.size, 3, none⟩ (.int .u64 ((x2 * f + ((x1 * f + ((x0 * f + c) / 18446744073709551616)) / 18446744073709551616)) / 18446744073709551616))) w.heap.size [.int .u64 ((x0 * f + c) % 18446744073709551616), .int .u64 ((x1 * f + ((x0 * f + c) / 18446744073709551616)) % 18446744073709551616), .int .u64 ((x2 * f + ((x1 * f + ((x0 * f + c) / 18446744073709551616)) / 18446744073709551616)) % 18446744073709551616), .int .u64 ((x2 * f + ((x1 * f + ((x0 * f + c) / 18446744073709551616)) / 18446744073709551616)) / 18446744073709551616)] := (((hA.set 0 _).set 1 _).set 2 _).set 3 _
  have hR' : At ((((w3.setCell ⟨w.heap.size, 0, none⟩ (.int .u64 ((x0 * f + c) % 18446744073709551616))).setCell ⟨w.heap.size, 1, none⟩ (.int .u64 ((x1 * f + ((x0 * f + c) / 18446744073709551616)) % 18446744073709551616))).setCell ⟨w.heap.size, 2, none⟩ (.int .u64 ((x2 * f + ((x1 * f + ((x0 * f + c) / 18446744073709551616)) / 18446744073709551616)) % 18446744073709551616))).setCell ⟨w.heap.size, 3, none⟩ (.int .u64 ((x2 * f + ((x1 * f + ((x0 * f + c) / 18446744073709551616)) / 18446744073709551616)) / 18446744073709551616))) (w.heap.size + 1) [.int .u64 0, .int .u64 0, .int .u64 0, .int .u64 0] := (((hR.far (by omega) _).far (by omega) _).far (by omega) _).far (by omega) _
  have hB' : Below w.heap.size w ((((w3.setCell ⟨w.heap.size, 0, none⟩ (.int .u64 ((x0 * f + c) % 18446744073709551616))).setCell ⟨w.heap.size, 1, none⟩ (.int .u64 ((x1 * f + ((x0 * f + c) / 18446744073709551616)) % 18446744073709551616))).setCell ⟨w.heap.size, 2, none⟩ (.int .u64 ((x2 * f + ((x1 * f + ((x0 * f + c) / 18446744073709551616)) / 18446744073709551616)) % 18446744073709551616))).setCell ⟨w.heap.size, 3, none⟩ (.int .u64 ((x2 * f + ((x1 * f + ((x0 * f + c) / 18446744073709551616)) / 18446744073709551616)) / 18446744073709551616))) := (((hB.setCell (by simp) _).setCell (by simp) _).setCell (by simp) _).setCell (by simp) _
  generalize ((((w3.setCell ⟨w.heap.size, 0, none⟩ (.int .u64 ((x0 * f + c) % 18446744073709551616))).setCell ⟨w.heap.size, 1, none⟩ (.int .u64 ((x1 * f + ((x0 * f + c) / 18446744073709551616)) % 18446744073709551616))).setCell ⟨w.heap.size, 2, none⟩ (.int .u64 ((x2 * f + ((x1 * f + ((x0 * f + c) / 18446744073709551616)) / 18446744073709551616)) % 18446744073709551616))).setCell ⟨w.heap.size, 3, none⟩ (.int .u64 ((x2 * f + ((x1 * f + ((x0 * f + c) / 18446744073709551616)) / 18446744073709551616)) / 18446744073709551616))) = W3 at *
  clear c0 c1 c2 c3 cf0 cf1 cf2 cf3
  clear hA hR hB
  have hltW : B < W3.heap.size := Nat.lt_of_lt_of_le hlt hB'.size
  have hltA := hA'.lt
  have hF' := hF.below hB'
  have c0 := hA'.cell 0 _ rfl
  have c1 := hA'.cell 1 _ rfl
  have c2 := hA'.cell 2 _ rfl
  have c3 := hA'.cell 3 _ rfl
  have r0 := hR'.cell 0 _ rfl
  have rf0 := hR'.free 0 _ rfl
  have r1 := hR'.cell 1 _ rfl
  have rf1 := hR'.free 1 _ rfl
  have r2 := hR'.cell 2 _ rfl
  have rf2 := hR'.free 2 _ rfl
  have r3 := hR'.cell 3 _ rfl
  have rf3 := hR'.free 3 _ rfl
  have hltR := hR'.lt
  rw [rounds_succ]
  go_wp2
  have s0 := same0 r0
  have s1 := same1 r1
  have s2 := same2 r2
  have s3 := same3 r3
  refine bodyPost_ret (v := .agg #[.int .u64 ((x0 * f + c) % 18446744073709551616), .int .u64 ((x1 * f + ((x0 * f + c) / 18446744073709551616)) % 18446744073709551616), .int .u64 ((x2 * f + ((x1 * f + ((x0 * f + c) / 18446744073709551616)) / 18446744073709551616)) % 18446744073709551616), .int .u64 ((x2 * f + ((x1 * f + ((x0 * f + c) / 18446744073709551616)) / 18446744073709551616)) / 18446744073709551616)]) (by simp [results, Try.results50, go_sem, s0, s1, s2, s3]) rfl ⟨rfl, by go_grown⟩

theorem isL_scale {x f x0 x1 x2 : Int} (hx : IsL x x0 x1 x2) :
    IsL (x * f) ((x0 * f + 0) % 18446744073709551616) ((x1 * f + (x0 * f + 0) / 18446744073709551616) % 18446744073709551616) ((x2 * f + (x1 * f + (x0 * f + 0) / 18446744073709551616) / 18446744073709551616) % 18446744073709551616) := by
  obtain ⟨a, b, c⟩ := hx
  generalize hX1 : x / 18446744073709551616 = X1 at *
  generalize hX2 : X1 / 18446744073709551616 = X2 at *
  generalize hX3 : X2 / 18446744073709551616 = X3 at *
  have q0 : x * f = x0 * f + 18446744073709551616 * (X1 * f) := by
    have : x = x0 + 18446744073709551616 * X1 := by omega
    rw [this, Int.add_mul, Int.mul_assoc]
  have q1 : X1 * f = x1 * f + 18446744073709551616 * (X2 * f) := by
    have : X1 = x1 + 18446744073709551616 * X2 := by omega
    rw [this, Int.add_mul, Int.mul_assoc]
  have q2 : X2 * f = x2 * f + 18446744073709551616 * (X3 * f) := by
    have : X2 = x2 + 18446744073709551616 * X3 := by omega
    rw [this, Int.add_mul, Int.mul_assoc]
  rw [q0]
  generalize x0 * f = p0 at *
  generalize X1 * f = P1 at *
  subst q1
  generalize x1 * f = p1 at *
  generalize X2 * f = P2 at *
  subst q2
  generalize x2 * f = p2 at *
  generalize X3 * f = P3 at *
  generalize hk0 : (p0 + 0) / 18446744073709551616 = k0 at *
  generalize hk1 : (p1 + k0) / 18446744073709551616 = k1 at *
  have e1 : (p0 + 18446744073709551616 * (p1 + 18446744073709551616 * (p2 + 18446744073709551616 * P3))) / 18446744073709551616 = k0 + p1 + 18446744073709551616 * (p2 + 18446744073709551616 * P3) := by omega
  have e2 : (k0 + p1 + 18446744073709551616 * (p2 + 18446744073709551616 * P3)) / 18446744073709551616 = k1 + p2 + 18446744073709551616 * P3 := by omega
  refine ⟨by omega, by rw [e1]; omega, by rw [e1, e2]; omega⟩

theorem field_made (a b c d : Int) (w : World) : Sem.run Try.prog (Instr.field 100 (.agg #[.int .u64 a, .int .u64 b, .int .u64 c, .int .u64 d]) 0) w = .ok (.agg #[.int .u64 a, .int .u64 b, .int .u64 c]) w := by kernel_rfl

/-- scale: x's limbs to those of x times f. -/
theorem scale_any (x f x0 x1 x2 z0 z1 z2 : Int) (hx : IsL x x0 x1 x2) (hz : IsL (x * f) z0 z1 z2) (hf : 0 ≤ f ∧ f < 18446744073709551616) (w : World) :
    Calls Try.prog 35 #[.agg #[.int .u64 x0, .int .u64 x1, .int .u64 x2], .int .u64 f] w fun e w' => e = .returned (.agg #[.int .u64 z0, .int .u64 z1, .int .u64 z2]) ∧ Below w.heap.size w w' := by
  obtain ⟨e0, e1, e2⟩ := isL_inj hz (isL_scale hx)
  have hr0 := hx.r0
  have hr1 := hx.r1
  have hr2 := hx.r2
  have hfs := fun (W : World) B fb => foldScale_any B fb 0 0 0 0 x0 x1 x2 f W (by omega) hf hr0 hr1 hr2
  rw [← e0, ← e1, ← e2] at hfs
  generalize (x2 * f + (x1 * f + (x0 * f + 0) / 18446744073709551616) / 18446744073709551616) / 18446744073709551616 = kk at hfs
  have HF := Lib.hid hfs
  have hfm := field_made
  clear e0 e1 e2 hr0 hr1 hr2 hf hx hz hfs
  go_enter Try.func35, Try.ntmps35
  go_wp2_with fail
  refine (HF.out _ _ _ (((At.new w #[.int .u64 x0, .int .u64 x1, .int .u64 x2] 77).alloc _).alloc _) (by have h := (At.new (w.alloc (.cells #[.int .u64 x0, .int .u64 x1, .int .u64 x2] 77)) #[.int .u64 f] 25).alloc (.cells #[.int .u64 0, .int .u64 0, .int .u64 0] 77); simpa using h)).mono ?_
  rintro e w1 ⟨rfl, hb⟩
  have hR : At w1 (w.heap.size + 1 + 1) [.int .u64 0, .int .u64 0, .int .u64 0] := by
    have h := (At.new ((w.alloc (.cells #[.int .u64 x0, .int .u64 x1, .int .u64 x2] 77)).alloc (.cells #[.int .u64 f] 25)) #[.int .u64 0, .int .u64 0, .int .u64 0] 77).below hb
    simpa using h
  have hB : Below w.heap.size w w1 := Below.trans (by go_grown) (hb.mono (by simp; omega))
  clear hb
  have r0 := hR.cell 0 _ rfl
  have rf0 := hR.free 0 _ rfl
  have r1 := hR.cell 1 _ rfl
  have rf1 := hR.free 1 _ rfl
  have r2 := hR.cell 2 _ rfl
  have rf2 := hR.free 2 _ rfl
  go_wp2
  have s0 := same0 r0
  have s1 := same1 r1
  have s2 := same2 r2
  refine bodyPost_ret (v := .agg #[.int .u64 z0, .int .u64 z1, .int .u64 z2]) (by simp [results, Try.results35, go_sem, s0, s1, s2]) rfl ⟨rfl, by go_grown⟩
end Go.Proofs.Ytkhlpbipkkbghaa
