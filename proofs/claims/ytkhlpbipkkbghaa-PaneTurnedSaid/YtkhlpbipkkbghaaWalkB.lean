/- fold over three pairs by add's step. -/
import Derived.Test.YtkhlpbipkkbghaaWalkC
import Derived.Test.YtkhlpbipkkbghaaWalkE
import Derived.Test.YtkhlpbipkkbghaaAt
import Derived.Lib.Hide
namespace Go.Proofs.Ytkhlpbipkkbghaa
open Go Go.Proofs Go.RowKit
set_option maxRecDepth 100000

set_option maxHeartbeats 1000000 in
theorem foldAdd_any (B : Nat) (m0 m1 m2 c a0 b0 a1 b1 a2 b2 : Int) (w : World) (hc : 0 ≤ c ∧ c ≤ 1)
    (ha0 : 0 ≤ a0 ∧ a0 < 18446744073709551616) (hb0 : 0 ≤ b0 ∧ b0 < 18446744073709551616) (ha1 : 0 ≤ a1 ∧ a1 < 18446744073709551616) (hb1 : 0 ≤ b1 ∧ b1 < 18446744073709551616) (ha2 : 0 ≤ a2 ∧ a2 < 18446744073709551616) (hb2 : 0 ≤ b2 ∧ b2 < 18446744073709551616)
    (hX : At w B [.int .u64 a0, .int .u64 b0, .int .u64 a1, .int .u64 b1, .int .u64 a2, .int .u64 b2]) :
    Calls Try.prog 59 #[.slice (some ⟨B, 0, none⟩) 3 3, .agg #[.int .u64 m0, .int .u64 m1, .int .u64 m2, .int .u64 c], .func (.func 60) #[] #[]] w fun e w' =>
      e = .returned (.agg #[.int .u64 ((a0 + b0 + c) % 18446744073709551616), .int .u64 ((a1 + b1 + ((a0 + b0 + c) / 18446744073709551616)) % 18446744073709551616), .int .u64 ((a2 + b2 + ((a1 + b1 + ((a0 + b0 + c) / 18446744073709551616)) / 18446744073709551616)) % 18446744073709551616), .int .u64 ((a2 + b2 + ((a1 + b1 + ((a0 + b0 + c) / 18446744073709551616)) / 18446744073709551616)) / 18446744073709551616)]) ∧ Below w.heap.size w w' := by
  have hlt := hX.lt
  have k1 : 0 ≤ ((a0 + b0 + c) / 18446744073709551616) ∧ ((a0 + b0 + c) / 18446744073709551616) ≤ 1 := by omega
  have k2 : 0 ≤ ((a1 + b1 + ((a0 + b0 + c) / 18446744073709551616)) / 18446744073709551616) ∧ ((a1 + b1 + ((a0 + b0 + c) / 18446744073709551616)) / 18446744073709551616) ≤ 1 := by omega
  have HC := Lib.hid (And.intro hc (And.intro ha0 (And.intro hb0 (And.intro ha1 (And.intro hb1 (And.intro ha2 (And.intro hb2 (And.intro k1 k2))))))))
  clear hc ha0 hb0 ha1 hb1 ha2 hb2 k1 k2
  have x0 := hX.cell 0 _ rfl
  have x1 := hX.cell 1 _ rfl
  go_enter Try.func59, Try.ntmps59
  go_wp2_with fail
  refine wp_loop_rounds 4 ?_
  rw [rounds_succ]
  go_wp2_with fail
  refine (addStep_any m0 m1 m2 c a0 b0 HC.out.2.1.1 HC.out.2.2.1.1 HC.out.1.1 HC.out.1.2 _).mono ?_
  rintro e w1 ⟨rfl, hb⟩
  have hA : At w1 w.heap.size [.int .u64 m0, .int .u64 m1, .int .u64 m2, .int .u64 c] := (((At.new w #[.int .u64 m0, .int .u64 m1, .int .u64 m2, .int .u64 c] 100).alloc _).alloc _).below hb
  have hR : At w1 (w.heap.size + 1) [.int .u64 0, .int .u64 0, .int .u64 0, .int .u64 0] := by
    have h := ((At.new (w.alloc (.cells #[.int .u64 m0, .int .u64 m1, .int .u64 m2, .int .u64 c] 100)) #[.int .u64 0, .int .u64 0, .int .u64 0, .int .u64 0] 100).alloc _).below hb
    simpa using h
  have hB : Below w.heap.size w w1 := Below.trans (by go_grown) (hb.mono (by simp; omega))
  clear hb x0 x1
  have c0 := hA.cell 0 _ rfl
  have cf0 := hA.free 0 _ rfl
  have c1 := hA.cell 1 _ rfl
  have cf1 := hA.free 1 _ rfl
  have c2 := hA.cell 2 _ rfl
  have cf2 := hA.free 2 _ rfl
  have c3 := hA.cell 3 _ rfl
  have cf3 := hA.free 3 _ rfl
  go_wp2_with fail
  have hA' : At ((((w1.setCell ⟨w.heap.size, 0, none⟩ (.int .u64 m1)).setCell ⟨w.heap.size, 1, none⟩ (.int .u64 m2)).setCell ⟨w.heap.size, 2, none⟩ (.int .u64 ((a0 + b0 + c) % 18446744073709551616))).setCell ⟨w.heap.size, 3, none⟩ (.int .u64 ((a0 + b0 + c) / 18446744073709551616))) w.heap.size [.int .u64 m1, .int .u64 m2, .int .u64 ((a0 + b0 + c) % 18446744073709551616), .int .u64 ((a0 + b0 + c) / 18446744073709551616)] := (((hA.set 0 _).set 1 _).set 2 _).set 3 _
  have hR' : At ((((w1.setCell ⟨w.heap.size, 0, none⟩ (.int .u64 m1)).setCell ⟨w.heap.size, 1, none⟩ (.int .u64 m2)).setCell ⟨w.heap.size, 2, none⟩ (.int .u64 ((a0 + b0 + c) % 18446744073709551616))).setCell ⟨w.heap.size, 3, none⟩ (.int .u64 ((a0 + b0 + c) / 18446744073709551616))) (w.heap.size + 1) [.int .u64 0, .int .u64 0, .int .u64 0, .int .u64 0] := (((hR.far (by omega) _).far (by omega) _).far (by omega) _).far (by omega) _
  have hB' : Below w.heap.size w ((((w1.setCell ⟨w.heap.size, 0, none⟩ (.int .u64 m1)).setCell ⟨w.heap.size, 1, none⟩ (.int .u64 m2)).setCell ⟨w.heap.size, 2, none⟩ (.int .u64 ((a0 + b0 + c) % 18446744073709551616))).setCell ⟨w.heap.size, 3, none⟩ (.int .u64 ((a0 + b0 + c) / 18446744073709551616))) := (((hB.setCell (by simp) _).setCell (by simp) _).setCell (by simp) _).setCell (by simp) _
  generalize ((((w1.setCell ⟨w.heap.size, 0, none⟩ (.int .u64 m1)).setCell ⟨w.heap.size, 1, none⟩ (.int .u64 m2)).setCell ⟨w.heap.size, 2, none⟩ (.int .u64 ((a0 + b0 + c) % 18446744073709551616))).setCell ⟨w.heap.size, 3, none⟩ (.int .u64 ((a0 + b0 + c) / 18446744073709551616))) = W1 at *
  clear c0 c1 c2 c3 cf0 cf1 cf2 cf3
  clear hA hR hB
  have hltW : B < W1.heap.size := Nat.lt_of_lt_of_le hlt hB'.size
  have hltA := hA'.lt
  have c0 := hA'.cell 0 _ rfl
  have c1 := hA'.cell 1 _ rfl
  have c2 := hA'.cell 2 _ rfl
  have c3 := hA'.cell 3 _ rfl
  have x0 := below_cell (hX.cell 2 _ rfl) hB' rfl
  have x1 := below_cell (hX.cell 3 _ rfl) hB' rfl
  rw [rounds_succ]
  go_wp2_with fail
  refine (addStep_any m1 m2 ((a0 + b0 + c) % 18446744073709551616) ((a0 + b0 + c) / 18446744073709551616) a1 b1 HC.out.2.2.2.1.1 HC.out.2.2.2.2.1.1 HC.out.2.2.2.2.2.2.2.1.1 HC.out.2.2.2.2.2.2.2.1.2 _).mono ?_
  rintro e w2 ⟨rfl, hb⟩
  have hA : At w2 w.heap.size [.int .u64 m1, .int .u64 m2, .int .u64 ((a0 + b0 + c) % 18446744073709551616), .int .u64 ((a0 + b0 + c) / 18446744073709551616)] := (hA'.alloc _).below hb
  have hR : At w2 (w.heap.size + 1) [.int .u64 0, .int .u64 0, .int .u64 0, .int .u64 0] := (hR'.alloc _).below hb
  have hB : Below w.heap.size w w2 := Below.trans (hB'.alloc hB'.size _) (hb.mono (by have := hB'.size; simp; omega))
  clear hb hA' hR' hB' x0 x1 hltW hltA
  clear c0 c1 c2 c3
  have c0 := hA.cell 0 _ rfl
  have cf0 := hA.free 0 _ rfl
  have c1 := hA.cell 1 _ rfl
  have cf1 := hA.free 1 _ rfl
  have c2 := hA.cell 2 _ rfl
  have cf2 := hA.free 2 _ rfl
  have c3 := hA.cell 3 _ rfl
  have cf3 := hA.free 3 _ rfl
  go_wp2_with fail
  have hA' : At ((((w2.setCell ⟨w.heap.size, 0, none⟩ (.int .u64 m2)).setCell ⟨w.heap.size, 1, none⟩ (.int .u64 ((a0 + b0 + c) % 18446744073709551616))).setCell ⟨w.heap.size, 2, none⟩ (.int .u64 ((a1 + b1 + ((a0 + b0 + c) / 18446744073709551616)) % 18446744073709551616))).setCell ⟨w.heap.size, 3, none⟩ (.int .u64 ((a1 + b1 + ((a0 + b0 + c) / 18446744073709551616)) / 18446744073709551616))) w.heap.size [.int .u64 m2, .int .u64 ((a0 + b0 + c) % 18446744073709551616), .int .u64 ((a1 + b1 + ((a0 + b0 + c) / 18446744073709551616)) % 18446744073709551616), .int .u64 ((a1 + b1 + ((a0 + b0 + c) / 18446744073709551616)) / 18446744073709551616)] := (((hA.set 0 _).set 1 _).set 2 _).set 3 _
  have hR' : At ((((w2.setCell ⟨w.heap.size, 0, none⟩ (.int .u64 m2)).setCell ⟨w.heap.size, 1, none⟩ (.int .u64 ((a0 + b0 + c) % 18446744073709551616))).setCell ⟨w.heap.size, 2, none⟩ (.int .u64 ((a1 + b1 + ((a0 + b0 + c) / 18446744073709551616)) % 18446744073709551616))).setCell ⟨w.heap.size, 3, none⟩ (.int .u64 ((a1 + b1 + ((a0 + b0 + c) / 18446744073709551616)) / 18446744073709551616))) (w.heap.size + 1) [.int .u64 0, .int .u64 0, .int .u64 0, .int .u64 0] := (((hR.far (by omega) _).far (by omega) _).far (by omega) _).far (by omega) _
  have hB' : Below w.heap.size w ((((w2.setCell ⟨w.heap.size, 0, none⟩ (.int .u64 m2)).setCell ⟨w.heap.size, 1, none⟩ (.int .u64 ((a0 + b0 + c) % 18446744073709551616))).setCell ⟨w.heap.size, 2, none⟩ (.int .u64 ((a1 + b1 + ((a0 + b0 + c) / 18446744073709551616)) % 18446744073709551616))).setCell ⟨w.heap.size, 3, none⟩ (.int .u64 ((a1 + b1 + ((a0 + b0 + c) / 18446744073709551616)) / 18446744073709551616))) := (((hB.setCell (by simp) _).setCell (by simp) _).setCell (by simp) _).setCell (by simp) _
  generalize ((((w2.setCell ⟨w.heap.size, 0, none⟩ (.int .u64 m2)).setCell ⟨w.heap.size, 1, none⟩ (.int .u64 ((a0 + b0 + c) % 18446744073709551616))).setCell ⟨w.heap.size, 2, none⟩ (.int .u64 ((a1 + b1 + ((a0 + b0 + c) / 18446744073709551616)) % 18446744073709551616))).setCell ⟨w.heap.size, 3, none⟩ (.int .u64 ((a1 + b1 + ((a0 + b0 + c) / 18446744073709551616)) / 18446744073709551616))) = W2 at *
  clear c0 c1 c2 c3 cf0 cf1 cf2 cf3
  clear hA hR hB
  have hltW : B < W2.heap.size := Nat.lt_of_lt_of_le hlt hB'.size
  have hltA := hA'.lt
  have c0 := hA'.cell 0 _ rfl
  have c1 := hA'.cell 1 _ rfl
  have c2 := hA'.cell 2 _ rfl
  have c3 := hA'.cell 3 _ rfl
  have x0 := below_cell (hX.cell 4 _ rfl) hB' rfl
  have x1 := below_cell (hX.cell 5 _ rfl) hB' rfl
  rw [rounds_succ]
  go_wp2_with fail
  refine (addStep_any m2 ((a0 + b0 + c) % 18446744073709551616) ((a1 + b1 + ((a0 + b0 + c) / 18446744073709551616)) % 18446744073709551616) ((a1 + b1 + ((a0 + b0 + c) / 18446744073709551616)) / 18446744073709551616) a2 b2 HC.out.2.2.2.2.2.1.1 HC.out.2.2.2.2.2.2.1.1 HC.out.2.2.2.2.2.2.2.2.1 HC.out.2.2.2.2.2.2.2.2.2 _).mono ?_
  rintro e w3 ⟨rfl, hb⟩
  have hA : At w3 w.heap.size [.int .u64 m2, .int .u64 ((a0 + b0 + c) % 18446744073709551616), .int .u64 ((a1 + b1 + ((a0 + b0 + c) / 18446744073709551616)) % 18446744073709551616), .int .u64 ((a1 + b1 + ((a0 + b0 + c) / 18446744073709551616)) / 18446744073709551616)] := (hA'.alloc _).below hb
  have hR : At w3 (w.heap.size + 1) [.int .u64 0, .int .u64 0, .int .u64 0, .int .u64 0] := (hR'.alloc _).below hb
  have hB : Below w.heap.size w w3 := Below.trans (hB'.alloc hB'.size _) (hb.mono (by have := hB'.size; simp; omega))
  clear hb hA' hR' hB' x0 x1 hltW hltA
  clear c0 c1 c2 c3
  have c0 := hA.cell 0 _ rfl
  have cf0 := hA.free 0 _ rfl
  have c1 := hA.cell 1 _ rfl
  have cf1 := hA.free 1 _ rfl
  have c2 := hA.cell 2 _ rfl
  have cf2 := hA.free 2 _ rfl
  have c3 := hA.cell 3 _ rfl
  have cf3 := hA.free 3 _ rfl
  go_wp2_with fail
  have hA' : At ((((w3.setCell ⟨w.heap.size, 0, none⟩ (.int .u64 ((a0 + b0 + c) % 18446744073709551616))).setCell ⟨w.heap.size, 1, none⟩ (.int .u64 ((a1 + b1 + ((a0 + b0 + c) / 18446744073709551616)) % 18446744073709551616))).setCell ⟨w.heap.size, 2, none⟩ (.int .u64 ((a2 + b2 + ((a1 + b1 + ((a0 + b0 + c) / 18446744073709551616)) / 18446744073709551616)) % 18446744073709551616))).setCell ⟨w.heap.size, 3, none⟩ (.int .u64 ((a2 + b2 + ((a1 + b1 + ((a0 + b0 + c) / 18446744073709551616)) / 18446744073709551616)) / 18446744073709551616))) w.heap.size [.int .u64 ((a0 + b0 + c) % 18446744073709551616), .int .u64 ((a1 + b1 + ((a0 + b0 + c) / 18446744073709551616)) % 18446744073709551616), .int .u64 ((a2 + b2 + ((a1 + b1 + ((a0 + b0 + c) / 18446744073709551616)) / 18446744073709551616)) % 18446744073709551616), .int .u64 ((a2 + b2 + ((a1 + b1 + ((a0 + b0 + c) / 18446744073709551616)) / 18446744073709551616)) / 18446744073709551616)] := (((hA.set 0 _).set 1 _).set 2 _).set 3 _
  have hR' : At ((((w3.setCell ⟨w.heap.size, 0, none⟩ (.int .u64 ((a0 + b0 + c) % 18446744073709551616))).setCell ⟨w.heap.size, 1, none⟩ (.int .u64 ((a1 + b1 + ((a0 + b0 + c) / 18446744073709551616)) % 18446744073709551616))).setCell ⟨w.heap.size, 2, none⟩ (.int .u64 ((a2 + b2 + ((a1 + b1 + ((a0 + b0 + c) / 18446744073709551616)) / 18446744073709551616)) % 18446744073709551616))).setCell ⟨w.heap.size, 3, none⟩ (.int .u64 ((a2 + b2 + ((a1 + b1 + ((a0 + b0 + c) / 18446744073709551616)) / 18446744073709551616)) / 18446744073709551616))) (w.heap.size + 1) [.int .u64 0, .int .u64 0, .int .u64 0, .int .u64 0] := (((hR.far (by omega) _).far (by omega) _).far (by omega) _).far (by omega) _
  have hB' : Below w.heap.size w ((((w3.setCell ⟨w.heap.size, 0, none⟩ (.int .u64 ((a0 + b0 + c) % 18446744073709551616))).setCell ⟨w.heap.size, 1, none⟩ (.int .u64 ((a1 + b1 + ((a0 + b0 + c) / 18446744073709551616)) % 18446744073709551616))).setCell ⟨w.heap.size, 2, none⟩ (.int .u64 ((a2 + b2 + ((a1 + b1 + ((a0 + b0 + c) / 18446744073709551616)) / 18446744073709551616)) % 18446744073709551616))).setCell ⟨w.heap.size, 3, none⟩ (.int .u64 ((a2 + b2 + ((a1 + b1 + ((a0 + b0 + c) / 18446744073709551616)) / 18446744073709551616)) / 18446744073709551616))) := (((hB.setCell (by simp) _).setCell (by simp) _).setCell (by simp) _).setCell (by simp) _
  generalize ((((w3.setCell ⟨w.heap.size, 0, none⟩ (.int .u64 ((a0 + b0 + c) % 18446744073709551616))).setCell ⟨w.heap.size, 1, none⟩ (.int .u64 ((a1 + b1 + ((a0 + b0 + c) / 18446744073709551616)) % 18446744073709551616))).setCell ⟨w.heap.size, 2, none⟩ (.int .u64 ((a2 + b2 + ((a1 + b1 + ((a0 + b0 + c) / 18446744073709551616)) / 18446744073709551616)) % 18446744073709551616))).setCell ⟨w.heap.size, 3, none⟩ (.int .u64 ((a2 + b2 + ((a1 + b1 + ((a0 + b0 + c) / 18446744073709551616)) / 18446744073709551616)) / 18446744073709551616))) = W3 at *
  clear c0 c1 c2 c3 cf0 cf1 cf2 cf3
  clear hA hR hB
  have hltW : B < W3.heap.size := Nat.lt_of_lt_of_le hlt hB'.size
  have hltA := hA'.lt
  have c0 := hA'.cell 0 _ rfl
  have c1 := hA'.cell 1 _ rfl
  have c2 := hA'.cell 2 _ rfl
  have c3 := hA'.cell 3 _ rfl
  have r0 := hR'.cell 0 _ rfl
  have rf0 := hR'.free 0 _ rfl
  have r1 := hR'.cell 1 _ rfl
  have rf1 := hR'.free 1 _ rfl
  have r2 := hR'.cell 2 _ rfl
  have rf2 := hR'.free 2 _ rfl
  have r3 := hR'.cell 3 _ rfl
  have rf3 := hR'.free 3 _ rfl
  have hltR := hR'.lt
  rw [rounds_succ]
  go_wp2
  have s0 := same0 r0
  have s1 := same1 r1
  have s2 := same2 r2
  have s3 := same3 r3
  refine bodyPost_ret (v := .agg #[.int .u64 ((a0 + b0 + c) % 18446744073709551616), .int .u64 ((a1 + b1 + ((a0 + b0 + c) / 18446744073709551616)) % 18446744073709551616), .int .u64 ((a2 + b2 + ((a1 + b1 + ((a0 + b0 + c) / 18446744073709551616)) / 18446744073709551616)) % 18446744073709551616), .int .u64 ((a2 + b2 + ((a1 + b1 + ((a0 + b0 + c) / 18446744073709551616)) / 18446744073709551616)) / 18446744073709551616)]) (by simp [results, Try.results59, go_sem, s0, s1, s2, s3]) rfl ⟨rfl, by go_grown⟩


/-- add: the limbs of x and of y to those of their sum. -/
theorem add_any (x y x0 x1 x2 y0 y1 y2 z0 z1 z2 : Int) (hx : IsL x x0 x1 x2) (hy : IsL y y0 y1 y2) (hz : IsL (x + y) z0 z1 z2) (w : World) :
    Calls Try.prog 43 #[.agg #[.int .u64 x0, .int .u64 x1, .int .u64 x2], .agg #[.int .u64 y0, .int .u64 y1, .int .u64 y2]] w fun e w' => e = .returned (.agg #[.int .u64 z0, .int .u64 z1, .int .u64 z2]) ∧ Below w.heap.size w w' := by
  obtain ⟨e0, e1, e2⟩ := isL_inj hz (isL_add hx hy)
  have hfs := fun (W : World) B => foldAdd_any B 0 0 0 0 x0 y0 x1 y1 x2 y2 W (by omega) hx.r0 hy.r0 hx.r1 hy.r1 hx.r2 hy.r2
  rw [← e0, ← e1, ← e2] at hfs
  generalize (x2 + y2 + (x1 + y1 + (x0 + y0 + 0) / 18446744073709551616) / 18446744073709551616) / 18446744073709551616 = kk at hfs
  have HF := Lib.hid hfs
  have hfm := field_made
  clear e0 e1 e2 hx hy hz hfs
  go_enter Try.func43, Try.ntmps43
  go_wp2_with fail
  refine (pairs_at x0 x1 x2 y0 y1 y2 _).mono ?_
  rintro e w1 ⟨rfl, hb, hX⟩
  have hX' : At w1 (w.heap.size + 1 + 1 + 1 + 1 + 1) [.int .u64 x0, .int .u64 y0, .int .u64 x1, .int .u64 y1, .int .u64 x2, .int .u64 y2] := by simpa using hX
  have hR1 : At w1 (w.heap.size + 1 + 1) [.int .u64 0, .int .u64 0, .int .u64 0] := by
    have h := (At.new ((w.alloc (.cells #[.int .u64 x0, .int .u64 x1, .int .u64 x2] 77)).alloc (.cells #[.int .u64 y0, .int .u64 y1, .int .u64 y2] 77)) #[.int .u64 0, .int .u64 0, .int .u64 0] 77).below hb
    simpa using h
  have hB1 : Below w.heap.size w w1 := Below.trans (by go_grown) (hb.mono (by simp; omega))
  clear hb hX
  go_wp2_with fail
  refine (HF.out _ _ hX').mono ?_
  rintro e w2 ⟨rfl, hb⟩
  have hR := hR1.below hb
  have hB : Below w.heap.size w w2 := Below.trans hB1 (hb.mono hB1.size)
  clear hb hR1 hB1 hX'
  have r0 := hR.cell 0 _ rfl
  have rf0 := hR.free 0 _ rfl
  have r1 := hR.cell 1 _ rfl
  have rf1 := hR.free 1 _ rfl
  have r2 := hR.cell 2 _ rfl
  have rf2 := hR.free 2 _ rfl
  go_wp2
  have s0 := same0 r0
  have s1 := same1 r1
  have s2 := same2 r2
  refine bodyPost_ret (v := .agg #[.int .u64 z0, .int .u64 z1, .int .u64 z2]) (by simp [results, Try.results43, go_sem, s0, s1, s2]) rfl ⟨rfl, by go_grown⟩
end Go.Proofs.Ytkhlpbipkkbghaa
