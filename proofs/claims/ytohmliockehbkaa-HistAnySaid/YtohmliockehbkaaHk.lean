/- known. -/
import Derived.Test.YtohmliockehbkaaHq
import Derived.Test.YtohmliockehbkaaHc
namespace Go.Proofs.Ytohmliockehbkaa
open Go Go.Proofs Go.RowKit Go.Shelf
set_option maxRecDepth 100000
/-- what a put leaves -/
structure PutPost (b : Nat) (h : List Int) (w w' : World) : Prop where
  row : HAt 25 w' b h
  other : ∀ c, c ≠ b → w'.heap[c]? = w.heap[c]?
  size : w'.heap.size = w.heap.size
  below : ∀ n w0, Below n w0 w → n ≤ b → Below n w0 w'
theorem PutPost.far {b : Nat} {h g : List Int} {w w' : World} {T : TypeId} {c : Nat} (p : PutPost b h w w') (H : HAt T w c g) (hne : c ≠ b) : HAt T w' c g := H.keep (p.other c hne)
theorem put_row (b : Nat) (h : List Int) (v : Int) (w : World) (H : HAt 25 w b h) (s : Small h) (hv : I64 v) :
    Calls Try.prog 8 #[.pointer (some ⟨b, 0, none⟩), .int .i64 v] w fun e w' => (∃ r, e = .returned r) ∧ PutPost b (putR h v) w w' := by
  have hk := bucketR_le v hv.2
  have hx := nth_some (h := h) (i := bucketR v) (by rw [s.len]; omega)
  refine (put_any b h v _ w H hv hx (s.at _)).mono ?_
  rintro e w' ⟨he, rfl⟩
  refine ⟨he, ?_⟩
  exact ⟨(H.set _ _).drew, fun c hc => (heap_setCell_other w ⟨b, bucketR v, none⟩ c _ hc), by simp, fun n w0 hb hn => (hb.setCell hn _).drew⟩
theorem bd_row {ops : Array Oper} {rest : List Oper} {o : Oper} {a : Act} {w : World} {Q : Exit → Act → World → Prop} (hgd : o.guard = none) (ho : o.op = .build 25 #[])
    (k : wpList Try.prog ops Q rest (a.put o.dst (.agg (hc zs65))) w) : wpList Try.prog ops Q (o :: rest) a w := by
  have e : Try.prog.built 25 ((#[] : Array (Nat × Operand)).map fun (i, x) => (i, a.eval x)).toList = some (hc zs65) := by kernel_rfl
  refine wpList_build hgd _ _ ho (by rw [e]; rfl) ?_
  rw [e]; exact k
theorem alS_row {ops : Array Oper} {rest : List Oper} {o : Oper} {a : Act} {w : World} {Q : Exit → Act → World → Prop} (hgd : o.guard = none) (ho : o.op = .alloc 25)
    (k : ∀ w2, w2 = w.alloc (.cells (hc zs65) 25) → wpList Try.prog ops Q rest (a.put o.dst (.pointer (some ⟨w.heap.size, 0, none⟩))) w2) : wpList Try.prog ops Q (o :: rest) a w := by
  refine wpList_plain hgd fun K hK => ?_
  have hz := zeroH
  have hzs := hc_size zs65
  have hzn := hc_ne zs65_len
  unfold Oper.wp execOp
  rw [ho]
  go_simp
  exact hK _ _ (k _ rfl)
theorem all3 : All64 [1, 5, 100] := fun x hx => by simp at hx; rcases hx with rfl | rfl | rfl <;> (unfold I64; omega)
theorem all6 : All64 ([1, 5, 100] ++ [1, 5, 100]) := fun x hx => by rcases List.mem_append.1 hx with h | h <;> exact all3 x h
theorem q3 : quantR (histR [1, 5, 100]) 50 = (7, true) := by kernel_rfl
theorem small_zs : Small zs65 := histR_small (l := []) (fun x hx => by cases hx) (by simp)
theorem q0 : quantR zs65 50 = (0, false) := quantR_zero small_zs (count_hist (l := []) (fun x hx => by cases hx)) 50
set_option maxHeartbeats 8000000 in
theorem known_any (w : World) : Calls Try.prog 7 #[] w fun e w' => e = .returned (.bool true) ∧ Below w.heap.size w w' := by
  have s0 := small_zs
  have s1 : Small (histR [1]) := histR_small (fun x hx => by simp at hx; subst hx; unfold I64; omega) (by simp)
  have s2 : Small (histR [1, 5]) := histR_small (fun x hx => by simp at hx; rcases hx with rfl | rfl <;> (unfold I64; omega)) (by simp)
  have s3 : Small (histR [1, 5, 100]) := histR_small all3 (by simp)
  have s6 : Small (histR ([1, 5, 100] ++ [1, 5, 100])) := histR_small all6 (by simp)
  have P1 := Lib.hid (fun b W H => put_row b zs65 1 W H s0 (by unfold I64; omega))
  have P2 := Lib.hid (fun b W H => put_row b (histR [1]) 5 W H s1 (by unfold I64; omega))
  have P3 := Lib.hid (fun b W H => put_row b (histR [1, 5]) 100 W H s2 (by unfold I64; omega))
  have Q3 := Lib.hid (fun W => quant_any (histR [1, 5, 100]) s3 50 W)
  have Q0 := Lib.hid (fun W => quant_any zs65 s0 50 W)
  rw [q3] at Q3
  rw [q0] at Q0
  have M3 := Lib.hid (fun W => merge_any (histR [1, 5, 100]) (histR [1, 5, 100]) s3 s3 W)
  rw [merge_hist all3 all3] at M3
  have C3 := Lib.hid (fun W => count_any (histR [1, 5, 100]) s3 W)
  have C6 := Lib.hid (fun W => count_any (histR ([1, 5, 100] ++ [1, 5, 100])) s6 W)
  rw [count_hist all3] at C3
  rw [count_hist all6] at C6
  rw [show ((([1, 5, 100] : List Int).length : Nat) : Int) = 3 from rfl] at C3
  rw [show ((([1, 5, 100] ++ [1, 5, 100] : List Int).length : Nat) : Int) = 6 from rfl] at C6
  rw [show putR zs65 1 = histR [1] from rfl] at P1
  rw [show putR (histR [1]) 5 = histR [1, 5] from rfl] at P2
  rw [show putR (histR [1, 5]) 100 = histR [1, 5, 100] from rfl] at P3
  have L3 := s3.len
  have L6 := s6.len
  have B1 := Lib.hid (fun W => bucket_any (-5) (by unfold I64; omega) W)
  have B2 := Lib.hid (fun W => bucket_any 4 (by unfold I64; omega) W)
  have B3 := Lib.hid (fun W => bound_any 3 (by unfold I64; omega) W)
  have B4 := Lib.hid (fun W => bound_any 0 (by unfold I64; omega) W)
  rw [show bucketR (-5) = 0 from by kernel_rfl, show ((0 : Nat) : Int) = 0 from rfl] at B1
  rw [show bucketR 4 = 3 from by kernel_rfl, show ((3 : Nat) : Int) = 3 from rfl] at B2
  rw [show boundR 3 = 7 from by kernel_rfl] at B3
  rw [show boundR 0 = 0 from by kernel_rfl] at B4
  clear s0 s1 s2 s3 s6
  generalize histR [1] = h1 at *
  generalize histR [1, 5] = h2 at *
  generalize histR [1, 5, 100] = h3 at *
  generalize histR ([1, 5, 100] ++ [1, 5, 100]) = h6 at *
  have hz := zeroH
  have hzs := hc_size zs65
  have hzn := hc_ne zs65_len
  go_enter Try.func7, Try.ntmps7
  go_wp2_with fail
  refine (P1.out _ _ (hat_new w _ zs65_len)).mono ?_
  rintro e w1 ⟨⟨r, rfl⟩, hp1⟩
  have b1 := hp1.below _ _ (below_cells _) (Nat.le_refl _)
  have z1 := hp1.size
  clear hz hzs hzn
  go_wp2_with fail
  refine (P2.out _ _ hp1.row).mono ?_
  rintro e w2 ⟨⟨r, rfl⟩, hp2⟩
  have b2 := hp2.below _ _ b1 (Nat.le_refl _)
  clear hp1 b1
  go_wp2_with fail
  refine (P3.out _ _ hp2.row).mono ?_
  rintro e w3 ⟨⟨r, rfl⟩, hp3⟩
  have b3 := hp3.below _ _ b2 (Nat.le_refl _)
  have H3 := hp3.row
  clear hp2 b2 hp3
  go_wp2_with (first | (refine ld_row rowH H3 rfl rfl rfl ?_) | fail)
  refine (Q3.out _).mono ?_
  rintro e w4 ⟨rfl, hb4⟩
  have H4 := H3.below hb4
  have b4 := below_then b3 hb4
  clear H3 b3 hb4
  unfold qV
  dsimp only
  go_wp2_with (first | (refine ld_row rowH H4 rfl rfl rfl ?_) | (refine bd_row rfl rfl ?_) | fail)
  refine (Q0.out _).mono ?_
  rintro e w5 ⟨rfl, hb5⟩
  have H5 := H4.below hb5
  have b5 := below_then b4 hb5
  clear H4 b4 hb5
  unfold qV
  dsimp only
  go_wp2_with (first | (refine ld_row rowH H5 rfl rfl rfl ?_) | fail)
  refine (M3.out _).mono ?_
  rintro e w6 ⟨rfl, hb6⟩
  dsimp only
  go_step
  refine alS_row rfl rfl ?_
  rintro wz rfl
  have H6 := (H5.below hb6).alloc (.cells (hc zs65) 25)
  have b6 := below_new (below_then b5 hb6) (.cells (hc zs65) 25)
  have G6 := hat_new w6 25 zs65_len
  have hlt := H6.lt
  have hne : w.heap.size ≠ w6.heap.size := by
    have := hb6.size
    have := H5.lt
    omega
  have hge : w.heap.size ≤ w6.heap.size := by
    have := hb6.size
    have := H5.lt
    omega
  clear H5 b5 hb6
  refine stS_row rowH G6 rfl rfl rfl rfl L6 ?_
  rintro w7 rfl
  have H7 := H6.farRow hne (hc h6)
  have G7 := G6.row L6
  have b7 := below_row b6 hge (hc h6)
  generalize (w6.alloc (.cells (hc zs65) 25)).setRow w6.heap.size (hc h6) = w7 at *
  have hne2 := hne
  clear H6 G6 b6 hlt
  generalize w6.heap.size = c6 at *
  go_wp2_with (first | (refine ldG_row rowH H7 rfl rfl rfl ?_) | (refine ldG_row rowH G7 rfl rfl rfl ?_) | fail)
  refine (C3.out _).mono ?_
  rintro e w8 ⟨rfl, hb8⟩
  have G8 := G7.below hb8
  have b8 := below_then b7 hb8
  clear H7 G7 b7 hb8
  go_wp2_with (first | (refine ldG_row rowH G8 rfl rfl rfl ?_) | fail)
  refine (C6.out _).mono ?_
  rintro e w9 ⟨rfl, hb9⟩
  have b9 := below_then b8 hb9
  clear G8 b8 hb9
  go_wp2_with fail
  refine (B1.out _).mono ?_
  rintro e w10 ⟨rfl, rfl⟩
  go_wp2_with fail
  refine (B2.out _).mono ?_
  rintro e w11 ⟨rfl, rfl⟩
  go_wp2_with fail
  refine (B3.out _).mono ?_
  rintro e w12 ⟨rfl, rfl⟩
  go_wp2_with fail
  refine (B4.out _).mono ?_
  rintro e w13 ⟨rfl, rfl⟩
  go_wp2
  go_ret
  exact ⟨rfl, b9⟩
end Go.Proofs.Ytohmliockehbkaa
