/- Cut: the power goes. -/
import Derived.Test.YteddlpcnefogpaaDkE
namespace Go.Proofs.Yteddlpcnefogpaa
open Go Go.Proofs Go.RowKit Go.Shelf
set_option maxRecDepth 100000
attribute [local go_sem] Oper.semAt_some
/-- how many of the bytes are kept -/
def Dk.left (d : Dk) (keep : Int) : Nat := d.kept + min (max keep 0).toNat (d.row.length - d.kept)
def Dk.cut (d : Dk) (keep : Int) : Dk := { row := d.row.take (d.left keep), kept := d.left keep, off := true, armed := 0, leave := 0, ops := d.ops }
theorem Dk.left_le {d : Dk} (h : d.kept ≤ d.row.length) (keep : Int) : d.left keep ≤ d.row.length := by unfold Dk.left; omega
theorem Dk.Fits.cut {d : Dk} (h : d.Fits) (keep : Int) : (d.cut keep).Fits := by
  have hl := Dk.left_le h.kept keep
  have e : (d.row.take (d.left keep)).length = d.left keep := by rw [List.length_take]; omega
  refine ⟨?_, ?_, by show (0 : Int) ≤ 0; omega, by show (0 : Int) ≤ _; omega, by show _ ≤ (0 : Int); omega, by show (0 : Int) ≤ _; omega, h.ops0, h.ops1⟩
  · show (d.row.take (d.left keep)).length ≤ _
    have := h.len
    omega
  · show d.left keep ≤ (d.row.take (d.left keep)).length
    omega
set_option maxHeartbeats 4000000 in
theorem cut_any (base b : Nat) (v : Value) (d : Dk) (keep : Int) (w : World) (h : DkAt base w b v d) :
    Calls Try.prog 23 #[.pointer (some ⟨b, 0, none⟩), .int .i64 keep] w fun e w' => e = .returned (.tuple #[]) ∧ ∃ v', DkAt base w' b v' (d.cut keep) ∧ DTo w w' b v v' ∧ v'.ownBlock = v.ownBlock := by
  obtain ⟨va, vc, rfl⟩ : ∃ a cap, v = .slice a d.row.length cap := by
    rcases h.own.2 with ⟨rfl, h0⟩ | ⟨g, cap, cur, rfl, _⟩
    · rw [h0]; exact ⟨_, _, rfl⟩
    · exact ⟨_, _, rfl⟩
  have hA := h.at.f6
  obtain ⟨W1, hW1⟩ : ∃ W1, (((w.setCell ⟨b, 2, none⟩ (.bool true)).setCell ⟨b, 3, none⟩ (.int .i64 0)).setCell ⟨b, 4, none⟩ (.int .i64 0)) = W1 := ⟨_, rfl⟩
  have g1 : w.grownBy W1 (some b) := by
    rw [← hW1]
    exact grownBy_trans (grownBy_trans (grownBy_set w b 2 _) (grownBy_set _ b 3 _) (fun g e => .inl e)) (grownBy_set _ b 4 _) (fun g e => .inl e)
  have t1 : DTo w W1 b (.slice va d.row.length vc) (.slice va d.row.length vc) := by rw [← hW1]; exact (DTo.set.trans DTo.set).trans DTo.set
  have D1 : DkAt base W1 b (.slice va d.row.length vc) { d with off := true, armed := 0, leave := 0 } :=
    ⟨h.ge, by rw [← hW1]; exact blk_set (blk_set (blk_set h.blk 2 _) 3 _) 4 _, h.own.kept g1 (.inr h.not_row), ⟨h.fits.len, h.fits.kept, Int.le_refl _, by show (0 : Int) ≤ _; omega, by show _ ≤ (0 : Int); omega, by show (0 : Int) ≤ _; omega, h.fits.ops0, h.fits.ops1⟩⟩
  have hA1 := D1.at.f6
  have hk := h.fits.kept
  have hl := h.fits.len
  obtain ⟨k, hkd⟩ : ∃ k, k = d.left keep := ⟨_, rfl⟩
  have hkl : k ≤ d.row.length := by rw [hkd]; exact Dk.left_le hk keep
  have ek : (d.kept : Int) + min (max keep 0) ((d.row.length - d.kept : Nat) : Int) = (k : Int) := by rw [hkd]; unfold Dk.left; omega
  have ek2 : IntKind.i64.wrap ((d.kept : Int) + min (max keep 0) ((d.row.length - d.kept : Nat) : Int)) = (k : Int) := by rw [ek, IntKind.wrap_i64]; omega
  have ek3 : IntKind.i64.wrap (k : Int) = (k : Int) := by rw [IntKind.wrap_i64]; omega
  have HT := Lib.hid (fun W (hW : DkAt base W b (.slice va d.row.length vc) { d with off := true, armed := 0, leave := 0 }) => tail_any base b _ _ W hW)
  have H0 := Lib.hid h
  have HD1 := Lib.hid D1
  have HT1 := Lib.hid t1
  have hS0 : W1.drew.cell? ⟨b, 1, none⟩ = some (.int .i64 (d.kept : Int)) ∧ W1.drew.frozen? ⟨b, 1, none⟩ = false := ⟨hA1.2.2.1, hA1.2.2.2.1⟩
  have HK := Lib.hid hkd
  clear h D1 t1 g1 hA1 hkd
  refine (callsIn_wide (n := 9)).1 ?_
  refine callsIn_of_wp Try.func23 rfl trivial ?_ rfl
  simp only [Try.ntmps23, List.size_toArray, List.length_cons, List.length_nil, Nat.reduceAdd, Nat.reduceSub, Array.replicate_succ, Array.replicate_zero, List.push_toArray, List.append_toArray, List.nil_append, List.cons_append]
  gi_wp2_with fail
  have HW1 := Lib.hid hW1
  clear hA hW1
  refine region_anyM (S := fun u => u.cell? ⟨b, 1, none⟩ = some (.int .i64 (d.kept : Int)) ∧ u.frozen? ⟨b, 1, none⟩ = false) 12 (by kernel_rfl) (fun hS => ?_) hS0
  refine anyM_d 0 [0, 10, 11, 12] hS ?_
  refine anyM_d 1 [1, 10, 11, 12] hS ?_
  refine anyM_d 2 [2, 10, 11, 12] hS ?_
  refine anyM_d 3 [3, 10, 11, 12] hS ?_
  refine anyM_d 4 [4, 10, 11, 12] hS ?_
  refine anyM_d 5 [5, 10, 11, 12] hS ?_
  refine anyM_d 6 [6, 10, 11, 12] hS ?_
  refine anyM_o 7 (fun K hK => ?_)
  go_simp
  refine ⟨trivial, ?_⟩
  refine (callsIn_wide.2 (HT.out _ (HD1.out.drewN 1))).mono ?_
  rintro e w2 ⟨rfl, q, rfl⟩
  have D2 := (HD1.out.drewN 1).drewN q
  have t2 : DTo W1 ((W1.drewN 1).drewN q) b (.slice va d.row.length vc) (.slice va d.row.length vc) := ⟨rfl, rfl, rfl, Nat.le_refl _, fun _ _ _ _ => rfl, fun _ e => .inl e⟩
  have T2 := Lib.hid (HT1.out.trans t2)
  generalize (W1.drewN 1).drewN q = W2 at *
  have hA2 := D2.at.f6
  have hS2 : W2.cell? ⟨b, 1, none⟩ = some (.int .i64 (d.kept : Int)) ∧ W2.frozen? ⟨b, 1, none⟩ = false := ⟨hA2.2.2.1, hA2.2.2.2.1⟩
  have HD2 := Lib.hid D2
  clear D2 t2 hA2 HT1 HD1 HT hS hS0 HW1
  dsimp only
  refine hK _ _ hS2 ?_
  clear hK K
  refine anyM_d 8 [8, 10, 11, 12] hS2 ?_
  refine anyM_d 9 [9, 10, 11, 12] (v := .int .i64 (k : Int)) hS2 ?_
  refine anyM_d 10 [10, 11, 12] hS2 ?_
  refine anyM_d 11 [11, 12] hS2 ?_
  refine anyM_l (fun K hK => ?_)
  go_simp
  refine hK _ _ ?_
  clear hK K hS2
  refine anyIn_done (by kernel_rfl) ?_ _
  obtain ⟨W3, hW3⟩ : ∃ W3, W2.setCell ⟨b, 1, none⟩ (.int .i64 (k : Int)) = W3 := ⟨_, rfl⟩
  have D3 : DkAt base W3 b (.slice va d.row.length vc) { d with kept := k, off := true, armed := 0, leave := 0 } := by
    rw [← hW3]
    exact ⟨HD2.out.ge, blk_set HD2.out.blk 1 _, HD2.out.own.kept (grownBy_set W2 b 1 _) (.inr HD2.out.not_row), ⟨hl, hkl, Int.le_refl _, by show (0 : Int) ≤ _; omega, by show _ ≤ (0 : Int); omega, by show (0 : Int) ≤ _; omega, HD2.out.fits.ops0, HD2.out.fits.ops1⟩⟩
  have T3 : Hid (DTo w W3 b (.slice va d.row.length vc) (.slice va d.row.length vc)) := T2.out.trans (by rw [← hW3]; exact DTo.set)
  have hA3 := D3.at.f6
  have hS3 : W3.drew.cell? ⟨b, 0, none⟩ = some (.slice va d.row.length vc) ∧ W3.drew.cell? ⟨b, 1, none⟩ = some (.int .i64 (k : Int)) ∧ W3.drew.frozen? ⟨b, 0, none⟩ = false := ⟨hA3.1, hA3.2.2.1, hA3.2.1⟩
  have HC := Lib.hid (delete_any base d.row.length k (.slice va d.row.length vc) _ W3.drew D3.own hkl)
  have HD3 := Lib.hid D3
  have HW3 := Lib.hid hW3
  rw [hW3]
  clear hA3 D3 hW3 HD2 T2
  gi_wp2_with fail
  refine region_anyM (S := fun u => u.cell? ⟨b, 0, none⟩ = some (.slice va d.row.length vc) ∧ u.cell? ⟨b, 1, none⟩ = some (.int .i64 (k : Int)) ∧ u.frozen? ⟨b, 0, none⟩ = false) 17 (by kernel_rfl) (fun hS => ?_) hS3
  refine anyM_d 0 [0, 15, 16, 17] hS ?_
  refine anyM_d 1 [1, 15, 16, 17] hS ?_
  refine anyM_d 2 [2, 15, 16, 17] hS ?_
  refine anyM_d 3 [3, 15, 16, 17] hS ?_
  refine anyM_d 4 [4, 15, 16, 17] hS ?_
  refine anyM_d 5 [5, 15, 16, 17] hS ?_
  refine anyM_d 6 [6, 15, 16, 17] hS ?_
  refine anyM_d 7 [7, 15, 16, 17] hS ?_
  refine anyM_d 8 [8, 15, 16, 17] hS ?_
  refine anyM_d 9 [9, 15, 16, 17] hS ?_
  refine anyM_d 10 [10, 15, 16, 17] hS ?_
  refine anyM_d 11 [11, 15, 16, 17] hS ?_
  refine anyM_d 12 [12, 15, 16, 17] hS ?_
  refine anyM_d 13 [13, 15, 16, 17] hS ?_
  refine anyM_o 14 (fun K hK => ?_)
  go_simp
  refine ⟨trivial, ?_⟩
  refine (callsIn_wide.2 HC.out).mono ?_
  rintro e w4 ⟨a, cap, rfl, own4, g4, ho4⟩
  have g4' : W3.grownBy w4 (Value.slice va d.row.length vc).ownBlock := ⟨g4.os, g4.tape, g4.output, g4.size, g4.block⟩
  have b4 : w4.heap[b]? = _ := (g4'.block b HD3.out.lt (fun e => HD3.out.not_row e.symm)).trans HD3.out.blk
  have hA4 := (At.of_block b4).f6
  have hS4 : w4.cell? ⟨b, 0, none⟩ = some (.slice va d.row.length vc) ∧ w4.cell? ⟨b, 1, none⟩ = some (.int .i64 (k : Int)) ∧ w4.frozen? ⟨b, 0, none⟩ = false := ⟨hA4.1, hA4.2.2.1, hA4.2.1⟩
  have HB4 := Lib.hid b4
  have HO4 := Lib.hid own4
  have HN4 := Lib.hid ho4
  have HG4 := Lib.hid g4'
  clear hA4 b4 own4 g4 g4' ho4 HC hS hS3 HW3
  dsimp only
  refine hK _ _ hS4 ?_
  clear hK K
  refine anyM_d 15 [15, 16, 17] hS4 ?_
  refine anyM_d 16 [16, 17] hS4 ?_
  refine anyM_l (fun K hK => ?_)
  go_simp
  refine hK _ _ ?_
  clear hK K hS4
  refine anyIn_done (by kernel_rfl) ?_ _
  gi_wp2
  go_end0
  have nr : (Value.slice a k cap).ownBlock ≠ some b := by rw [HN4.out]; exact HD3.out.not_row
  have er : (d.cut keep).row.length = k := by
    show (d.row.take (d.left keep)).length = k
    rw [← HK.out, List.length_take]; omega
  have ec : Lib.byteCells (d.cut keep).row = (Lib.byteCells d.row).take k := by
    show Lib.byteCells (d.row.take (d.left keep)) = _
    rw [← HK.out]; simp [Lib.byteCells]
  refine ⟨rfl, .slice a k cap, ⟨H0.out.ge, ?_, ?_, H0.out.fits.cut keep⟩, ?_, HN4.out⟩
  · have := blk_set HB4.out 0 (.slice a k cap)
    rw [HK.out] at this ⊢
    exact this
  · rw [er, ec]
    exact HO4.out.kept (grownBy_set w4 b 0 _) (.inr nr)
  · exact (T3.out.trans (DTo.grown HG4.out (fun g e => .inl (by rw [← HN4.out]; exact e)))).trans DTo.set
end Go.Proofs.Yteddlpcnefogpaa
