/- belfrylaw12.known: the walk. -/
import Derived.Test.YtkhlpbipkkbghaaPaV
namespace Go.Proofs.Ytkhlpbipkkbghaa
open Go Go.Proofs Go.RowKit Go.Shelf
set_option maxRecDepth 100000
attribute [local go_sem] cell_set Oper.semAt_some
def kS (b : Nat) : List Smp := [⟨some ⟨b, 0, none⟩, 1, 1, [], ⟨5, 9, 1, 1⟩⟩, ⟨some ⟨b, 0, none⟩, 1, 1, [], ⟨-2, 8, 1, 2⟩⟩]
def kP : Pn := ⟨2, 0, 3, -2, 5, 9, 1, 1, 5⟩
theorem k_of (b : Nat) : ofR (nums (kS b)) = kP := by rfl
theorem kP_bd : Bd 2 kP := by rw [← k_of 0]; exact ofR_bd (nums (kS 0)) (by intro x hx; simp [nums, kS] at hx; rcases hx with rfl | rfl <;> (unfold I64; decide)) (by decide)
theorem k_smps (b c : Nat) (w : World) (T : TypeId) (h : w.heap.size = c) : Smps (w.alloc (.cells #[.slice (some ⟨b, 0, none⟩) 1 1, .int .i64 5, .int .i64 9, .int .i64 1, .int .i64 1, .slice (some ⟨b, 0, none⟩) 1 1, .int .i64 (-2), .int .i64 8, .int .i64 1, .int .i64 2] T)) (.slice (some ⟨c, 0, none⟩) 2 2) (kS b) := by
  subst h
  have A := At.nw w [.slice (some ⟨b, 0, none⟩) 1 1, .int .i64 5, .int .i64 9, .int .i64 1, .int .i64 1, .slice (some ⟨b, 0, none⟩) 1 1, .int .i64 (-2), .int .i64 8, .int .i64 1, .int .i64 2] T
  refine .inr ⟨w.heap.size, 0, 2, rfl, A.lt, fun j s hj i v hi => ?_⟩
  refine A.cell _ _ ?_
  rcases j with _ | _ | j
  · obtain rfl : _ = s := by simpa [kS] using hj
    rcases i with _ | _ | _ | _ | _ | i <;> simp [Smp.C] at hi <;> (subst hi; rfl)
  · obtain rfl : _ = s := by simpa [kS] using hj
    rcases i with _ | _ | _ | _ | _ | i <;> simp [Smp.C] at hi <;> (subst hi; rfl)
  · simp [kS] at hj
theorem k_pof (b c : Nat) (W : World) (h : Smps W (.slice (some ⟨c, 0, none⟩) 2 2) (kS b)) : Calls Try.prog 9 #[.slice (some ⟨c, 0, none⟩) 2 2] W fun e w' => e = .returned (.agg #[.int .i64 2, .int .i64 0, .int .u64 3, .int .i64 (-2), .int .i64 5, .int .i64 9, .int .i64 1, .int .i64 1, .int .i64 5]) ∧ Below W.heap.size W w' := by
  have q := pof_any (some ⟨c, 0, none⟩) 2 (kS b) (by show 2 ≤ 10000; decide) (by intro x hx; simp [nums, kS] at hx; rcases hx with rfl | rfl <;> (unfold I64; decide)) W h
  rw [k_of] at q
  exact q
theorem k_pof0 (W : World) : Calls Try.prog 9 #[.slice none 0 0] W fun e w' => e = .returned (.agg #[.int .i64 0, .int .i64 0, .int .u64 0, .int .i64 0, .int .i64 0, .int .i64 0, .int .i64 0, .int .i64 0, .int .i64 0]) ∧ Below W.heap.size W w' :=
  pof_any none 0 [] (by decide) (by intro x hx; simp [nums] at hx) W (.inl ⟨rfl, _, _, rfl⟩)
theorem k_val (W : World) : Calls Try.prog 12 #[.agg #[.int .i64 2, .int .i64 0, .int .u64 3, .int .i64 (-2), .int .i64 5, .int .i64 9, .int .i64 1, .int .i64 1, .int .i64 5], .int .i64 5] W fun e w' => e = .returned (.tuple #[.agg #[.int .i64 0, .int .u64 3], .int .i64 2, .bool true]) ∧ Below W.heap.size W w' :=
  pval_any kP kP_bd (by decide) 5 W
theorem k_val0 (W : World) : Calls Try.prog 12 #[.agg #[.int .i64 0, .int .i64 0, .int .u64 0, .int .i64 0, .int .i64 0, .int .i64 0, .int .i64 0, .int .i64 0, .int .i64 0], .int .i64 1] W fun e w' => e = .returned (.tuple #[.agg #[.int .i64 0, .int .u64 0], .int .i64 0, .bool false]) ∧ Below W.heap.size W w' :=
  pval_any Pn.zero Bd.zero (by decide) 1 W
theorem k_merge (W : World) : Calls Try.prog 16 #[.agg #[.int .i64 2, .int .i64 0, .int .u64 3, .int .i64 (-2), .int .i64 5, .int .i64 9, .int .i64 1, .int .i64 1, .int .i64 5], .agg #[.int .i64 0, .int .i64 0, .int .u64 0, .int .i64 0, .int .i64 0, .int .i64 0, .int .i64 0, .int .i64 0, .int .i64 0]] W fun e w' => e = .returned (.agg #[.int .i64 2, .int .i64 0, .int .u64 3, .int .i64 (-2), .int .i64 5, .int .i64 9, .int .i64 1, .int .i64 1, .int .i64 5]) ∧ Below W.heap.size W w' := by
  have q := merge_any kP Pn.zero kP_bd Bd.zero (by decide) W
  rw [merge_zero kP (by decide)] at q
  exact q
theorem k_wof (W : World) : Calls Try.prog 19 #[.int .i64 3] W fun e w' => e = .returned (.agg #[.int .i64 0, .int .u64 3]) ∧ Below W.heap.size W w' :=
  Of_any 3 0 3 (by unfold I64; decide) ⟨by decide, by decide, by decide, by decide⟩ rfl W
/-- what lies in memory at the end of known -/
structure KS (pb ab : Nat) (w u : World) : Prop where
  P : At u pb [.int .i64 2, .int .i64 0, .int .u64 3, .int .i64 (-2), .int .i64 5, .int .i64 9, .int .i64 1, .int .i64 1, .int .i64 5]
  A : At u ab [.int .i64 0, .int .u64 3]
  B : Below w.heap.size w u
theorem KS.drew {pb ab : Nat} {w u : World} (h : KS pb ab w u) : KS pb ab w u.drew := ⟨h.P.drew, h.A.drew, h.B.drew⟩
theorem KS.below {pb ab : Nat} {w u u' : World} (h : KS pb ab w u) (hb : Below u.heap.size u u') : KS pb ab w u' := ⟨h.P.below hb, h.A.below hb, below_then h.B hb⟩
set_option maxHeartbeats 4000000 in
theorem known_any (w : World) : Calls Try.prog 7 #[] w fun e w' => e = .returned (.bool true) ∧ Below w.heap.size w w' := by
  have O1 := Lib.hid (fun b c W h => k_pof b c W h)
  have O2 := Lib.hid (fun W => k_pof0 W)
  have V1 := Lib.hid (fun W => k_val W)
  have V2 := Lib.hid (fun W => k_val0 W)
  have MG := Lib.hid (fun W => k_merge W)
  have WO := Lib.hid (fun W => k_wof W)
  go_enter Try.func7, Try.ntmps7
  have B := below_new (below_cells (w := w) (.cells #[.string ⟨#[109]⟩, .string ⟨#[120]⟩] 55)) (.cells #[.slice (some ⟨w.heap.size, 0, none⟩) 1 1, .int .i64 5, .int .i64 9, .int .i64 1, .int .i64 1, .slice (some ⟨w.heap.size, 0, none⟩) 1 1, .int .i64 (-2), .int .i64 8, .int .i64 1, .int .i64 2] 50)
  have S1 := k_smps w.heap.size (w.heap.size + 1) (w.alloc (.cells #[.string ⟨#[109]⟩, .string ⟨#[120]⟩] 55)) 50 (by simp)
  go_wp2_with fail
  refine (O1.out _ _ _ S1).mono ?_
  rintro e w1 ⟨rfl, hb1⟩
  have B := below_then B hb1
  clear hb1 S1
  have DP := At.nw w1 [.int .i64 2, .int .i64 0, .int .u64 3, .int .i64 (-2), .int .i64 5, .int .i64 9, .int .i64 1, .int .i64 1, .int .i64 5] 29
  have B := below_new B (.cells #[.int .i64 2, .int .i64 0, .int .u64 3, .int .i64 (-2), .int .i64 5, .int .i64 9, .int .i64 1, .int .i64 1, .int .i64 5] 29)
  go_wp2_with fail
  refine (V1.out _).mono ?_
  rintro e w2 ⟨rfl, hb⟩
  have DP := DP.below hb
  have B := below_then B hb
  clear hb
  have DP := DP.alloc (.cells #[.int .i64 0, .int .u64 3] 27)
  have DA := At.nw w2 [.int .i64 0, .int .u64 3] 27
  have B := below_new B (.cells #[.int .i64 0, .int .u64 3] 27)
  go_wp2_with fail
  refine (V2.out _).mono ?_
  rintro e w3 ⟨rfl, hb⟩
  have hM : KS w1.heap.size w2.heap.size w (w3.alloc (.cells #[.int .i64 0, .int .u64 0] 27)) := ⟨(DP.below hb).alloc _, (DA.below hb).alloc _, below_new (below_then B hb) _⟩
  clear DP DA B hb
  generalize w1.heap.size = pb at *
  generalize w2.heap.size = ab at *
  go_wp2_with fail
  refine wp_region_held_drew (S := KS pb ab w) (by kernel_rfl) hM.drew (fun hS => ?_)
  generalize (w3.alloc (.cells #[.int .i64 0, .int .u64 0] 27)).drew = w0 at *
  clear hM
  refine tkC 0 hS (fun u h => h.P.f9) ?_
  refine tkC 1 hS (fun u h => h.P.f9) ?_
  refine tkC 2 hS (fun u h => h.P.f9) ?_
  refine tkC 3 hS (fun u h => h.P.f9) ?_
  refine tkC 4 hS (fun u h => h.P.f9) ?_
  refine tkC 5 hS (fun u h => h.P.f9) ?_
  refine anyH_1 6 (fun K hK => ?_)
  go_simp
  go_at_call 19
  refine (WO.out _).mono ?_
  rintro e w1 ⟨rfl, hb1⟩
  have hM1 := hS.below hb1
  go_wp2_with fail
  refine hK.out _ _ hM1 (fun hS => ?_)
  clear hM1 hK K hb1
  refine tkC 7 hS (fun u h => h.P.f9) ?_
  refine tkC 8 hS (fun u h => h.P.f9) ?_
  refine tkC 9 hS (fun u h => h.P.f9) ?_
  refine tkC 10 hS (fun u h => h.P.f9) ?_
  refine tkC 11 hS (fun u h => h.P.f9) ?_
  refine tkC 12 hS (fun u h => h.P.f9) ?_
  refine tkC 13 hS (fun u h => h.P.f9) ?_
  refine tkC 14 hS (fun u h => h.P.f9) ?_
  refine tkC 15 hS (fun u h => h.P.f9) ?_
  refine tkC 16 hS (fun u h => h.P.f9) ?_
  refine tkC 17 hS (fun u h => h.P.f9) ?_
  refine tkC 18 hS (fun u h => h.P.f9) ?_
  refine tkC 19 hS (fun u h => h.P.f9) ?_
  refine tkC 20 hS (fun u h => h.P.f9) ?_
  refine tkC 21 hS (fun u h => h.P.f9) ?_
  refine tkC 22 hS (fun u h => h.P.f9) ?_
  refine tkC 23 hS (fun u h => h.P.f9) ?_
  refine tkC 24 hS (fun u h => h.P.f9) ?_
  refine tkC 25 hS (fun u h => h.P.f9) ?_
  refine tkC 26 hS (fun u h => h.P.f9) ?_
  refine tkC 27 hS (fun u h => h.P.f9) ?_
  refine tkC 28 hS (fun u h => h.P.f9) ?_
  refine tkC 29 hS (fun u h => h.P.f9) ?_
  refine tkC 30 hS (fun u h => h.A.f2) ?_
  refine anyH_1 31 (fun K hK => ?_)
  go_simp
  go_at_call 19
  refine (WO.out _).mono ?_
  rintro e w1 ⟨rfl, hb1⟩
  have hM1 := hS.below hb1
  go_wp2_with fail
  refine hK.out _ _ hM1 (fun hS => ?_)
  clear hM1 hK K hb1
  refine tkC 32 hS (fun u h => h.P.f9) ?_
  refine tkC 33 hS (fun u h => h.P.f9) ?_
  refine tkC 34 hS (fun u h => h.P.f9) ?_
  refine tkC 35 hS (fun u h => h.P.f9) ?_
  refine tkC 36 hS (fun u h => h.P.f9) ?_
  refine tkC 37 hS (fun u h => h.P.f9) ?_
  refine tkC 38 hS (fun u h => h.P.f9) ?_
  refine tkC 39 hS (fun u h => h.P.f9) ?_
  refine tkC 40 hS (fun u h => h.P.f9) ?_
  refine tkC 41 hS (fun u h => h.P.f9) ?_
  refine tkC 42 hS (fun u h => h.P.f9) ?_
  refine tkC 43 hS (fun u h => h.P.f9) ?_
  refine tkC 44 hS (fun u h => h.P.f9) ?_
  refine tkC 45 hS (fun u h => h.P.f9) ?_
  refine tkC 46 hS (fun u h => h.P.f9) ?_
  refine tkC 49 hS (fun u h => h.P.f9) ?_
  refine anyH_1 47 (fun K hK => ?_)
  go_simp
  go_at_call 9
  refine (O2.out _).mono ?_
  rintro e w1 ⟨rfl, hb1⟩
  have hM1 := hS.below hb1
  go_wp2_with fail
  refine hK.out _ _ hM1 (fun hS => ?_)
  clear hM1 hK K hb1
  refine anyH_1 48 (fun K hK => ?_)
  go_simp
  go_at_call 16
  refine (MG.out _).mono ?_
  rintro e w1 ⟨rfl, hb1⟩
  have hM1 := hS.below hb1
  go_wp2_with fail
  refine hK.out _ _ hM1 (fun hS => ?_)
  clear hM1 hK K hb1
  refine tkC 50 hS (fun u h => h.P.f9) ?_
  refine tkC 51 hS (fun u h => h.P.f9) ?_
  refine tkC 52 hS (fun u h => h.P.f9) ?_
  refine wpAnyH_done (by kernel_rfl) ?_ _
  have B := hS.B
  go_wp2
  go_ret
  exact ⟨rfl, B⟩
end Go.Proofs.Ytkhlpbipkkbghaa
