/- belfrylaw3.known: the walk. -/
import Derived.Test.YtmcmgmpgmbljiaaDoorKnown
import Derived.Test.YtmcmgmpgmbljiaaDoorCmp
namespace Go.Proofs.YtmcmgmpgmbljiaaDoor
open Go Go.Proofs Go.RowKit Go.Shelf
set_option maxRecDepth 100000
theorem k_shard (a : Option Addr) (cap : Nat) (w : World) (hI : Labs w.heap.size w (.slice a 2 cap) kS) : Calls Tryd.prog 19 #[.slice a 2 cap, .int .i64 1] w fun e w' => e = .returned (.int .i64 0) ∧ Below w.heap.size w w' := by
  have h := shard_any a 2 cap kS (by decide) 1 (by omega) w hI
  rw [show shardI (textL kS) 1 = 0 from by unfold shardI; rw [if_neg (by omega)]; omega] at h
  exact h
theorem k_cmp (a1 a2 : Option Addr) (n1 c1 c2 : Nat) (w : World) (h1 : Labs w.heap.size w (.slice a1 n1 c1) kS) (h2 : Labs w.heap.size w (.slice a2 2 c2) kS) : Calls Tryd.prog 21 #[.slice a1 n1 c1, .slice a2 2 c2] w fun e w' => e = .returned (.int .i64 0) ∧ Below w.heap.size w w' := by
  have h := compare_any a1 a2 n1 c1 2 c2 kS kS (by decide) (by decide) w h1 h2
  rw [show cmpR (textL kS) (textL kS) = 0 from by rw [k_text]; decide] at h
  exact h
set_option maxHeartbeats 4000000 in
theorem known_any (w : World) : Calls Tryd.prog 8 #[] w fun e w' => e = .returned (.bool true) ∧ Below w.heap.size w w' := by
  go_enter Tryd.func8, Tryd.ntmps8
  go_wp2_with fail
  refine (k_with1 _).mono ?_
  rintro e w1 ⟨_, rfl, hr, hb⟩
  obtain ⟨gX, cX, rfl⟩ := ownsRow_succ hr
  have X := at_of_row hr
  clear hr
  have B := hb
  clear hb
  go_wp2_with fail
  refine (k_with2 _ _ _ (labs_of_at (zs := [kB]) X)).mono ?_
  rintro e w2 ⟨_, rfl, hr, hb⟩
  clear X
  obtain ⟨gS, cS, rfl⟩ := ownsRow_succ hr
  have S := at_of_row hr
  clear hr
  have B := below_then B hb
  clear hb
  go_wp2_with fail
  refine (k_parse1 _).mono ?_
  rintro e w3 ⟨v, rfl, P, hb⟩
  have hsh : ∃ a len cap, v = .slice a len cap := by
    rcases P with ⟨⟨_, _, rfl⟩, _⟩ | ⟨b, off, cap, rfl, _⟩
    · exact ⟨_, _, _, rfl⟩
    · exact ⟨_, _, _, rfl⟩
  obtain ⟨ap, lp, cp, rfl⟩ := hsh
  have S := S.below hb
  have B := below_then B hb
  clear hb
  go_wp2_with fail
  refine (k_parse2 _).mono ?_
  rintro e w4 ⟨rfl, hb⟩
  have S := S.below hb
  have P := labs_later P hb
  have B := below_then B hb
  clear hb
  have N1 := At.new w4 #[.string ⟨#[98]⟩, .string ⟨#[99]⟩] 9
  have hb : Below w4.heap.size w4 (w4.alloc (.cells #[.string ⟨#[98]⟩, .string ⟨#[99]⟩] 9)) := below_cells _
  have S := S.below hb
  have P := labs_later P hb
  have B := below_then B hb
  clear hb
  go_wp2_with fail
  refine (k_only _ _ _ _ (labs_of_at (zs := kS) S) N1).mono ?_
  rintro e w5 ⟨_, rfl, hr, hb⟩
  clear N1
  obtain ⟨gO, cO, rfl⟩ := ownsRow_succ hr
  have O := at_of_row hr
  clear hr
  have S := S.below hb
  have P := labs_later P hb
  have B := below_then B hb
  clear hb
  have N2 := At.new w5 #[.string ⟨#[98]⟩] 9
  have hb : Below w5.heap.size w5 (w5.alloc (.cells #[.string ⟨#[98]⟩] 9)) := below_cells _
  have S := S.below hb
  have O := O.below hb
  have P := labs_later P hb
  have B := below_then B hb
  clear hb
  go_wp2_with fail
  refine (k_without _ _ _ _ (labs_of_at (zs := kS) S) N2).mono ?_
  rintro e w6 ⟨_, rfl, hr, hb⟩
  clear N2
  obtain ⟨gV, cV, rfl⟩ := ownsRow_succ hr
  have V := at_of_row hr
  clear hr
  have S := S.below hb
  have O := O.below hb
  have P := labs_later P hb
  have B := below_then B hb
  clear hb
  have Sc := S.cell 0 _ rfl
  have Oc := O.cell 0 _ rfl
  have Vc := V.cell 0 _ rfl
  go_wp2_with fail
  refine (k_get1 _ _ _ (labs_of_at (zs := kS) S)).mono ?_
  rintro e w7 ⟨rfl, hb⟩
  have S := S.below hb
  have O := O.below hb
  have V := V.below hb
  have P := labs_later P hb
  have B := below_then B hb
  clear hb
  clear Sc
  clear Oc
  clear Vc
  go_wp2_with fail
  refine (k_get2 _ _ _ (labs_of_at (zs := kS) S)).mono ?_
  rintro e w8 ⟨rfl, hb⟩
  have S := S.below hb
  have O := O.below hb
  have V := V.below hb
  have P := labs_later P hb
  have B := below_then B hb
  clear hb
  go_wp2_with fail
  refine (k_cmp _ _ _ _ _ _ P (labs_of_at (zs := kS) S)).mono ?_
  rintro e w9 ⟨rfl, hb⟩
  have S := S.below hb
  have O := O.below hb
  have V := V.below hb
  have P := labs_later P hb
  have B := below_then B hb
  clear hb
  go_wp2_with fail
  refine (k_textS _ _ _ (labs_of_at (zs := kS) S)).mono ?_
  rintro e w10 ⟨rfl, hb⟩
  have S := S.below hb
  have O := O.below hb
  have V := V.below hb
  have P := labs_later P hb
  have B := below_then B hb
  clear hb
  have Sc := S.cell 0 _ rfl
  have Oc := O.cell 0 _ rfl
  have Vc := V.cell 0 _ rfl
  go_wp2_with fail
  refine (k_checkS _ _ _ (labs_of_at (zs := kS) S)).mono ?_
  rintro e w11 ⟨rfl, hb⟩
  have S := S.below hb
  have O := O.below hb
  have V := V.below hb
  have P := labs_later P hb
  have B := below_then B hb
  clear hb
  clear Sc
  clear Oc
  clear Vc
  go_wp2_with fail
  refine (k_text0 _).mono ?_
  rintro e w12 ⟨rfl, hb⟩
  have S := S.below hb
  have O := O.below hb
  have V := V.below hb
  have P := labs_later P hb
  have B := below_then B hb
  clear hb
  go_wp2_with fail
  refine (k_with3 _ _ _ (labs_of_at (zs := kS) S)).mono ?_
  rintro e w13 ⟨_, rfl, hr, hb⟩
  obtain ⟨gz, cz, rfl⟩ := ownsRow_succ hr
  clear hr
  have S := S.below hb
  have O := O.below hb
  have V := V.below hb
  have P := labs_later P hb
  have B := below_then B hb
  clear hb
  go_wp2_with fail
  refine (k_name1 _).mono ?_
  rintro e w14 ⟨rfl, hb⟩
  have S := S.below hb
  have O := O.below hb
  have V := V.below hb
  have P := labs_later P hb
  have B := below_then B hb
  clear hb
  go_wp2_with fail
  refine (k_name2 _).mono ?_
  rintro e w15 ⟨rfl, hb⟩
  have S := S.below hb
  have O := O.below hb
  have V := V.below hb
  have P := labs_later P hb
  have B := below_then B hb
  clear hb
  go_wp2_with fail
  refine (k_value _).mono ?_
  rintro e w16 ⟨rfl, hb⟩
  have S := S.below hb
  have O := O.below hb
  have V := V.below hb
  have P := labs_later P hb
  have B := below_then B hb
  clear hb
  go_wp2_with fail
  refine (k_shard _ _ _ (labs_of_at (zs := kS) S)).mono ?_
  rintro e w17 ⟨rfl, hb⟩
  have S := S.below hb
  have O := O.below hb
  have V := V.below hb
  have P := labs_later P hb
  have B := below_then B hb
  clear hb
  go_wp2
  go_ret
  exact ⟨rfl, B⟩
end Go.Proofs.YtmcmgmpgmbljiaaDoor
